"""Layers of kept states, and the paths that lead through states of all kinds."""

from vouchchains.walks import LEFT, MASK, has_above, listed_tops, tops


def kept(states, limit=None):
    """The ascending list of the states that are kept of some; it may raise TooMany(limit)."""
    return listed_tops([state for state in states if state[LEFT] > 0], limit)


def widened(walk, layers, limit=None):
    """The layer behind some layers; it may raise TooMany(limit)."""
    # What is behind older states lies below states of the last layer already.
    older = set(layers[-2] if len(layers) > 1 else [])
    behind = [state for known in layers[-1] if known not in older
              for _, states in walk.onward(known) for state in states]
    return kept([*layers[-1], *behind], limit)


def layers_to(walk, holder, limit):
    """(layers, open): the layers up to the first one that leads to a holder, or to the last one.

    Without a holder they are all layers. It may raise TooMany(limit).
    """
    layers = [kept(walk.starts(), limit)]
    while not leads(walk, layers[-1], holder):
        following = widened(walk, layers, limit)
        if following == layers[-1]:
            return (layers, False)
        layers.append(following)
    return (layers, True)


def is_open(walk, limit):
    """Whether a question is open; it may raise TooMany(limit)."""
    return layers_to(walk, walk.question.holder, limit)[1]


def reached(walk, limit):
    """The states that are kept of all that can be reached; it may raise TooMany(limit)."""
    return layers_to(walk, None, limit)[0][-1]


def leads(walk, states, holder):
    """Whether a step of one of some states leads to a holder."""
    for state in states:
        for stone, _ in walk.onward(state):
            if stone.paper.holder == holder:
                return True
    return False


def route(walk, limit):
    """(path, layer): the least of the shortest paths that hold, or None, and the last layer."""
    layers, found = layers_to(walk, walk.question.holder, limit)
    if not found:
        return (None, layers[-1])
    routes = Routes(walk, [bare(walk, layer) for layer in layers])
    path, states = [], bare(walk, walk.starts())
    for at in range(len(layers)):
        stone, states = routes.best(states, at)
        path.append(stone.paper)
    return (path, layers[-1])


def bare(walk, states):
    """States without the names that no paper may bind; they can do just as much."""
    return [(*state[:MASK], state[MASK] & walk.bound) for state in states]


class Routes:
    """The paths of as many papers as there are layers, to the holder of the question."""

    def __init__(self, walk, layers):
        self.many = len(layers)
        self._walk = walk
        self._hopes = _hopes(walk, layers)
        self._known = {}

    def best(self, states, at):
        """The first paper, and the states behind it, over which states behind at papers go on."""
        for stone, behind in self._fan(states):
            if self._serves(stone, behind, at):
                return (stone, behind)
        return None

    def fan(self, states, at):
        """All papers, and the states behind them, over which states behind at papers go on."""
        return [(stone, behind) for stone, behind in self._fan(states)
                if self._serves(stone, behind, at)]

    def _fan(self, states):
        """The ascending list of the papers over which states step, and the states behind each."""
        stones, found = {}, {}
        for state in states:
            for stone, behind in self._walk.onward(state):
                stones[stone.at] = stone
                found.setdefault(stone.at, []).extend(behind)
        return [(stones[at], listed_tops(found[at])) for at in sorted(found)]

    def _serves(self, stone, behind, at):
        """Whether a way to the holder goes over a paper behind at papers, and on from there."""
        if at == self.many - 1:
            return stone.paper.holder == self._walk.question.holder
        for state in behind:
            if self._reaches(_capped(state, self.many - at - 1), at + 1):
                return True
        return False

    def _reaches(self, state, at):
        """Whether a state behind at papers goes on to the holder by all papers that are left."""
        key = (state, at)
        if key not in self._known:
            self._known[key] = self._may_reach(state, at) and self._goes_on(state, at)
        return self._known[key]

    def _may_reach(self, state, at):
        """Whether some state above, in the layer behind at papers, may reach the holder."""
        return (state[LEFT] == self.many - at
                and has_above(state, self._hopes[at].get(state[:2], [])))

    def _goes_on(self, state, at):
        """Whether a way to the holder goes over some paper behind at papers."""
        for stone, behind in self._walk.onward(state):
            if self._serves(stone, behind, at):
                return True
        return False


def _capped(state, many):
    """The state with nothing more than it needs for so many papers; so more states are alike."""
    holder, rule, left, unruled, any_left, maps_left, listed, mask = state
    return (holder, rule, min(left, many), min(unruled, many), min(any_left, many),
            min(maps_left, many), listed, mask)


def _hopes(walk, layers):
    """For each layer its states, by holder and rule, that may go on to the holder in time."""
    hopes = [tops([state for state in layers[-1] if leads(walk, [state], walk.question.holder)])]
    for layer in layers[:-1][::-1]:
        hopes.append(tops([state for state in layer if _leads_below(walk, state, hopes[-1])]))
    return hopes[::-1]


def _leads_below(walk, state, hope):
    """Whether a step of a state leads to one that lies below a state of a hope."""
    for _, states in walk.onward(state):
        for behind in states:
            if has_above(behind, hope.get(behind[:2], [])):
                return True
    return False


def ways(routes, states, at):
    """The lists of the papers over which states behind at papers go on to the holder, in order."""
    fan = routes.fan(states, at)
    later = at + 1
    for stone, behind in fan:
        if later == routes.many:
            yield [stone.paper]
        else:
            for rest in ways(routes, behind, later):
                yield [stone.paper, *rest]
