"""The answer to a question: the least of the shortest paths, or a table that shows that none is."""

from vouchchains.ground import Ground
from vouchchains.routes import leads, reached, route
from vouchchains.states import State, taken, told
from vouchchains.walks import LEFT, Walk, has_above, tops


def search(store, bag, question, *, limit=400):
    """("open", the least of the shortest paths that hold) or ("shut", the table)."""
    walk = Walk(Ground(store, bag, bag.papers()), question)
    path, layer = route(walk, limit)
    return ("shut", told(walk.ground.masks, layer)) if path is None else ("open", path)


def table(store, bag, question, *, limit=400):
    """The ascending list of the states that are kept of all that can be reached."""
    walk = Walk(Ground(store, bag, bag.papers()), question)
    return told(walk.ground.masks, reached(walk, limit))


def is_table(store, bag, question, thing):
    """Whether a thing is a list of States that shows that a question is shut."""
    if not isinstance(thing, list) or not all([isinstance(one, State) for one in thing]):
        return False
    regions = [state.region for state in thing]
    walk = Walk(Ground(store, bag, bag.papers(), regions), question)
    # A state that lies below another one asks for nothing that the other one does not ask for.
    rivals = tops([taken(walk.ground.masks, state) for state in thing])
    states = [state for several in rivals.values() for state in several]
    behind = [one for state in states for _, several in walk.onward(state) for one in several]
    return (_all_below([*walk.starts(), *behind], rivals)
            and not leads(walk, states, question.holder))


def _all_below(states, rivals):
    """Whether each state that lets a paper follow lies below a rival; these are as tops are."""
    for state in sorted(set(states)):
        if state[LEFT] > 0 and not has_above(state, rivals.get(state[:2], [])):
            return False
    return True
