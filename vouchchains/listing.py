"""All paths that hold, one after another."""

from vouchchains.ground import Ground
from vouchchains.routes import Routes, bare, kept, ways, widened
from vouchchains.walks import Walk


def paths(store, bag, question, most):
    """All paths of at most most papers that hold, those with fewer papers first."""
    walk = Walk(Ground(store, bag, bag.papers()), question)
    starts = bare(walk, walk.starts())
    layers = []
    for _ in range(most):
        layers = [*layers, widened(walk, layers) if layers else kept(starts)]
        routes = Routes(walk, layers)
        yield from ways(routes, starts, 0)
