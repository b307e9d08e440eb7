"""How arguments are looked at before anything is done with them."""

from vouchchains.errors import Wrong


def check(answers):
    """Raise Wrong with the place of the first argument that is not as described.

    There is one answer for each argument, in the order of the signature.
    """
    for place, answer in enumerate(answers):
        if not answer:
            raise Wrong(place)
