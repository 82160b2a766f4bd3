"""Reaching: where one comes to from some names, step by step."""


def all_reached(starts, onward):
    """The names that one comes to from the starts, these too, as keys; onward tells where each name leads to."""
    reached = {name: True for name in starts}
    coming = list(starts)
    while coming:
        here = coming.pop()
        for name in onward[here]:
            if name not in reached:
                reached[name] = True
                coming.append(name)
    return reached
