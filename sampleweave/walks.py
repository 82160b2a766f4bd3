"""Walks: steps along wires, onward or against them, and the fractions that go along with them."""


def greatest_divisor(one, other):
    while other > 0:
        one, other = other, one % other
    return one


def lowest_terms(above, below):
    """The fraction as a tuple (above, below) of numbers from 1 on without a common divisor."""
    divisor = greatest_divisor(above, below)
    return above // divisor, below // divisor


def steps_from(weave, name):
    """All steps, tuples (number of a wire, onward), that can be gone from a node."""
    return [(number, True) for number in weave.out_of(name)] + [(number, False) for number in weave.into(name)]


def turned_over(step):
    """The same step gone the other way."""
    number, onward = step
    return number, not onward


def end_of(weave, step):
    """The name to which a step comes."""
    number, onward = step
    source, goal, place, delay = weave.wires()[number]
    return goal if onward else source


def rate_of(weave, step):
    """The fraction that goes along a step, as a tuple (above, below)."""
    number, onward = step
    source, goal, place, delay = weave.wires()[number]
    gives = weave.node(source).gives()
    takes = weave.node(goal).takes()[place]
    return (gives, takes) if onward else (takes, gives)


def times_rate(weave, fraction, step):
    """A fraction times the one that goes along a step, in lowest terms."""
    above, below = fraction
    gives, takes = rate_of(weave, step)
    return lowest_terms(above * gives, below * takes)


def walk_round(weave, number, path_of):
    """A walk that goes along the wire of this number, and home by the paths that lead to its two ends."""
    source, goal, place, delay = weave.wires()[number]
    there, home = path_of[goal], path_of[source]
    shared = 0
    while shared < min(len(there), len(home)) and there[shared] == home[shared]:
        shared += 1
    back = [turned_over(step) for step in there[shared:]]
    return [(number, True)] + back[::-1] + home[shared:]
