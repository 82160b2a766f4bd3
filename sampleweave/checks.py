"""What a whole number, a truth and a name is, and the refusal of what no node is made of."""

from sampleweave.errors import NoNode

LETTERS = "abcdefghijklmnopqrstuvwxyz"
LONGEST_NAME = 8


def is_whole(thing):
    """Python counts True and False among the ints; here they are no numbers."""
    return isinstance(thing, int) and not isinstance(thing, bool)


def is_whole_within(thing, least, most):
    return is_whole(thing) and least <= thing <= most


def is_truth(thing):
    return thing is True or thing is False


def are_wholes(things):
    return all([is_whole(thing) for thing in things])


def are_wholes_within(things, least, most):
    return all([is_whole_within(thing, least, most) for thing in things])


def is_list_of_wholes(thing, least, most):
    """Whether it is a list of whole numbers, of so many at least and at most."""
    return isinstance(thing, list) and least <= len(thing) <= most and are_wholes(thing)


def need(holds, field):
    """Refuse the argument called field unless what it has to be holds."""
    if not holds:
        raise NoNode(field)


def is_name(thing):
    """Whether it is a text of one to eight small letters."""
    if not isinstance(thing, str) or not 1 <= len(thing) <= LONGEST_NAME:
        return False
    return all([letter in LETTERS for letter in thing])


def is_one_of(thing, names):
    """Whether it is one of the names; lists and the like can be asked for, too, though they are no keys."""
    return isinstance(thing, str) and thing in names


def are_samples(thing):
    """Whether it is a list of whole numbers, perhaps of none."""
    return isinstance(thing, list) and are_wholes(thing)
