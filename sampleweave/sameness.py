"""Sameness: whether two weaves tell the same of whatever is handed in."""

from sampleweave.equations import outlet_row
from sampleweave.fractions import check_linear, fraction_in
from sampleweave.likeness import check_like
from sampleweave.polynomials import added, multiplied, negative, terms


def first_round_apart(one, other):
    """The first round in which the responses of two fractions are unlike, None where there is none.

    Their difference, brought to one below, has its first number that isn't 0 where its response has: below begins
    with 1.
    """
    above, below = one
    other_above, other_below = other
    apart = terms(added(multiplied(above, other_below), negative(multiplied(other_above, below))))
    return apart[0][0] if apart else None


def same(one, other):
    """("same",), or ("apart", inlet, outlet, the first round at which a single 1 parts them)."""
    check_linear(one)
    check_linear(other)
    check_like(one, other)
    outlets = one.outlets()
    rows = {outlet: (outlet_row(one, outlet), outlet_row(other, outlet)) for outlet in outlets}
    for inlet in one.inlets():
        for outlet in outlets:
            row, other_row = rows[outlet]
            at = first_round_apart(fraction_in(row, inlet, outlet), fraction_in(other_row, inlet, outlet))
            if at is not None:
                return "apart", inlet, outlet, at
    return ("same",)
