"""Likeness: whether two weaves have the same inlets and outlets."""

from sampleweave.errors import Unlike
from sampleweave.rounds import counts_by_name


def check_among(names, shares, others, other_shares):
    """Refuse the first of the names that is none of the others, or has another count there."""
    for name in names:
        if name not in others or shares[name] != other_shares[name]:
            raise Unlike(name)


def check_like(one, other):
    """Refuse the first inlet or outlet of either weave that the other one hasn't, with the same count."""
    shares = counts_by_name(one)
    other_shares = counts_by_name(other)
    check_among(one.inlets(), shares, other.inlets(), other_shares)
    check_among(one.outlets(), shares, other.outlets(), other_shares)
    check_among(other.inlets(), other_shares, one.inlets(), shares)
    check_among(other.outlets(), other_shares, one.outlets(), shares)
