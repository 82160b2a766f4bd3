"""Equations: what the nodes of a linear weave give, told by what others give, down to inlets and one outlet.

A row is a dict from names to polynomials: what each of these nodes gives, so multiplied, comes to nought together (the
power k of a polynomial is what was given k rounds ago).
"""

from sampleweave.keepers import Taps
from sampleweave.nodes import Gain
from sampleweave.polynomials import added, divided, multiplied, negative, terms, trimmed
from sampleweave.stands import firing_names
from sampleweave.ways import cone, fed_by


def scale_of(node):
    """What a node makes of the sum of what it takes, as a polynomial."""
    if isinstance(node, Gain):
        return trimmed([node.by])
    if isinstance(node, Taps):
        return trimmed(node.numbers)
    return [1]


def row_of(weave, name):
    """What a node gives, less what it makes of what others give."""
    by = negative(scale_of(weave.node(name)))
    wires = weave.wires()
    row = {name: [1]}
    for number in weave.into(name):
        source, goal, place, delay = wires[number]
        row[source] = added(row.get(source, []), multiplied([0] * delay + [1], by))
    return row


def clusters_from_the_end(weave):
    """The names of all but inlets and outlets, as lists of those that feed each other.

    Each list stands ahead of those that feed it: what feeds the fewest feeds none that doesn't feed it, too.
    """
    fed = {name: fed_by(weave, name) for name in firing_names(weave)}
    coming = sorted(list(fed), key=lambda name: len(fed[name]))
    told = []
    while coming:
        cluster = [name for name in coming if name in fed[coming[0]]]
        coming = [name for name in coming if name not in cluster]
        told.append(cluster)
    return told


def combined(row, gone_row, gone, ahead):
    """The row put together with that of the one that goes, so that it hangs on this one no more."""
    pivot = gone_row[gone]
    by = negative(row.get(gone, []))
    told = {}
    for name in {**row, **gone_row}:
        if name != gone:
            number = added(multiplied(pivot, row.get(name, [])), multiplied(by, gone_row.get(name, [])))
            told[name] = divided(number, ahead)
    return told


def without(rows, gone, ahead):
    """The rows without that of the one that goes; ahead is the polynomial of the one that went last, in its own row.

    All rows are multiplied by this one's, so that no fractions come up; the one ahead is in them all by that, and is
    divided out again (Bareiss). So all polynomials stay as short as determinants are. And all by which it is divided
    begin with 1: wires without delay make no ring in a live weave.
    """
    return {name: combined(rows[name], rows[gone], gone, ahead) for name in rows if name != gone}


def effort(rows, name):
    """How much is to be multiplied where this one goes next: first of all what goes into all rows is to be short."""
    hanging = [other for other in rows if rows[other].get(name)]
    return len(terms(rows[name][name])), len(hanging) * len(rows[name])


def row_left(rows, outlet):
    """What the outlet's row comes to, when all others have gone into it."""
    coming = [name for name in rows if name != outlet]
    ahead = [1]
    while coming:
        gone = min(coming, key=lambda name: effort(rows, name))
        pivot = rows[gone][gone]
        rows = without(rows, gone, ahead)
        ahead = pivot
        coming = [name for name in coming if name != gone]
    return rows[outlet]


def outlet_row(weave, outlet):
    """The row of an outlet in which, besides itself, only inlets stand."""
    fed = cone(weave, [outlet])
    row = row_of(fed, outlet)
    for cluster in clusters_from_the_end(fed):
        # All that hung on these are gone but the outlet, so no other row is multiplied by what they come to.
        rows = {name: row_of(fed, name) for name in cluster}
        rows[outlet] = row
        row = row_left(rows, outlet)
    return row
