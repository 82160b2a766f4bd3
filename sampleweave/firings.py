"""Firings: what mute ones and others have in common, whatever the sort of the node."""


def run_firing(node, memory, rows):
    """What a firing tells, mute or not; a memory is (mute firings to come, what the node keeps)."""
    mutes, kept = memory
    if mutes > 0:
        return (mutes - 1, kept), [0] * node.gives()
    behind, given = node.work(kept, rows)
    return (mutes, behind), given
