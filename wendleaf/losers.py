"""The work that a crash left open, and how it is undone."""

from wendleaf.deeds import inverse
from wendleaf.logread import deeds_of, state_of


def begin_moment(roll):
    """The number of deed entries ahead of the open work, or of all deed entries if no work is open."""
    _, begun, _, many = state_of(roll)
    if begun is None:
        return many
    return len([number for number, _ in deeds_of(roll) if number < begun])


def backs_of(roll):
    """The pairs (m, inverse deed) of the back entries that undo the open work, in their order."""
    _, _, live, _ = state_of(roll)
    return tuple([(number, inverse(deed)) for number, deed in reversed(live)])
