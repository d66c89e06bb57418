"""Lots of numbers, the least of them, and the lots that cross them."""

from leastpromise.errors import InvalidLots, InvalidSize
from leastpromise.kinds import is_below, is_sequence, wrong_in_lot

MOST_NUMBERS = 12


def least_lots(many, lots):
    """The lots that have no other one of them within, each once."""
    need_many(many)
    need_lots(many, lots)
    masks = [mask_of(lot) for lot in lots]
    least = [mask for mask in masks if not any([within(other, mask) for other in masks])]
    return told_lots(many, least)


def crossings(many, lots):
    """The least lots that have a number of each of these lots."""
    need_many(many)
    need_lots(many, lots)
    return least_crossings(many, lots)


def are_crossings(many, lots, others):
    """Whether each of both is just the crossings of the other one, each lot once."""
    need_many(many)
    need_lots(many, lots)
    need_lots(many, others)
    return lots_in_order(others) == least_crossings(many, lots) and lots_in_order(lots) == least_crossings(many, others)


def least_crossings(many, lots):
    masks = [mask_of(lot) for lot in lots]
    crosses = [all([mask & other for other in masks]) for mask in range(1 << many)]
    # A greater lot crosses, too: so a crossing is least if none that lacks just one of its numbers crosses.
    least = [mask for mask in range(1 << many) if crosses[mask] and not any([
        mask >> number & 1 and crosses[mask - (1 << number)] for number in range(many)])]
    return told_lots(many, least)


def need_many(many):
    if not is_below(many, MOST_NUMBERS + 1):
        raise InvalidSize("many")


def need_lots(many, lots):
    if not is_sequence(lots):
        raise InvalidLots(-1)
    for at, lot in enumerate(lots):
        if wrong_in_lot(lot, many) is not None:
            raise InvalidLots(at)


def mask_of(lot):
    """The number whose binary figures 1 stand at the lot's numbers."""
    return sum([1 << number for number in lot])


def within(mask, other):
    """Whether the one lot is within the other, and another one."""
    return mask & other == mask and mask != other


def told_lots(many, masks):
    """The lots of these masks, each once, of fewer numbers first, then ascending."""
    return lots_in_order([
        [number for number in range(many) if mask >> number & 1] for mask in sorted(set(masks))])


def lots_in_order(lots):
    return tuple([lot for _, lot in sorted([(len(lot), tuple(lot)) for lot in lots])])
