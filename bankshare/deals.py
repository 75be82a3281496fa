"""Dealing: a bank dealt out among heirs, its cuts, and whether shares told by others are fair."""

from bankshare.banks import DRY, WET, cut_out, is_whole, length, rest, side_by_side, uneven_ground
from bankshare.errors import NoHeirs, Uneven
from bankshare.halves import half_place

HEIRS = (1, 2, 4, 8, 16)


def moved(share, far):
    return [(start + far, end + far) for start, end in share]


# The share is told by places on the rest, which doesn't have the ground from start to end: a piece
# that goes over start has ground on either side of it.
def moved_apart(share, start, end):
    ahead = [(begin, min(last, start)) for begin, last in share if begin < start]
    behind = [(max(begin, start), last) for begin, last in share if last > start]
    return ahead + moved(behind, end - start)


def dealt(bank, heirs):
    whole = length(bank)
    if heirs == 1:
        share = [(0, whole)] if whole > 0 else []
        return [share]
    start = half_place(bank)
    end = start + whole // 2
    taken = dealt(cut_out(bank, start, end), heirs // 2)
    left = dealt(rest(bank, start, end), heirs // 2)
    return [moved(share, start) for share in taken] + [moved_apart(share, start, end) for share in left]


def deal(bank, heirs=2):
    if not is_whole(heirs) or heirs not in HEIRS:
        raise NoHeirs("the heirs are none of 1, 2, 4, 8 and 16")
    uneven = uneven_ground(bank, heirs)
    if uneven is not None:
        raise Uneven(uneven)
    return dealt(bank, heirs)


def cuts(bank, shares):
    places = []
    for share in shares:
        places.extend([start for start, end in share])
        places.extend([end for start, end in share])
    edges = (0, length(bank))
    return [place for place in sorted(set(places)) if place not in edges]


def apart_in_order(share):
    return all([ahead[1] < piece[0] for ahead, piece in zip(share, share[1:])])


def along_the_bank(shares):
    pieces = []
    for heir, share in enumerate(shares):
        pieces.extend([(start, end, heir) for start, end in share])
    return sorted(pieces)


def cover_once(pieces, whole):
    reached = 0
    for start, end, heir in pieces:
        if start != reached or end <= start:
            return False
        reached = end
    return reached == whole


def all_alike(numbers):
    return len(set(numbers)) <= 1


def fair(bank, shares):
    pieces = along_the_bank(shares)
    if not all([apart_in_order(share) for share in shares]) or not cover_once(pieces, length(bank)):
        return False
    # The pieces leave no gap here, so they are a row as long as the bank and can stand beside it.
    owners = [(heir, end - start) for start, end, heir in pieces]
    sums = {DRY: [0] * len(shares), WET: [0] * len(shares)}
    for ground, owner, long in side_by_side(bank, owners):
        sums[ground][owner] = sums[ground][owner] + long
    return all_alike(sums[DRY]) and all_alike(sums[WET])
