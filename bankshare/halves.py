"""The half place: from there on, half the bank's length has half of its dry and half of its wet ground."""

from bankshare.banks import DRY, cut_out, ground_of, length, side_by_side, uneven_ground
from bankshare.errors import Odd


def dry_gain(lost, won):
    return (1 if won == DRY else 0) - (1 if lost == DRY else 0)


def half_place(bank):
    odd = uneven_ground(bank, 2)
    if odd is not None:
        raise Odd(odd)
    half = length(bank) // 2
    front = cut_out(bank, 0, half)
    place = 0
    # By so much the half that begins at the place has too much dry ground. From place to place that changes
    # by at most one, so it never leaps over 0; and where it is 0, the wet ground is halved as the length is.
    over = ground_of(front)[0] - ground_of(bank)[0] // 2
    for lost, won, long in side_by_side(front, cut_out(bank, half)):
        if over == 0:
            return place
        gain = dry_gain(lost, won)
        step = min(long, abs(over)) if gain * over < 0 else long
        over = over + gain * step
        place = place + step
    return place
