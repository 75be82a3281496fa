"""Banks for the tests, and a second, slow way to tell of them: foot by foot, in letters."""

import itertools
import random

SIXTY = 10 ** 60 - 1


class EqualToAll:
    """Calls itself equal to whatever it is compared with."""

    def __eq__(self, other):
        return True

    def __hash__(self):
        return hash("dry")


def small_banks(most_stretches=4, longest=3):
    """Every bank of few short stretches, [] among them."""
    banks = [[]]
    for count in range(1, most_stretches + 1):
        for first in (0, 1):
            grounds = [("dry", "wet")[(first + k) % 2] for k in range(count)]
            for longs in itertools.product(range(1, longest + 1), repeat=count):
                banks.append(list(zip(grounds, longs)))
    return banks


def mixed_banks(heirs, count, most=5):
    """Banks whose sums of dry and of wet ground are multiples of the heirs; the same ones at every call."""
    chance = random.Random(f"{heirs} {count} {most}")
    banks = []
    for _ in range(count):
        feet = list("d" * heirs * chance.randrange(most + 1) + "w" * heirs * chance.randrange(most + 1))
        chance.shuffle(feet)
        banks.append(bank_of("".join(feet)))
    return banks


def times(bank, factor):
    return [(ground, long * factor) for ground, long in bank]


def letters(rows):
    """The ground as a text of d and w, one sign for each foot."""
    return "".join(ground[0] * long for ground, long in rows)


def bank_of(text):
    """The bank whose letters are these."""
    names = {"d": "dry", "w": "wet"}
    return [(names[sign], len(list(run))) for sign, run in itertools.groupby(text)]


def ground_in(text):
    return (text.count("d"), text.count("w"))


def half_places(text):
    """All places from which half the length has half of the ground."""
    half = len(text) // 2
    wanted = tuple(total // 2 for total in ground_in(text))
    return [place for place in range(half + 1) if ground_in(text[place:place + half]) == wanted]


def feet_of_heirs(text, feet, heirs):
    """For each heir the feet, by their places on the whole text, that are dealt out to him of these."""
    if heirs == 1:
        return [feet]
    place = half_places("".join(text[foot] for foot in feet))[0]
    beyond = place + len(feet) // 2
    taken, left = feet[place:beyond], feet[:place] + feet[beyond:]
    return feet_of_heirs(text, taken, heirs // 2) + feet_of_heirs(text, left, heirs // 2)


def pieces_of(feet):
    """Feet that follow one another, put together to pieces."""
    pieces = []
    for foot in sorted(feet):
        if pieces and pieces[-1][1] == foot:
            pieces[-1] = (pieces[-1][0], foot + 1)
        else:
            pieces.append((foot, foot + 1))
    return pieces


def slowly_dealt(bank, heirs):
    text = letters(bank)
    return [pieces_of(feet) for feet in feet_of_heirs(text, list(range(len(text))), heirs)]
