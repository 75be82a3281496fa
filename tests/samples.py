"""Banks for the tests, and a second, slow way to tell their ground: foot by foot, in letters."""

import itertools


def small_banks(most_stretches=4, longest=3):
    """Every bank of few short stretches, [] among them."""
    banks = [[]]
    for count in range(1, most_stretches + 1):
        for first in (0, 1):
            grounds = [("dry", "wet")[(first + k) % 2] for k in range(count)]
            for longs in itertools.product(range(1, longest + 1), repeat=count):
                banks.append(list(zip(grounds, longs)))
    return banks


def letters(rows):
    """The ground as a text of d and w, one sign for each foot."""
    return "".join(ground[0] * long for ground, long in rows)


def bank_of(text):
    """The bank whose letters are these."""
    names = {"d": "dry", "w": "wet"}
    return [(names[sign], len(list(run))) for sign, run in itertools.groupby(text)]


def ground_in(text):
    return (text.count("d"), text.count("w"))
