"""Banks: rows of dry and wet stretches, their ground, and what lies between two places on them."""

from bankshare.errors import NoGround, NoLength, OffBank

DRY = "dry"
WET = "wet"


def is_ground(value):
    return isinstance(value, str) and value in (DRY, WET)


def is_whole(value):
    # Python counts True and False among the ints; the document doesn't.
    return isinstance(value, int) and not isinstance(value, bool)


def refuse_wrong_row(row, place):
    if not is_ground(row[0]):
        raise NoGround(place)
    if not is_whole(row[1]) or row[1] < 0:
        raise NoLength(place)


def tidy(rows):
    bank = []
    for place, row in enumerate(rows):
        refuse_wrong_row(row, place)
        ground = row[0]
        long = row[1]
        if len(bank) > 0 and bank[-1][0] == ground:
            bank[-1] = (ground, bank[-1][1] + long)
        elif long > 0:
            bank.append((ground, long))
    return bank


def length(bank):
    return sum([stretch[1] for stretch in bank])


def sum_of(bank, ground):
    return sum([stretch[1] for stretch in bank if stretch[0] == ground])


def ground_of(bank):
    return (sum_of(bank, DRY), sum_of(bank, WET))


# Dry goes ahead of wet where neither sum is a multiple of the count: the refusals name one ground alone.
def uneven_ground(bank, count):
    for ground in (DRY, WET):
        if sum_of(bank, ground) % count != 0:
            return ground
    return None


def checked_end(bank, start, end):
    whole = length(bank)
    last = whole if end is None else end
    if start < 0 or last < start or last > whole:
        raise OffBank("start and end are not two places of the bank, start first")
    return last


def part(bank, start, end):
    rows = []
    begin = 0
    for ground, long in bank:
        inside = min(begin + long, end) - max(begin, start)
        # A stretch that lies clear of both places would count below 0.
        rows.append((ground, max(inside, 0)))
        begin = begin + long
    return tidy(rows)


def cut_out(bank, start=0, end=None):
    last = checked_end(bank, start, end)
    return part(bank, start, last)


def between(bank, start=0, end=None):
    return ground_of(cut_out(bank, start, end))


def rest(bank, start=0, end=None):
    last = checked_end(bank, start, end)
    return tidy(part(bank, 0, start) + part(bank, last, length(bank)))


# Two rows of tuples (name, long), both equally long in all, as one of tuples (name, other's name, long):
# so what they have in common is reckoned by runs, however great the longs are.
def side_by_side(rows, others):
    left = list(reversed(rows))
    others_left = list(reversed(others))
    runs = []
    while len(left) > 0:
        row = left.pop()
        other = others_left.pop()
        both = min(row[1], other[1])
        runs.append((row[0], other[0], both))
        # What reaches beyond the shorter one stands beside what comes next in the other row.
        if row[1] > both:
            left.append((row[0], row[1] - both))
        if other[1] > both:
            others_left.append((other[0], other[1] - both))
    return runs
