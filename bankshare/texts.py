"""Texts: banks written and read, and shares written."""

from bankshare.banks import is_ground, tidy
from bankshare.errors import NoText

FIGURES = "0123456789"
MOST_FIGURES = 60
COMMA = ", "


def shown(bank):
    return COMMA.join([f"{ground} {long}" for ground, long in bank])


def is_long(text):
    if len(text) < 1 or len(text) > MOST_FIGURES:
        return False
    # Not isdigit, which takes the figures of other scripts, too.
    if not all([sign in FIGURES for sign in text]):
        return False
    return text == "0" or text[0] != "0"


def read_part(text, place):
    words = text.split(" ")
    if len(words) != 2 or not is_ground(words[0]) or not is_long(words[1]):
        raise NoText(place)
    return (words[0], int(words[1]))


def read(text):
    if not isinstance(text, str):
        raise NoText(0)
    if text == "":
        return []
    return tidy([read_part(part, place) for place, part in enumerate(text.split(COMMA))])


def shown_share(share):
    if len(share) == 0:
        return "none"
    return " ".join([f"{start}-{end}" for start, end in share])


def shown_shares(shares):
    return " / ".join([shown_share(share) for share in shares])
