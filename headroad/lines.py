"""Rows written as lines, and lines read as rows."""

from headroad.errors import BadLine
from headroad.heads import is_head

LONGEST_HEAD = 16
MOST_FIGURES = 4
FIGURES = "0123456789"
NOWHERE = "nowhere"


def shown(row):
    way = NOWHERE if row[1] is None else str(row[1])
    return row[0] + "* " + way


def is_number(text):
    # The length is asked first: Python refuses to read very long numbers, with an error of its own.
    if text == "" or len(text) > MOST_FIGURES:
        return False
    # Not isdigit, which takes figures of other scripts too.
    if [sign for sign in text if sign not in FIGURES]:
        return False
    return text == "0" or not text.startswith("0")


def read_way(text):
    if text == NOWHERE:
        return None
    if not is_number(text):
        raise BadLine("no way behind the head")
    return int(text)


def read(line):
    parts = line.partition("* ")
    if parts[1] == "" or not is_head(parts[0], LONGEST_HEAD):
        raise BadLine("no head with a sign * and a blank behind it")
    return (parts[0], read_way(parts[2]))
