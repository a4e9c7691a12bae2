"""Addresses, their numbers, and the heads that begin them."""

from headroad.errors import BadSpan


def begins(head, address):
    return address.startswith(head)


def is_head(text, size):
    return len(text) <= size and text.count("0") + text.count("1") == len(text)


def is_address(text, size):
    return len(text) == size and is_head(text, size)


def number_of(text):
    number = 0
    for sign in text:
        number = number * 2 + int(sign)
    return number


def address_of(number, size):
    address = ""
    rest = number
    while len(address) < size:
        address = str(rest % 2) + address
        rest = rest // 2
    return address


def last_number(size):
    return number_of("1" * size)


def span_of(head, size):
    missing = size - len(head)
    return (number_of(head + "0" * missing), number_of(head + "1" * missing))


def widest_head(low, high, size):
    head = address_of(low, size)
    # Taking a last sign 0 away keeps the first address; a 1 taken away would reach below low.
    while head.endswith("0") and span_of(head[:-1], size)[1] <= high:
        head = head[:-1]
    return head


def heads_of(low, high, size):
    if low < 0 or low > high or high > last_number(size):
        # The numbers are not shown: Python refuses to write very great ones out, with an error of its own.
        raise BadSpan("no span of addresses of this size")
    heads = []
    start = low
    while start <= high:
        head = widest_head(start, high, size)
        heads.append(head)
        start = span_of(head, size)[1] + 1
    return heads
