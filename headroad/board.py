"""A board that holds a table for a size."""

from headroad.errors import BadAddress, BadHead, FullBoard, NoHead
from headroad.heads import is_address, is_head
from headroad.ways import head_for, way_for

MOST_ROWS = 60


class Board:
    def __init__(self, size):
        self.size = size
        self.ways = {}

    def check_head(self, head):
        if not is_head(head, self.size):
            raise BadHead("no head of the board's size")

    def check_address(self, address):
        if not is_address(address, self.size):
            raise BadAddress("no address of the board's size")

    def put(self, head, way):
        self.check_head(head)
        there = head in self.ways
        if not there and len(self.ways) >= MOST_ROWS:
            raise FullBoard("the board holds as many rows as it can")
        self.ways[head] = way
        return there

    def drop(self, head):
        self.check_head(head)
        if head not in self.ways:
            raise NoHead("no row with this head")
        return self.ways.pop(head)

    def rows(self):
        return [(head, self.ways[head]) for head in sorted(self.ways)]

    def led(self, address):
        self.check_address(address)
        return way_for(self.rows(), address)

    def by_which(self, address):
        self.check_address(address)
        return head_for(self.rows(), address)
