"""Reads a list of whole numbers from its first one on."""


class NotTold(Exception):
    """The numbers don't tell what was to be read."""


class Reader:
    """A place in a list that's only read, never changed."""

    def __init__(self, source):
        self.source = source
        self.at = 0

    def at_end(self):
        return self.at == len(self.source)

    def take(self):
        if self.at_end():
            raise NotTold("the list is too short")
        number = self.source[self.at]
        self.at += 1
        return number

    def take_between(self, least, most):
        number = self.take()
        if not least <= number <= most:
            raise NotTold("a number is out of its bounds")
        return number

    def take_many(self, many):
        return [self.take() for turn in range(many)]


def read_whole(told, read):
    """What read makes of the numbers; None if they tell less or more than that."""
    reader = Reader(told)
    try:
        found = read(reader)
    except NotTold:
        return None
    return found if reader.at_end() else None
