"""Numbers, taken one by one and row by row."""


class NotTold(Exception):
    """The numbers are not told as they have to be."""


class RowReader:
    """Takes numbers and rows from left to right out of one list of numbers."""

    def __init__(self, numbers):
        self.numbers = numbers
        self.at = 0

    def is_done(self):
        return self.at == len(self.numbers)

    def take_some(self, count):
        """This many numbers; NotTold is raised if there are fewer."""
        end = self.at + count
        if end > len(self.numbers):
            raise NotTold()
        taken = self.numbers[self.at:end]
        self.at = end
        return taken

    def take_number(self):
        return self.take_some(1)[0]

    def take_row(self):
        """The numbers of a row, with how many it has before it."""
        return self.take_some(self.take_number())
