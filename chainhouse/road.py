"""The road: letters that wait in a row until they are taken, lost or doubled."""

from chainhouse.errors import NoLetter


class Road:
    def __init__(self):
        self.letters = []

    def put(self, letters):
        self.letters.extend(letters)

    def waiting(self):
        return tuple(self.letters)

    def check_number(self, k):
        # Python would count numbers below nought from the end.
        if k < 0 or k >= len(self.letters):
            raise NoLetter("no letter of this number is waiting")

    def take(self, k):
        self.check_number(k)
        return self.letters.pop(k)

    def lose(self, k):
        self.check_number(k)
        self.letters.pop(k)

    def double(self, k):
        self.check_number(k)
        self.letters.append(self.letters[k])
