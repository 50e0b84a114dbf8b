"""A place in a text, moved on by what is read there."""

from longsheet.errors import NoText

DIGITS = "0123456789"
MOST_DIGITS = 60


class Cursor:
    """A text and the place in it up to which it is read; raises NoText(1) for what can't stand there."""

    def __init__(self, text):
        self._text = text
        self._at = 0

    def ends(self):
        """Whether all of the text is read."""
        return self._at == len(self._text)

    def sign(self):
        """The sign that comes next, or an empty string at the end."""
        return self._text[self._at:self._at + 1]

    def takes(self, word):
        """Whether a word comes next; if so, it is read."""
        if not self._text.startswith(word, self._at):
            return False
        self._at += len(word)
        return True

    def must_take(self, word):
        """Reads a word that has to come next."""
        if not self.takes(word):
            raise NoText(1)

    def starts_integer(self):
        """Whether the next sign can begin an integer."""
        return self.sign() == "-" or self.starts_count()

    def starts_count(self):
        """Whether the next sign is a digit."""
        return not self.ends() and self.sign() in DIGITS

    def take_count(self):
        """Reads an integer from 0 on."""
        start = self._at
        while self.starts_count():
            self._at += 1
        digits = self._text[start:self._at]
        if not 0 < len(digits) <= MOST_DIGITS or (digits[0] == "0" and digits != "0"):
            raise NoText(1)
        return int(digits)

    def take_integer(self):
        """Reads an integer, perhaps with a minus ahead."""
        if not self.takes("-"):
            return self.take_count()
        found = self.take_count()
        if found == 0:
            raise NoText(1)
        return -found
