"""People, who mishear signs and may say one of several (points 33 and 34)."""

from talepost.errors import BadPerson, UnknownSign
from talepost.tables import Table


class Person:
    """Hears one sign for each sign that it is told, and may say one of several for what it hears."""

    def __init__(self, alphabet, hears, says):
        signs = alphabet.signs
        if len(hears) != len(signs) or not alphabet.is_text(hears):
            raise BadPerson("hears")
        if len(says) != len(signs) or not all([saying != "" and alphabet.is_text(saying) for saying in says]):
            raise BadPerson("says")
        self.alphabet = alphabet
        self._hears = dict(zip(signs, hears))
        self._says = {sign: in_order(saying) for sign, saying in zip(signs, says)}

    def heard(self, sign):
        """The sign that it hears if it is told the sign."""
        if sign not in self._hears:
            raise UnknownSign(sign)
        return self._hears[sign]

    def said(self, sign):
        """The signs that it may say if it is told the sign."""
        return self._says[self.heard(sign)]

    @property
    def table(self):
        """The table of what it may say for what it is told."""
        return Table(self.alphabet, [(told, out) for told in self.alphabet.signs for out in self.said(told)])


class Knower(Person):
    """Says only the sign itself if it knows it."""

    def __init__(self, alphabet, hears, says, knows):
        super().__init__(alphabet, hears, says)
        if not alphabet.is_text(knows):
            raise BadPerson("knows")
        self._known = in_order(knows)

    @property
    def known(self):
        """The signs that it knows."""
        return self._known

    def said(self, sign):
        """The sign itself if it is known, otherwise the signs that it may say."""
        guessed = super().said(sign)
        return sign if sign in self._known else guessed


class Doubter(Person):
    """May also say the very sign that it was told."""

    def said(self, sign):
        """The signs that it may say if it is told the sign, and the sign itself."""
        return in_order(super().said(sign) + sign)


class KnowingDoubter(Knower, Doubter):
    """Says a sign that it knows, and otherwise what a doubter may say."""

    def said(self, sign):
        """The sign itself if it is known, otherwise the signs that a doubter may say."""
        return super().said(sign)


def in_order(signs):
    """The different signs of a string in ascending order."""
    return "".join(sorted(set(signs)))
