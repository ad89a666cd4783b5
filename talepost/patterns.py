"""Patterns, which describe rows of a post (point 73)."""

from talepost.errors import BadPattern
from talepost.stations import Hearer

MOST_SIGNS = 6
MOST_STARS = 2


def check_pattern(post, pattern):
    """Raise BadPattern for the first character that cannot stand in its place."""
    stars = 0
    for place, sign in enumerate(pattern):
        if sign == "*":
            stars = stars + 1
        if place >= MOST_SIGNS or stars > MOST_STARS or not (sign in post or sign in "?*"):
            raise BadPattern(place)


def people_of(post):
    """The letters of all people of the post in ascending order."""
    return [letter for letter in post.members() if isinstance(post[letter], Hearer)]


def opened(pattern, places):
    """The places, ascending, from which the pattern can go on: those behind a star count as well as the star."""
    reached = []
    for at in range(len(pattern) + 1):
        if at in places or (at - 1 in reached and pattern[at - 1] == "*"):
            reached.append(at)
    return reached


def after_letter(pattern, people, places, letter):
    """The places of the pattern behind a letter of a row, if the places are those before it."""
    onward = []
    for at in places:
        if at < len(pattern):
            if pattern[at] == "*" and letter in people:
                onward.append(at)
            elif pattern[at] == letter or (pattern[at] == "?" and letter in people):
                onward.append(at + 1)
    return opened(pattern, onward)


def lengths_left(pattern, people, most):
    """For each place of the pattern, a list that tells of each number of letters up to `most` whether so many fit."""
    fits = [[left == 0 for left in range(most + 1)]]
    for sign in pattern[::-1]:
        behind = fits[0]
        here = []
        for left in range(most + 1):
            if sign == "*":
                here.append(behind[left] or (left > 0 and people != [] and here[left - 1]))
            else:
                here.append(left > 0 and behind[left - 1] and (sign != "?" or people != []))
        fits = [here] + fits
    return fits
