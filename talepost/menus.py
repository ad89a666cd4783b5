"""Menus: lists of different rules (points 54 and 55)."""

from talepost.errors import BadCount, BadMenu, TooMany, UnknownRule
from talepost.leads import parting_text
from talepost.letters import check_alphabets, shortlex
from talepost.rules import Rule
from talepost.stages import read_stage

DEPTHS = (0, 1, 2)


class Menu:
    """One to sixty different rules of one alphabet."""

    MOST = 60

    def __init__(self, rules):
        if len(rules) == 0:
            raise BadMenu(-1)
        check_alphabets(rules)
        check_different([str(rule) for rule in rules])
        if len(rules) > Menu.MOST:
            raise TooMany(Menu.MOST)
        self.alphabet = rules[0].alphabet
        self.rules = list(rules)

    @classmethod
    def made(cls, alphabet, *stages, depth=1):
        """The menu of all rules of at most `depth` of the stages, which are given by their written forms."""
        if depth not in DEPTHS:
            raise BadCount(depth)
        single = [Rule(alphabet, read_stage(alphabet, written)) for written in stages]
        check_different(stages)
        rules = [Rule(alphabet)]
        longest = [Rule(alphabet)]
        for _ in range(depth):
            if len(rules) + len(longest) * len(single) > Menu.MOST:
                raise TooMany(Menu.MOST)
            longest = [rule + last for rule in longest for last in single]
            rules.extend(longest)
        return cls(rules)

    def __len__(self):
        return len(self.rules)

    def written(self):
        """The written forms of the rules in order."""
        return [str(rule) for rule in self.rules]

    def machines(self):
        """The machines of the rules in order."""
        return [rule.machine() for rule in self.rules]

    def classes_on(self, stock):
        """The lists of the indexes of rules that have the same results for all texts of the stock."""
        check_alphabets([self, stock])
        machines = [machine.on(stock) for machine in self.machines()]
        groups = [list(range(len(self.rules)))]
        classes = []
        as_first = {}
        while groups:
            group = groups.pop()
            text = None
            for at in group[1:]:
                if text is None and at not in as_first:
                    text = parting_text(machines[group[0]], machines[at])
                    if text is None:
                        as_first[at] = True
            if text is None:
                classes.append(group)
            else:
                groups.extend(self.parts_on(group, text))
        return sorted(classes)

    def parts_on(self, group, text):
        """The lists of the rules of a group that have the same result for the text."""
        results = {at: self.rules[at](text) for at in group}
        return [[at for at in group if results[at] == result] for result in shortlex(list(results.values()))]

    def parted(self, one, two, stock):
        """The first text of the stock for which the rules with these indexes have different results, or None."""
        check_alphabets([self, stock])
        for index in [one, two]:
            if not 0 <= index < len(self.rules):
                raise UnknownRule(index)
        return parting_text(self.rules[one].machine().on(stock), self.rules[two].machine())


def check_different(written):
    """Raise BadMenu for the first string that is equal to an earlier one."""
    for index, each in enumerate(written):
        if each in written[:index]:
            raise BadMenu(index)
