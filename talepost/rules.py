"""Rules: rows of up to three stages (points 52 and 53)."""

from talepost.errors import BadRule, BadStage
from talepost.letters import check_alphabets, check_shared
from talepost.machines import Machine
from talepost.stages import read_stage


class Rule:
    """A row of stages, each of which is given the result of the stage before it."""

    MOST = 3

    def __init__(self, alphabet, *stages):
        check_shared(alphabet, stages)
        if len(stages) > Rule.MOST:
            raise BadRule(Rule.MOST + 1, "count")
        self.alphabet = alphabet
        self._stages = list(stages)

    @classmethod
    def read(cls, alphabet, written):
        """The rule that has this written form."""
        if written == "keep":
            return cls(alphabet)
        stages = []
        for at, piece in enumerate(written.split("; ")):
            if at == Rule.MOST:
                raise BadRule(at + 1, "count")
            try:
                stages.append(read_stage(alphabet, piece))
            except BadStage as wrong:
                raise BadRule(at + 1, wrong.what) from None
        return cls(alphabet, *stages)

    def __call__(self, text):
        return self.results(text)[-1]

    def __len__(self):
        return len(self._stages)

    def __str__(self):
        if not self._stages:
            return "keep"
        return "; ".join([str(stage) for stage in self._stages])

    def __eq__(self, other):
        return isinstance(other, Rule) and self.alphabet == other.alphabet and str(self) == str(other)

    def __add__(self, other):
        check_alphabets([self, other])
        stages = [*self._stages, *other._stages]
        return Rule(self.alphabet, *stages)

    def results(self, text):
        """The text and the results of all stages, in order."""
        self.alphabet.check(text)
        texts = [text]
        for stage in self._stages:
            texts.append(stage(texts[-1]))
        return texts

    def machine(self):
        """The machine that says the result for each text."""
        machine = Machine.identity(self.alphabet)
        for stage in self._stages:
            machine = machine * stage.machine()
        return machine
