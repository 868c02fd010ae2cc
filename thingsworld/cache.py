"""Kept answers."""


class Entry:
    """A kept answer with its question, and the clock when it was put in and when it was last told."""

    def __init__(self, question, answer, clock):
        self.question = question
        self.answer = answer
        self.put_at = clock
        self.told_at = clock


class Cache:
    """The kept answers in the order in which they were put in, with the clock and the counts."""

    def __init__(self, rule, most):
        self.rule = rule
        self.most = most
        self.clock = 0
        self.hits = 0
        self.misses = 0
        self.fallen = 0
        self.forgotten = 0
        self.entries = []

    def kept_answer(self, question):
        """The kept answer to a question that is asked now, or None; the clock and the counts go on."""
        self.clock += 1
        for entry in self.entries:
            if entry.question.numbers == question.numbers:
                entry.told_at = self.clock
                self.hits += 1
                return entry.answer
        self.misses += 1
        return None

    def keep(self, question, answer):
        """Keep the answer to the question that was asked last, if any may be kept."""
        if self.most == 0:
            return
        if len(self.entries) == self.most:
            self.forget_one()
        self.entries.append(Entry(question, answer, self.clock))

    def forget_one(self):
        """Forget the answer whose turn it is by the rule."""
        first = 0
        if self.rule == 1:
            times = [entry.told_at for entry in self.entries]
            first = times.index(min(times))
        self.entries.pop(first)
        self.forgotten += 1

    def stay(self, staying):
        """Let all answers fall but those that stay."""
        self.fallen += len(self.entries) - len(staying)
        self.entries = staying

    def attribute_written(self, attribute):
        """Let the answers fall that may hang on the attribute."""
        self.stay([entry for entry in self.entries if attribute not in entry.question.attributes])

    def thing_moved(self):
        """Let the answers fall that may hang on where things are."""
        self.stay([entry for entry in self.entries if entry.question.place == -1])

    def things_changed(self):
        """Let all answers fall: any may hang on which things are here."""
        self.stay([])
