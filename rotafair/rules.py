"""Rules over the last marks of a row: what they ask, tell, and are written as [4 to 8, 11]."""


def fits(sign, mark):
    if sign == "?":
        return True
    if sign == "#":
        return mark != "-"
    return sign == mark


def last_marks(marks, many):
    # Counted from the front: a slice from -many would be the whole text where many is 0.
    return marks[max(0, len(marks) - many):]


def let_by(signs, mark):
    return any([fits(sign, mark) for sign in signs])


def count_among(signs, marks):
    return len([mark for mark in marks if let_by(signs, mark)])


def count_text(word, many, marks, days):
    return f"{word} {many} of {marks} in {days}"


def part_text(rule, in_brackets):
    text = rule.text()
    return f"( {text} )" if in_brackets else text


class Rule:
    # The base is never asked by itself; its answers are those of a rule that finds no day bad.
    def reach(self):
        return 1

    def bad(self, marks):
        return False

    def text(self):
        return ""


class Never(Rule):
    def __init__(self, word):
        self.word = word

    def reach(self):
        return len(self.word)

    def bad(self, marks):
        if len(marks) < len(self.word):
            return False
        nearest = last_marks(marks, len(self.word))
        return all([fits(sign, mark) for sign, mark in zip(self.word, nearest)])

    def text(self):
        return "never " + self.word


class Most(Rule):
    def __init__(self, many, marks, days):
        self.many = many
        self.marks = marks
        self.days = days

    def reach(self):
        return self.days

    def bad(self, marks):
        return count_among(self.marks, last_marks(marks, self.days)) > self.many

    def text(self):
        return count_text("most", self.many, self.marks, self.days)


class Least(Rule):
    def __init__(self, many, marks, days):
        self.many = many
        self.marks = marks
        self.days = days

    def reach(self):
        return self.days

    def bad(self, marks):
        # Days that are still to come, or that no past tells of, can't be held against a person.
        if len(marks) < self.days:
            return False
        return count_among(self.marks, last_marks(marks, self.days)) < self.many

    def text(self):
        return count_text("least", self.many, self.marks, self.days)


class Both(Rule):
    def __init__(self, left, right):
        self.left = left
        self.right = right

    def reach(self):
        return max(self.left.reach(), self.right.reach())

    def bad(self, marks):
        # Who keeps both rules breaks none: so one that is broken is enough.
        return self.left.bad(marks) or self.right.bad(marks)

    def text(self):
        left = part_text(self.left, isinstance(self.left, Either))
        right = part_text(self.right, is_joined(self.right))
        return f"{left} and {right}"


class Either(Rule):
    def __init__(self, left, right):
        self.left = left
        self.right = right

    def reach(self):
        return max(self.left.reach(), self.right.reach())

    def bad(self, marks):
        return self.left.bad(marks) and self.right.bad(marks)

    def text(self):
        left = self.left.text()
        right = part_text(self.right, isinstance(self.right, Either))
        return f"{left} or {right}"


class Not(Rule):
    def __init__(self, inner):
        self.inner = inner

    def reach(self):
        return self.inner.reach()

    def bad(self, marks):
        return not self.inner.bad(marks)

    def text(self):
        return "not " + part_text(self.inner, is_joined(self.inner))


def is_joined(rule):
    return isinstance(rule, Both) or isinstance(rule, Either)


def bad_days(rule, past, row):
    return [day for day in range(len(row)) if rule.bad(past + row[:day + 1])]
