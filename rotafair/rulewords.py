"""Rules read from texts of words [9, 10]."""

from rotafair.errors import NoRule
from rotafair.rules import Both, Either, Least, Most, Never, Not

MOST_WORDS = 60
MARK_SIGNS = "ABCDEFGHIJKLMNOPQRSTUVWXYZ-#"
WORD_SIGNS = "ABCDEFGHIJKLMNOPQRSTUVWXYZ-#?"
MANY_FIGURES = "01234567"
DAYS_FIGURES = "1234567"


def read_rule(text):
    # A blank too many makes a word without signs, which stands in no rule.
    words = text.split(" ")
    # Asked ahead of the reading, so that no text goes deeper than sixty words can.
    if len(words) > MOST_WORDS:
        raise NoRule("a rule has at most sixty words")
    return read_words(words)


def read_words(words):
    # What binds loosest is taken apart first, and at its last place, so that the left ones go first.
    place = last_outside(words, "or")
    if place >= 0:
        return Either(read_words(words[:place]), read_words(words[place + 1:]))
    place = last_outside(words, "and")
    if place >= 0:
        return Both(read_words(words[:place]), read_words(words[place + 1:]))
    if words[:1] == ["not"]:
        return Not(read_words(words[1:]))
    # Brackets that don't belong together are left within, where no plain rule has any.
    if words[:1] == ["("] and words[-1:] == [")"]:
        return read_words(words[1:-1])
    return read_plain(words)


def last_outside(words, wanted):
    found = -1
    height = 0
    for place, word in enumerate(words):
        if word == "(":
            height += 1
        elif word == ")":
            height -= 1
        elif word == wanted and height == 0:
            found = place
    return found


def read_plain(words):
    if len(words) == 2 and words[0] == "never" and is_word(words[1]):
        return Never(words[1])
    if is_count(words, "most"):
        return Most(int(words[1]), words[3], int(words[5]))
    if is_count(words, "least"):
        return Least(int(words[1]), words[3], int(words[5]))
    raise NoRule("no rule is written so")


def is_count(words, first):
    if len(words) != 6 or words[0] != first or words[2] != "of" or words[4] != "in":
        return False
    return is_figure(words[1], MANY_FIGURES) and are_marks(words[3]) and is_figure(words[5], DAYS_FIGURES)


def is_figure(word, figures):
    return len(word) == 1 and word in figures


def is_word(word):
    return 1 <= len(word) <= 7 and made_of(word, WORD_SIGNS)


def are_marks(word):
    return 1 <= len(word) <= 8 and made_of(word, MARK_SIGNS) and len(set(word)) == len(word)


def made_of(word, signs):
    return all([sign in signs for sign in word])
