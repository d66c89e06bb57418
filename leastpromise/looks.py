"""Looks: what was asked and what was told, so that it can be looked at again."""

from leastpromise.closed import wide_holds, wide_paper
from leastpromise.code import compiled, compiled_holds
from leastpromise.compiler import silent_holds, silent_paper
from leastpromise.court import court_holds, court_paper
from leastpromise.errors import PromiseError, Refused
from leastpromise.kinds import is_sequence, is_tuple_of
from leastpromise.leaks import both_hold, both_paper
from leastpromise.passes import rule_holds, rule_paper
from leastpromise.probes import order_holds, order_paper
from leastpromise.several import asks_hold, asks_paper, ever_holds, ever_paper, shares_hold, shares_paper

# How many things are asked of, by word.
QUESTIONS = {
    "court": 3, "wide": 3, "both": 2, "order": 3, "ever": 3, "silent": 5, "compiled": 5, "asks": 4, "shares": 4,
    "rule": 4}


def look_holds(value):
    """Whether any value is a look whose value the word's judge lets hold."""
    if not is_tuple_of(value, 3) or has_lists(value):
        return False
    word, question, told = value
    if not is_word(word) or not is_tuple_of(question, QUESTIONS[word]):
        return False
    judge = judge_of(word)
    try:
        return judge(*question, told)
    except PromiseError:
        return False


def make_look(word, question):
    """The look with what the word's function tells."""
    if not is_word(word):
        raise Refused("word")
    if not is_sequence(question) or len(question) != QUESTIONS[word]:
        raise Refused("question")
    asked, maker = in_tuples(question), maker_of(word)
    return word, asked, maker(*asked)


def wrong_looks(values):
    """The places of those that are no looks that hold."""
    if not is_sequence(values):
        raise Refused("looks")
    return tuple([at for at, value in enumerate(values) if not look_holds(value)])


def is_word(value):
    return isinstance(value, str) and value in QUESTIONS


def has_lists(value):
    """Whether there is a list in any value, at any depth."""
    return isinstance(value, list) or isinstance(value, tuple) and any([has_lists(part) for part in value])


def in_tuples(value):
    """Any value, its lists turned to tuples at any depth."""
    return tuple([in_tuples(part) for part in value]) if is_sequence(value) else value


def maker_of(word):
    makers = {
        "court": court_paper, "wide": wide_paper, "both": both_paper, "order": order_paper, "ever": ever_paper,
        "silent": silent_paper, "compiled": compiled, "asks": asks_paper, "shares": shares_paper, "rule": rule_paper}
    return makers[word]


def judge_of(word):
    judges = {
        "court": court_holds, "wide": wide_holds, "both": both_hold, "order": order_holds, "ever": ever_holds,
        "silent": silent_holds, "compiled": compiled_holds, "asks": asks_hold, "shares": shares_hold,
        "rule": rule_holds}
    return judges[word]
