"""Words of texts, and a reader that takes them one behind another."""

from leastpromise.errors import InvalidText

LETTERS = "abcdefghijklmnopqrstuvwxyz"
FIGURES = "0123456789"
MOST_FIGURES = 9


def words_of(text):
    """(where it begins, the word) for each word of a text."""
    words, at = [], 0
    while at < len(text):
        end = word_end(text, at)
        if text[at] != " ":
            words.append((at, text[at:end]))
        at = end
    return words


def word_end(text, at):
    """Where the word that begins here ends."""
    more = ""
    if text[at] in LETTERS:
        more = LETTERS + FIGURES
    elif text[at] in FIGURES:
        more = FIGURES
    end = at + 1
    while end < len(text) and text[end] in more:
        end += 1
    return end


def is_plain_number(word, figures):
    """Whether a word is a number of up to so many figures, without a needless 0."""
    if not 1 <= len(word) <= figures or not all([sign in FIGURES for sign in word]):
        return False
    return word == "0" or word[0] != "0"


class Reader:
    """A text's words, taken one behind another; what can't stand is refused where it begins."""

    def __init__(self, text):
        if not isinstance(text, str):
            raise InvalidText(-1)
        self.length = len(text)
        self.words = words_of(text)
        self.at = 0

    def is_ended(self):
        return self.at == len(self.words)

    def next_word(self):
        """The next word, or None."""
        return None if self.is_ended() else self.words[self.at][1]

    def refuse(self):
        """The next word can't stand; or there is none, and the text can't end here."""
        raise InvalidText(self.length if self.is_ended() else self.words[self.at][0])

    def takes(self, word):
        """Whether the next word is this one; then it is taken."""
        found = self.next_word() == word
        if found:
            self.at += 1
        return found

    def need(self, word):
        if not self.takes(word):
            self.refuse()

    def one_of(self, words):
        """The number of the next word, which is one of these."""
        word = self.next_word()
        if word not in words:
            self.refuse()
        self.at += 1
        return words.index(word)

    def number(self, least, most):
        """The next word, a number from least to most."""
        word = self.next_word()
        if word is None or not is_plain_number(word, MOST_FIGURES) or not least <= int(word) <= most:
            self.refuse()
        self.at += 1
        return int(word)

    def place(self, size):
        """A value, or None for any."""
        return None if self.takes("*") else self.number(0, size - 1)
