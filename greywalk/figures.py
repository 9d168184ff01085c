"""Numbers, loads and words, as texts write them."""

MOST_FIGURES = 60
MOST_LETTERS = 12

# Written out, since Python's own tests for figures and letters take signs beyond these, too.
FIGURES = "0123456789"
LETTERS = "abcdefghijklmnopqrstuvwxyz"


def made_of(text, signs, most):
    # The length goes first, so that a very long text is not walked.
    return 1 <= len(text) <= most and all([sign in signs for sign in text])


def number_of(text, most=None):
    if not made_of(text, FIGURES, MOST_FIGURES):
        return None
    if text.startswith("0") and text != "0":
        return None
    number = int(text)
    if most is not None and number > most:
        return None
    return number


def load_of(text):
    if not text.startswith("-"):
        return number_of(text)
    number = number_of(text[1:])
    # Nought is written in one way only, so that each load has one text.
    if number is None or number == 0:
        return None
    return -number


def is_word(text):
    return made_of(text, LETTERS, MOST_LETTERS)
