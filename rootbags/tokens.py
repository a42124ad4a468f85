"""The tokens of the texts of terms.

A token is a tuple (kind, text, position). The kinds are "name", "call" (one of the words with a parenthesis behind
it), "numeral", "bad" (what stands nowhere), "end" (behind the last token), and each sign, which is a kind of its own.
"""

LETTERS = "abcdefghijklmnopqrstuvwxyz"
FIGURES = "0123456789"
SIGNS = "{}()[],|+-*/^"
MAX_LETTERS = 8
CALLED = ("roots", "unity", "map", "sums", "products", "distinct", "common", "without")


def run_end(text, start, letters):
    """Return the position behind the characters from start on that are all among the letters."""
    end = start
    while end < len(text) and text[end] in letters:
        end = end + 1
    return end


def is_name(text):
    """Return whether a text has the form of a name."""
    return 1 <= len(text) <= MAX_LETTERS and run_end(text, 0, LETTERS) == len(text)


def word_kind(word, behind):
    """Return the kind of a token of letters, with the text behind it."""
    if behind.lstrip(" ").startswith("("):
        return "call" if word in CALLED else "bad"
    return "name" if is_name(word) else "bad"


def numeral_kind(figures, most):
    """Return the kind of a token of digits; a numeral has at most so many."""
    if len(figures) > most or (figures.startswith("0") and figures != "0"):
        return "bad"
    return "numeral"


def token_at(text, start, most):
    """Return the token that begins at a position; a numeral has at most so many digits."""
    if text[start] in LETTERS:
        end = run_end(text, start, LETTERS)
        return (word_kind(text[start:end], text[end:]), text[start:end], start)
    if text[start] in FIGURES:
        end = run_end(text, start, FIGURES)
        return (numeral_kind(text[start:end], most), text[start:end], start)
    kind = text[start] if text[start] in SIGNS else "bad"
    return (kind, text[start], start)


def tokens_of(text, most):
    """Return the list of the tokens of a text; a numeral has at most so many digits."""
    found = []
    start = run_end(text, 0, " ")
    while start < len(text):
        token = token_at(text, start, most)
        found.append(token)
        start = run_end(text, start + len(token[1]), " ")
    found.append(("end", "", len(text)))
    return found
