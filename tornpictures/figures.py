"""Numbers, written by their figures."""

FIGURES = "0123456789"


def is_number(word, most):
    """Whether the word is a number of at most so many figures, without noughts ahead but in 0 itself."""
    if not 1 <= len(word) <= most or (word[0] == "0" and len(word) > 1):
        return False
    return all([sign in FIGURES for sign in word])
