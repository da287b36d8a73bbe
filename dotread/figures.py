"""Numbers as they stand in rows of texts and of a desk."""

FIGURES = "0123456789"
MOST_FIGURES = 4


def number_in(word):
    """Tell the number of a word of 1 to 4 figures, no nought ahead of another, or None where it is none."""
    if not 1 <= len(word) <= MOST_FIGURES or not all([sign in FIGURES for sign in word]):
        return None
    if len(word) > 1 and word[0] == "0":
        return None
    return int(word)
