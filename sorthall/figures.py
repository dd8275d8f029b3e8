"""Whole numbers as the texts of rules and rows have them."""

MOST_FIGURES = 60


def is_written_number(text):
    """Whether the text is a whole number: one to sixty figures, no nought ahead, no -0."""
    figures = text[1:] if text.startswith("-") else text
    if figures == "" or len(figures) > MOST_FIGURES:
        return False
    # Python itself would take blanks, underlines and other signs for figures too.
    if not all([sign in "0123456789" for sign in figures]):
        return False
    return text == "0" or not figures.startswith("0")
