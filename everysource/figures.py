"""Numbers and FRACTIONS as they stand in texts."""

from everysource.quotients import lowest

DIGITS = "0123456789"
MOST_DIGITS = 40


def are_digits(text, most):
    """Whether text is digits, from 1 to so many."""
    return 1 <= len(text) <= most and all(sign in DIGITS for sign in text)


def number_by(text, most):
    """The number with so many digits at most, the first of several not 0; None if text is none."""
    if not are_digits(text, most) or (len(text) > 1 and text[0] == "0"):
        return None
    return int(text)


def fraction_by(text):
    """The FRACTION written as digits or digits/digits; None if text is none."""
    top, slash, bottom = text.partition("/")
    bottom = bottom if slash else "1"
    if not are_digits(top, MOST_DIGITS) or not are_digits(bottom, MOST_DIGITS) or int(bottom) == 0:
        return None
    return lowest(int(top), int(bottom))


def number_text(number):
    # Python itself writes numbers of some thousand digits, no longer ones.
    rest, parts = abs(number), []
    while rest >= 10 ** 60:
        rest, low = divmod(rest, 10 ** 60)
        parts.append(str(low).zfill(60))
    parts.append(str(rest))
    sign = "-" if number < 0 else ""
    return sign + "".join(parts[::-1])


def fraction_text(x):
    top, bottom = x
    return number_text(top) if bottom == 1 else number_text(top) + "/" + number_text(bottom)
