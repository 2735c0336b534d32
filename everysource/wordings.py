"""How what a desk is told, and what it replies, is written."""

from everysource.figures import fraction_by, fraction_text, number_by, number_text

MOST_DIGITS = 9


def share_by(text):
    """The FRACTION that this X is, None if it is none."""
    if not text.startswith("-"):
        return fraction_by(text)
    x = fraction_by(text[1:])
    return None if x is None else (-x[0], x[1])


def count_by(text):
    return number_by(text, MOST_DIGITS)


def all_by(words, read):
    """The tuple of what the words are, each one read by the function; None if one is none."""
    parts = [read(word) for word in words]
    return None if None in parts else tuple(parts)


def numbers_by(text):
    return all_by(text.split(" "), count_by)


def moments_by(text):
    return () if text == "-" else all_by(text.split(", "), numbers_by)


def kinds_by(text):
    """The ascending tuple of the pairs of KINDS."""
    kinds = all_by(text.split(" | "), kind_by)
    return None if kinds is None else tuple(sorted(kinds))


def kind_by(text):
    number, _, columns = text.partition(": ")
    many, seen = count_by(number), numbers_by(columns)
    return None if many is None or seen is None else (seen, many)


def terms_by(text):
    """The tuple of the pairs (MOMENTS, FRACTION) of TERMS."""
    return () if text == "-" else all_by(text.split(" | "), term_pair)


def term_pair(text):
    share, _, moments = text.partition(": ")
    x, powers = share_by(share), moments_by(moments)
    return None if x is None or powers is None else (powers, x)


def rows_by(text):
    return all_by(text.split(" | "), row_by)


def row_by(text):
    return all_by(text.split(" "), share_by)


def or_dash(text):
    """The text, or what stands for nothing at all."""
    return text if text else "-"


def words_text(words):
    return or_dash(" ".join(words))


def numbers_text(numbers):
    return words_text([number_text(number) for number in numbers])


def moments_text(moments):
    return or_dash(", ".join([numbers_text(moment) for moment in moments]))


def kinds_text(kinds):
    return " | ".join([number_text(number) + ": " + numbers_text(seen) for seen, number in kinds])


def wish_text(wish):
    return or_dash(" | ".join([fraction_text(x) + " " + moments_text(factors) for factors, x in wish]))


def form_text(form):
    return or_dash(" | ".join([fraction_text(x) + ": " + moments_text(powers) for powers, x in form]))


def truth_text(truth):
    return "yes" if truth else "no"
