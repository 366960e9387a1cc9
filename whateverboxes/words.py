"""The words that texts of systems and of programs have in common: names, integers, sums."""

LETTERS = "abcdefghijklmnopqrstuvwxyz"
DIGITS = "0123456789"
TAKEN_WORDS = ("check", "input", "keep", "let", "mod", "names", "open", "self", "take")
MOST_SIGNS = 8
MOST_DIGITS = 60
MOST_NAMES = 6


def is_name(word):
    """Whether a word is a name."""
    if not 1 <= len(word) <= MOST_SIGNS or word in TAKEN_WORDS:
        return False
    return word[0] in LETTERS and all([sign in LETTERS + DIGITS for sign in word])


def are_names(words):
    """Whether words are one to six unlike names."""
    return 1 <= len(words) <= MOST_NAMES and len(set(words)) == len(words) and all([is_name(word) for word in words])


def is_natural(word):
    """Whether a word is an integer from 0 on, as Python writes it, with at most sixty digits."""
    if not 1 <= len(word) <= MOST_DIGITS or not all([sign in DIGITS for sign in word]):
        return False
    return word == "0" or word[0] != "0"


def is_whole(word):
    """Whether a word is an integer of any sign, as Python writes it, with at most sixty digits."""
    if word.startswith("-"):
        return is_natural(word[1:]) and word != "-0"
    return is_natural(word)


def without_modulus(words):
    """The words ahead of the last two and the modulus, if those are `mod` and a modulus; else all words and 0."""
    if words[-2:-1] == ["mod"] and is_natural(words[-1]) and int(words[-1]) >= 2:
        return words[:-2], int(words[-1])
    return words, 0


def read_sum(words):
    """The terms of a sum, as pairs (factor, name), with the name "" for an integer alone; () if it is no sum."""
    signed = words if words[:1] == ["-"] else ["+"] + words
    parts = []
    for word in signed:
        if word in ("+", "-"):
            parts.append([word])
        else:
            parts[-1].append(word)
    terms = [_read_term(part) for part in parts]
    return () if () in terms else tuple(terms)


def write_sum(names, factors):
    """The sum of the names, each with its factor, as it is written."""
    words = []
    for name, factor in zip(names, factors):
        if factor < 0:
            words.append("-")
        elif factor > 0 and words:
            words.append("+")
        if abs(factor) > 1:
            words.append(str(abs(factor)))
        if factor:
            words.append(name)
    return " ".join(words) if words else "0"


def _read_term(words):
    """The pair of a sign and of the words that follow it up to the next one; () if they are no term."""
    sign = -1 if words[0] == "-" else 1
    if len(words) == 2 and is_name(words[1]):
        return sign, words[1]
    if len(words) == 2 and is_natural(words[1]):
        return sign * int(words[1]), ""
    if len(words) == 3 and is_natural(words[1]) and is_name(words[2]):
        return sign * int(words[1]), words[2]
    return ()
