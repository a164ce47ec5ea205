"""Code as texts, written and read."""

from seaplace.coderows import ABOVE, CODE_FORMS, bad_jump
from seaplace.coderun import need_code
from seaplace.errors import BadRow
from seaplace.words import MOST, is_name, number_of, words_of


def word_for(part, kind):
    """The word that tells a part of a row."""
    if kind == "register":
        return f"r{part}"
    return str(part)


def row_text(number, row):
    """The text of a row."""
    words = [str(number), row[0]]
    for part, kind in zip(row[1:], CODE_FORMS[row[0]]):
        words.append(word_for(part, kind))
    return " ".join(words)


def code_text(code):
    """The text of code, a row for each; BadCode of what is none."""
    need_code(code)
    return "\n".join([row_text(number, row) for number, row in enumerate(code)])


def part_of(word, kind):
    """The part of a row that a word tells, or None."""
    if kind == "name":
        if is_name(word):
            return word
        return None
    if kind == "register":
        if not word.startswith("r"):
            return None
        word = word[1:]
    number = number_of(word)
    if number is None or number >= ABOVE[kind]:
        return None
    return number


def read_code_row(row, number):
    """The row of code that a row of this number tells; BadRow, rows being counted from 1 there."""
    words = words_of(row)
    if words is None or number >= MOST:
        raise BadRow(number + 1, 0)
    if words[0] != str(number):
        raise BadRow(number + 1, 1)
    if len(words) == 1 or words[1] not in CODE_FORMS:
        raise BadRow(number + 1, 2)
    forms = CODE_FORMS[words[1]]
    parts = [words[1]]
    for word, kind in zip(words[2:], forms):
        part = part_of(word, kind)
        if part is None:
            raise BadRow(number + 1, len(parts) + 2)
        parts.append(part)
    if len(words) != len(forms) + 2:
        raise BadRow(number + 1, len(parts) + 2)
    return tuple(parts)


def read_code(text):
    """The code that a text tells; BadRow of the first row that can't stand, then of the first that jumps elsewhere."""
    if not isinstance(text, str):
        raise BadRow(0, 0)
    if text == "":
        return ()
    code = tuple([read_code_row(row, number) for number, row in enumerate(text.split("\n"))])
    fault = bad_jump(code)
    if fault is not None:
        raise BadRow(fault[0] + 1, fault[1] + 2)
    return code
