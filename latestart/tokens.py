"""The tokens of a line of a bill."""

LETTERS = "abcdefghijklmnopqrstuvwxyz"
DIGITS = "0123456789"
SIGNS = ":,;"
MOST_LETTERS = 12
MOST_DIGITS = 4


def tokens(line):
    """The list of the tokens of a line, as tuples (kind, string)."""
    found = []
    at = 0
    while at < len(line):
        if line[at] == " ":
            at += 1
        else:
            string = string_at(line, at)
            found.append((kind_of(string), string))
            at += len(string)
    return found


def string_at(line, at):
    """The token that begins at this index: a whole run of letters or of digits, or one character."""
    if line[at] in LETTERS:
        return line[at:end_of_run(line, at, LETTERS)]
    if line[at] in DIGITS:
        return line[at:end_of_run(line, at, DIGITS)]
    return line[at]


def end_of_run(line, at, characters):
    """The first index from this one on where none of these characters stands."""
    end = at
    while end < len(line) and line[end] in characters:
        end += 1
    return end


def kind_of(string):
    """The kind of a token."""
    if string[0] in LETTERS and len(string) <= MOST_LETTERS:
        return "name"
    if string[0] in DIGITS and is_number(string):
        return "number"
    if string in SIGNS:
        return "sign"
    return "bad"


def is_number(digits):
    """True if a run of digits is a number."""
    return len(digits) <= MOST_DIGITS and (digits == "0" or digits[0] != "0")
