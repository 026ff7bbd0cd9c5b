"""The words and numbers from which the lines of all texts are made."""


def is_number(word):
    """True for a number as texts have it: one or two digits, and of two digits the first one not 0."""
    if not (word.isascii() and word.isdigit()) or len(word) > 2:
        return False
    return len(word) == 1 or word[0] != "0"


def read_numbers(words):
    """The numbers that these words write, or None if one of the words is no number."""
    if not all([is_number(word) for word in words]):
        return None
    return [int(word) for word in words]


def join_words(words):
    """The words and numbers as one line."""
    return " ".join([str(word) for word in words])


def read_row(line, word):
    """The numbers of a line such as `hands N N ..` that begins with this word, or None if it has another form."""
    words = line.split(" ")
    if words[0] != word or len(words) < 2:
        return None
    return read_numbers(words[1:])
