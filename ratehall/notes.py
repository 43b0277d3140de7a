"""Numbers, halls and forms written as texts, and read again."""

from ratehall.errors import NoText
from ratehall.hall import Hall
from ratehall.names import is_name

MOST_FIGURES = 30


def is_number(text):
    """Whether the text is a number from 0 on, written as one that is read."""
    if len(text) < 1 or len(text) > MOST_FIGURES:
        return False
    # Not isdigit, which counts figures of other scripts as well.
    if not all(["0" <= sign <= "9" for sign in text]):
        return False
    return text == "0" or not text.startswith("0")


def is_signed(text):
    """Whether the text is a number, perhaps below 0."""
    if text.startswith("-"):
        return text != "-0" and is_number(text[1:])
    return is_number(text)


def show_hall(hall):
    names = hall.names()
    return [f"work {name}" for name in names] + [show_belt(names, row) for row in hall.belts()]


def show_belt(names, row):
    return " ".join(["belt", names[row[0]], str(row[2]), str(row[3]), names[row[1]], str(row[4])])


def read_hall(lines):
    # All are read ahead of putting any, as a line that is none is refused ahead of all else.
    rows = [read_row(line) for line in lines]
    hall = Hall()
    for words in rows:
        put_row(hall, words)
    return hall


def read_row(line):
    """The words of a hall's row."""
    words = line.split(" ")
    if not is_work_row(words) and not is_belt_row(words):
        raise NoText("a row is: work NAME, or: belt NAME GIVE TAKE NAME START")
    return words


def is_work_row(words):
    return len(words) == 2 and words[0] == "work" and is_name(words[1])


def is_belt_row(words):
    if len(words) != 6 or words[0] != "belt":
        return False
    return is_name(words[1]) and is_name(words[4]) and all([is_number(words[place]) for place in (2, 3, 5)])


def put_row(hall, words):
    """Puts a work or a belt to the hall, and tells its number."""
    if words[0] == "work":
        return hall.work(words[1])
    giver = hall.number_of(words[1])
    taker = hall.number_of(words[4])
    return hall.belt(giver, taker, int(words[2]), int(words[3]), int(words[5]))


def show_form(form):
    return " ".join([str(form[0])] + [f"{factor}@{slot}" for slot, factor in form[1]])


def read_form(text):
    words = text.split(" ")
    if not is_signed(words[0]):
        raise NoText("a form begins with its constant")
    return (int(words[0]), tuple([read_term(word) for word in words[1:]]))


def read_term(word):
    parts = word.partition("@")
    # A slot is never below 0, so it is written without a sign.
    if not is_signed(parts[0]) or not is_number(parts[2]):
        raise NoText("a term is FACTOR@SLOT")
    return (int(parts[2]), int(parts[0]))


def show_forms(forms):
    if len(forms) == 0:
        return "-"
    return ", ".join([show_form(form) for form in forms])


def read_forms(text):
    if text == "-":
        return ()
    return tuple([read_form(part) for part in text.split(", ")])
