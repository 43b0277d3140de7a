"""A desk: it keeps a hall and forms for it, is told rows, and answers each with a text."""

from ratehall.code import code_of, drawn, filled, need_laps, run
from ratehall.errors import NoLine
from ratehall.hall import Hall
from ratehall.joins import Joint
from ratehall.least import least_rooms
from ratehall.mill import given_by, need_work_forms
from ratehall.notes import is_number, is_signed, put_row, read_forms, show_hall
from ratehall.rates import rates_of
from ratehall.rooms import fitting, lean_rooms
from ratehall.rounds import round_of, round_rates

MOST_LAPS = 20
# How many words a row has, the first one counted: at least, and at most (None: as many as one likes).
WORD_COUNTS = {
    "work": (2, 2),
    "belt": (6, 6),
    "fill": (3, 3),
    "forms": (3, 3),
    "rates": (1, 1),
    "round": (1, 1),
    "rooms": (1, None),
    "lean": (1, 1),
    "least": (1, 1),
    "join": (2, None),
    "run": (2, None),
}


def words_of(row):
    # In a row of forms all that follows the name is one word, blanks and all.
    words = row.split(" ", 2) if row.startswith("forms ") else row.split(" ")
    if words[0] not in WORD_COUNTS:
        raise NoLine("no row begins like this")
    bounds = WORD_COUNTS[words[0]]
    if len(words) < bounds[0] or (bounds[1] is not None and len(words) > bounds[1]):
        raise NoLine("the row has too few or too many words")
    if any([word == "" or word.startswith(" ") for word in words]):
        raise NoLine("the row has an empty word")
    return words


def number_in(word):
    if not is_number(word):
        raise NoLine("a number from 0 on is due here")
    return int(word)


def laps_in(word):
    laps = number_in(word)
    if laps > MOST_LAPS:
        raise NoLine("code isn't run as often as this")
    return laps


def pieces_in(words):
    """A list for each word / of the pieces behind it."""
    pieces = []
    for word in words:
        if word == "/":
            pieces.append([])
        elif len(pieces) > 0 and is_signed(word):
            pieces[-1].append(int(word))
        else:
            raise NoLine("behind the laps comes a / for each belt, and behind it the belt's pieces")
    return pieces


def answer_work(desk, words):
    return str(put_row(desk.hall, words))


def answer_belt(desk, words):
    for place in (2, 3, 5):
        number_in(words[place])
    belt = put_row(desk.hall, words)
    row = desk.hall.belt_at(belt)
    # What these two works take or give has changed, so the forms that were told for them don't fit any longer.
    for work in row[:2]:
        desk.told_forms.pop(work, None)
    return str(belt)


def answer_fill(desk, words):
    belt = number_in(words[1])
    start = number_in(words[2])
    return "other" if desk.hall.fill(belt, start) else "same"


def answer_forms(desk, words):
    forms = read_forms(words[2])
    work = desk.hall.number_of(words[1])
    need_work_forms(desk.hall, work, forms)
    desk.told_forms[work] = forms
    return "ok"


def answer_rates(desk, words):
    told = rates_of(desk.hall)
    if told[0] is None:
        return " ".join(["ring"] + [show_step(belt, along) for belt, along in told[1]])
    if len(told[0]) == 0:
        return "none"
    return ", ".join([f"{name} {rate}" for name, rate in zip(desk.hall.names(), told[0])])


def show_step(belt, along):
    return f"{belt}+" if along else f"{belt}-"


def answer_round(desk, words):
    return show_round(desk.hall, round_of(desk.hall))


def answer_rooms(desk, words):
    rooms = [number_in(word) for word in words[1:]]
    return show_round(desk.hall, fitting(desk.hall, rooms))


def show_round(hall, told):
    """A round or a stop, of the hall or of its backed hall."""
    if told[0] is None:
        return " ".join(["stop"] + texts_of(told[1][0]) + ["/"] + texts_of(told[1][1]))
    names = hall.names()
    return " ".join(["turns"] + [names[work] for work in told[0]])


def texts_of(numbers):
    return [str(number) for number in numbers]


def answer_lean(desk, words):
    return show_rooms(lean_rooms(desk.hall)[0])


def answer_least(desk, words):
    return show_rooms(least_rooms(desk.hall)[0])


def show_rooms(rooms):
    if len(rooms) == 0:
        return "none"
    return " ".join(texts_of(rooms))


def answer_join(desk, words):
    group = [desk.hall.number_of(name) for name in words[1:]]
    return " / ".join(show_hall(Joint(desk.hall, group).made()))


def answer_run(desk, words):
    hall = desk.hall
    laps = laps_in(words[1])
    pieces = pieces_in(words[2:])
    rooms = lean_rooms(hall)[0]
    # Asked ahead of the forms, which may be too many to be written out where the code is too long.
    need_laps(hall, rooms, round_rates(hall))
    code = code_of(hall, rooms, fitting(hall, rooms)[0], forms_of(desk))[1]
    boxes = filled(hall, rooms, pieces)
    for lap in range(laps):
        boxes = run(code, boxes)
    return show_pieces(drawn(hall, rooms, boxes))


def forms_of(desk):
    """Forms for all works; asked for only where they are few enough to be written out."""
    works = len(desk.hall.names())
    return [desk.told_forms.get(work, plain_forms(desk.hall, work)) for work in range(works)]


def plain_forms(hall, work):
    return ((0, ()),) * given_by(hall, work)


def show_pieces(pieces):
    words = ["ok"]
    for lying in pieces:
        words.append("/")
        words.extend(texts_of(lying))
    return " ".join(words)


ANSWERS = {
    "work": answer_work,
    "belt": answer_belt,
    "fill": answer_fill,
    "forms": answer_forms,
    "rates": answer_rates,
    "round": answer_round,
    "rooms": answer_rooms,
    "lean": answer_lean,
    "least": answer_least,
    "join": answer_join,
    "run": answer_run,
}


class Desk:
    def __init__(self):
        self.hall = Hall()
        # Only those that were told: the others may be too many to be written out.
        self.told_forms = {}

    def say(self, row):
        words = words_of(row)
        answer = ANSWERS[words[0]]
        return answer(self, words)
