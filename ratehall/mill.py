"""What pieces are: forms that come to numbers, and a floor on which the pieces are such numbers."""

from ratehall.errors import NoForm, NoPieces
from ratehall.floor import Floor, gives_of, takes_of
from ratehall.numbers import is_number_below
from ratehall.rounds import starts_of


def form_value(form, pieces):
    return form[0] + sum([factor * pieces[slot] for slot, factor in form[1]])


def need_forms(hall, forms):
    if len(forms) != len(hall.names()):
        raise NoForm("forms are a tuple of forms for each work")
    for work, work_forms in enumerate(forms):
        need_work_forms(hall, work, work_forms)


def need_work_forms(hall, work, forms):
    if len(forms) != given_by(hall, work):
        raise NoForm("a work has one form for each piece that it gives in a turn")
    slots = sum([take for belt, take in takes_of(hall, work)])
    for form in forms:
        if not all([is_number_below(slot, slots) for slot, factor in form[1]]):
            raise NoForm("a form names slots of its work alone")


def given_by(hall, work):
    """How many pieces the work gives in a turn, on all belts."""
    return sum([give for belt, give in gives_of(hall, work)])


def need_pieces(hall, pieces):
    starts = starts_of(hall)
    if len(pieces) != len(starts):
        raise NoPieces("pieces are a list for each belt")
    if not all([len(lying) == start for lying, start in zip(pieces, starts)]):
        raise NoPieces("a belt has as many pieces as its start")


class Mill:
    def __init__(self, hall, forms, pieces):
        need_forms(hall, forms)
        need_pieces(hall, pieces)
        self.floor = Floor(hall)
        self.forms = list(forms)
        self.lanes = [Lane(lying) for lying in pieces]

    def turn(self, work):
        self.go([work])

    def go(self, row):
        # The floor refuses the whole row, if any of it, ahead of all that is done here.
        self.floor.go(row)
        for work in row:
            self.pass_on(work)

    def lying(self):
        return [lane.lying() for lane in self.lanes]

    def pass_on(self, work):
        slots = []
        for belt, take in self.floor.takes[work]:
            slots.extend(self.lanes[belt].drawn_off(take))
        # All forms are done ahead of laying anything, so that a belt to the work itself changes none of them.
        given = [form_value(form, slots) for form in self.forms[work]]
        done = 0
        for belt, give in self.floor.gives[work]:
            self.lanes[belt].lay_behind(given[done:done + give])
            done += give


class Lane:
    """The pieces on one belt, the oldest first."""

    def __init__(self, pieces):
        self.laid = list(pieces)
        self.gone = 0

    def drawn_off(self, many):
        taken = self.laid[self.gone:self.gone + many]
        self.gone += many
        # Cleared away only when most of them are gone, so that a turn on a long belt doesn't move all that lies there.
        if self.gone * 2 > len(self.laid):
            self.laid = self.lying()
            self.gone = 0
        return taken

    def lay_behind(self, pieces):
        self.laid.extend(pieces)

    def lying(self):
        return self.laid[self.gone:]
