"""Reading texts of ways, as far as it can be done without ways.

What is read is told by steps, triples (kind, word, many): a way of this
kind, with this letter or name, made of the last so many ways that the steps
before it have told.
"""

from waystaken.errors import BadText
from waystaken.kinds import AGAIN, AHEAD, CALL, CHOICE, LETTER, MAYBE, NOTHING, ONE, ROW, UNLESS

LONGEST_NAME = 12


def is_letter(sign):
    """Whether this is one of the letters a to z ("" is none)."""
    return "a" <= sign <= "z"


class Scan:
    """One line of text, and how far it has been read.

    Each of the lists rows, many and looks has an entry for the line itself
    and one for each bracket that waits for its end: how many ways of a
    Choice are complete there, how many ways the row at hand has so far, and
    the kinds of the & and ! that wait for their way.
    """

    def __init__(self, text, line):
        self.text = text
        self.line = line
        self.place = 0
        self.steps = []
        self.rows = [0]
        self.many = [0]
        self.looks = [[]]

    def sign_here(self):
        """The character at the place, "" at the end."""
        return self.text[self.place:self.place + 1]

    def sign(self):
        """The next character that is no space, "" if none is left."""
        while self.sign_here() == " ":
            self.place += 1
        return self.sign_here()

    def refuse(self):
        """Tell that no right text goes on with what stands here."""
        raise BadText(self.line, self.place)

    def expect(self, sign):
        """Read just this character."""
        if self.sign() != sign:
            self.refuse()
        self.place += 1

    def read_name(self):
        """Read a name, at most as many letters as a name may have."""
        if not is_letter(self.sign()):
            self.refuse()
        first = self.place
        while is_letter(self.sign_here()) and self.place - first < LONGEST_NAME:
            self.place += 1
        return self.text[first:self.place]

    def read_way(self):
        """Read a way up to the end of the line, and tell its steps."""
        self.begin_way()
        while True:
            self.end_way()
            sign = self.sign()
            if sign == "" and len(self.rows) == 1:
                self.end_choice()
                return self.steps
            if sign == ")" and len(self.rows) > 1:
                self.place += 1
                self.end_choice()
                self.leave_bracket()
            else:
                if sign == "/":
                    self.place += 1
                    self.end_row()
                self.begin_way()

    def begin_way(self):
        """Read up to the end of a way that is made of no others."""
        sign = self.sign()
        while sign in ("&", "!", "("):
            self.place += 1
            if sign == "(" and self.sign() == ")":
                self.place += 1
                self.steps.append((NOTHING, "", 0))
                return
            if sign == "(":
                self.enter_bracket()
            else:
                self.looks[-1].append(AHEAD if sign == "&" else UNLESS)
            sign = self.sign()
        self.read_single(sign)

    def read_single(self, sign):
        """Read a Letter, a One or a Call, which begins with this character."""
        if not is_letter(sign) and sign not in (".", "<"):
            self.refuse()
        self.place += 1
        if sign == ".":
            self.steps.append((ONE, "", 0))
        elif sign == "<":
            name = self.read_name()
            self.expect(">")
            self.steps.append((CALL, name, 0))
        else:
            self.steps.append((LETTER, sign, 0))

    def end_way(self):
        """Read the * and ? of a way; then its & and ! have all of theirs."""
        sign = self.sign()
        while sign in ("*", "?"):
            self.place += 1
            self.steps.append((AGAIN if sign == "*" else MAYBE, "", 1))
            sign = self.sign()
        for kind in self.looks[-1][::-1]:
            self.steps.append((kind, "", 1))
        self.looks[-1] = []
        self.many[-1] += 1

    def end_row(self):
        """Put the ways of the row at hand together."""
        if self.many[-1] > 1:
            self.steps.append((ROW, "", self.many[-1]))
        self.many[-1] = 0
        self.rows[-1] += 1

    def end_choice(self):
        """Put the rows between two brackets, or of the line, together."""
        self.end_row()
        if self.rows[-1] > 1:
            self.steps.append((CHOICE, "", self.rows[-1]))

    def enter_bracket(self):
        """Begin a way of its own behind a bracket."""
        self.rows.append(0)
        self.many.append(0)
        self.looks.append([])

    def leave_bracket(self):
        """Go on with what stands around a bracket."""
        self.rows.pop()
        self.many.pop()
        self.looks.pop()
