"""Stories as texts [16.8]."""

import random
import unittest

from randoms import random_book, random_program
from support import TREATMENTS, error_of, parity_book
from test_desk import random_deed
from truebooks.desk import Desk
from truebooks.programs import Program
from truebooks.stories import read_story, write_story

ADD = ("deed", 0, ("add", 1))
NESTED = ("while", 0, ("rest", 3, 1), (("if", 1, ("is", -2), (), (("stop",),)), ("either", (), ()),
                                       ("call", "done", (0, 1), 1)))

LOG = (
    ("program", "procedure main 2\nwhile 0 below 3\ndeed 0 add 1\nend\n"),
    ("edit", ()),
    ("edit", (("row", "main", 1, ADD), ("put", "main", 0, NESTED), ("strike", "main", 3), ("unit", ()),
              ("unit", (("p", 1, ()), ("q", 40, (("stop",), NESTED)), ("done", 3, (("need", 2, ("below", 0)),)))),
              ("drop", "done"), ("first", "p"))),
    ("treat", "entry"),
    ("treat", "one"),
    ("treat", ("callers", 3)),
    ("order", ()),
    ("order", (0, 17, 999999)),
    ("raise", ()),
    ("raise", (("deed", 0, 1, 3), ("so", 5, 11, 2), ("not", 0, 1, 10))),
    ("back",),
)

TEXT = """deed program
procedure main 2
while 0 below 3
deed 0 add 1
end
done
deed edit
done
deed edit
row main 1
deed 0 add 1
done
put main 0
while 0 rest 3 1
if 1 is -2
else
stop
end
either
or
end
call done 0 1 to 1
end
done
strike main 3
unit
done
unit
procedure p 1
procedure q 40
stop
while 0 rest 3 1
if 1 is -2
else
stop
end
either
or
end
call done 0 1 to 1
end
procedure done 3
need 2 below 0
done
drop done
first p
done
deed treat entry
deed treat one
deed treat callers 3
deed order
deed order 0 17 999999
deed raise
done
deed raise
raise deed 0 1 3
raise so 5 11 2
raise not 0 1 10
done
deed back
"""


class WriteTest(unittest.TestCase):
    def test_all_kinds(self):
        self.assertEqual(write_story(LOG), TEXT)
        self.assertEqual(write_story(list(LOG)), TEXT)
        for deed in LOG:
            self.assertIn(write_story((deed,)), TEXT)
            self.assertEqual(read_story(write_story((deed,))), (deed,))

    def test_no_deeds(self):
        self.assertEqual(write_story(()), "")
        self.assertEqual(read_story(""), ())


class ReadTest(unittest.TestCase):
    def test_there_and_back(self):
        self.assertEqual(read_story(TEXT), LOG)
        for at in range(len(LOG) + 1):
            self.assertEqual(read_story(write_story(LOG[at:] + LOG[:at])), LOG[at:] + LOG[:at])

    def test_tuples_at_every_level(self):
        self.assertNotIn("[", repr(read_story(TEXT)))

    def test_logs_of_desks(self):
        rng = random.Random(301)
        kinds = set()
        for _ in range(60):
            book = random_book(rng, nones=0.2)
            desk = Desk(book, random_program(rng, book), rng.choice(TREATMENTS))
            for _ in range(12):
                error_of(desk.do_deed, random_deed(rng, desk))
            self.assertEqual(read_story(write_story(desk.log)), desk.log)
            self.assertEqual(read_story(write_story(desk.in_force)), desk.in_force)
            kinds |= {deed[0] for deed in desk.log}
            kinds |= {edit[0] for deed in desk.log if deed[0] == "edit" for edit in deed[1]}
        self.assertEqual(len(kinds), 12)

    def test_deep_rows(self):
        row = ADD
        for _ in range(20):
            row = ("either", (row,), ())
        desk = Desk(parity_book(), Program([("main", 1, ())]), "one")
        desk.do_deed(("edit", [["put", "main", 0, row]]))
        self.assertEqual(read_story(write_story(desk.log)), desk.log)

    def test_what_is_not_checked(self):
        for deed in (("order", (-5, 7)), ("treat", ("callers", 9)), ("treat", ("callers", -1)),
                     ("raise", (("any", -1, 99, 0), ("raise", 0, 0, 0), ("done", 1, 1, 1))), ("program", ""),
                     ("program", "nonsense\n\ndeed back\n"), ("edit", (("row", "No.1", -3, ("copy", 99, -1)),)),
                     ("edit", (("drop", "Any-word"), ("first", "done"), ("strike", "deed", 999999))),
                     ("edit", (("unit", (("X", 0, (("deed", 0, ("set", 99)),)), ("X", -1, ()))),)),
                     ("edit", (("put", "to", 7, ("call", "to", (9,), 3)),))):
            self.assertEqual(read_story(write_story((deed,))), (deed,), deed)

    def test_programs_end_at_the_first_done(self):
        self.assertEqual(read_story("deed program\na\nb\ndone\ndeed back\n"), (("program", "a\nb\n"), ("back",)))
        self.assertEqual(read_story("deed program\ndone x\n done\ndone\n"), (("program", "done x\n done\n"),))
        self.assertEqual(error_of(read_story, "deed program\na\ndone\nb\ndone\n"), ("BadStoryText", 4))

    def test_no_texts(self):
        for text in (None, 3, ["deed back\n"], b"deed back\n", ("deed back",)):
            self.assertEqual(error_of(read_story, text), ("BadStoryText", 0))
        for text in ("deed back", "x", TEXT[:-1], "deed back\ndeed", " "):
            self.assertEqual(error_of(read_story, text), ("BadStoryText", 0))

    def check_wrong(self, deed):
        """A wrong deed is told by its first line, whatever stands ahead of it and behind."""
        self.assertEqual(error_of(read_story, deed), ("BadStoryText", 1), deed)
        self.assertEqual(error_of(read_story, "deed back\n" + deed), ("BadStoryText", 2), deed)
        ahead = write_story(LOG[:4])
        line = ahead.count("\n") + 1
        self.assertEqual(error_of(read_story, ahead + deed), ("BadStoryText", line), deed)
        self.assertEqual(error_of(read_story, ahead + deed + "nonsense\n"), ("BadStoryText", line), deed)

    def test_wrong_first_lines(self):
        for line in ("", " ", "deed", "deed ", "back", "deed  back", "deed back ", " deed back", "Deed back",
                     "deed back 1", "deed undo", "done", "deed treat", "deed treat two", "deed treat callers",
                     "deed treat callers x", "deed treat callers 1 2", "deed treat callers 01", "deed treat entry 1",
                     "deed treat  one", "deed treat callers  1", "deed treat callers 1 ", "deed order x",
                     "deed order 1  2", "deed order 1 ", "deed order ", "deed order 007", "deed order -0",
                     "deed order 1234567", "deed order +1", "deed order 1\t2", "deed back\r", "deed treat ",
                     "raise deed 0 1 3", "row main 0", "unit", "deed order 1.0", "deed\tback"):
            self.check_wrong(line + "\n")

    def test_wrong_long_deeds(self):
        for deed in ("deed program x\ndone\n", "deed edit 1\ndone\n", "deed raise deed 0 1 3\ndone\n",
                     "deed raise\nraise deed 0 1\ndone\n", "deed raise\nraise deed 0 1 3 4\ndone\n",
                     "deed raise\nraise deed x 1 3\ndone\n", "deed raise\nraise deed 0 01 3\ndone\n",
                     "deed raise\nraise  0 1 3\ndone\n", "deed raise\nrise deed 0 1 3\ndone\n",
                     "deed raise\ndeed 0 1 3\ndone\n", "deed raise\n\ndone\n", "deed raise\nraise deed 0 1 1234567\ndone\n",
                     "deed raise\nraise deed 0 1 3 \ndone\n", "deed program \ndone\n", "deed edit \ndone\n"):
            self.check_wrong(deed)

    def test_wrong_edits(self):
        for edit in ("", "row", "row main", "row main 0 0\nstop\ndone", "row main x\nstop\ndone", "row main 00\nstop\ndone",
                     "row  0\nstop\ndone", "row main \nstop\ndone", "row main 0\ndone", "row main 0\nstop\nstop\ndone",
                     "put main 0\nwhile 0 is 1\ndone", "put main 0\nend\ndone", "put main 0\nhop\ndone",
                     "put main 0\nprocedure p 1\ndone", "put main 0\ndeed 0 add x\ndone", "put main 0\nor\ndone",
                     "row main 0\nif 0 is 1\nend\ndone", "row main 0\n\ndone", "strike main", "strike main x",
                     "strike main 0 0", "strike  0", "unit p\ndone", "unit \ndone", "unit\nstop\ndone",
                     "unit\nprocedure p\ndone", "unit\nprocedure p x\ndone", "unit\nprocedure p 1 1\ndone",
                     "unit\nprocedure  1\ndone", "unit\nprocedure p 1\nwhile 0 is 1\ndone",
                     "unit\nprocedure p 1\nwhile 0 is 1\nprocedure q 1\nend\ndone", "unit\nprocedure p 1\nend\ndone",
                     "unit\nprocedure p 1\n\ndone", "drop", "drop ", "drop p q", "first", "first ", "first p q",
                     "Drop p", "swap p", "deed back", "strike main 1234567", "row main 0\nstop \ndone"):
            self.check_wrong("deed edit\n" + edit + "\ndone\n")
            self.check_wrong("deed edit\ndrop p\n" + edit + "\nfirst q\ndone\n")

    def test_cut_texts(self):
        lines = TEXT.split("\n")[:-1]
        begins = [at for at, line in enumerate(lines)
                  if line.startswith("deed ") and line != "deed 0 add 1"]
        for many in range(len(lines)):
            text = "".join(line + "\n" for line in lines[:many])
            if many in begins or many == len(lines):
                self.assertEqual(read_story(text), LOG[:begins.index(many)])
            else:
                begun = max(at for at in begins if at < many)
                self.assertEqual(error_of(read_story, text), ("BadStoryText", begun + 1))

    def test_large_stories(self):
        rows = tuple(("deed", 0, ("add", at % 20)) for at in range(2900))
        log = (("edit", (("unit", (("big", 1, rows),)),)),) * 20
        self.assertEqual(read_story(write_story(log)), log)


if __name__ == "__main__":
    unittest.main()
