"""Programs and rows as texts [4.9], [4.10]."""

import random
import unittest

from support import error_of
from test_places import random_block
from test_programs import nested
from test_smalltexts import NO_PLAIN_NUMBERS
from truebooks.programs import Program
from truebooks.programtext import read_program, read_rows, row_text, write_program

ADD = ("add", 1)
DEED = ("deed", 0, ADD)
ROWS = (
    ("deed", 0, ("add", -3)), ("copy", 0, 1), ("need", 0, ("below", 4)), ("stop",),
    ("call", "helper", (0, 2), 0), ("call", "helper", (), 1),
    ("if", 0, ("is", 0), (("stop",),), ()), ("if", 0, ("is", 0), (), (DEED, DEED)),
    ("either", (), (("deed", 1, ("turn",)),)), ("while", 0, ("rest", 3, 1), (("stop",),)),
    ("while", 2, ("is", -1), ()),
)
TEXT = """procedure main 3
deed 0 add -3
copy 0 1
need 0 below 4
stop
call helper 0 2 to 0
call helper to 1
if 0 is 0
stop
else
end
if 0 is 0
else
deed 0 add 1
deed 0 add 1
end
either
or
deed 1 turn
end
while 0 rest 3 1
stop
end
while 2 is -1
end
procedure helper 2
"""
HEAD = "procedure a 2\n"


class WriteTest(unittest.TestCase):
    def test_the_document_s_lines(self):
        program = Program([("main", 3, ROWS), ("helper", 2, ())])
        self.assertEqual(write_program(program), TEXT)
        self.assertEqual(read_program(TEXT), program)

    def test_row_text(self):
        self.assertEqual(row_text(("call", "p", (1, 1), 0)), "call p 1 1 to 0\n")
        self.assertEqual(row_text(("stop",)), "stop\n")
        self.assertEqual(row_text(ROWS[6]), "if 0 is 0\nstop\nelse\nend\n")
        self.assertEqual("".join(row_text(row) for row in ROWS), TEXT[17:-19])
        deep = nested(19, (DEED,), "if")
        self.assertEqual(read_rows(row_text(deep)), (deep,))
        self.assertEqual(row_text(deep).count("end\n"), 20)

    def test_there_and_back(self):
        rng = random.Random(81)
        for _ in range(150):
            rows = random_block(rng, 4) + (("call", "b", (1, 0, 1), 1),)
            program = Program([("a", 2, rows), ("b", 3, random_block(rng, 3))])
            self.assertEqual(read_program(write_program(program)), program)
            self.assertEqual(read_rows("".join(row_text(row) for row in rows)), rows)
        many = Program([(f"p{n}", 1, (DEED,) * 10) for n in range(300)])
        self.assertEqual(read_program(write_program(many)), many)


class ReadTest(unittest.TestCase):
    def fault(self, text):
        return error_of(read_program, text)

    def assert_text(self, line, what, text):
        self.assertEqual(self.fault(text), ("BadText", line, what), text)

    def test_text(self):
        for text in (None, 3, b"stop\n", ["stop"], "procedure a 1", HEAD + "stop", " "):
            self.assert_text(0, "text", text)
            self.assertEqual(error_of(read_rows, text), ("BadText", 0, "text"))
        self.assertEqual(self.fault(""), ("BadProgram", "", -1, "many"))
        self.assertEqual(read_rows(""), ())

    def test_lines_of_no_form(self):
        for line in ("", " ", "Stop", "stop ", " stop", "stop 0", "stop\t", "stop\r", "either 0", "else 0",
                     "or 0", "end 0", "elseif", "deed", "deed 0", "deed add 1", "deed 0 add", "deed 0 add 1 2",
                     "deed 0 is 1", "deed 0  add 1", "deed x add 1", "deed 0 turn 1", "copy 0", "copy 0 1 2",
                     "copy 0 x", "copy", "need 0 add 1", "need 0", "need 0 rest 3", "need below 4",
                     "if 0", "if 0 is", "if 0 turn", "while 0", "while 0 set 1", "while", "if",
                     "call", "call p", "call p to", "call p 0", "call p 0 1", "call p to 0 1", "call p 0 to x",
                     "call p x to 0", "call to 0", "call p to to 0", "call  to 0", "call p  to 0",
                     "procedure", "procedure a", "procedure a x", "procedure  1", "procedure a 1 2",
                     "procedure a 1 ", "go 0", "0", "so 0 is 0", "stay"):
            self.assert_text(2, "line", HEAD + line + "\n")
            self.assert_text(1, "line", line + "\n")
            self.assertEqual(error_of(read_rows, "stop\n" + line + "\n"), ("BadText", 2, "line"), line)

    def test_numbers(self):
        for word in NO_PLAIN_NUMBERS:
            if "\n" not in word:
                for line in (f"deed {word} add 1", f"deed 0 add {word}", f"copy 0 {word}",
                             f"need 0 rest 3 {word}", f"call p {word} to 0", f"call p to {word}",
                             f"procedure p {word}"):
                    self.assert_text(2, "line", HEAD + line + "\n")

    def test_any_word_in_the_place_of_a_name(self):
        self.assertEqual(read_rows("call to to 0\ncall 7 1 to 0\ncall end to 0\ncall a\tb\r to 0\n"),
                         (("call", "to", (), 0), ("call", "7", (1,), 0), ("call", "end", (), 0),
                          ("call", "a\tb\r", (), 0)))
        program = read_program("procedure to 1\ncall to 0 to 0\n")
        self.assertEqual(program, Program([("to", 1, (("call", "to", (0,), 0),))]))
        self.assertEqual(self.fault("procedure A 1\n"), ("BadProgram", "", -1, "name"))
        self.assertEqual(self.fault("procedure a\tb 1\n"), ("BadProgram", "", -1, "name"))
        self.assertEqual(self.fault("procedure \x85 1\n"), ("BadProgram", "", -1, "name"))
        self.assertEqual(self.fault(HEAD + "call \x0b to 0\n"), ("BadProgram", "a", 0, "callee"))

    def test_order(self):
        for text, line in (("stop\n" + HEAD, 1), ("if 0 is 0\n" + HEAD, 1), ("end\n", 1), ("else\n", 1),
                           (HEAD + "end\n", 2), (HEAD + "else\n", 2), (HEAD + "or\n", 2),
                           (HEAD + "either\nelse\n", 3), (HEAD + "either\nend\n", 3),
                           (HEAD + "either\nor\nor\n", 4), (HEAD + "if 0 is 0\nor\n", 3),
                           (HEAD + "if 0 is 0\nend\n", 3), (HEAD + "if 0 is 0\nelse\nelse\n", 4),
                           (HEAD + "while 0 is 0\nelse\n", 3), (HEAD + "while 0 is 0\nor\n", 3),
                           (HEAD + "while 0 is 0\nend\nend\n", 4),
                           (HEAD + "either\nwhile 0 is 0\nor\n", 4),
                           (HEAD + "while 0 is 0\nprocedure b 1\n", 3),
                           (HEAD + "if 0 is 0\nelse\nprocedure b 1\n", 4)):
            self.assert_text(line, "order", text)

    def test_a_row_without_its_end(self):
        for rows in ("while 0 is 0\n", "if 0 is 0\nstop\n", "either\nor\n", "either\nor\nwhile 0 is 0\nend\n"):
            self.assert_text(rows.count("\n") + 2, "order", HEAD + rows)
            self.assertEqual(error_of(read_rows, rows), ("BadText", rows.count("\n") + 1, "order"))

    def test_the_first_line_at_fault(self):
        self.assert_text(2, "line", HEAD + "go\nend\n")
        self.assert_text(2, "order", HEAD + "end\ngo\n")
        self.assert_text(3, "line", HEAD + "while 0 is 0\ngo\n")
        self.assert_text(1, "order", "stop\ngo\n")
        # The text comes ahead of Program's faults, wherever they are.
        self.assert_text(4, "line", "procedure A 99\ndeed 50 add 21\nneed 0 rest 0 7\ngo\n")

    def test_then_the_faults_of_programs(self):
        self.assertEqual(self.fault("procedure a 41\n"), ("BadProgram", "a", -1, "variables"))
        self.assertEqual(self.fault(HEAD + HEAD), ("BadProgram", "a", -1, "twice"))
        self.assertEqual(self.fault(HEAD + "stop\ndeed 0 add 21\n"), ("BadProgram", "a", 1, "letter"))
        self.assertEqual(self.fault(HEAD + "need 0 rest 7 9\n"), ("BadProgram", "a", 0, "test"))
        self.assertEqual(self.fault(HEAD + "deed 2 turn\n"), ("BadProgram", "a", 0, "variable"))
        self.assertEqual(self.fault(HEAD + "call b to 0\n"), ("BadProgram", "a", 0, "callee"))
        self.assertEqual(self.fault(HEAD + "call a 0 0 0 to 0\n"), ("BadProgram", "a", 0, "args"))
        self.assertEqual(self.fault(HEAD + "stop\n" * 3001), ("BadProgram", "", -1, "size"))
        self.assertIsNone(self.fault(HEAD + "stop\n" * 3000))
        self.assertEqual(self.fault("".join(f"procedure p{n} 1\n" for n in range(301))),
                         ("BadProgram", "", -1, "many"))

    def test_deep_texts(self):
        for depth, fault in ((20, None), (21, ("BadProgram", "a", 20, "deep")),
                             (3000, ("BadProgram", "a", 20, "deep"))):
            text = HEAD + "while 0 is 0\n" * depth + "end\n" * depth
            self.assertEqual(self.fault(text), fault)


class ReadRowsTest(unittest.TestCase):
    def test_rows_are_not_checked(self):
        self.assertEqual(read_rows("deed 77 add 999\nneed -4 rest 0 -1\ncall X 5 to 90\n"),
                         (("deed", 77, ("add", 999)), ("need", -4, ("rest", 0, -1)),
                          ("call", "X", (5,), 90)))
        rows = read_rows("while 0 is 0\n" * 30 + "end\n" * 30)
        depth = 0
        while rows:
            rows = rows[0][3]
            depth += 1
        self.assertEqual(depth, 30)

    def test_a_procedure_line_has_no_form(self):
        self.assertEqual(error_of(read_rows, "stop\nprocedure a 1\n"), ("BadText", 2, "line"))
        self.assertEqual(error_of(read_rows, "while 0 is 0\nprocedure a 1\n"), ("BadText", 2, "line"))

    def test_order(self):
        self.assertEqual(error_of(read_rows, "stop\nend\n"), ("BadText", 2, "order"))
        self.assertEqual(error_of(read_rows, "either\nelse\ngo\n"), ("BadText", 2, "order"))


if __name__ == "__main__":
    unittest.main()
