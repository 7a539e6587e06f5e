"""An answer that is kept up to date while its program changes."""

from truebooks.calls import answer_with
from truebooks.edits import edit_program
from truebooks.errors import NothingBack
from truebooks.orders import checked_picks
from truebooks.packages import called_names
from truebooks.rows import check_alphabet
from truebooks.treatments import check_treatment


class Keeper:
    """A book, a program that is edited, a treatment, and what is kept of the last answer."""

    def __init__(self, book, program, treatment):
        check_alphabet(book, program)
        self.book = book
        self.program = program
        self.treatment = check_treatment(treatment)
        self._elder = []
        # What the last work_out had: program, treatment, and tables by nodes.
        self._last_program = None
        self._last_treatment = None
        self._last_tables = {}
        self._made_anew = ()

    @property
    def made_anew(self):
        """The ascending nodes of the last answer that were not kept."""
        return self._made_anew

    def do_edits(self, edits):
        """Edit the program, or raise what edit_program raises, or OtherAlphabet."""
        program = edit_program(self.program, edits)
        check_alphabet(self.book, program)
        self._elder.append(self.program)
        self.program = program

    def take_back(self):
        """Restore the program as it was ahead of the last edits in force, or raise NothingBack."""
        if not self._elder:
            raise NothingBack()
        self.program = self._elder.pop()

    def set_treatment(self, treatment):
        """Change the treatment, or raise BadTreatment."""
        self.treatment = check_treatment(treatment)

    def work_out(self, picks=()):
        """Return the answer of the present program by the present treatment, or raise BadPicks."""
        picks = checked_picks(picks)
        kept = self._kept_tables()
        answer = answer_with(self.book, self.program, self.treatment, picks, kept)
        self._made_anew = tuple([node for node in answer.nodes if node not in kept])
        self._last_program = self.program
        self._last_treatment = self.treatment
        self._last_tables = {node: table for node, table in zip(answer.nodes, answer.tables)}
        return answer

    def _kept_tables(self):
        """Return the tables of the last answer that are right for the present program too."""
        if self._last_treatment != self.treatment:
            return {}
        clean = clean_names(self._last_program, self.program)
        main = self.program.main
        if self.treatment != "entry" and (main != self._last_program.main or main not in clean):
            return {}
        # By the other treatments main reaches every node, so all of them are clean.
        return {node: table for node, table in self._last_tables.items() if node[0] in clean}


def clean_names(elder, program):
    """Return a dict of the names all of whose reached procedures the elder program has too."""
    callers = {name: [] for name, _, _ in program.procedures}
    for name, _, _ in program.procedures:
        for callee in called_names(program, name):
            callers[callee].append(name)
    unclean = {procedure[0]: True for procedure in program.procedures
               if procedure not in elder.procedures}
    waiting = list(unclean)
    while waiting:
        for name in callers[waiting.pop()]:
            if name not in unclean:
                unclean[name] = True
                waiting.append(name)
    return {name: True for name in callers if name not in unclean}
