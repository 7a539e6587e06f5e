"""How calls lead from node to node of a program under a treatment."""

from truebooks.flows import flows_of
from truebooks.rows import entry_row, start_row
from truebooks.treatments import first_node, node_called


class NodeMap:
    """The flows of a program, its first node, and the nodes that calls ask."""

    def __init__(self, book, program, treatment):
        self.book = book
        self.treatment = treatment
        self.flows = flows_of(book, program)
        self.first = first_node(book, treatment, program)

    def start(self):
        """Return the row with which every run begins."""
        return start_row(self.book, self.flows[self.first[0]].variables)

    def asked(self, node, place, row):
        """Return (node, row): what a call asks from a row, and the row it is entered with."""
        callee, sources = self.flows[node[0]].calls[place]
        words = entry_row(self.book, sources, row, self.flows[callee].variables)
        return node_called(self.treatment, node, place, callee, words), words

    def reached(self, tables):
        """Return the ascending nodes that calls of tables by nodes ask from the first one on."""
        seen = {self.first: True}
        waiting = [self.first]
        while waiting:
            node = waiting.pop()
            for place in self.flows[node[0]].calls:
                if tables[node][place] is not None:
                    asked, _ = self.asked(node, place, tables[node][place])
                    if asked not in seen:
                        seen[asked] = True
                        waiting.append(asked)
        return tuple(sorted(seen))
