"""Runs held against answers: where a run leaves a told word, or fails where all is quiet."""

from truebooks.nodemaps import NodeMap
from truebooks.runs import all_runs


def follow_run(book, program, answer, one):
    """Return for each step of a run the couple (node or None, row or None) told there."""
    node_map = NodeMap(book, program, answer.treatment)
    tables = {node: table for node, table in zip(answer.nodes, answer.tables)}
    # The nodes of the open calls and of the present step, the outermost first.
    nodes = [node_map.first]
    followed = []
    for at, (depth, _, place, _) in enumerate(one.steps):
        if depth == len(nodes):
            # The step ahead stands at the call that has just been entered.
            nodes.append(_asked(node_map, followed[-1], one.steps[at - 1][2]))
        del nodes[depth + 1:]
        node = nodes[-1]
        followed.append((node, tables[node][place] if node in tables else None))
    return tuple(followed)


def _asked(node_map, present, place):
    """Return the node that a call at a place asks from a couple (node, row), or None."""
    node, row = present
    return None if row is None else node_map.asked(node, place, row)[0]


def first_leaving(book, program, answer, one):
    """Return the first (at, variable) at which a run leaves what is told, or None."""
    followed = follow_run(book, program, answer, one)
    for at, (_, _, _, values) in enumerate(one.steps):
        row = followed[at][1]
        if row is None:
            return (at, 0)
        for variable, number in enumerate(values):
            if number not in book.meanings[row[variable]]:
                return (at, variable)
    return None


def quiet_failure(book, program, answer, one):
    """Return the number of the last step if a run fails there and no alarm is told, else None."""
    if one.end != "failed":
        return None
    last = len(one.steps) - 1
    node, _ = follow_run(book, program, answer, one)[last]
    return None if (node, one.steps[last][2]) in answer.node_alarms else last


def leaving_run(book, program, answer, fuel, most=64):
    """Return (choices, at, variable) of the first run that leaves what is told, or None."""
    for one in all_runs(program, fuel, most):
        leaving = first_leaving(book, program, answer, one)
        if leaving is not None:
            return (one.choices, *leaving)
    return None
