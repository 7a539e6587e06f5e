"""Units of procedures: which names call which, and programs joined from units."""

from truebooks.basics import is_sequence, is_sequence_of
from truebooks.errors import BadUnit, NoProcedure
from truebooks.places import flat_rows
from truebooks.programs import Program, is_name, procedure_of


def called_names(program, name):
    """Return the ascending names that the calls of a procedure name, or raise NoProcedure."""
    rows = flat_rows(procedure_of(program, name)[2])
    names = {row[1]: True for row in rows if row[0] == "call"}
    return tuple(sorted(names))


def reached_names(program, name):
    """Return the ascending names to which calls lead from a name, itself included."""
    procedure_of(program, name)
    reached = {name: True}
    waiting = [name]
    while waiting:
        for callee in called_names(program, waiting.pop()):
            if callee not in reached:
                reached[callee] = True
                waiting.append(callee)
    return tuple(sorted(reached))


def reached_program(procedures):
    """Return the program of those procedures to which calls lead from the first one."""
    program = Program(procedures)
    names = reached_names(program, program.main)
    return Program([procedure for procedure in procedures if procedure[0] in names])


def is_unit(thing):
    """Tell whether a thing is a list or tuple of procedures, their variables and rows aside."""
    return is_sequence(thing) and all([_has_head(item) for item in thing])


def _has_head(item):
    return is_sequence_of(item, 3) and is_name(item[0])


def join_units(units, main):
    """Return the program of all procedures of units, main first and the others by names."""
    if not is_sequence(units):
        raise BadUnit(-1)
    for at, unit in enumerate(units):
        if not is_unit(unit):
            raise BadUnit(at)
    procedures = [procedure for unit in units for procedure in unit]
    names = [procedure[0] for procedure in procedures]
    if main not in names:
        raise NoProcedure(main)
    first = procedures.pop(names.index(main))
    return Program([first, *sorted(procedures, key=name_of)])


def name_of(procedure):
    """Return the name of a procedure."""
    return procedure[0]
