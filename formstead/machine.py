"""The machine: its beginning and its small steps."""

from formstead.arguments import check_program, check_sizes
from formstead.beginning import begun_store
from formstead.doing import do_small_step
from formstead.errors import NoRoom
from formstead.settling import MAKING, next_row, outcome_in, settled
from formstead.stores import Store


def begun(program, sizes):
    """The memory of the machine that begins for a program."""
    check_program(program)
    check_sizes(sizes)
    store = begun_store(program, sizes)
    if store is None:
        raise NoRoom()
    return store.as_memory()


def stepped(memory):
    """The memory behind one small step, and the tuple of what it said."""
    store = Store(memory)
    said = do_small_step(store)
    return (store.as_memory(), tuple(said))


def makes_step(memory):
    """Whether the next small step makes the rest the plain next one."""
    store = Store(memory)
    return settled(store) == "row" and next_row(store)[0] in MAKING


def outcome(memory):
    """What has come of the machine, by its status."""
    return outcome_in(memory)
