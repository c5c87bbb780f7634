"""Many small steps of the machine."""

from formstead.arguments import check_number
from formstead.doing import do_small_step
from formstead.judging import check_memory
from formstead.stores import Store

MOST_STEPS = 100000


def run(memory, steps):
    """The memory behind so many small steps, and the tuple of all that is said in them."""
    check_memory(memory)
    check_number(steps, 0, MOST_STEPS)
    store, said = Store(memory), []
    for _ in range(steps):
        # In any other status nothing changes any more.
        if store.read("status") != 0:
            break
        said.extend(do_small_step(store))
    return (store.as_memory(), tuple(said))
