"""Many small steps of the machine."""

from formstead.arguments import check_number
from formstead.doing import MOST_STEPS, behind_small_steps
from formstead.judging import check_memory


def run(memory, steps):
    """The memory behind so many small steps, and the tuple of all that is said in them."""
    check_memory(memory)
    check_number(steps, 0, MOST_STEPS)
    return behind_small_steps(memory, steps)
