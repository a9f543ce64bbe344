"""Sessions: a network whose prices change, and the answers of tasks in it."""

from trunkweb.errors import NothingToUndo, TooMany
from trunkweb.prices.tasks import answer, price_of_answer

MOST_TASKS = 12


def copied(task):
    """Return a task that stays as it is when the given one is changed."""
    if task[0] == "steiner":
        return ("steiner", list(task[1]))
    return task


class Session:
    """A network and a list of tasks, with changes of prices that can be taken back."""

    def __init__(self, network, tasks):
        if len(tasks) > MOST_TASKS:
            raise TooMany(len(tasks))
        self._tasks = [copied(task) for task in tasks]
        self._network = network
        self._answers = [answer(network, task) for task in self._tasks]
        self._before = []

    def set_price(self, number, price):
        """Give an edge another price; return the indexes of the tasks whose answers are other ones now."""
        network = self._network.with_price(number, price)
        self._before.append(self._network)
        return self._come_to(network)

    def answers(self):
        """Return the list of the answers."""
        return [None if told is None else list(told) for told in self._answers]

    def prices(self):
        """Return the list of the prices of the answers, None for a task without one."""
        return [price_of_answer(self._network, told) for told in self._answers]

    def network(self):
        """Return a network with the present prices."""
        return self._network

    def undo(self):
        """Take back the last change; return the indexes of the tasks whose answers are other ones now."""
        if not self._before:
            raise NothingToUndo(0)
        return self._come_to(self._before.pop())

    def copy(self):
        """Return an independent session with the same network, tasks and changes to take back."""
        made = Session(self._network, self._tasks)
        made._before = list(self._before)
        return made

    def _come_to(self, network):
        """Make a network the present one; return the indexes of the tasks whose answers are other ones."""
        answers = [answer(network, task) for task in self._tasks]
        changed = [index for index, told in enumerate(answers) if told != self._answers[index]]
        self._network = network
        self._answers = answers
        return changed
