"""A desk at which lines of words are done with a house."""

from crewlists.cases import settle
from crewlists.errors import NoCommand
from crewlists.evidence import MOST_WRONG
from crewlists.groups import is_group
from crewlists.house import House
from crewlists.notation import as_group, as_number, show_evidence, show_group, show_jobs
from crewlists.sure import trial


class Desk:
    """A desk with a House of a size."""

    def __init__(self, size):
        self.house = House(size)

    def execute(self, line):
        """Do a line and return what it says."""
        words = line.split(" ")
        if len(words) == 1:
            return self._plain(line)
        if len(words) != 2:
            raise NoCommand(line)
        if words[0] in ("can", "cannot", "is"):
            group = as_group(words[1])
            # A word that says no group gives None, which is no group of any size.
            if not is_group(self.house.size, group):
                raise NoCommand(line)
            return self._with_group(words[0], group)
        number = as_number(words[1])
        if number is None:
            raise NoCommand(line)
        return self._with_number(line, words[0], number)

    def _plain(self, line):
        """Do a line of one word."""
        if line == "undo":
            self.house.undo()
            return "ok"
        if line == "redo":
            self.house.redo()
            return "ok"
        if line == "jobs":
            word, found = settle(self.house.evidence)
            return show_jobs(found) if word == "jobs" else "none"
        if line == "trial":
            best = trial(self.house.evidence)
            return "done" if best is None else f"{show_group(best[0])} {best[1]} {best[2]}"
        if line == "show":
            return show_evidence(self.house.evidence)
        raise NoCommand(line)

    def _with_group(self, word, group):
        """Do a line with a group."""
        if word != "is":
            self.house[group] = (word == "can")
            return "ok"
        # Nobody can always work; there is nothing to ask.
        return "yes" if group == () else self.house.ask(group)

    def _with_number(self, line, word, number):
        """Do a line with a number."""
        if word == "forget":
            self.house.forget(number)
        elif word == "slack" and number <= MOST_WRONG:
            self.house.allow(number)
        else:
            raise NoCommand(line)
        return "ok"
