"""Bad lines, on which messages are lost, doubled or late, and talks over them."""

from wishunseen.askers import Asker
from wishunseen.houses import House


class Line:
    """A line on which what becomes of each message is settled by the next mark."""

    def __init__(self, marks):
        self._marks = tuple(marks)
        self._used = 0
        self._held = ()

    def send(self, message):
        """The messages that come out now that this one is sent."""
        fate = self._next_mark() % 4
        if fate == 1:
            return ()
        if fate == 3:
            self._held = (*self._held, message)
            return ()
        held = self.rest()
        return (*held, message) if fate == 0 else (*held, message, message)

    def rest(self):
        """The messages that are held; they come out now."""
        held = self._held
        self._held = ()
        return held

    def _next_mark(self):
        if self._used == len(self._marks):
            return 0
        self._used += 1
        return self._marks[self._used - 1]


def talk_over(plan, shelf, wish, draws, marks, rounds):
    """The book that is read over a bad line, its edition, and what each house heard."""
    asker = Asker(plan, wish, draws)
    houses = [House(number, plan, shelf) for number in range(plan.house_count)]
    line = Line(marks)
    done = 0
    while done < rounds and asker.talk is not None:
        asks = asker.asks()
        for ask in asks:
            _clear(asker, houses, line, line.send(ask))
        _clear(asker, houses, line, line.rest())
        done += 1
    return (asker.found, asker.edition, tuple([house.heard for house in houses]))


def _clear(asker, houses, line, messages):
    """Let all these messages be heard, and the answers to them that come out of the line."""
    queue = list(messages)
    at = 0
    while at < len(queue):
        message = queue[at]
        at += 1
        if message[0] == "answer":
            asker.hear(message)
            continue
        house = houses[message[2]]
        reply = house.hear(message)
        if reply is not None:
            queue.extend(line.send(reply))
