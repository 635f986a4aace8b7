"""Deeds in a stock of machines: tuples, of which the first thing says what is done.

Each is done in the stock that is handed in; a refused one may leave that stock half done.
"""

from slopeyard.errors import BadCount, Derived, InUse
from slopeyard.machine import Machine
from slopeyard.pairs import pair

_TOGETHER = "together"
_MOST_LEVELS = 3


def frozen(thing):
    """A copy in which each list is a tuple, as are those within it."""
    if isinstance(thing, (list, tuple)):
        return tuple([frozen(part) for part in thing])
    return thing


def done(stock, deed):
    """Does the deed; tells what it tells, of a deed of several a list."""
    word, *rest = deed
    if word == _TOGETHER:
        return [done(stock, one) for one in rest[0]]
    action = _ACTIONS[word]
    return action(stock, *rest)


def _machine(stock, name, count):
    stock.check_free(name)
    if not 1 <= count <= _MOST_LEVELS:
        raise BadCount("a machine of a yard has 1 to 3 levels")
    stock.check_not_full()
    stock.singles[name] = Machine(count)


def _pair(stock, name, one, other):
    stock.check_free(name)
    stock.check_there(one)
    stock.check_there(other)
    if one in stock.couples or other in stock.couples:
        raise Derived("a pair is made of machines that are none")
    pair(stock.singles[one], stock.singles[other])
    stock.check_not_full()
    stock.couples[name] = (one, other)


def _lose(stock, name):
    stock.check_there(name)
    if any([name in both for both in stock.couples.values()]):
        raise InUse("a pair is made of it")
    if name in stock.couples:
        del stock.couples[name]
    else:
        del stock.singles[name]


def _room(stock, name, room, rows, slopes):
    machine = stock.single(name)
    machine.add_room(room, rows, slopes)
    stock.put(name, machine)


def _begin(stock, name, room, rows):
    machine = stock.single(name)
    machine.add_begin(room, rows)
    stock.put(name, machine)


def _door(stock, name, first, behind, word, rows, sums):
    machine = stock.single(name)
    number = machine.add_door(first, behind, word, rows, sums)
    stock.put(name, machine)
    return number


def _raze(stock, name, room):
    machine = stock.single(name)
    machine.raze(room)
    stock.put(name, machine)


def _shut(stock, name, number):
    machine = stock.single(name)
    machine.shut(number)
    stock.put(name, machine)


_ACTIONS = {"machine": _machine, "pair": _pair, "lose": _lose, "room": _room, "begin": _begin, "door": _door,
            "raze": _raze, "shut": _shut}
