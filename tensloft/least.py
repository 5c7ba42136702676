"""Least words of a menu of rows, looked for among all ([29] to [31])."""

from tensloft.alike import same
from tensloft.machine import look_through, step


def listed(tables, menu, starts, most):
    """All states of words of at most so many rows, with their least words; refuses with NoTable, then with NoRow."""
    refuse_menu(tables, menu, starts)
    pairs = [((), starts)]
    known = {starts: True}
    longest = list(pairs)
    for length in range(most):
        # The least word of a state has the least word of another one ahead of its
        # last row. So none is missed where only least words are made longer, and in
        # their order.
        longer = []
        for word, state in longest:
            for number, row in enumerate(menu):
                behind = state_behind(tables, row, state)
                if behind not in known:
                    known[behind] = True
                    longer.append(((*word, number), behind))
        pairs.extend(longer)
        longest = longer
    return tuple(pairs)


def refuse_menu(tables, menu, starts):
    """Refuses tables and a menu that are none for the cells of the starts."""
    cells, mark = starts[0]
    look_through((tables, menu), len(cells))


def state_behind(tables, row, state):
    """The state behind a row that is done from a state."""
    behind = []
    for cells, mark in state:
        work = list(cells)
        left = step(tables, work, mark, row)
        behind.append((tuple(work), left))
    return tuple(behind)


def least(tables, menu, cases, most):
    """The least word that does all cases, or all that is listed; refuses as listed does."""
    pairs = listed(tables, menu, starts_of(cases), most)
    for word, state in pairs:
        if is_wanted(cases, state):
            return ("least", word)
    return ("none", pairs)


def starts_of(cases):
    """The starts of cases."""
    return tuple([(cells, mark) for cells, mark, wanted in cases])


def is_wanted(cases, state):
    """Whether cell 0 has the wanted byte of each case."""
    for (start, before, wanted), (cells, mark) in zip(cases, state):
        if cells[0] != wanted:
            return False
    return True


def least_holds(tables, menu, cases, most, told):
    """Whether any thing holds as what least tells; refuses as least does."""
    refuse_menu(tables, menu, starts_of(cases))
    if not isinstance(told, tuple) or len(told) != 2:
        return False
    what, thing = told
    if what == "least":
        return same(least(tables, menu, cases, most), told)
    return what == "none" and none_holds(tables, menu, cases, most, thing)


def none_holds(tables, menu, cases, most, pairs):
    """Whether any thing shows that no word does all cases."""
    if not isinstance(pairs, tuple) or not all(is_pair(pair) for pair in pairs):
        return False
    starts = starts_of(cases)
    if pairs == () or not same(((), starts), pairs[0]):
        return False
    lengths = {}
    for word, state in pairs:
        if not is_word(word, menu, most) or not same(state_of(tables, menu, starts, word), state):
            return False
        if is_wanted(cases, state):
            return False
        lengths[state] = min(len(word), lengths.get(state, len(word)))
    return is_closed(tables, menu, most, lengths)


def is_pair(thing):
    """Whether any thing is a tuple of two."""
    return isinstance(thing, tuple) and len(thing) == 2


def is_word(thing, menu, most):
    """Whether any thing is a word of the menu of at most so many rows."""
    if not isinstance(thing, tuple) or len(thing) > most:
        return False
    return all(is_number(part) and 0 <= part < len(menu) for part in thing)


def is_number(thing):
    """Whether any thing is a whole number."""
    return isinstance(thing, int) and not isinstance(thing, bool)


def state_of(tables, menu, starts, word):
    """The state of a word."""
    state = starts
    for number in word:
        state = state_behind(tables, menu[number], state)
    return state


def is_closed(tables, menu, most, lengths):
    """Whether each row leads from each state to one that has a word short enough."""
    # Of the words beside a state the shortest asks for the most: a longer one that has
    # fewer than so many rows asks for the same states with more leave.
    for state, length in lengths.items():
        if length < most:
            for row in menu:
                behind = state_behind(tables, row, state)
                if behind not in lengths or lengths[behind] > length + 1:
                    return False
    return True
