"""Words: turns in a full house, one after the other."""

from lastturn.errors import InvalidWord, OutOfRange
from lastturn.houses import Turns, check_house, check_state, check_states, states, turn_table
from lastturn.names import is_number, named

# The most turns of a word whose repetitions are carried out, and of the words that are counted.
TURNS = 60
COUNTED_TURNS = 200


def is_word(wishes, value):
    """Return True if the value is a list or tuple of guests, otherwise False."""
    guests = wishes.guests()
    return isinstance(value, (list, tuple)) and all([guest in guests for guest in value])


def check_word(wishes, word):
    """Raise an error unless the value is a word of at most TURNS turns."""
    if not is_word(wishes, word) or len(word) > TURNS:
        raise InvalidWord()


def repetitions(wishes, state, word, times):
    """Carry out the word `times` times, but no more after the first state that came before.

    Return the list of the states before each repetition, and the state after the last one.
    """
    turns = Turns(wishes)
    guests = wishes.guests()
    numbers = [guests.index(guest) for guest in word]
    before = []
    while len(before) < times and state not in before:
        before.append(state)
        for number in numbers:
            state = turns.after(state)[number]
    return before, state


def after_word(wishes, state, word, times=1):
    """Return the state after the word is carried out `times` times."""
    check_house(wishes)
    check_state(wishes, state)
    check_word(wishes, word)
    if not is_number(times, 10 ** 60):
        raise OutOfRange(times)
    before, after = repetitions(wishes, state, word, times)
    if len(before) == times:
        return after
    # From the state that came again, the repetitions go round in a cycle.
    start = before.index(after)
    return before[start + (times - start) % (len(before) - start)]


def cycle_of(wishes, state, word):
    """Return after how many repetitions of the word the states begin to go round, and how many make one round."""
    check_house(wishes)
    check_state(wishes, state)
    check_word(wishes, word)
    # There are fewer states than repetitions, so one of them comes again.
    before, after = repetitions(wishes, state, word, len(states(wishes)) + 1)
    start = before.index(after)
    return start, len(before) - start


def after_each(turns, found):
    """Return for each guest the sorted tuple of the different states that a turn changes these states into."""
    changed = [turns.after(state) for state in found]
    return [tuple(sorted(set(after))) for after in zip(*changed)]


def first_word(turns, found, is_goal):
    """Return the least of the shortest words that change these states, a sorted tuple, into a goal, or None.

    Words are of guest numbers here.
    """
    words = {found: ()}
    waiting = [found]
    while waiting:
        longer = []
        # The words of each length ascend, so the first one that leads somewhere is the least one.
        for now in waiting:
            if is_goal(now):
                return words[now]
            for number, after in enumerate(after_each(turns, now)):
                if after not in words:
                    words[after] = words[now] + (number,)
                    longer.append(after)
        waiting = longer
    return None


def is_one(found):
    """Return True if the states are one and the same, otherwise False."""
    return len(found) == 1


def shortest_word(wishes, start, goal):
    """Return the least of the shortest words that change `start` into `goal`, or None if there is none."""
    check_states(wishes, start, goal)
    word = first_word(Turns(wishes), (start,), lambda found: found == (goal,))
    return None if word is None else named(wishes.guests(), word)


def count_words(wishes, start, goal, turns):
    """Return the number of words with exactly `turns` turns that change `start` into `goal`."""
    check_states(wishes, start, goal)
    if not is_number(turns, COUNTED_TURNS):
        raise OutOfRange(turns)
    known = states(wishes)
    table = turn_table(wishes, known)
    counts = [0] * len(known)
    counts[known.index(start)] = 1
    for _ in range(turns):
        after = [0] * len(known)
        for number, count in enumerate(counts):
            if count > 0:
                for follower in table[number]:
                    after[follower] += count
        counts = after
    return counts[known.index(goal)]


def merging_word(wishes, one, other):
    """Return the least of the shortest words that merge two states, or None if there is none."""
    check_states(wishes, one, other)
    word = first_word(Turns(wishes), tuple(sorted({one, other})), is_one)
    return None if word is None else named(wishes.guests(), word)


def are_merged(table, merged, pair):
    """Return True if a turn merges the states with these numbers, or changes them into a pair that can be merged."""
    for one, other in zip(table[pair[0]], table[pair[1]]):
        if one == other or (min(one, other), max(one, other)) in merged:
            return True
    return False


def stuck_pairs(wishes):
    """Return the list of all pairs of states that no word merges, in ascending order."""
    known = states(wishes)
    table = turn_table(wishes, known)
    left = [(one, other) for one in range(len(known)) for other in range(one + 1, len(known))]
    merged = {}
    fewer = True
    while fewer:
        stuck = []
        for pair in left:
            if are_merged(table, merged, pair):
                merged[pair] = True
            else:
                stuck.append(pair)
        fewer = len(stuck) < len(left)
        left = stuck
    return [(known[one], known[other]) for one, other in left]


def reset_word(wishes):
    """Return a word that changes all states into one and the same, or None if there is none."""
    found = tuple(sorted(states(wishes)))
    turns = Turns(wishes)
    word = ()
    while not is_one(found):
        more = first_word(turns, found[:2], is_one)
        # If no word merges these two states, no word merges the two that they come from.
        if more is None:
            return None
        for number in more:
            found = after_each(turns, found)[number]
        word = word + more
    return named(wishes.guests(), word)


def is_reset(wishes, value):
    """Return True if the value is a word, a tuple, that changes all states into one and the same, otherwise False."""
    found = tuple(sorted(states(wishes)))
    if not isinstance(value, tuple) or not is_word(wishes, value):
        return False
    turns = Turns(wishes)
    for guest in value:
        found = after_each(turns, found)[wishes.guests().index(guest)]
    return is_one(found)
