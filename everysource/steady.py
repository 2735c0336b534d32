"""GAINS: what no steady source, with whatever memory, changes, or changes beyond a bound."""

from everysource.errors import CanNot, Unfit
from everysource.freerows import free_rows
from everysource.polys import placed, scaled, value_at
from everysource.quotients import (
    ONE, ZERO, common_bottom, is_below, less, lowest, over, plus, sums_by_key, times, total, whole,
)
from everysource.things import as_tuples, is_fraction_not_0, is_number, is_tuple_of, rises


def is_gain(thing):
    if not is_tuple_of(thing, 3):
        return False
    letters, width, pairs = thing
    if not is_number(letters) or not is_number(width) or letters < 1 or width < 1:
        return False
    return are_held(pairs, letters, width)


def are_held(thing, letters, width):
    """Whether thing is a tuple of pairs (word of so many letters, FRACTION other than 0), ascending."""
    if not isinstance(thing, tuple) or not all(is_held(pair, letters, width) for pair in thing):
        return False
    return rises([word for word, _ in thing])


def is_held(thing, letters, width):
    if not is_tuple_of(thing, 2) or not is_tuple_of(thing[0], width):
        return False
    return are_letters(thing[0], letters) and is_fraction_not_0(thing[1])


def are_letters(thing, letters):
    return all(is_number(letter) and 0 <= letter < letters for letter in thing)


def is_ring(thing, letters):
    """Whether thing is a RING."""
    return isinstance(thing, tuple) and thing != () and are_letters(thing, letters)


def is_stream(thing):
    if not is_gain(thing) or any(x[0] < 0 for _, x in thing[2]) or total([x for _, x in thing[2]]) != ONE:
        return False
    heads = sums_by_key([(word[:-1], x) for word, x in thing[2]])
    return heads == sums_by_key([(word[1:], x) for word, x in thing[2]])


def table_of(pairs):
    """The dict of the FRACTIONS by their words."""
    return {word: x for word, x in pairs}


def words_of(letters, width):
    """The ascending list of all words of so many letters."""
    out = [()]
    for _ in range(width):
        out = [word + (letter,) for word in out for letter in range(letters)]
    return out


def round_at(ring, place, many):
    """So many of the parts of the ring, from this place on."""
    return tuple([ring[(place + k) % len(ring)] for k in range(many)])


def ring_gain(gain, ring):
    _, width, pairs = as_tuples(gain)
    table = table_of(pairs)
    return total([table.get(round_at(ring, place, width), ZERO) for place in range(len(ring))])


def step_gain(gain, stream):
    letters, _, pairs = as_tuples(gain)
    far, width, chances = as_tuples(stream)
    if letters != far:
        raise Unfit()
    return total([times(x, word_chance(chances, width, word)) for word, x in pairs])


def word_chance(chances, width, word):
    """The chance of a word of whatever many letters in the STREAM with these chances of words of this width."""
    out = begun(chances, word[:width])
    for place in range(1, len(word) - width + 1):
        if out == ZERO:
            return ZERO
        part = word[place:place + width]
        out = times(out, over(begun(chances, part), begun(chances, part[:-1])))
    return out


def begun(chances, word):
    """The chance of the words that begin with this one."""
    return total([x for other, x in chances if other[:len(word)] == word])


def store(gain):
    gain = as_tuples(gain)
    letters, width, pairs = gain
    table = table_of(pairs)
    out = []
    for word in words_of(letters, width - 1):
        # What is held at a word is what is gained on the way there from where all letters are 0.
        way = (0,) * (width - 1) + word
        held = total([table.get(way[place:place + width], ZERO) for place in range(width - 1)])
        if held != ZERO:
            out.append((word, held))
    if not is_store(gain, tuple(out)):
        raise CanNot()
    return tuple(out)


def is_store(gain, thing):
    steps = steps_by(gain, thing)
    return steps is not None and all(less(after, before) == x for x, before, after in steps)


def steps_by(gain, thing):
    """Triples (gained, held at the head, held at the tail) for all words; None if thing is no STORE."""
    letters, width, pairs = as_tuples(gain)
    if not are_held(thing, letters, width - 1):
        return None
    table, held = table_of(pairs), table_of(thing)
    return [(table.get(word, ZERO), held.get(word[:-1], ZERO), held.get(word[1:], ZERO))
            for word in words_of(letters, width)]


def gaining_ring(gain):
    letters, width, pairs = as_tuples(gain)
    # If some ring does not gain 0, the one that gains most or the one that loses most does not.
    for own in (pairs, scaled(pairs, (-1, 1))):
        ring = most_ring((letters, width, own))
        if ring_gain(gain, ring) != ZERO:
            return ring
    return None


def most_ring(gain):
    """A walk on which as much as ever is gained, a letter, over as many words as there are heads, comes round."""
    gain = as_tuples(gain)
    walks = most_walks(gain)
    ends = list(walks[-1])
    end = ends[0]
    for other in ends[1:]:
        if is_below(least_rise(walks, end), least_rise(walks, other)):
            end = other
    words, place = [], len(walks) - 1
    while end not in [word[1:] for word in words]:
        words.append(walks[place][end][1])
        end = words[-1][:-1]
        place -= 1
    # The words stand from last to first; those behind the word with this tail lead to it, not round.
    while words[0][1:] != end:
        words = words[1:]
    return tuple([word[0] for word in reversed(words)])


def most_walks(gain):
    """For each number of words up to that of heads: the dict of what walks gain at most, and their last words.

    The keys are the tails where the walks end; what is gained is whole over a common bottom.
    """
    letters, width, pairs = gain
    bottom = common_bottom([x for _, x in pairs])
    gains = {word: whole(x, bottom) for word, x in pairs}
    heads, words = words_of(letters, width - 1), words_of(letters, width)
    walks = [{head: (0, None) for head in heads}]
    for _ in heads:
        later = {}
        for word in words:
            worth = walks[-1][word[:-1]][0] + gains.get(word, 0)
            if word[1:] not in later or worth > later[word[1:]][0]:
                later[word[1:]] = (worth, word)
        walks.append(later)
    return walks


def least_rise(walks, end):
    """The least, over all shorter walks, of what the longest ones that end here gain more, a letter more."""
    many = len(walks) - 1
    out = None
    for k in range(many):
        rise = lowest(walks[many][end][0] - walks[k][end][0], many - k)
        if out is None or is_below(rise, out):
            out = rise
    return out


def most_step(gain):
    ring = most_ring(gain)
    return over(ring_gain(gain, ring), (len(ring), 1))


def most_store(gain, bound):
    gain, bound = as_tuples(gain), as_tuples(bound)
    if is_below(bound, most_step(gain)):
        raise CanNot()
    letters, width, pairs = gain
    bottom = common_bottom([x for _, x in pairs] + [bound])
    gains = {word: whole(x, bottom) for word, x in pairs}
    heads, words = words_of(letters, width - 1), words_of(letters, width)
    # What walks gain beyond bound at most: no ring does, so walks longer than there are heads gain no more.
    held = {head: 0 for head in heads}
    for _ in heads:
        later = {head: held[head] for head in heads}
        for word in words:
            worth = held[word[:-1]] + gains.get(word, 0) - whole(bound, bottom)
            later[word[1:]] = max(later[word[1:]], worth)
        held = later
    return tuple([(head, lowest(held[head], bottom)) for head in heads if held[head] != 0])


def is_most_store(gain, bound, thing):
    steps, bound = steps_by(gain, thing), as_tuples(bound)
    return steps is not None and not any(is_below(plus(bound, after), plus(x, before)) for x, before, after in steps)


def form_store(form, n, c):
    cores = cores_of(as_tuples(form))
    if any_core(cores) is not None:
        raise CanNot()
    pairs = []
    for core, sums in cores.items():
        held = ZERO
        for place in range(n - len(core)):
            held = less(held, sums.get(place, ZERO))
            if held != ZERO:
                pairs.extend(placed(((core, held),), place, n - 1 - len(core) - place, c))
    return tuple(sorted(pairs))


def cores_of(form):
    """For each powers without idle samples at their ends the dict of their FRACTIONS by their first samples."""
    cores = {}
    for powers, x in form:
        used = [sample for sample, own in enumerate(powers) if any(own)]
        first, behind = (used[0], used[-1] + 1) if used else (0, 0)
        core = powers[first:behind]
        if core not in cores:
            cores[core] = {}
        cores[core][first] = x
    return cores


def any_core(cores):
    """Powers that do not come to 0 in all, wherever they begin; None if all do."""
    for core, sums in cores.items():
        if total(list(sums.values())) != ZERO:
            return core
    return None


def ring_sum(form, n, rows):
    form, rows = as_tuples(form), as_tuples(rows)
    return total([value_at(form, round_at(rows, place, n)) for place in range(len(rows))])


def form_ring(form, n, c):
    """In a ring of 2 n - 1 free ROWS unlike powers without idle samples at their ends stay unlike."""
    form = as_tuples(form)
    if any_core(cores_of(form)) is None:
        return None
    most, k = 2 * n - 1, 1
    rows = free_rows(1, c, 1)
    while ring_sum(form, n, rows) == ZERO:
        k += 1
        rows = free_rows(min(k, most), c, max(1, k - most + 1))
    return rows
