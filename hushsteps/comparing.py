"""Comparing: whether two sleepers can be told apart by what wakes them."""

from hushsteps.sleepers import ASLEEP, HUMMED, WOKEN, heard, hummed, ticked


def alike(p, q):
    """Whether both sleepers are woken by the same rows of letters."""
    return parting(p, q) is None


def parting(p, q):
    """Some shortest tuple of letters behind which just one of the sleepers is woken, or None."""
    letters = all_letters(p, q)
    pairs = [(ASLEEP, ASLEEP)]
    # For each pair of states the one ahead of it and the letter between them; those of shorter rows come first.
    found = {pairs[0]: None}
    at = 0
    while at < len(pairs):
        for letter in letters:
            pair = (behind(p, pairs[at][0], letter), behind(q, pairs[at][1], letter))
            if pair not in found:
                found[pair] = (pairs[at], letter)
                if is_parted(pair):
                    return letters_to(found, pair)
                pairs.append(pair)
        at += 1
    return None


def all_letters(p, q):
    """The letters that can change a state of one of the sleepers."""
    names = sorted({name for name, sort in p.sorts + q.sorts})
    return [f"noise {name}" for name in names] + ["tick"] + [f"hum {word}" for word in HUMMED]


def behind(sleeper, state, letter):
    """The state behind a letter."""
    words = letter.split(" ")
    if words[0] == "noise":
        return heard(sleeper, state, words[1])
    if words[0] == "hum":
        return hummed(sleeper, state, words[1])
    return ticked(sleeper, state)


def is_parted(pair):
    """Whether just one of two sleepers is woken."""
    return (pair[0] == WOKEN) != (pair[1] == WOKEN)


def letters_to(found, pair):
    """The row of letters that leads to a pair of states that was found."""
    letters = []
    ahead = found[pair]
    while ahead is not None:
        letters.append(ahead[1])
        ahead = found[ahead[0]]
    return tuple(letters[::-1])
