"""What can be turned or struck in a word, and how turnings bring a letter to its front.

Where a function takes `turns`, they are those that `turns_of` tells of the mirrors.
"""

from braidwords.mirrors import angle


def turns_of(mirrors):
    """For each two unlike letters, one behind the other, what can be turned and what it becomes."""
    turns = {}
    for x in mirrors.letters:
        for y in mirrors.letters:
            number = angle(mirrors, x, y)
            if x != y and number != 0:
                turns[x + y] = (by_turns(x, y, number), by_turns(y, x, number))
    return turns


def by_turns(letter, mate, many):
    """So many letters: the letter and its mate by turns."""
    return ((letter + mate) * many)[:many]


def turned_at(turns, word, index):
    """The word with a turning at the letters that begin at this index, None if there is none."""
    was, becomes = turns.get(word[index:index + 2], ("", ""))
    if was == "" or word[index:index + len(was)] != was:
        return None
    return word[:index] + becomes + word[index + len(was):]


def struck_at(word, index):
    """The word without the letter with this index and the next one, None if they are not the same."""
    if word[index:index + 1] != word[index + 1:index + 2]:
        return None
    return word[:index] + word[index + 2:]


def all_turned(turns, word):
    """The ascending list of all words got by one turning."""
    told = [turned_at(turns, word, index) for index in range(len(word))]
    return sorted(set([turned for turned in told if turned is not None]))


def all_struck(word):
    """The ascending list of all words got by one striking."""
    told = [struck_at(word, index) for index in range(len(word) - 1)]
    return sorted(set([struck for struck in told if struck is not None]))


def brought(turns, word, letter):
    """Words, each got from the one before it by a turning: a shortest word first, one that begins with the letter last.

    The letter is one that shortens the word if it is put ahead.
    """
    mate = word[0]
    if mate == letter:
        return [word]
    # Both letters shorten, so some shortest word begins with both by turns, as many as can be turned: behind its first
    # letter the word is brought to have the others, one by one.
    was, becomes = turns[mate + letter]
    row = [word]
    for index in range(1, len(was)):
        ahead, behind = row[-1][:index], row[-1][index:]
        row.extend([ahead + told for told in brought(turns, behind, was[index])[1:]])
    row.append(becomes + row[-1][len(was):])
    return row
