"""The words of a heap, how many they are, and how many heaps a ground has."""

from heapwords.firsts import firsts, without
from heapwords.tied import any_tied


# The beginnings stay in their order, as each is followed up by rising letters: the words come out rising.
def words_of(ground, word):
    rows = [("", word)]
    for step in range(len(word)):
        rows = one_letter_on(ground, rows)
    return tuple([row[0] for row in rows])


def one_letter_on(ground, rows):
    longer = []
    for row in rows:
        for letter in firsts(ground, row[1]):
            longer.append((row[0] + letter, without(row[1], letter)))
    return longer


# In whatever order the same letters are taken off one word, the same text is left of it. So there are few of these,
# however many words the heap has.
def count_words(ground, word):
    ways = {word: 1}
    for step in range(len(word)):
        ways = ways_one_letter_on(ground, ways)
    return ways[""]


def ways_one_letter_on(ground, ways):
    further = {}
    for rest in ways:
        for letter in firsts(ground, rest):
            shorter = without(rest, letter)
            further[shorter] = further.get(shorter, 0) + ways[rest]
    return further


def crowds(ground):
    found = []
    longest = list(ground[0])
    while longest != []:
        found.extend(longest)
        longest = crowds_one_longer(ground, longest)
    return tuple(found)


def crowds_one_longer(ground, shorter):
    longer = []
    for crowd in shorter:
        for letter in ground[0]:
            if letter > crowd[-1] and not any_tied(ground, crowd, letter):
                longer.append(crowd + letter)
    return longer


# Each heap but the empty one is counted for each crowd that it begins with, with signs by turns so that in all it
# counts once.
def heaps(ground, length):
    sizes = [len(crowd) for crowd in crowds(ground)]
    numbers = [1]
    for total in range(1, length + 1):
        numbers.append(sum([sign_of(size) * numbers[total - size] for size in sizes if size <= total]))
    return numbers[length]


def sign_of(size):
    return 1 if size % 2 == 1 else -1
