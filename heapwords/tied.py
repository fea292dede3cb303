"""Which letters are tied, and what is left of a word of some letters alone."""


def is_tied(ground, one, other):
    ties = ground[1]
    # A tie is written in its rising order alone, but holds both ways.
    return one == other or one + other in ties or other + one in ties


def any_tied(ground, letters, others):
    for one in letters:
        for other in others:
            if is_tied(ground, one, other):
                return True
    return False


def only(word, letters):
    return "".join([letter for letter in word if letter in letters])


def told(ground, word):
    letters = list(ground[0])
    ties = list(ground[1])
    return tuple([(part, only(word, part)) for part in letters + ties])
