"""The errors that the program raises."""


# Under ValueError, so that a caller who knows nothing of heaps can take it too.
class HeapError(ValueError):
    pass


# For a letter, or a heap, that is asked for where none is.
class NoLetter(HeapError):
    pass
