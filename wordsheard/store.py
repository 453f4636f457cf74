"""What one line of calls keeps."""


class Laboratory:
    """The words told so far, and the trials that are still there.

    A word is a list of its sounds; a trial is a tuple of a word's number and the list of what was heard.
    """

    def __init__(self):
        self.words = []
        self.trials = []
