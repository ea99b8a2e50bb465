"""The refusals: each is a TellError, and none of them stands under another one."""


class TellError(ValueError):
    pass


class NoCount(TellError):
    def __init__(self, count):
        TellError.__init__(self, count)
        self.count = count


class NoGroup(TellError):
    def __init__(self, group):
        TellError.__init__(self, group)
        self.group = group


class NoTable(TellError):
    def __init__(self, rule):
        TellError.__init__(self, rule)
        self.rule = rule


class TooMany(TellError):
    pass


class NoText(TellError):
    pass


class NoLine(TellError):
    pass


class NoPlace(TellError):
    pass


class NoHeap(TellError):
    pass
