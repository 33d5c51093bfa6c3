"""Instructions made ready to be done, for plain and for free runs."""

# A silent run has done so many instructions without an answer.
LIMIT = 10000

# Far and near instructions are done alike once it is known where they lead or what they put.
DONE_AS = {"askfar": "ask", "gofar": "go", "callfar": "call", "set": "put", "here": "put"}


class Step:
    """One instruction: behind is what stands behind it, aim where it leads or what it puts into rx."""

    def __init__(self, called, x, y, d):
        self.called = DONE_AS.get(called, called)
        self.x = x
        self.y = y
        self.d = d
        self.behind = None
        self.aim = None
