"""The shelf: several frames that are written as a whole."""

from wendleaf.errors import BadText
from wendleaf.frames import frame_text, is_sum_line, read_frame, sum_of


def shelf_text(frames):
    """The text of a shelf with these frames, each `(page, number, rows)`."""
    if len(frames) == 0:
        return ""
    texts = [frame_text(page, number, rows) for page, number, rows in frames]
    ahead = f"shelf {len(frames)}\n" + "".join(texts)
    return f"{ahead}sum {sum_of(ahead)}\n"


def read_shelf(text):
    """The frames of the shelf whose text it is, or None."""
    frames = _read_frames(text.split("\n")[1:-2])
    if frames is None or not _ascend(frames):
        return None
    # The lines are read without care: a text that is written otherwise than its shelf is refused here.
    return frames if shelf_text(frames) == text else None


def _read_frames(lines):
    """The frames that stand in the lines, or None if one cannot be read."""
    frames = []
    start = 0
    for index, line in enumerate(lines):
        if is_sum_line(line):
            frame = _read_frame_lines(lines[start:index + 1])
            if frame is None:
                return None
            frames.append(frame)
            start = index + 1
    return tuple(frames)


def _read_frame_lines(lines):
    try:
        return read_frame("".join([line + "\n" for line in lines]))
    except BadText:
        return None


def _ascend(frames):
    """Whether the pages of the frames are ascending."""
    pages = [page for page, _, _ in frames]
    return pages == sorted(set(pages))
