"""Webs and lots as texts."""


def web_text(web):
    lines = [f"parts {web.size}\n"] + [f"{a} {b}\n" for a, b in web.ties]
    return "".join(lines)


def lot_text(lot):
    if not lot:
        return "-"
    return " ".join([str(part) for part in lot])
