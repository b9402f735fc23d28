package parse

import (
	"strings"
	"testing"

	"corrector/api"
)

// writer throws texts that are sound, and writes what they are to be read as.
type writer struct {
	die
	depth int // how many lists and maps of entries may still be one in the other
}

func (w *writer) one(l ...string) string {
	return l[w.of(len(l))]
}

// end ends a row, with what may stand ahead of the next one.
func (w *writer) end() string {
	return w.one("\n", "\n", "\n", " # c\n", "\r\n", "\r", "\n\n", "\t#\n  # d\n \t\n")
}

// leaf is a scalar or an alias on a row, and how it is shown.
func (w *writer) leaf() (text, want string) {
	text = w.one("", "", "", "&a ", "!b &c\t") + w.one("a", "b c", "'d: - e'", "\"\\\"\\x41#\"", "-1", "*e", "[]", "{}")
	switch text[len(text)-1] {
	case 'e':
		return text, "alias<" + text + ">"
	case ']':
		return text, "list()"
	case '}':
		return text, "dict()"
	}
	return text, "<" + text + ">"
}

// key is one with its colon, and how it is shown.
func (w *writer) key() (text, want string) {
	switch text = w.one("a", "b c", "'d: - e'", "&a f", "! \"\\n\"", "*e ", "&a", "!b &c", ""); text {
	case "":
		return ":", "pair("
	case "*e ":
		return "*e :", "pair!(alias<*e> "
	case "&a", "!b &c":
		return text + w.one(" :", "\t :"), "pair!(<" + text + "> "
	}
	return text + w.one(":", " :", " \t:"), "pair!(<" + text + "> "
}

// flat is a value that is no list or map of entries, up to its row's end, and how it is shown; base is its row's column, or none, if no block text may stand there.
func (w *writer) flat(base int) (text, want string) {
	switch kind := w.of(6); {
	case kind == 0 && base != none:
		// The lines of a block text stand further in than its row does.
		in := "\n" + strings.Repeat(" ", base+1+w.of(3))
		text = w.one("|", ">-", "|+", "!t >") + in + "x: y" + w.one("", "\n", in+" - z") + "\n"
		return text, "<" + text + ">"
	case kind == 1:
		return w.brackets()
	}
	text, want = w.leaf()
	return text + w.end(), want
}

// brackets are over several rows.
func (w *writer) brackets() (text, want string) {
	a, inA := w.leaf()
	b, inB := w.leaf()
	text = "[" + w.one("", " ", "\n") + a + w.one("", "\n", "\n\n  ", " # c\n") + "," + w.one("", " ", "\n ") + b + w.one("", "\n", "\n\t") + "]"
	return text + w.end(), "list(" + inA + " " + inB + ")"
}

// value is one that begins at a column, likewise.
func (w *writer) value(col, base int) (text, want string) {
	if w.depth > 0 {
		switch w.of(4) {
		case 0, 1:
			return w.entries(col, base, w.item)
		case 2:
			return w.entries(col, base, w.pair)
		}
	}
	return w.flat(base)
}

// entries are a collection's, which begins at a column: each one but the first on a row of its own.
func (w *writer) entries(col, base int, entry func(col, base int) (text, want string)) (text, want string) {
	w.depth--
	if base != col {
		// The rows of the entries that follow would be a block text's.
		base = none
	}
	name := ""
	for i := range 1 + w.of(4) {
		if i > 0 {
			text, want, base = text+strings.Repeat(" ", col), want+" ", col
		}
		more, shown := entry(col, base)
		text, want = text+more, want+shown
		name = shown[:4]
	}
	w.depth++
	return text, map[string]string{"item": "seq(", "pair": "map("}[name] + want + ")"
}

// below is a value on a row of its own, further in than a column.
func (w *writer) below(col int) (text, want string) {
	in := col + 1 + w.of(3)
	text, want = w.value(in, in)
	return w.end() + strings.Repeat(" ", in) + text, want
}

func (w *writer) item(col, base int) (text, want string) {
	in := 1 + w.of(3)
	switch w.of(4) {
	case 0:
		text = w.end()
	case 1:
		text, want = w.below(col)
	default:
		text, want = w.value(col+1+in, base)
		text = strings.Repeat(" ", in) + text
	}
	return "-" + text, "item(" + want + ")"
}

func (w *writer) pair(col, base int) (text, want string) {
	key, shown := w.key()
	switch kind := w.of(6); {
	case kind == 0:
		text = w.end()
		shown = strings.TrimRight(shown, " ")
	case kind == 1:
		text, want = w.below(col)
	case kind == 2 && w.depth > 0:
		// A list at its map's own column.
		text, want = w.entries(col, col, w.item)
		text = w.end() + strings.Repeat(" ", col) + text
	default:
		text, want = w.flat(base)
		text = " " + text
	}
	return key + text, shown + want + ")"
}

// text is one of some documents.
func (w *writer) text() (text, want string) {
	for i := range 1 + w.of(3) {
		doc, shown := "", ""
		switch col := w.of(3); w.of(4) {
		case 0:
			doc, shown = w.leaf()
			doc, shown = "--- "+doc+w.end(), "doc("+shown+")"
		case 1:
			doc, shown = "---"+w.end(), "doc()"
		default:
			doc, shown = w.value(col, col)
			doc, shown = strings.Repeat(" ", col)+doc, "doc("+shown+")"
			if i > 0 || w.of(2) == 0 {
				doc = w.one("---", "...\n---", "...") + w.end() + doc
			}
		}
		text, want = text+doc, strings.TrimPrefix(want+" "+shown, " ")
	}
	return text + w.one("", "", "...", "...\n"), want
}

// T3's beginning: what was written soundly is read as it was, and nothing is told of it.
func TestWrittenTexts(t *testing.T) {
	w := writer{die: 12}
	long := 0
	for range 30000 {
		w.depth = w.of(6)
		text, want := w.text()
		if len(text) > api.MaxText {
			continue
		}
		if got := read(text, 50); got != want {
			t.Fatalf("P1201, P1202: %q: %q,\nnot %q", text, got, want)
		}
		if strings.Count(text, "\n") > 20 {
			long++
		}
	}
	if long < 3000 {
		t.Errorf("only %d long ones", long)
	}
}
