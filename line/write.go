package line

import (
	"strconv"
	"strings"

	"joinery/api"
)

// writer writes a line as reader reads it: words, each with a sign ahead of it.
type writer struct {
	text strings.Builder
}

// write tells the line of r. Of a kind that is none there is no line.
func write(r api.Record) string {
	if !known(r.Kind) {
		return ""
	}
	w := &writer{}
	w.text.WriteString(verbOf(r.Kind))
	switch r.Kind {
	case api.RNode:
		w.node(r.Node)
	case api.RGone:
		w.word(' ', r.Node.Name)
	default:
		// Peers and places that a kind has not are none by Check.
		w.number(' ', r.Gang)
		w.peers(r.Peers)
		w.places(r.Places)
	}
	return w.text.String()
}

func (w *writer) peers(l []int) {
	sign := ' '
	for _, p := range l {
		w.number(sign, p)
		sign = ','
	}
}

func (w *writer) places(l []api.Place) {
	for _, p := range l {
		w.word(' ', p.Pod)
		w.word('>', p.Node)
		w.vec(p.Need)
		w.flag(p.Alone)
	}
}

func (w *writer) node(n api.Node) {
	w.word(' ', n.Name)
	w.vec(n.Cap)
	w.words('+', n.Marks)
	w.words('~', n.Taints)
	w.flag(n.Closed)
}

func (w *writer) vec(v api.Vec) {
	w.number(':', v.Cpu)
	w.number(',', v.Mem)
}

func (w *writer) words(sign rune, l []string) {
	for _, s := range l {
		w.word(sign, s)
	}
}

func (w *writer) number(sign rune, n int) {
	w.word(sign, strconv.Itoa(n))
}

func (w *writer) flag(yes bool) {
	if yes {
		w.word('!', "")
	}
}

func (w *writer) word(sign rune, s string) {
	w.text.WriteRune(sign)
	w.text.WriteString(s)
}

// verbOf tells the first word of that kind's lines, none of a kind that is none.
func verbOf(kind int) string {
	switch kind {
	case api.RNode:
		return "node"
	case api.RGone:
		return "gone"
	case api.RPrepare:
		return "prepare"
	case api.RCommit:
		return "commit"
	case api.RAbort:
		return "abort"
	case api.RRelease:
		return "release"
	case api.RGang:
		return "gang"
	}
	return ""
}
