package line

import (
	"strings"

	"joinery/api"
)

// maxDigits is how many digits a number of a line has at most.
const maxDigits = 15

// What stands ahead of a word where it is no sign of the line. None of them is a rune that a text can have.
const (
	begin rune = -1 - iota // the first word is ahead
	end                    // nothing is ahead
	wrong                  // it is no line: no sign is this one, so it stays so
)

// reader goes through a line, word by word. A line is words, each with a sign ahead of it: next is the sign of the word with which rest begins.
type reader struct {
	next rune
	rest string
}

// read tells the record whose line s is, and whether it is one in form.
func read(s string) (api.Record, bool) {
	l := &reader{next: begin, rest: s}
	r := api.Record{Kind: kindOf(l.word(begin))}
	switch {
	case !known(r.Kind):
		l.next = wrong
	case r.Kind == api.RNode:
		r.Node = l.node()
	case r.Kind == api.RGone:
		r.Node.Name = l.name(' ')
	default:
		l.gang(&r)
	}
	return r, l.next == end
}

// gang reads what a record of a gang has behind its verb.
func (l *reader) gang(r *api.Record) {
	r.Gang = l.number(' ')
	if peered(r.Kind) {
		r.Peers = l.peers()
	}
	if r.Kind == api.RPrepare {
		r.Places = l.places()
	}
}

func (l *reader) peers() []int {
	all := []int{l.number(' ')}
	for l.next == ',' {
		all = append(all, l.number(','))
	}
	return all
}

func (l *reader) places() []api.Place {
	var all []api.Place
	for l.next == ' ' {
		all = append(all, l.place())
	}
	return all
}

func (l *reader) place() api.Place {
	return api.Place{Pod: l.name(' '), Node: l.name('>'), Need: l.vec(), Alone: l.flag()}
}

func (l *reader) node() api.Node {
	return api.Node{Name: l.name(' '), Cap: l.vec(), Marks: l.names('+'), Taints: l.names('~'), Closed: l.flag()}
}

func (l *reader) vec() api.Vec {
	return api.Vec{Cpu: l.number(':'), Mem: l.number(',')}
}

// names reads all names that have that sign ahead, none, too.
func (l *reader) names(sign rune) []string {
	var all []string
	for l.next == sign {
		all = append(all, l.name(sign))
	}
	return all
}

// name reads one as new memory: it must not keep the line that it was read from.
func (l *reader) name(sign rune) string {
	return strings.Clone(l.word(sign))
}

// number reads digits, the first of several no 0. A word that is too long goes first, so that no sum can wrap round.
func (l *reader) number(sign rune) int {
	w := l.word(sign)
	if len(w) > maxDigits || len(w) > 1 && w[0] == '0' {
		l.next = wrong
		return 0
	}
	n := 0
	for _, r := range w {
		if r < '0' || r > '9' {
			l.next = wrong
			return 0
		}
		n = 10*n + int(r-'0')
	}
	return n
}

// flag reads the sign that says yes, if it is there; no word belongs to it.
func (l *reader) flag() bool {
	if l.next != '!' {
		return false
	}
	if l.take('!') != "" {
		l.next = wrong
	}
	return true
}

// word reads a word of one byte or more that has that sign ahead.
func (l *reader) word(sign rune) string {
	w := l.take(sign)
	if w == "" {
		l.next = wrong
	}
	return w
}

// take reads the word that has that sign ahead, up to the next sign; none, if another one is ahead. A byte that is of no rune comes as U+FFFD, one byte long: it is no sign, and hides none.
func (l *reader) take(sign rune) string {
	if l.next != sign {
		return ""
	}
	for at, r := range l.rest {
		if parting(r) {
			w := l.rest[:at]
			l.next, l.rest = r, l.rest[at+1:]
			return w
		}
	}
	w := l.rest
	l.next, l.rest = end, ""
	return w
}

// parting tells whether r is a sign, which no word of a line has.
func parting(r rune) bool {
	switch r {
	case ' ', ':', ',', '+', '~', '!', '>', '@':
		return true
	}
	return false
}

// kindOf tells the kind whose verb it is, 0 if there is none.
func kindOf(verb string) int {
	for kind := api.RNode; kind <= api.RGang; kind++ {
		if verbOf(kind) == verb {
			return kind
		}
	}
	return 0
}
