package post

import (
	"slices"

	"joinery/api"
)

// chain is messages, one behind the other: a link, with a chain behind it, or the end.
type chain interface {
	// length is how many messages there are.
	length() int
	// from is the chain from the i-th message on: a link, or the end, if there is none.
	from(i int) chain
	// with is the chain with m behind all.
	with(m api.Msg) chain
	// without is the chain but for the i-th message.
	without(i int) chain
}

// end is a chain without messages.
type end struct{}

func (end) length() int { return 0 }

func (end) from(int) chain { return end{} }

func (end) with(m api.Msg) chain { return &link{m: m, rest: end{}} }

func (end) without(int) chain { return end{} }

// link is a message, and those behind it.
type link struct {
	m    api.Msg
	rest chain
}

func (l *link) length() int { return 1 + l.rest.length() }

func (l *link) from(i int) chain {
	if i == 0 {
		return l
	}
	return l.rest.from(i - 1)
}

func (l *link) with(m api.Msg) chain {
	l.rest = l.rest.with(m)
	return l
}

func (l *link) without(i int) chain {
	if i == 0 {
		return l.rest
	}
	l.rest = l.rest.without(i - 1)
	return l
}

// copied is m in memory of its own.
func copied(m api.Msg) api.Msg {
	m.Pods, m.Peers = slices.Clone(m.Pods), slices.Clone(m.Peers)
	for i, pod := range m.Pods {
		m.Pods[i].Picks, m.Pods[i].Bears = slices.Clone(pod.Picks), slices.Clone(pod.Bears)
	}
	return m
}
