package coord

import (
	"slices"

	"joinery/api"
)

// gang is one that is known: its peers, those of them that it waits for, how far it has come.
type gang struct {
	id           int
	peers, waits []int
	phase        phase
}

// phase is how far a gang has come.
type phase interface {
	// state is its number.
	state() int
	// word is what is said to a shard, and said again while the gang waits for it.
	word(shard int) api.Msg
	// ends is the kind of message behind which the gang waits for a shard no more.
	ends() int
}

// poll is a phase in which nothing is decided: each shard says yes or no, in messages of one kind, and what is to be done then is done when all have said yes.
type poll struct {
	at, counts, age int
	says            func(shard int) api.Msg
	then            func() []api.Msg
}

func (p *poll) state() int { return p.at }

func (p *poll) word(shard int) api.Msg { return p.says(shard) }

func (p *poll) ends() int { return p.counts }

// verdict is a phase in which all is decided, and each shard hears of it: Committed, Dropped, Released.
type verdict int

func (v verdict) state() int { return int(v) }

func (v verdict) word(int) api.Msg {
	if v == api.Released {
		return api.Msg{Kind: api.MFree}
	}
	return api.Msg{Kind: api.MDecide, Yes: v == api.Committed}
}

func (v verdict) ends() int {
	if v == api.Released {
		return api.MFreed
	}
	return api.MAck
}

// outcome tells what a record of that kind leaves a gang in; false: it is none of a coordinator's.
func outcome(kind int) (verdict, bool) {
	switch kind {
	case api.RGang:
		return api.Dropped, true
	case api.RCommit:
		return api.Committed, true
	case api.RRelease:
		return api.Released, true
	}
	return api.Unknown, false
}

// poll tells g's phase, if it is one in which nothing is decided.
func (g *gang) poll() (*poll, bool) {
	p, open := g.phase.(*poll)
	return p, open
}

// enter puts g in a phase, in which it waits for all, and tells what is said to them.
func (g *gang) enter(p phase) []api.Msg {
	g.phase, g.waits = p, slices.Clone(g.peers)
	return g.say(g.peers)
}

// drop decides that g is not placed. It is not recorded, as a gang of which there is no commit is dropped anyway.
func (g *gang) drop() []api.Msg {
	return g.enter(verdict(api.Dropped))
}

// say tells what is said to these shards, in order.
func (g *gang) say(shards []int) []api.Msg {
	var l []api.Msg
	for _, shard := range shards {
		m := g.phase.word(shard)
		m.From, m.To, m.Gang = me, shard, g.id
		l = append(l, m)
	}
	return l
}

// hear hears m from one of its peers, and tells what is said then.
func (g *gang) hear(m api.Msg) []api.Msg {
	if m.Kind == g.phase.ends() {
		return g.count(m)
	}
	if _, open := g.poll(); open || m.Kind != api.MVote || g.phase.state() == api.Released {
		return nil
	}
	// One that votes so late has not heard what is decided.
	return g.say([]int{m.From})
}

// count waits no more for the shard that m is from. While nothing is decided, a no of one of them is a no for all, and the last yes leads on.
func (g *gang) count(m api.Msg) []api.Msg {
	p, open := g.poll()
	if open && !m.Yes {
		return g.drop()
	}
	g.waits = slices.DeleteFunc(g.waits, func(shard int) bool { return shard == m.From })
	if open && len(g.waits) == 0 {
		return p.then()
	}
	return nil
}

// tick lets a tick go by, and tells what is said again to those that g waits for. It waits for what is decided for ever, for a yes as long as its patience is.
func (g *gang) tick() []api.Msg {
	if p, open := g.poll(); open {
		p.age++
		if p.age == api.Patience {
			return g.drop()
		}
	}
	return g.say(g.waits)
}
