package coord_test

import (
	"fmt"
	"maps"
	"math/rand/v2"
	"slices"
	"strings"
	"testing"

	"joinery/api"
	"joinery/coord"
	"joinery/spec"
	"joinery/tape"
)

// known is a gang in the model.
type known struct {
	state, age int
	g          api.Gang
	of, waits  []int
}

// model is a coordinator that goes by the table.
type model struct {
	shards int
	gangs  map[int]known
	lines  []string
}

// come lets an effect come to a gang, from somebody, and tells what is said.
func (m *model) come(id, who int, e effect) string {
	k := m.gangs[id]
	if e.next == api.Unknown {
		return said(e.kind, id, e.yes, some(e.to, who)...)
	}
	k.state = e.next
	switch e.waits {
	case one:
		k.waits = without(k.waits, who)
	case whole:
		k.waits = k.of
	}
	m.gangs[id] = k
	if e.writes != "" {
		m.lines = append(m.lines, fmt.Sprint(e.writes, " ", id))
	}
	to := [][]int{nil, {who}, k.of}[e.to]
	if e.kind == api.MPrepare {
		return prepares(id, k.of, to...)
	}
	return said(e.kind, id, e.yes, to...)
}

func (m *model) Submit(g api.Gang) (string, api.Errno) {
	if err := spec.Gang(g, m.shards); err != api.OK {
		return "", err
	}
	if m.gangs[g.Id].state != api.Unknown {
		return "", api.ErrTwice
	}
	of := shards(g)
	m.gangs[g.Id] = known{api.Holding, 0, g, of, of}
	m.lines = append(m.lines, fmt.Sprintf("gang %d %s", g.Id, strings.ReplaceAll(strings.Trim(fmt.Sprint(of), "[]"), " ", ",")))
	return holds(g, of...), api.OK
}

func (m *model) Cancel(id int) (string, api.Errno) {
	switch m.gangs[id].state {
	case api.Unknown:
		return "", api.ErrNone
	case api.Holding, api.Preparing:
		return m.come(id, 0, dropped), api.OK
	}
	return "", api.ErrState
}

func (m *model) Release(id int) (string, api.Errno) {
	switch m.gangs[id].state {
	case api.Unknown:
		return "", api.ErrNone
	case api.Committed:
		return m.come(id, 0, effect{api.Released, whole, api.MFree, false, whole, "release"}), api.OK
	}
	return "", api.ErrState
}

// who tells what a shard is to a gang.
func (m *model) who(id, shard int) string {
	k := m.gangs[id]
	switch {
	case !slices.Contains(k.of, shard):
		return "s"
	case !slices.Contains(k.waits, shard):
		return "h"
	case len(k.waits) == 1:
		return "l"
	}
	return "w"
}

func (m *model) Get(x api.Msg) string {
	return m.come(x.Gang, x.From, ruled(x.Kind, x.Yes, m.gangs[x.Gang].state, m.who(x.Gang, x.From)))
}

func (m *model) Tick() string {
	var b strings.Builder
	for _, id := range slices.Sorted(maps.Keys(m.gangs)) {
		k := m.gangs[id]
		k.age++
		m.gangs[id] = k
		switch {
		case k.state != api.Holding && k.state != api.Preparing:
			b.WriteString(said([]int{api.Committed: api.MDecide, api.Dropped: api.MDecide, api.Released: api.MFree}[k.state], id, k.state == api.Committed, k.waits...))
		case k.age == 8:
			b.WriteString(m.come(id, 0, dropped))
		case k.state == api.Holding:
			b.WriteString(holds(k.g, k.waits...))
		default:
			b.WriteString(prepares(id, k.of, k.waits...))
		}
	}
	return b.String()
}

// Crash is a crash, and New: nothing that is written is lost.
func (m *model) Crash() {
	for id, k := range m.gangs {
		if k.state == api.Holding || k.state == api.Preparing {
			k.state = api.Dropped
		}
		k.waits = k.of
		m.gangs[id] = k
	}
}

// told is as told tells it of a coordinator.
func (m *model) told() string {
	var l []string
	for _, id := range slices.Sorted(maps.Keys(m.gangs)) {
		l = append(l, fmt.Sprint(id))
	}
	l = append(l, "/")
	for _, id := range ids {
		if k := m.gangs[id]; k.state != api.Unknown {
			l = append(l, fmt.Sprintf("%d=%d%v", id, k.state, k.waits))
		}
	}
	return strings.Join(l, " ")
}

// pair is a coordinator, its tape, and the model of both; seen counts what came up.
type pair struct {
	c       *coord.Coord
	x       *tape.Tape
	m       *model
	did     []string
	decided map[int]int
	seen    map[string]int
}

func newPair(shards int, seen map[string]int) *pair {
	x := tape.New()
	return &pair{coord.New(shards, x), x, &model{shards, map[int]known{}, nil}, nil, map[int]int{}, seen}
}

// last is the last of what was done.
func (p *pair) last() string {
	return strings.Join(p.did[max(len(p.did)-12, 0):], "; ")
}

// same asks for the same answer, and that coordinator and model tell the same.
func (p *pair) same(t *testing.T, did, got, want string) {
	t.Helper()
	p.did = append(p.did, did)
	if got != want {
		t.Fatalf("P1102 to P1104: %s: %s, want %s", p.last(), got, want)
	}
	if got, want := told(p.c), p.m.told(); got != want {
		t.Fatalf("P1101 to P1104: %s: there is\n%s, want\n%s", p.last(), got, want)
	}
	if lines := p.x.Lines(); !slices.Equal(lines, p.m.lines) || p.x.Lasting() != len(lines) {
		t.Fatalf("P1102: %s: the tape has\n%q, %d last, want\n%q", p.last(), lines, p.x.Lasting(), p.m.lines)
	}
}

// call makes one of the calls that answer an error.
func (p *pair) call(t *testing.T, name string, id int, do, model func() (string, api.Errno)) {
	t.Helper()
	what := fmt.Sprint(name, " in ", p.c.State(id))
	got, err := do()
	want, fault := model()
	p.seen[fmt.Sprint(what, ": ", err.Error())]++
	p.same(t, fmt.Sprint(name, " ", id), fmt.Sprint(err, got), fmt.Sprint(fault, want))
}

func (p *pair) submit(t *testing.T, g api.Gang) {
	t.Helper()
	p.call(t, "Submit", g.Id, func() (string, api.Errno) { l, err := p.c.Submit(g); return messages(l), err }, func() (string, api.Errno) { return p.m.Submit(g) })
}

func (p *pair) cancel(t *testing.T, id int) {
	t.Helper()
	p.call(t, "Cancel", id, func() (string, api.Errno) { l, err := p.c.Cancel(id); return messages(l), err }, func() (string, api.Errno) { return p.m.Cancel(id) })
}

func (p *pair) release(t *testing.T, id int) {
	t.Helper()
	p.call(t, "Release", id, func() (string, api.Errno) { l, err := p.c.Release(id); return messages(l), err }, func() (string, api.Errno) { return p.m.Release(id) })
}

func (p *pair) get(t *testing.T, x api.Msg) {
	t.Helper()
	if x.Kind >= api.MHold && x.Kind <= api.MFreed {
		state := p.c.State(x.Gang)
		p.seen[fmt.Sprint("kind ", x.Kind, " ", x.Yes, " in ", state)]++
		p.seen[fmt.Sprint("in ", state, " from ", p.m.who(x.Gang, x.From))]++
	}
	p.same(t, message(x), messages(p.c.Get(x)), p.m.Get(x))
}

func (p *pair) tick(t *testing.T) {
	t.Helper()
	was := p.m.told()
	l := p.c.Tick()
	want := p.m.Tick()
	p.seen[fmt.Sprint("tick says ", min(len(l), 5))]++
	if p.m.told() != was {
		p.seen["tick drops"]++
	}
	p.same(t, "Tick", messages(l), want)
}

func (p *pair) crash(t *testing.T, keep int) {
	t.Helper()
	for id := range p.m.gangs {
		p.seen[fmt.Sprint("crash in ", p.c.State(id))]++
	}
	p.x.Crash(keep)
	p.c = coord.New(p.m.shards, p.x)
	p.m.Crash()
	p.same(t, fmt.Sprint("Crash ", keep), "", "")
}

// lasting is a coordinator of what lasts.
func (p *pair) lasting() *coord.Coord {
	x := tape.New()
	for _, r := range p.x.All()[:p.x.Lasting()] {
		x.Write(r)
	}
	return coord.New(p.m.shards, x)
}

// theorems asks for what holds at each time: what is decided stays so, in what is there and in what would be read again; what is not is dropped there.
func (p *pair) theorems(t *testing.T) {
	t.Helper()
	again := p.lasting()
	for _, id := range p.c.Gangs() {
		state := p.c.State(id)
		verdict := map[int]int{api.Committed: api.Committed, api.Released: api.Committed, api.Dropped: api.Dropped}[state]
		if was := p.decided[id]; was != 0 && was != verdict {
			t.Fatalf("P1105: %s: gang %d was decided as %d, and is %d", p.last(), id, was, state)
		}
		p.decided[id] = verdict
		if verdict == 0 {
			state = api.Dropped
		}
		if got := again.State(id); got != state {
			t.Fatalf("P1105: %s: gang %d is %d in what lasts, want %d", p.last(), id, got, state)
		}
	}
	if !slices.Equal(again.Gangs(), p.c.Gangs()) {
		t.Fatalf("P1101: %s: in what lasts there are %v", p.last(), again.Gangs())
	}
}

// calls are those that the rows are made of.
var calls = []func(t *testing.T, p *pair){
	func(t *testing.T, p *pair) { p.submit(t, gang(1, 1, 2)) },
	func(t *testing.T, p *pair) { p.submit(t, gang(2, 3)) },
	func(t *testing.T, p *pair) { p.get(t, from(1, api.MHeld, 1, true)) },
	func(t *testing.T, p *pair) { p.get(t, from(2, api.MHeld, 1, true)) },
	func(t *testing.T, p *pair) { p.get(t, from(2, api.MHeld, 1, false)) },
	func(t *testing.T, p *pair) { p.get(t, from(1, api.MVote, 1, true)) },
	func(t *testing.T, p *pair) { p.get(t, from(2, api.MVote, 1, true)) },
	func(t *testing.T, p *pair) { p.get(t, from(1, api.MVote, 1, false)) },
	func(t *testing.T, p *pair) { p.get(t, from(2, api.MAck, 1, false)) },
	func(t *testing.T, p *pair) { p.get(t, from(1, api.MFreed, 1, false)) },
	func(t *testing.T, p *pair) { p.get(t, from(2, api.MAsk, 1, false)) },
	func(t *testing.T, p *pair) { p.cancel(t, 1) },
	func(t *testing.T, p *pair) { p.release(t, 1) },
	func(t *testing.T, p *pair) { p.crash(t, 0) },
	func(t *testing.T, p *pair) {
		for range 3 {
			p.tick(t)
		}
	},
}

// P1101 to P1105: each row of three calls, behind each of seven beginnings, against the model.
func TestEachRow(t *testing.T) {
	seen := map[string]int{}
	n := len(calls)
	for _, begun := range [][]int{{}, {0}, {0, 2, 14}, {0, 2, 3, 5}, {0, 2, 3, 5, 6}, {0, 14, 14}, {0, 2, 3, 5, 6, 12}} {
		for row := range n * n * n {
			p := newPair(3, seen)
			for _, i := range begun {
				calls[i](t, p)
			}
			for rest, i := row, 0; i < 3; rest, i = rest/n, i+1 {
				calls[rest%n](t, p)
				p.theorems(t)
			}
		}
	}
	for _, what := range []string{"Submit in 1: twice", "Submit in 5: twice", "Cancel in 1: ok", "Cancel in 2: ok", "Cancel in 3: state", "Release in 3: ok", "Release in 4: state", "Release in 0: none", "crash in 1", "crash in 2", "crash in 3", "crash in 4", "crash in 5", "tick drops"} {
		if seen[what] < 50 {
			t.Errorf("%s came up %d times", what, seen[what])
		}
	}
}

// anyGang is some gang, mostly one that may be.
func anyGang(r *rand.Rand) api.Gang {
	g := gang(1 + r.IntN(10))
	for i := range 1 + r.IntN(5) {
		p := pod(string(rune('p'+i)), 1+r.IntN(4))
		if r.IntN(3) == 0 {
			p.Picks, p.Bears = []string{"gpu"}, []string{"hot", "wet"}
		}
		g.Pods = append(g.Pods, p)
	}
	switch r.IntN(20) {
	case 0:
		g.Id = []int{0, -1, 1000000}[r.IntN(3)]
	case 1:
		g.Pods[0].Name = "N"
	case 2:
		g.Pods = nil
	case 3:
		g.Pods = append(g.Pods, g.Pods[0])
	}
	return g
}

// anyMessage is some message, of a gang in some state, if there is one; the most lead on.
func anyMessage(r *rand.Rand, p *pair) api.Msg {
	m := from(1+r.IntN(4), 1+r.IntN(11), 1+r.IntN(10), r.IntN(2) == 0)
	state := r.IntN(6)
	for i := 0; i < 20 && p.c.State(m.Gang) != state; i++ {
		m.Gang = 1 + r.IntN(10)
	}
	// A no of any one of them drops it, so that without many a yes none would come far.
	if r.IntN(5) < 3 {
		m.Yes = true
		m.Kind = []int{api.MAsk, api.MHeld, api.MVote, api.MAck, api.MAck, api.MFreed}[p.c.State(m.Gang)]
		if waits := p.c.Waits(m.Gang); len(waits) > 0 {
			m.From = waits[r.IntN(len(waits))]
		}
	}
	return m
}

// anyCall makes some call; hasty ones let many ticks go by.
func anyCall(t *testing.T, r *rand.Rand, p *pair, hasty bool) {
	t.Helper()
	switch k := r.IntN(80); {
	case hasty && k%4 == 0:
		p.tick(t)
	case k < 6:
		p.submit(t, anyGang(r))
	case k < 8:
		p.cancel(t, 1+r.IntN(10))
	case k < 11:
		p.release(t, 1+r.IntN(10))
	case k < 14:
		p.tick(t)
	case k == 14:
		p.crash(t, r.IntN(4)-1)
	default:
		p.get(t, anyMessage(r, p))
	}
}

// wanted are what must come up in long rows.
func wanted() []string {
	l := []string{"Submit in 0: ok", "Submit in 0: arg", "Submit in 0: name", "Submit in 0: long", "Submit in 0: twice", "tick drops"}
	for state := range 6 {
		yet := []string{"none", "state", "state", "ok", "state", "state"}[state]
		l = append(l, fmt.Sprint("tick says ", state), fmt.Sprint("Release in ", state, ": ", yet))
		if state > 0 {
			l = append(l, fmt.Sprint("Submit in ", state, ": twice"), fmt.Sprint("crash in ", state))
		}
		l = append(l, fmt.Sprint("Cancel in ", state, ": ", []string{"none", "ok", "ok", "state", "state", "state"}[state]))
		for kind := api.MHold; kind <= api.MFreed; kind++ {
			l = append(l, fmt.Sprint("kind ", kind, " true in ", state), fmt.Sprint("kind ", kind, " false in ", state))
		}
		for _, who := range []string{"s", "h", "l", "w"} {
			if state > 0 || who == "s" {
				l = append(l, fmt.Sprint("in ", state, " from ", who))
			}
		}
	}
	return l
}

// P1101 to P1105, P7: long rows of any calls, of two coordinators side by side, each against its model. They are begun anew from time to time, as all are decided in the end.
func TestLongRows(t *testing.T) {
	r := rand.New(rand.NewPCG(11, 3))
	seen := map[string]int{}
	for round := range 1000 {
		l := []*pair{newPair(2+round%3, seen), newPair(4, seen)}
		for range 300 {
			p := l[r.IntN(2)]
			anyCall(t, r, p, round%3 == 0)
			p.theorems(t)
		}
	}
	for _, what := range wanted() {
		if seen[what] < 50 {
			t.Errorf("%s came up %d times", what, seen[what])
		}
	}
}
