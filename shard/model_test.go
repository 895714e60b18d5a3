package shard_test

import (
	"fmt"
	"maps"
	"math/rand/v2"
	"slices"
	"strings"
	"testing"

	"joinery/api"
	"joinery/ledger"
	"joinery/line"
	"joinery/pack"
	"joinery/shard"
	"joinery/tape"
)

// bound is a gang in the model.
type bound struct {
	state, lease, age int
	peers             []int
	p                 []api.Place
}

// view is the nodes and gangs that there are at a time; it is never changed, but made anew.
type view struct {
	nodes map[string]api.Node
	gangs map[int]bound
}

func (v view) clone() view { return view{maps.Clone(v.nodes), maps.Clone(v.gangs)} }

// ledger is v's, made anew.
func (v view) ledger() *ledger.Ledger {
	l := ledger.New()
	for _, n := range v.nodes {
		l.Put(n)
	}
	for gang, b := range v.gangs {
		if len(b.p) > 0 {
			l.Take(gang, b.p)
		}
	}
	return l
}

// model is a shard that goes by the table, and keeps with each line what was there behind it: a crash leaves what was there behind the last line that is left.
type model struct {
	me, mode, lasting int
	view
	lines []string
	was   []view
}

func newModel(me, mode int) *model {
	return &model{me: me, mode: mode, view: view{map[string]api.Node{}, map[int]bound{}}}
}

func (m *model) write(s string, forced bool) {
	m.lines, m.was = append(m.lines, s), append(m.was, m.view.clone())
	if forced {
		m.lasting = len(m.lines)
	}
}

func (m *model) Node(n api.Node) api.Errno {
	err := m.ledger().Put(n)
	if err == api.OK {
		m.nodes[n.Name] = n
		m.write(line.Text(api.Record{Kind: api.RNode, Node: n}), true)
	}
	return err
}

func (m *model) Gone(name string) api.Errno {
	err := m.ledger().Gone(name)
	if err == api.OK {
		delete(m.nodes, name)
		m.write("gone "+name, true)
	}
	return err
}

// moved is b as it is when it comes to a state.
func (m *model) moved(b bound, state int, x api.Msg) bound {
	if !placed(state) {
		return bound{state: state}
	}
	if x.Kind == api.MHold && state == api.Held {
		b.lease = 6
	}
	if state == api.Prepared && b.state == api.Held {
		b.peers = slices.Clone(x.Peers)
	}
	b.state = state
	return b
}

func (m *model) Get(x api.Msg) []api.Msg {
	b := m.gangs[x.Gang]
	c := ruled(x.Kind, x.Yes, b.state)
	if x.Kind == api.MHold && b.state == api.Nothing {
		p, err := pack.Pack(m.ledger(), x.Gang, x.Pods, m.mode)
		if err != api.OK {
			c = cell{0, api.MHeld, false, "", false}
		}
		b.p = p
	}
	for _, w := range strings.Fields(c.writes) {
		text := fmt.Sprint(w, " ", x.Gang)
		switch w {
		case "prepare":
			text = line.Text(api.Record{Kind: api.RPrepare, Gang: x.Gang, Peers: x.Peers, Places: b.p})
			m.gangs[x.Gang] = m.moved(b, api.Prepared, x)
		case "commit":
			m.gangs[x.Gang] = m.moved(b, api.Bound, x)
		case "abort":
			m.gangs[x.Gang] = m.moved(b, api.Aborted, x)
		case "release":
			m.gangs[x.Gang] = m.moved(b, api.Freed, x)
		}
		m.write(text, c.forced)
	}
	m.gangs[x.Gang] = m.moved(b, c.next, x)
	if c.answer == 0 {
		return nil
	}
	return []api.Msg{{Kind: c.answer, From: m.me, To: x.From, Gang: x.Gang, Yes: c.yes}}
}

func (m *model) Tick() []api.Msg {
	var l []api.Msg
	for gang := 1; gang <= 10; gang++ {
		b := m.gangs[gang]
		b.lease, b.age = b.lease-1, b.age+1
		switch {
		case b.state == api.Held && b.lease == 0:
			delete(m.gangs, gang)
		case b.state == api.Held:
			b.age = 0
			m.gangs[gang] = b
		case b.state == api.Prepared:
			m.gangs[gang] = b
			for who := range 5 {
				if b.age >= 4 && (who == 0 || who != m.me && slices.Contains(b.peers, who)) {
					l = append(l, api.Msg{Kind: api.MAsk, From: m.me, To: who, Gang: gang})
				}
			}
		}
	}
	return l
}

// left is what a crash leaves that keeps the first n lines, and New makes of it.
func (m *model) left(n int) view {
	if n == 0 {
		return view{map[string]api.Node{}, map[int]bound{}}
	}
	v := m.was[n-1].clone()
	for gang, b := range m.was[n-1].gangs {
		b.age = 0
		v.gangs[gang] = b
		if b.state == api.Held {
			delete(v.gangs, gang)
		}
	}
	return v
}

func (m *model) Crash(keep int) {
	n := min(m.lasting+max(keep, 0), len(m.lines))
	m.view = m.left(n)
	m.lines, m.was, m.lasting = m.lines[:n], m.was[:n], n
}

// told is as sketch tells it of a shard.
func (v view) told() string {
	var l []string
	for _, name := range slices.Sorted(maps.Keys(v.nodes)) {
		l = append(l, strings.TrimPrefix(line.Text(api.Record{Kind: api.RNode, Node: v.nodes[name]}), "node "))
	}
	used := map[string]api.Place{}
	count := map[string]int{}
	for _, gang := range gangs {
		b := v.gangs[gang]
		if b.state == api.Nothing {
			continue
		}
		var p []string
		for _, q := range b.p {
			p = append(p, strings.TrimPrefix(line.Text(api.Record{Kind: api.RPrepare, Gang: 1, Peers: []int{1}, Places: []api.Place{q}}), "prepare 1 1 "))
			u := used[q.Node]
			u.Need.Cpu, u.Need.Mem = u.Need.Cpu+q.Need.Cpu, u.Need.Mem+q.Need.Mem
			used[q.Node] = u
			count[q.Node]++
		}
		l = append(l, fmt.Sprintf("%d=%d(%s)", gang, b.state, strings.Join(p, " ")))
	}
	for _, name := range names {
		if count[name] > 0 {
			l = append(l, fmt.Sprintf("%s=%d,%d*%d", name, used[name].Need.Cpu, used[name].Need.Mem, count[name]))
		}
	}
	return strings.Join(l, " ")
}

// pair is a shard, its tape, and the model of both; seen counts what came up.
type pair struct {
	s     *shard.Shard
	x     *tape.Tape
	m     *model
	did   []string
	voted map[int]bool
	seen  map[string]int
}

func newPair(me, mode int, seen map[string]int) *pair {
	x := tape.New()
	return &pair{shard.New(me, mode, x), x, newModel(me, mode), nil, map[int]bool{}, seen}
}

// last is the last of what was done.
func (p *pair) last() string {
	return strings.Join(p.did[max(len(p.did)-12, 0):], "; ")
}

// same asks for the same answer, and that shard and model tell the same.
func (p *pair) same(t *testing.T, did, got, want string) {
	t.Helper()
	p.did = append(p.did, did)
	if got != want {
		t.Fatalf("P1002: %s: %s, want %s", p.last(), got, want)
	}
	if got, want := sketch(p.s), p.m.told(); got != want {
		t.Fatalf("P1002: %s: there is\n%s, want\n%s", p.last(), got, want)
	}
	if lines := p.x.Lines(); !slices.Equal(lines, p.m.lines) || p.x.Lasting() != p.m.lasting {
		t.Fatalf("P1002: %s: the tape has\n%q, %d last, want\n%q, %d", p.last(), lines, p.x.Lasting(), p.m.lines, p.m.lasting)
	}
}

func (p *pair) node(t *testing.T, n api.Node) {
	t.Helper()
	err := p.s.Node(n)
	p.seen["Node "+err.Error()]++
	p.same(t, fmt.Sprintf("Node %+v", n), err.Error(), p.m.Node(n).Error())
}

func (p *pair) gone(t *testing.T, name string) {
	t.Helper()
	err := p.s.Gone(name)
	p.seen["Gone "+err.Error()]++
	p.same(t, "Gone "+name, err.Error(), p.m.Gone(name).Error())
}

func (p *pair) get(t *testing.T, x api.Msg) {
	t.Helper()
	if x.Kind >= api.MHold && x.Kind <= api.MFreed {
		p.seen[fmt.Sprint("kind ", x.Kind, " ", x.Yes, " in ", p.s.State(x.Gang))]++
	}
	got := p.s.Get(x)
	for _, a := range got {
		p.seen[fmt.Sprint("answer ", a.Kind, " ", a.Yes)]++
		if a.Kind == api.MVote && a.Yes {
			p.voted[x.Gang] = true
		}
	}
	p.same(t, message(x), messages(got), messages(p.m.Get(x)))
}

func (p *pair) tick(t *testing.T) {
	t.Helper()
	got := p.s.Tick()
	p.seen[fmt.Sprint("tick ", min(len(got), 5))]++
	p.same(t, "Tick", messages(got), messages(p.m.Tick()))
}

func (p *pair) crash(t *testing.T, keep int) {
	t.Helper()
	p.seen[fmt.Sprint("crash that takes ", min(max(len(p.x.Lines())-p.x.Lasting()-max(keep, 0), 0), 2))]++
	p.x.Crash(keep)
	p.s = shard.New(p.m.me, p.m.mode, p.x)
	p.m.Crash(keep)
	p.same(t, fmt.Sprint("Crash ", keep), "", "")
}

// lasting is a shard of what lasts.
func (p *pair) lasting() *shard.Shard {
	x := tape.New()
	for _, r := range p.x.All()[:p.x.Lasting()] {
		x.Write(r)
	}
	return shard.New(p.m.me, p.m.mode, x)
}

// theorems asks for what holds at each time.
func (p *pair) theorems(t *testing.T) {
	t.Helper()
	again := p.lasting()
	if got, want := sketch(again), p.m.left(p.m.lasting).told(); got != want {
		t.Fatalf("P1001: %s: what lasts is read as\n%s, want\n%s", p.last(), got, want)
	}
	for gang := range p.voted {
		state := again.State(gang)
		if state < api.Prepared {
			t.Fatalf("P1004: %s: gang %d was voted for, and is %d in what lasts", p.last(), gang, state)
		}
		if placed(state) && placed(p.s.State(gang)) && !slices.Equal(again.Places(gang), p.s.Places(gang)) {
			t.Fatalf("P1004: %s: gang %d stands at %v, and at %v in what lasts", p.last(), gang, p.s.Places(gang), again.Places(gang))
		}
	}
	for _, s := range []*shard.Shard{p.s, again} {
		for _, n := range s.Nodes() {
			if v, _ := s.Used(n.Name); v.Cpu > n.Cap.Cpu || v.Mem > n.Cap.Mem {
				t.Fatalf("T2: %s: of %+v there is used %v", p.last(), n, v)
			}
		}
	}
}

// calls are those that the rows are made of; two gangs, of which one alone has room at a time.
var calls = []func(t *testing.T, p *pair){
	func(t *testing.T, p *pair) { p.get(t, hold(1, pod("p", 2, 2))) },
	func(t *testing.T, p *pair) { p.get(t, hold(2, pod("p", 2, 1), pod("q", 0, 1))) },
	func(t *testing.T, p *pair) { p.get(t, prepare(1, 1, 2)) },
	func(t *testing.T, p *pair) { p.get(t, prepare(2, 1)) },
	func(t *testing.T, p *pair) { p.get(t, to(api.MDecide, 1, true)) },
	func(t *testing.T, p *pair) { p.get(t, to(api.MDecide, 1, false)) },
	func(t *testing.T, p *pair) { p.get(t, to(api.MDecide, 2, false)) },
	func(t *testing.T, p *pair) { p.get(t, from(2, to(api.MAsk, 1, false))) },
	func(t *testing.T, p *pair) { p.get(t, from(2, to(api.MTell, 1, true))) },
	func(t *testing.T, p *pair) { p.get(t, from(2, to(api.MTell, 1, false))) },
	func(t *testing.T, p *pair) { p.get(t, to(api.MFree, 1, false)) },
	func(t *testing.T, p *pair) { p.crash(t, 0) },
	func(t *testing.T, p *pair) { p.crash(t, 1) },
	func(t *testing.T, p *pair) { p.node(t, node("n", 2, 2)) },
	func(t *testing.T, p *pair) { p.gone(t, "n") },
	func(t *testing.T, p *pair) {
		for range 3 {
			p.tick(t)
		}
	},
}

// P1001 to P1004: each row of four calls, behind each of two beginnings, against the model.
func TestEachRow(t *testing.T) {
	seen := map[string]int{}
	n := len(calls)
	for _, begun := range [][]int{{}, {0, 2}} {
		for row := range n * n * n * n {
			p := newPair(1, 0, seen)
			p.node(t, node("n", 3, 3))
			for _, i := range begun {
				calls[i](t, p)
			}
			for rest := row; len(p.did) < 5+len(begun) && rest >= 0; rest /= n {
				before := len(p.did)
				calls[rest%n](t, p)
				p.did = append(p.did[:before], strings.Join(p.did[before:], "; "))
			}
		}
	}
	for _, kind := range []int{api.MHold, api.MPrepare, api.MAsk, api.MFree} {
		for state := range 6 {
			if what := fmt.Sprint("kind ", kind, " false in ", state); seen[what] < 50 {
				t.Errorf("%s came up %d times", what, seen[what])
			}
		}
	}
}

// anyPods are some pods, of which the most go somewhere.
func anyPods(r *rand.Rand) []api.Pod {
	var l []api.Pod
	for i := range 1 + r.IntN(3) {
		p := pod(string(rune('p'+i)), r.IntN(3), r.IntN(3))
		p.Shard = 1 + r.IntN(4)
		p.Alone = r.IntN(6) == 0
		if r.IntN(4) == 0 {
			p.Picks = []string{"ssd"}
		}
		if r.IntN(3) == 0 {
			p.Bears = []string{"hot"}
		}
		l = append(l, p)
	}
	return l
}

// anyNode is some node, mostly one that may be.
func anyNode(r *rand.Rand) api.Node {
	n := node(names[r.IntN(9)], r.IntN(12), r.IntN(12))
	if r.IntN(2) == 0 {
		n.Marks = []string{"gpu", "ssd"}
	}
	if r.IntN(4) == 0 {
		n.Taints = []string{"hot"}
	}
	n.Closed = r.IntN(8) == 0
	if r.IntN(10) == 0 {
		n.Name = "N"
	}
	if r.IntN(10) == 0 {
		n.Cap.Mem = -1
	}
	return n
}

// anyMessage is some message of a gang; the most lead on to Bound.
func anyMessage(r *rand.Rand, p *pair) api.Msg {
	m := api.Msg{Kind: 1 + r.IntN(11), From: r.IntN(5), To: p.m.me, Gang: 1 + r.IntN(10), Yes: r.IntN(2) == 0}
	switch k := r.IntN(12); {
	case k < 2:
		m.Kind = api.MHold
	case k < 5:
		m.Kind = api.MPrepare
	case k < 8:
		m.Kind, m.Yes = api.MDecide, true
	}
	// A gang that is asked for too early is aborted for ever.
	if m.Kind == api.MAsk && p.s.State(m.Gang) < api.Prepared && r.IntN(2) == 0 {
		m.Kind = api.MHold
	}
	m.Pods = anyPods(r)
	for len(m.Peers) == 0 {
		for who := 1; who <= 4; who++ {
			if r.IntN(2) == 0 {
				m.Peers = append(m.Peers, who)
			}
		}
	}
	return m
}

// anyCall makes some call.
func anyCall(t *testing.T, r *rand.Rand, p *pair) {
	t.Helper()
	switch k := r.IntN(40); {
	case k < 2:
		p.node(t, anyNode(r))
	case k == 2:
		p.gone(t, names[r.IntN(9)])
	case k < 8:
		p.tick(t)
	case k == 8:
		// Records that do not last, so that a crash may keep one of them.
		for gang := range 11 {
			if state := p.s.State(gang); (state == api.Held || state == api.Prepared) && r.IntN(5) == 0 {
				p.get(t, api.Msg{Kind: api.MDecide, To: p.m.me, Gang: gang})
			}
		}
		p.crash(t, r.IntN(4)-1)
	default:
		p.get(t, anyMessage(r, p))
	}
}

// wanted are what must come up in long rows.
func wanted() []string {
	l := []string{"Node ok", "Node name", "Node arg", "Node room", "Node long", "Gone ok", "Gone none", "Gone state", "crash that takes 0", "crash that takes 1", "crash that takes 2"}
	for kind := api.MHold; kind <= api.MFreed; kind++ {
		for state := range 6 {
			l = append(l, fmt.Sprint("kind ", kind, " true in ", state), fmt.Sprint("kind ", kind, " false in ", state))
		}
	}
	for _, kind := range []int{api.MHeld, api.MVote, api.MTell} {
		l = append(l, fmt.Sprint("answer ", kind, " true"), fmt.Sprint("answer ", kind, " false"))
	}
	for n := range 6 {
		l = append(l, fmt.Sprint("tick ", n))
	}
	return append(l, fmt.Sprint("answer ", api.MAck, " false"), fmt.Sprint("answer ", api.MFreed, " false"))
}

// P1001 to P1004, P7, T2, T4: long rows of any calls, of two shards side by side, each against its model. The gangs are begun anew from time to time, as all are decided in the end.
func TestLongRows(t *testing.T) {
	r := rand.New(rand.NewPCG(10, 2))
	seen := map[string]int{}
	for round := range 300 {
		l := []*pair{newPair(1+round%4, round%3, seen), newPair(1+round/4%4, round/3%3, seen)}
		for range 500 {
			p := l[r.IntN(2)]
			if len(p.did) == 0 {
				for _, name := range names[:round%9] {
					p.node(t, node(name, 9, 9))
				}
			}
			anyCall(t, r, p)
			p.theorems(t)
		}
	}
	for _, what := range wanted() {
		if seen[what] < 50 {
			t.Errorf("%s came up %d times", what, seen[what])
		}
	}
}
