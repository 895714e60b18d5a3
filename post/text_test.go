package post_test

import (
	"math"
	"reflect"
	"strconv"
	"testing"

	"joinery/api"
	"joinery/post"
)

const (
	most  = math.MaxInt64
	least = math.MinInt64
)

// words are those of the kinds of messages, in the order of their numbers.
var words = []string{"hold", "held", "prepare", "vote", "decide", "ack", "ask", "tell", "free", "freed"}

// P1201: Text tells the word of each Kind, From, To, Gang, and yes, if it is.
func TestText(t *testing.T) {
	for i, word := range words {
		m := api.Msg{Kind: i + 1, From: 3, To: 0, Gang: 999999}
		if got, want := post.Text(m), word+" 3 0 999999"; got != want {
			t.Errorf("P1201: %q, want %q", got, want)
		}
		m.Yes = true
		if got, want := post.Text(m), word+" 3 0 999999 yes"; got != want {
			t.Errorf("P1201: %q, want %q", got, want)
		}
	}
}

// P1201: ? is the word of a Kind that is none.
func TestTextOfNoKind(t *testing.T) {
	for _, kind := range []int{0, 11, 12, 255, 256 + api.MHold, 1<<32 + api.MHold, -1, -10, most, least} {
		for _, yes := range []bool{false, true} {
			want := "? 1 2 3"
			if yes {
				want += " yes"
			}
			if got := post.Text(api.Msg{Kind: kind, From: 1, To: 2, Gang: 3, Yes: yes}); got != want {
				t.Errorf("P1201: of kind %d: %q, want %q", kind, got, want)
			}
		}
	}
}

// P1201: numbers are told as they are, those below 0 with a - ahead, each in its place; the other fields are not told, and not changed.
func TestTextOfAny(t *testing.T) {
	edges := []int{0, 1, 4, 9, 10, 1000000, 1 << 40, most - 1, most, -1, -10, -1 << 40, least + 1, least}
	for _, from := range edges {
		for _, to := range edges {
			for _, gang := range edges {
				for kind := -1; kind <= len(words)+1; kind++ {
					of := func() api.Msg {
						return api.Msg{Kind: kind, From: from, To: to, Gang: gang, Pods: []api.Pod{{Name: "p", Picks: []string{"m"}}}, Peers: []int{1, 2}, Yes: kind%2 == 0}
					}
					m := of()
					if got, want := post.Text(m), text(m); got != want {
						t.Fatalf("P1201: %q, want %q", got, want)
					}
					if !reflect.DeepEqual(m, of()) {
						t.Fatalf("P2: Text left %+v", m)
					}
				}
			}
		}
	}
	for n, want := range map[int]string{most: "9223372036854775807", least: "-9223372036854775808"} {
		if got, want := post.Text(api.Msg{Kind: api.MAsk, From: n, To: n, Gang: n}), "ask "+want+" "+want+" "+want; got != want {
			t.Errorf("P1201: %q, want %q", got, want)
		}
	}
}

// text is what Text is to answer.
func text(m api.Msg) string {
	s := "?"
	if 0 < m.Kind && m.Kind <= len(words) {
		s = words[m.Kind-1]
	}
	for _, n := range []int{m.From, m.To, m.Gang} {
		s += " " + strconv.FormatInt(int64(n), 10)
	}
	if m.Yes {
		s += " yes"
	}
	return s
}
