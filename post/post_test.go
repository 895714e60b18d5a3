package post_test

import (
	"math"
	"reflect"
	"testing"

	"joinery/api"
	"joinery/post"
)

const (
	most  = math.MaxInt64
	least = math.MinInt64
)

// words are those of the kinds of messages, in the order of their numbers.
var words = []string{"hold", "held", "prepare", "vote", "decide", "ack", "ask", "tell", "free", "freed"}

// P1201: Text tells the word of each Kind, From, To, Gang, and yes, if it is.
func TestText(t *testing.T) {
	for i, word := range words {
		m := api.Msg{Kind: i + 1, From: 3, To: 0, Gang: 999999}
		if got, want := post.Text(m), word+" 3 0 999999"; got != want {
			t.Errorf("P1201: %q, want %q", got, want)
		}
		m.Yes = true
		if got, want := post.Text(m), word+" 3 0 999999 yes"; got != want {
			t.Errorf("P1201: %q, want %q", got, want)
		}
	}
	for _, kind := range []int{0, 11, 12, -1, most, least} {
		if got, want := post.Text(api.Msg{Kind: kind, From: 1, To: 2, Gang: 3, Yes: true}), "? 1 2 3 yes"; got != want {
			t.Errorf("P1201: of kind %d: %q, want %q", kind, got, want)
		}
	}
}

// P1201: numbers are told as they are, those below 0 with a - ahead; the other fields are not told, and not changed.
func TestTextOfAny(t *testing.T) {
	for _, c := range []struct {
		from, to, gang int
		want           string
	}{
		{0, 0, 0, "ask 0 0 0"}, {4, 1, 10, "ask 4 1 10"}, {-1, -10, -100, "ask -1 -10 -100"},
		{most, least, 7, "ask 9223372036854775807 -9223372036854775808 7"}, {7, 7, least, "ask 7 7 -9223372036854775808"},
	} {
		of := func() api.Msg {
			return api.Msg{Kind: api.MAsk, From: c.from, To: c.to, Gang: c.gang, Pods: []api.Pod{{Name: "p"}}, Peers: []int{1, 2}}
		}
		m := of()
		if got := post.Text(m); got != c.want {
			t.Errorf("P1201: %q, want %q", got, c.want)
		}
		if !reflect.DeepEqual(m, of()) {
			t.Errorf("P2: Text left %+v", m)
		}
	}
}
