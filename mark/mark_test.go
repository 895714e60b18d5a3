package mark_test

import (
	"slices"
	"strconv"
	"strings"
	"testing"
	"unicode/utf8"

	"joinery/api"
	"joinery/mark"
)

func checkNames(t *testing.T, want bool, l ...string) {
	t.Helper()
	for _, s := range l {
		if got := mark.Name(s); got != want {
			t.Errorf("P201: Name(%q) = %v, want %v", s, got, want)
		}
	}
}

func TestNameOrdinary(t *testing.T) {
	checkNames(t, true, "αβ", "a", "pod", "node1", "n0de", "α", "ω9ω", "aα0", "ς", "αz")
}

func TestNameLength(t *testing.T) {
	for _, r := range []string{"a", "z", "α", "ω"} {
		for n := 1; n <= api.MaxName; n++ {
			checkNames(t, true, strings.Repeat(r, n))
		}
		for _, n := range []int{0, api.MaxName + 1, 2 * api.MaxName, 1000} {
			checkNames(t, false, strings.Repeat(r, n))
		}
	}
	checkNames(t, true, "a1234567", "α1234567", "aαbβcγdδ", "ωωωωωωω9")
	checkNames(t, false, "", "a12345678", "α12345678", "aαbβcγdδe", "aαbβcγdδε", "ωωωωωωω99")
}

func TestNameFirstIsNoDigit(t *testing.T) {
	for d := '0'; d <= '9'; d++ {
		s := string(d)
		checkNames(t, false, s, s+"a", s+"α", s+s, s+"aaaaaaa")
		checkNames(t, true, "a"+s, "α"+s, "a"+s+s, "α"+s+"α", "aaaaaaa"+s)
	}
}

// The runes of a name, one by one, so that the ends of their three parts are not told by the same numbers as in the program.
const (
	letters = "abcdefghijklmnopqrstuvwxyzαβγδεζηθικλμνξοπρςστυφχψω"
	digits  = "0123456789"
)

func TestNameEachRune(t *testing.T) {
	for r := rune(0); r <= utf8.MaxRune; r++ {
		if !utf8.ValidRune(r) {
			continue
		}
		s := string(r)
		letter, digit := strings.Contains(letters, s), strings.Contains(digits, s)
		if mark.Name(s) != letter {
			t.Errorf("P201: Name(%q) = %v, want %v", s, !letter, letter)
		}
		if mark.Name("a"+s) != (letter || digit) {
			t.Errorf("P201: Name(%q) is not %v", "a"+s, letter || digit)
		}
		if mark.Name("α"+s+"0") != (letter || digit) {
			t.Errorf("P201: Name(%q) is not %v", "α"+s+"0", letter || digit)
		}
	}
}

func TestNameEnds(t *testing.T) {
	checkNames(t, true, "a", "z", "\u03b1", "\u03c9", "x0", "x9")
	checkNames(t, false, "`", "{", "\u03b0", "\u03ca", "x/", "x:", "x`", "x{", "x\u03b0", "x\u03ca")
}

func TestNameWrong(t *testing.T) {
	checkNames(t, false,
		"A", "Z", "Pod", "poD", "Α", "Ω", "ά", "ϊ", "é", "ß", "ﬁ", "日", "а", // the last one Cyrillic
		" ", "a b", " a", "a ", "a\n", "a\x00", "\x00", "a_b", "a-b", "a.b", "a,b", "a=b",
		"٣", "a٣", "a１", "²", "a²", // digits, but not 0 to 9
		"a\u0301", "α\u0301", "\ufeffa", "a\ufffd", "\ufffd", "a\u200b",
	)
}

func TestNameNoUTF8(t *testing.T) {
	checkNames(t, false,
		"\xff", "a\xff", "\xffa", "a\xffb", "\x80", "a\x80",
		"\xce", "a\xce", "\xcea", "\xb1", "α\xb1", "α\xce", "\xceα", // halves of an α
		"\xc1\xa1", "a\xc1\xa1", "\xe0\x8e\xb1", // an a and an α, longer than need be
		"\xed\xa0\x80", "a\xed\xb0\x80", "\xf4\x90\x80\x80", // surrogates, beyond the last rune
	)
	for b := 0x80; b <= 0xff; b++ {
		s := string([]byte{byte(b)})
		checkNames(t, false, s, "a"+s, s+"a", "α"+s)
	}
}

func TestRunes(t *testing.T) {
	for _, x := range []struct {
		s    string
		want int
	}{
		{"", 0}, {"a", 1}, {"abc", 3}, {"α", 1}, {"αβ", 2}, {"aαb", 3}, {"\x00", 1}, {" \n", 2},
		{"日本", 2}, {"😀", 1}, {"a\u0301", 2}, {"\ufffd", 1}, {"\U0010ffff", 1},
		{"\xff", 1}, {"\xff\xfe", 2}, {"a\xff\xfeb", 4}, {"\x80\x80\x80", 3},
		{"\xce", 1}, {"a\xce", 2}, {"\xcea", 2}, {"\xce\xceα", 3}, {"α\xb1", 2},
		{"\xe6\x97", 2}, {"\xf0\x9f\x98", 3}, {"\xe6\x97a", 3}, {"\xc1\xa1", 2}, {"\xe0\x8e\xb1", 3},
		{"\xed\xa0\x80", 3}, {"\xf4\x90\x80\x80", 4},
		{strings.Repeat("a", 100000), 100000}, {strings.Repeat("ω", 100000), 100000}, {strings.Repeat("\xff", 100000), 100000},
	} {
		if got := mark.Runes(x.s); got != x.want {
			t.Errorf("P201: Runes(%.20q) = %d, want %d", x.s, got, x.want)
		}
	}
}

func TestRunesAnyBytes(t *testing.T) {
	// Each pair of bytes, alone and behind the first byte of a longer rune, against the library's own count.
	for _, front := range []string{"", "a", "\xce", "\xe6", "\xf0\x9f"} {
		for b := 0; b < 1<<16; b++ {
			s := front + string([]byte{byte(b >> 8), byte(b)})
			if got, want := mark.Runes(s), utf8.RuneCountInString(s); got != want {
				t.Fatalf("P201: Runes(%q) = %d, want %d", s, got, want)
			}
		}
	}
}

func TestSet(t *testing.T) {
	for _, x := range []struct {
		l    []string
		want bool
	}{
		{nil, true}, {[]string{}, true},
		{[]string{"a"}, true}, {[]string{"αβ"}, true}, {[]string{"abcdefgh"}, true},
		{[]string{"a", "b"}, true}, {[]string{"b", "a"}, false},
		{[]string{"a", "ab"}, true}, {[]string{"ab", "a"}, false},
		{[]string{"ab", "b"}, true}, {[]string{"b", "ab"}, false},
		{[]string{"a1", "aa"}, true}, {[]string{"aa", "a1"}, false},
		{[]string{"a10", "a9"}, true}, {[]string{"a9", "a10"}, false},
		{[]string{"z", "α"}, true}, {[]string{"α", "z"}, false},
		{[]string{"zzzzzzzz", "α"}, true}, {[]string{"α", "ω"}, true}, {[]string{"ω", "α"}, false},
		{[]string{"ς", "σ"}, true}, {[]string{"σ", "ς"}, false}, // U+03C2, U+03C3
		{[]string{"ο", "π"}, true}, {[]string{"π", "ο"}, false}, // bytes CE BF, CF 80
		{[]string{"a", "a"}, false}, {[]string{"α", "α"}, false},
		{[]string{"a", "b", "c"}, true}, {[]string{"a", "c", "b"}, false}, {[]string{"b", "a", "c"}, false},
		{[]string{"a", "b", "b"}, false}, {[]string{"a", "a", "b"}, false}, {[]string{"a", "b", "a"}, false},
		{[]string{"a", "b", "c", "d"}, true}, {[]string{"a", "z", "α", "ω"}, true},
		{[]string{"a", "b", "d", "c"}, false}, {[]string{"a", "b", "c", "c"}, false}, {[]string{"d", "c", "b", "a"}, false},
		{[]string{"a", "b", "c", "d", "e"}, false}, {[]string{"a", "b", "c", "d", "ω"}, false},
		{[]string{"a", "b", "c", "d", "d"}, false}, {[]string{"a", "b", "c", "d", ""}, false},
	} {
		if got := mark.Set(x.l); got != x.want {
			t.Errorf("P201: Set(%q) = %v, want %v", x.l, got, x.want)
		}
	}
}

func TestSetOfOthersThanNames(t *testing.T) {
	for _, l := range [][]string{
		{""}, {"", "a"}, {"9"}, {"9", "a"}, {"A"}, {"A", "a"}, {"abcdefghi"}, {"\xff"}, {"a", "\xff"},
		{"a", "a-b"}, {"a", "b", "c", "d "}, {"a", "b", "c", "ϊ"}, {"A", "b", "c", "d"}, {"a", "b1!", "c"},
	} {
		if !slices.IsSorted(l) {
			t.Fatalf("%q is not sorted: it would be refused for that", l)
		}
		if mark.Set(l) {
			t.Errorf("P201: Set(%q) = true", l)
		}
	}
}

func TestAll(t *testing.T) {
	for _, x := range []struct {
		of, in []string
		want   bool
	}{
		{nil, nil, true}, {[]string{}, []string{}, true}, {nil, []string{}, true}, {[]string{}, nil, true},
		{nil, []string{"a"}, true}, {[]string{}, []string{"a", "b"}, true},
		{[]string{"a"}, nil, false}, {[]string{"a"}, []string{}, false}, {[]string{""}, nil, false},
		{[]string{"a"}, []string{"a"}, true}, {[]string{"a"}, []string{"b"}, false},
		{[]string{"a"}, []string{"b", "a"}, true}, {[]string{"a", "b"}, []string{"a"}, false}, {[]string{"b", "a"}, []string{"a"}, false},
		{[]string{"a", "b"}, []string{"b", "a"}, true}, {[]string{"a", "c"}, []string{"a", "b", "c"}, true},
		{[]string{"a", "d"}, []string{"a", "b", "c"}, false}, {[]string{"a", "d", "b"}, []string{"a", "b", "c"}, false},
		{[]string{"a", "a"}, []string{"a"}, true}, {[]string{"b", "a", "b"}, []string{"a", "c", "b"}, true},
		{[]string{"a"}, []string{"a", "a"}, true}, {[]string{"a", "b"}, []string{"a", "a"}, false},
		{[]string{"a", "b", "c", "d", "e", "f"}, []string{"f", "e", "d", "c", "b", "a"}, true},
		{[]string{"a", "b", "c", "d", "e", "g"}, []string{"f", "e", "d", "c", "b", "a"}, false},
		{[]string{"?"}, []string{"?"}, true}, {[]string{"?"}, []string{"!"}, false}, {[]string{""}, []string{""}, true}, {[]string{""}, []string{"a"}, false},
		{[]string{"A"}, []string{"a"}, false}, {[]string{"a"}, []string{"ab"}, false}, {[]string{"ab"}, []string{"a", "b"}, false},
		{[]string{"\xff"}, []string{"\xff"}, true}, {[]string{"\xff"}, []string{"\xfe"}, false}, {[]string{"\xff"}, []string{"\ufffd"}, false},
		{[]string{"é"}, []string{"e\u0301"}, false}, {[]string{"a\x00"}, []string{"a"}, false},
		{[]string{"no name at all, and long"}, []string{"αβ", "no name at all, and long"}, true},
	} {
		if got := mark.All(x.of, x.in); got != x.want {
			t.Errorf("P201: All(%q, %q) = %v, want %v", x.of, x.in, got, x.want)
		}
	}
}

func TestAllLongRows(t *testing.T) {
	const n = 200000
	of, in := make([]string, n), make([]string, n)
	for i := range n {
		of[i], in[n-1-i] = strconv.Itoa(i), strconv.Itoa(i)
	}
	if !mark.All(of, in) {
		t.Error("P201: All of a long row in the same, turned about")
	}
	of[n-1] = "a"
	if mark.All(of, in) {
		t.Error("P201: All of a long row with one that is not there")
	}
}

func TestHandedInStays(t *testing.T) {
	whole := []string{"b", "a", "b", "spare", "room"}
	for _, l := range [][]string{whole[:0], whole[:1], whole[:3], whole} {
		before := slices.Clone(whole)
		first, second := mark.Set(l), mark.All(l, l)
		if mark.Set(l) != first || mark.All(l, l) != second {
			t.Errorf("P3: %q is answered otherwise the second time", l)
		}
		if !slices.Equal(whole, before) {
			t.Errorf("P2: %q was changed to %q", before, whole)
		}
	}
}
