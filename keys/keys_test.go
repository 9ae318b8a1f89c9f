package keys_test

import (
	"bytes"
	"encoding/binary"
	"fmt"
	"math"
	"math/rand"
	"slices"
	"strings"
	"testing"

	"pannier/api"
	"pannier/keys"
)

func number(n uint64) api.Part { return api.Part{N: n} }

func text(s string) api.Part { return api.Part{IsText: true, S: s} }

// show tells parts, long texts cut off.
func show(l []api.Part) string {
	out := ""
	for _, part := range l {
		out += fmt.Sprintf("[%v %d %.20q]", part.IsText, part.N, part.S)
	}
	return out
}

// encoding is what the chapter says, by the library.
func encoding(parts ...api.Part) string {
	out := ""
	for _, part := range parts {
		if part.IsText {
			out += "\x02" + strings.ReplaceAll(part.S, "\x00", "\x00\xff") + "\x00\x01"
		} else {
			out += "\x01" + string(binary.BigEndian.AppendUint64(nil, part.N))
		}
	}
	return out
}

// precedes is the order of keys, as the chapter says it.
func precedes(a, b []api.Part) bool {
	for i := range a {
		if i == len(b) {
			return false
		}
		if a[i] == b[i] {
			continue
		}
		if a[i].IsText != b[i].IsText {
			return b[i].IsText
		}
		if a[i].IsText {
			return bytes.Compare([]byte(a[i].S), []byte(b[i].S)) < 0
		}
		return a[i].N < b[i].N
	}
	return len(a) < len(b)
}

func order(a, b []api.Part) int {
	switch {
	case precedes(a, b):
		return -1
	case precedes(b, a):
		return 1
	}
	return 0
}

func texts() []string {
	return []string{
		"", "\x00", "\x00\x00", "\x00\x00\x00", "\x00\x01", "\x00\xff", "\x00a", "\x01", "\x01\x00", "\x02", "a", "a\x00",
		"a\x00\x01", "a\x00\xff", "a\x00b", "a\x01", "a\xff", "aa", "ab", "b", "milk", "m\u00fcsli", "\u4e16", "\x7f", "\x80", "\xfe", "\xfe\xff", "\xff",
		"\xff\x00", "\xff\x00\x01", "\xff\x01", "\xff\xff", "\xff\x00\xff", "\x01\x00\x00\x00\x00\x00\x00\x00\x01",
	}
}

func longest() []string {
	n := api.MaxText
	return []string{
		strings.Repeat("a", n), strings.Repeat("\x00", n), strings.Repeat("\xff", n), strings.Repeat("\x00\xff", n/2),
		strings.Repeat("\x01\x00", n/2), strings.Repeat("a", n-1) + "\x00", "\x00" + strings.Repeat("a", n-1), strings.Repeat("a", n-1) + "\xff",
	}
}

func tooLong() []string {
	n := api.MaxText
	return []string{
		strings.Repeat("a", n+1), strings.Repeat("\x00", n+1), strings.Repeat("\xff", n+1), strings.Repeat("a", n) + "\x00",
		strings.Repeat("\x00", n) + "a", strings.Repeat("a", n+2), strings.Repeat("\x00a", n), strings.Repeat("a", 1<<20),
	}
}

func numbers() []uint64 {
	all := []uint64{0, 1, 2, 9, 0xFF, 0x100, 0x0102030405060708, 0xFF00FF00FF00FF00, math.MaxInt64, 1 << 63, math.MaxUint64 - 1, math.MaxUint64}
	for i := range 8 {
		all = append(all, 0x80<<(8*i), 0x7F<<(8*i), 1<<(8*i))
	}
	return all
}

// single tells parts that are right.
func single() []api.Part {
	var all []api.Part
	for _, n := range numbers() {
		all = append(all, number(n))
	}
	for _, s := range append(texts(), longest()...) {
		all = append(all, text(s))
	}
	return all
}

// samples tells keys of one to eight parts, without doubles.
func samples() [][]api.Part {
	few := []api.Part{number(0), number(1), number(256), number(math.MaxUint64), text(""), text("\x00"), text("\x00\x01"), text("\x01"), text("a"), text("a\x00"), text("a\xff"), text("b"), text("\xff"), text("\xff\xff")}
	var all [][]api.Part
	for _, part := range single() {
		all = append(all, []api.Part{part})
	}
	for _, a := range few {
		for _, b := range few {
			all = append(all, []api.Part{a, b})
		}
	}
	for many := 3; many <= api.MaxParts; many++ {
		for _, a := range few {
			for _, last := range few {
				all = append(all, append(slices.Repeat([]api.Part{a}, many-1), last))
			}
		}
	}
	slices.SortFunc(all, order)
	return slices.CompactFunc(all, slices.Equal[[]api.Part])
}

// wrong tells parts that are no key.
func wrong() [][]api.Part {
	all := [][]api.Part{nil, {}, slices.Repeat([]api.Part{number(1)}, 9), slices.Repeat([]api.Part{text("a")}, 9), slices.Repeat([]api.Part{text("")}, 100)}
	bad := []api.Part{{S: "a"}, {S: "\x00"}, {N: 1, S: "a"}, {IsText: true, N: 1}, {IsText: true, N: math.MaxUint64, S: "a"}}
	for _, s := range tooLong() {
		bad = append(bad, text(s))
	}
	for _, part := range bad {
		all = append(all, []api.Part{part}, []api.Part{number(1), part}, []api.Part{part, text("a")}, append(slices.Repeat([]api.Part{text("a")}, 7), part))
	}
	return all
}

func TestP31KeysAreRight(t *testing.T) {
	for _, l := range samples() {
		if !keys.Right(l...) {
			t.Errorf("%s is a key", show(l))
		}
	}
	if !keys.Right(slices.Repeat([]api.Part{text(strings.Repeat("\x00", api.MaxText))}, api.MaxParts)...) {
		t.Error("the longest key is a key")
	}
	if !keys.Right(api.Part{}) {
		t.Error("the number 0 is a key")
	}
}

func TestP31WrongPartsAreNoKey(t *testing.T) {
	for _, l := range wrong() {
		if keys.Right(l...) {
			t.Errorf("%d parts, %s: no key", len(l), show(l))
		}
		if s, e := keys.Lay(l...); s != "" || e != api.ErrArg {
			t.Errorf("%d parts, %s: %.40x %v", len(l), show(l), s, e)
		}
	}
}

func TestP31LayAsTheChapterSays(t *testing.T) {
	for _, c := range []struct {
		parts []api.Part
		want  string
	}{
		{[]api.Part{number(1), text("a")}, "\x01\x00\x00\x00\x00\x00\x00\x00\x01\x02a\x00\x01"},
		{[]api.Part{text("\x00")}, "\x02\x00\xff\x00\x01"},
		{[]api.Part{text("")}, "\x02\x00\x01"},
		{[]api.Part{number(0)}, "\x01\x00\x00\x00\x00\x00\x00\x00\x00"},
		{[]api.Part{number(math.MaxUint64)}, "\x01\xff\xff\xff\xff\xff\xff\xff\xff"},
		{[]api.Part{number(0x0102030405060708)}, "\x01\x01\x02\x03\x04\x05\x06\x07\x08"},
		{[]api.Part{text("\xff\x00\xff")}, "\x02\xff\x00\xff\xff\x00\x01"},
		{[]api.Part{text("\x00\x01")}, "\x02\x00\xff\x01\x00\x01"},
	} {
		if s, e := keys.Lay(c.parts...); s != c.want || e != api.OK {
			t.Errorf("%s: %x %v, not %x", show(c.parts), s, e, c.want)
		}
	}
}

func TestP31LayAndRead(t *testing.T) {
	longestKey := slices.Repeat([]api.Part{text(strings.Repeat("\x00", api.MaxText))}, api.MaxParts)
	for _, l := range append(samples(), longestKey) {
		s, e := keys.Lay(l...)
		if s != encoding(l...) || e != api.OK {
			t.Errorf("%s: %.40x %v", show(l), s, e)
		}
		back, e := keys.Read(s)
		if !slices.Equal(back, l) || e != api.OK {
			t.Errorf("%s: read %s %v", show(l), show(back), e)
		}
	}
}

func TestP31ArgumentsStay(t *testing.T) {
	whole := []api.Part{number(1), text("a\x00"), number(7), text("z")}
	kept := slices.Clone(whole)
	keys.Lay(whole[:2]...)
	keys.Right(whole[:2]...)
	keys.Compare(whole[:2], whole[2:])
	if !slices.Equal(whole, kept) {
		t.Errorf("changed: %s", show(whole))
	}
	s := encoding(whole...)
	a, _ := keys.Read(s)
	b, _ := keys.Read(s)
	clear(a)
	if !slices.Equal(b, kept) {
		t.Errorf("two answers share memory: %s", show(b))
	}
}

func refused(t *testing.T, s string) {
	t.Helper()
	if l, e := keys.Read(s); len(l) != 0 || e != api.ErrKey {
		t.Errorf("%.60x: %s %v", s, show(l), e)
	}
}

func TestP31ReadRefuses(t *testing.T) {
	right := encoding(text("a"))
	for _, s := range []string{
		"", "\x02a", "\x02\x00\x02", "\x02\x00\x00\x01", "\x02\x00", "\x02", "\x02\x00\xff", "\x02\x00\xff\x00", "\x02a\x00\x00", "\x02a\x00\x02\x00\x01", "\x02a\x00\xfe\x00\x01",
		"\x01", "\x01\x00", "\x01\x00\x00\x00\x00\x00\x00\x00", "\x00", "\x03", "\xff", "a", "\x00\x01", "\x03a\x00\x01", "\x00a\x00\x01", "\x03\x00\x00\x00\x00\x00\x00\x00\x00",
	} {
		refused(t, s)
		if s != "" {
			refused(t, right+s)
		}
	}
	refused(t, right+"\x00")
	refused(t, right+"\x00\x01")
}

func TestP31ReadRefusesFalseMarks(t *testing.T) {
	for mark := range 256 {
		if mark == 1 || mark == 2 {
			continue
		}
		for _, behind := range []string{"", "\x00\x01", "a\x00\x01", "\x00\x00\x00\x00\x00\x00\x00\x00"} {
			s := string([]byte{byte(mark)}) + behind
			refused(t, s)
			refused(t, encoding(number(1))+s)
		}
	}
}

func TestP31ReadRefusesFalseZeros(t *testing.T) {
	for next := range 256 {
		if next == 1 || next == 0xFF {
			continue
		}
		for _, ahead := range []string{"", "a", "\x00\xff"} {
			for _, behind := range []string{"", "\x00\x01", "\x01", "a\x00\x01"} {
				refused(t, "\x02"+ahead+"\x00"+string([]byte{byte(next)})+behind)
			}
		}
	}
}

func TestP31ReadRefusesTheEarlyEnd(t *testing.T) {
	for _, l := range [][]api.Part{{number(1)}, {text("a\x00b")}, {text("")}, {text("\x00\x00")}, {number(1), text("a"), number(math.MaxUint64), text("\x00")}} {
		s := encoding(l...)
		whole := map[string]int{}
		for i := range l {
			whole[encoding(l[:i+1]...)] = i + 1
		}
		for end := range s {
			if whole[s[:end]] == 0 {
				refused(t, s[:end])
			}
		}
	}
}

func TestP31ReadRefusesTooMuch(t *testing.T) {
	for _, s := range tooLong() {
		refused(t, encoding(text(s)))
		refused(t, encoding(number(1), text(s)))
		refused(t, "\x02"+s)
	}
	for _, part := range []api.Part{number(1), text(""), text("a")} {
		nine := encoding(slices.Repeat([]api.Part{part}, api.MaxParts+1)...)
		refused(t, nine)
		refused(t, strings.Repeat(nine, 20))
		refused(t, encoding(slices.Repeat([]api.Part{part}, api.MaxParts)...)+"\x00")
	}
}

func TestP32Compare(t *testing.T) {
	all := samples()
	for _, a := range all {
		for _, b := range all {
			if c := keys.Compare(a, b); c != order(a, b) {
				t.Fatalf("%s %s: %d", show(a), show(b), c)
			}
		}
	}
}

func TestP32CompareAsTheChapterSays(t *testing.T) {
	rising := [][]api.Part{
		{number(0)}, {number(0), number(0)}, {number(0), text("")}, {number(1)}, {number(1), number(9)}, {number(1), text("a")}, {number(2)}, {number(256)}, {number(1 << 63)}, {number(math.MaxUint64)}, {number(math.MaxUint64), text("\xff")},
		{text("")}, {text(""), number(0)}, {text(""), text("")}, {text("\x00")}, {text("\x00\x00")}, {text("\x00\x01")}, {text("\x01")}, {text("Z")}, {text("a")}, {text("a"), number(5)}, {text("a"), text("z")}, {text("a\x00")}, {text("ab")}, {text("\x80")}, {text("\xff")}, {text("\xff\xff")},
	}
	for i, a := range rising {
		for j, b := range rising {
			want := 0
			if i < j {
				want = -1
			} else if i > j {
				want = 1
			}
			if c := keys.Compare(a, b); c != want {
				t.Errorf("%s %s: %d, not %d", show(a), show(b), c, want)
			}
		}
	}
}

func TestP32CompareEndsForWhatIsNoKey(t *testing.T) {
	some := append(wrong(), samples()[:20]...)
	for _, a := range wrong() {
		for _, b := range some {
			keys.Compare(a, b)
			keys.Compare(b, a)
		}
	}
}

func TestP33BehindAsTheChapterSays(t *testing.T) {
	for _, c := range []struct{ s, want string }{
		{"ab", "ac"}, {"a\xff", "b"}, {"a\xff\xff\xff", "b"}, {"\x00", "\x01"}, {"\x00\x00", "\x00\x01"}, {"\x00\xff", "\x01"}, {"\x7f", "\x80"}, {"\xfe", "\xff"}, {"\xfe\xff", "\xff"},
		{"\xff\x00", "\xff\x01"}, {"\xff\x00\xff", "\xff\x01"}, {"\xff\xfe\xff", "\xff\xff"}, {"a\xff\x00", "a\xff\x01"}, {"\x80", "\x81"}, {"a\xffb\xff", "a\xffc"},
		{strings.Repeat("\xff", 5000) + "a" + strings.Repeat("\xff", 5000), strings.Repeat("\xff", 5000) + "b"},
	} {
		if s, ok := keys.Behind(c.s); s != c.want || !ok {
			t.Errorf("%.40x: %.40x %v, not %.40x", c.s, s, ok, c.want)
		}
	}
	for _, n := range []int{0, 1, 2, 8, 5000} {
		if s, ok := keys.Behind(strings.Repeat("\xff", n)); s != "" || ok {
			t.Errorf("%d bytes FF: %.40x %v", n, s, ok)
		}
	}
}

// allStrings tells all strings of at most most bytes of an alphabet.
func allStrings(alphabet string, most int) []string {
	all := []string{""}
	from := 0
	for range most {
		end := len(all)
		for _, s := range all[from:end] {
			for i := range len(alphabet) {
				all = append(all, s+alphabet[i:i+1])
			}
		}
		from = end
	}
	return all
}

func TestP33BehindIsTheLeast(t *testing.T) {
	all := allStrings("\x00\x01\x7f\x80\xfe\xff", 4)
	slices.Sort(all)
	for _, s := range allStrings("\x00\x01\x7f\x80\xfe\xff", 3) {
		behind, ok := keys.Behind(s)
		if ok != (strings.Count(s, "\xff") < len(s)) {
			t.Errorf("%x: %x %v", s, behind, ok)
		}
		for _, u := range all {
			begins := strings.HasPrefix(u, s)
			if begins && ok && u >= behind {
				t.Errorf("%x: %x is not behind %x", s, behind, u)
			}
			if !begins && u > s && ok && u < behind {
				t.Errorf("%x: %x is behind all as well, and less than %x", s, u, behind)
			}
		}
	}
}

func TestP33BehindHoldsTheKeysOfAPrefix(t *testing.T) {
	all := samples()
	for _, l := range [][]api.Part{{number(0)}, {number(1)}, {number(math.MaxUint64)}, {text("")}, {text("a")}, {text("\xff")}, {text("a"), text("a")}} {
		from := encoding(l...)
		to, ok := keys.Behind(from)
		if !ok {
			t.Fatalf("%s: nothing behind", show(l))
		}
		for _, k := range all {
			begins := len(k) >= len(l) && slices.Equal(k[:len(l)], l)
			if s := encoding(k...); begins != (from <= s && s < to) {
				t.Errorf("%s within %s", show(k), show(l))
			}
		}
	}
}

func TestP34EncodingsHaveTheOrderOfKeys(t *testing.T) {
	all := samples()
	laid := make([]string, len(all))
	for i, l := range all {
		laid[i], _ = keys.Lay(l...)
	}
	for i, a := range all {
		for j, b := range all {
			if c := keys.Compare(a, b); c != strings.Compare(laid[i], laid[j]) {
				t.Fatalf("%s %s: %d, but %.40x %.40x", show(a), show(b), c, laid[i], laid[j])
			}
		}
	}
}

func TestP34EncodingsStartWithThoseOfPrefixes(t *testing.T) {
	for _, l := range samples() {
		s, _ := keys.Lay(l...)
		for many := 1; many <= len(l); many++ {
			if front, e := keys.Lay(l[:many]...); e != api.OK || !strings.HasPrefix(s, front) {
				t.Errorf("%s: %.40x does not start with %.40x", show(l), s, front)
			}
		}
	}
}

// oneToOne holds what is read against what is laid: whatever is read has these bytes alone.
func oneToOne(t *testing.T, s string) int {
	t.Helper()
	l, e := keys.Read(s)
	if e != api.OK {
		refused(t, s)
		return 0
	}
	back, e := keys.Lay(l...)
	if back != s || e != api.OK || !keys.Right(l...) {
		t.Errorf("%.60x: read %s, laid %.60x %v", s, show(l), back, e)
	}
	return 1
}

func TestP34NoOtherBytesAreRead(t *testing.T) {
	read := 0
	for _, s := range allStrings("\x00\x01\x02a\xff", 7) {
		read += oneToOne(t, s)
	}
	// 02 .. 00 01 with texts of up to four bytes, 00 as two, and pairs of parts within seven bytes.
	want := 0
	for _, s := range allStrings("\x00\x01\x02a\xff", 4) {
		if len(encoding(text(s))) <= 7 {
			want++
		}
		for _, u := range allStrings("\x00\x01\x02a\xff", 1) {
			if len(encoding(text(s), text(u))) <= 7 {
				want++
			}
		}
	}
	if read != want {
		t.Errorf("%d keys read, not %d", read, want)
	}
}

func TestP34ChangedBytesAreReadAsOtherKeys(t *testing.T) {
	r := rand.New(rand.NewSource(3))
	all := samples()
	for range 20000 {
		l := all[r.Intn(len(all))]
		b := []byte(encoding(l...))
		at := r.Intn(len(b))
		switch r.Intn(3) {
		case 0:
			b[at] = []byte{0, 1, 2, 0xFF, byte(r.Intn(256))}[r.Intn(5)]
		case 1:
			b = slices.Delete(b, at, at+1)
		case 2:
			b = slices.Insert(b, at, []byte{0, 1, 2, 0xFF}[r.Intn(4)])
		}
		oneToOne(t, string(b))
		if back, e := keys.Read(string(b)); e == api.OK && slices.Equal(back, l) && string(b) != encoding(l...) {
			t.Errorf("%s is read from %.60x too", show(l), b)
		}
	}
}
