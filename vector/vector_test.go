package vector_test

import (
	"bytes"
	"fmt"
	"math"
	"math/rand"
	"slices"
	"strconv"
	"strings"
	"testing"

	"pannier/api"
	"pannier/vector"
)

const top = int64(1) << 62

func dot(who string, n int64) api.Dot { return api.Dot{Who: who, N: n} }

// made reads dots, whether they are a vector or not, of a text such as "a 2, b 3".
func made(s string) []api.Dot {
	var out []api.Dot
	for part := range strings.SplitSeq(s, ", ") {
		if s == "" {
			break
		}
		who, number, _ := strings.Cut(part, " ")
		n, err := strconv.ParseInt(number, 10, 64)
		if err != nil {
			panic(err)
		}
		out = append(out, dot(who, n))
	}
	return out
}

func text(v []api.Dot) string {
	var out []string
	for _, d := range v {
		out = append(out, fmt.Sprint(d.Who, " ", d.N))
	}
	return strings.Join(out, ", ")
}

func spanText(l []api.Span) string {
	var out []string
	for _, s := range l {
		out = append(out, fmt.Sprint(s.Who, " ", s.From, " to ", s.To))
	}
	return strings.Join(out, ", ")
}

// row is the vector of dots with number n of the names that begin with a letter and end with the numbers from, .., to - 1.
func row(letter string, from, to int, n int64) []api.Dot {
	var out []api.Dot
	for i := from; i < to; i++ {
		out = append(out, dot(fmt.Sprintf("%s%03d", letter, i), n))
	}
	return out
}

// small are all vectors of a, b and c with numbers up to 3.
func small() [][]api.Dot {
	out := [][]api.Dot{nil}
	for _, who := range []string{"a", "b", "c"} {
		for _, v := range slices.Clone(out) {
			for n := range int64(3) {
				out = append(out, append(slices.Clone(v), dot(who, n+1)))
			}
		}
	}
	return out
}

// smallDots are all dots that one of the small vectors has, and the ones behind them.
func smallDots() []api.Dot {
	var out []api.Dot
	for _, who := range []string{"a", "b", "c", "d"} {
		for n := range int64(4) {
			out = append(out, dot(who, n+1))
		}
	}
	return out
}

// has is the chapter's word, of a vector and a valid dot.
func has(v []api.Dot, d api.Dot) bool {
	return slices.ContainsFunc(v, func(x api.Dot) bool { return x.Who == d.Who && x.N >= d.N })
}

func random(r *rand.Rand, names int, most int64) []api.Dot {
	var out []api.Dot
	for _, d := range row("n", 0, names, 0) {
		if r.Intn(2) == 0 {
			out = append(out, dot(d.Who, 1+r.Int63n(most)))
		}
	}
	return out
}

// wrong are dots that are no vector.
func wrong() map[string][]api.Dot {
	out := map[string][]api.Dot{
		"no name":          {dot("", 1)},
		"a name too long":  {dot(strings.Repeat("a", 25), 1)},
		"a great letter":   {dot("A", 1)},
		"a letter of two":  {dot("é", 1)},
		"half a letter":    {dot("a\xc3", 1)},
		"a blank":          {dot("a b", 1)},
		"number 0":         {dot("a", 0)},
		"number -1":        {dot("a", -1)},
		"the least number": {dot("a", math.MinInt64)},
		"2^62 + 1":         {dot("a", top+1)},
		"2^63 - 1":         {dot("a", math.MaxInt64)},
		"a Who twice":      made("a 1, a 1"),
		"a Who twice more": made("a 1, b 1, b 2"),
		"out of order":     made("b 1, a 1"),
		"shorter behind":   made("aa 1, a 1"),
		"the point behind": made("a0 1, a. 1"),
		"a letter ahead":   made("a 1, 9 1"),
		"65 dots":          row("a", 0, 65, 1),
		"1000 dots":        row("a", 0, 1000, 1),
		"nothing in it":    make([]api.Dot, 1),
	}
	for i := range 64 {
		v := row("a", 0, 64, 1)
		v[i].N = 0
		out[fmt.Sprint("number 0 at ", i)] = v
		w := row("a", 0, 64, 1)
		w[i].Who += "_"
		out[fmt.Sprint("no name at ", i)] = w
		if i > 0 {
			x := row("a", 0, 64, 1)
			x[i-1], x[i] = x[i], x[i-1]
			out[fmt.Sprint("out of order at ", i)] = x
			y := row("a", 0, 64, 1)
			y[i].Who = y[i-1].Who
			out[fmt.Sprint("a Who twice at ", i)] = y
		}
	}
	return out
}

// edges are vectors at the limits.
func edges() map[string][]api.Dot {
	return map[string][]api.Dot{
		"empty":          {},
		"nil":            nil,
		"one":            made("a 1"),
		"the greatest":   {dot("a", top)},
		"one less":       {dot("a", top-1)},
		"24 bytes":       {dot(strings.Repeat("z", 24), 7)},
		"first and last": made(". 1, 0 1, 9 1, a 1, z 1"),
		"shorter ahead":  made("a 5, a. 4, a0 3, a9 9, aa 2, az 1, b 1"),
		"64 dots":        row("a", 0, 64, top),
		"63 dots":        row("a", 0, 63, 1),
	}
}

func checkVector(t *testing.T, name string, got []api.Dot, e api.Errno, want string, wantE api.Errno) {
	t.Helper()
	if text(got) != want || e != wantE {
		t.Errorf("%s: %s and %d, not %s and %d", name, text(got), e, want, wantE)
	}
}

func TestP71IsName(t *testing.T) {
	for _, s := range []string{"a", "z", "0", "9", ".", "..", "a.1", "phone.7", "abcdefghijklmnopqrstuvwx", "yz0123456789............"} {
		if !vector.IsName(s) {
			t.Errorf("%q is no name", s)
		}
	}
	for _, s := range []string{"", " ", "A", "a ", " a", "a-b", "a_b", "a\x00", "\n", "é", "aé", "ａ", "１", "٣", "a\xff", "\xffa", "\xc3", "\U0001F6D2", "\ufffd"} {
		if vector.IsName(s) {
			t.Errorf("%q is a name", s)
		}
	}
}

func TestP71EachByteOfAName(t *testing.T) {
	const all = ".0123456789abcdefghijklmnopqrstuvwxyz"
	for i := range 256 {
		s := string([]byte{byte(i)})
		want := strings.Contains(all, s)
		for _, name := range []string{s, "a" + s, s + "z", "0" + s + ".", strings.Repeat("m", 23) + s, s + strings.Repeat("m", 23)} {
			if vector.IsName(name) != want {
				t.Errorf("IsName(%q) = %v", name, !want)
			}
		}
	}
}

func TestP71LengthsOfNames(t *testing.T) {
	for n := range 60 {
		for _, x := range []string{"a", "z", "0", "9", "."} {
			if vector.IsName(strings.Repeat(x, n)) != (n >= 1 && n <= 24) {
				t.Error(n, "bytes", x)
			}
		}
	}
	if vector.IsName(strings.Repeat("a", 1<<20)) || vector.IsName(strings.Repeat("é", 12)) || vector.IsName(strings.Repeat("é", 24)) {
		t.Error("too long, or no letters of a name")
	}
}

func TestP71Right(t *testing.T) {
	for name, v := range edges() {
		if !vector.Right(v) {
			t.Error(name, "is no vector")
		}
	}
	for name, v := range wrong() {
		if vector.Right(v) {
			t.Error(name, "is a vector")
		}
	}
	for n := range 130 {
		if vector.Right(row("b", 0, n, 3)) != (n <= 64) {
			t.Error(n, "dots")
		}
	}
	for _, a := range ".09az" {
		for _, b := range ".09az" {
			v := []api.Dot{dot("k"+string(a), 1), dot("k"+string(b), 1)}
			if vector.Right(v) != (a < b) {
				t.Error(text(v))
			}
		}
	}
}

func TestP71At(t *testing.T) {
	for _, x := range []struct {
		v, who string
		n      int64
	}{
		{"", "a", 0}, {"", "", 0}, {"a 1", "a", 1}, {"a 1", "b", 0}, {"a 1", "", 0}, {"aa 1", "a", 0}, {"a 1", "aa", 0},
		{"a 1, b 3, c 4611686018427387904", "a", 1}, {"a 1, b 3, c 4611686018427387904", "b", 3}, {"a 1, b 3, c 4611686018427387904", "c", top},
		{"a 1, b 3, c 9", ".", 0}, {"a 1, b 3, c 9", "aa", 0}, {"a 1, b 3, c 9", "d", 0},
		// The first one is answered for, also where dots are no vector.
		{"a 5, a 7", "a", 5}, {"c 1, a -9, b 2, a 4", "a", -9}, {"b 2, A 3", "A", 3}, {"b 2, a 3", "a", 3}, {"a 0, a 1", "a", 0},
		{"a -9223372036854775808", "a", math.MinInt64}, {"a 9223372036854775807", "a", math.MaxInt64},
	} {
		if n := vector.At(made(x.v), x.who); n != x.n {
			t.Errorf("At(%s; %s) = %d, not %d", x.v, x.who, n, x.n)
		}
	}
	if n := vector.At([]api.Dot{dot("", 8)}, ""); n != 8 {
		t.Error("At of no name:", n)
	}
	for i, d := range row("a", 0, 200, 5) {
		if n := vector.At(row("a", 0, 200, 5), d.Who); n != 5 {
			t.Error("place", i, n)
		}
	}
}

func TestP71Has(t *testing.T) {
	for _, v := range small() {
		for _, d := range smallDots() {
			if vector.Has(v, d) != has(v, d) {
				t.Errorf("Has(%s; %s %d)", text(v), d.Who, d.N)
			}
		}
		for _, d := range []api.Dot{{}, dot("", 1), dot("a", 0), dot("a", -1), dot("a", math.MinInt64), dot("A", 1), dot("a ", 1), dot("d", 0)} {
			if vector.Has(v, d) {
				t.Errorf("Has(%s; %s %d), which is not valid", text(v), d.Who, d.N)
			}
		}
	}
	for _, n := range []int64{1, 2, top - 1, top} {
		if !vector.Has([]api.Dot{dot("a", top)}, dot("a", n)) {
			t.Error(n, "of 2^62")
		}
	}
	for _, n := range []int64{top + 1, math.MaxInt64, 0, -top, math.MinInt64} {
		if vector.Has([]api.Dot{dot("a", top)}, dot("a", n)) {
			t.Error(n, "of 2^62")
		}
	}
	if vector.Has([]api.Dot{dot("a", top-1)}, dot("a", top)) {
		t.Error("2^62 of one less")
	}
	for name, v := range wrong() {
		for _, d := range append(slices.Clone(v), dot("a", 1), dot("a000", 1), dot("a063", 1)) {
			if vector.Has(v, d) {
				t.Error(name, "has", d)
			}
		}
	}
}

func TestP71Leq(t *testing.T) {
	for _, a := range small() {
		for _, b := range small() {
			want := true
			for _, d := range smallDots() {
				want = want && (!has(a, d) || has(b, d))
			}
			if vector.Leq(a, b) != want {
				t.Errorf("Leq(%s; %s)", text(a), text(b))
			}
		}
	}
	for name, v := range edges() {
		if !vector.Leq(v, v) || !vector.Leq(nil, v) || vector.Leq(v, nil) != (len(v) == 0) {
			t.Error(name)
		}
	}
	for name, v := range wrong() {
		if vector.Leq(v, v) || vector.Leq(nil, v) || vector.Leq(v, nil) || vector.Leq(v, row("a", 0, 64, top)) || vector.Leq(row("a", 0, 64, 1), v) {
			t.Error(name)
		}
	}
	for i := range 64 {
		a, b := row("a", 0, 64, 2), row("a", 0, 64, 2)
		a[i].N = 3
		if vector.Leq(a, b) || !vector.Leq(b, a) || vector.Leq(b, slices.Delete(a, i, i+1)) {
			t.Error("place", i)
		}
	}
}

func TestP72With(t *testing.T) {
	for _, x := range []struct {
		v    string
		d    api.Dot
		want string
		e    api.Errno
	}{
		{"a 1", dot("a", 2), "a 2", api.OK},
		{"a 1", dot("a", 3), "", api.ErrVector},
		{"a 1", dot("a", 1), "", api.ErrVector},
		{"a 7", dot("a", 7), "", api.ErrVector},
		{"a 7", dot("a", 1), "", api.ErrVector},
		{"a 7", dot("a", 9), "", api.ErrVector},
		{"", dot("b", 1), "b 1", api.OK},
		{"", dot("b", 2), "", api.ErrVector},
		{"", dot("b", top), "", api.ErrVector},
		{"b 4, d 5", dot("a", 1), "a 1, b 4, d 5", api.OK},
		{"b 4, d 5", dot("b", 5), "b 5, d 5", api.OK},
		{"b 4, d 5", dot("c", 1), "b 4, c 1, d 5", api.OK},
		{"b 4, d 5", dot("d", 6), "b 4, d 6", api.OK},
		{"b 4, d 5", dot("e", 1), "b 4, d 5, e 1", api.OK},
		{"b 4, d 5", dot("e", 2), "", api.ErrVector},
		{"a0 1, aa 1", dot("a", 1), "a 1, a0 1, aa 1", api.OK},
		{"a 4611686018427387903", dot("a", top), "a 4611686018427387904", api.OK},
		{"a 4611686018427387904", dot("a", top), "", api.ErrVector},
		{"a 4611686018427387904", dot("a", top+1), "", api.ErrArg},
		{"a 1", dot("a", 0), "", api.ErrArg},
		{"a 1", dot("a", -1), "", api.ErrArg},
		{"", dot("", 1), "", api.ErrArg},
		{"", dot("A", 1), "", api.ErrArg},
		{"", dot("a", 0), "", api.ErrArg},
		{"", dot("a", math.MinInt64), "", api.ErrArg},
		{"", dot("a", math.MaxInt64), "", api.ErrArg},
		{"", dot(strings.Repeat("b", 25), 1), "", api.ErrArg},
		{"", dot(strings.Repeat("b", 24), 1), strings.Repeat("b", 24) + " 1", api.OK},
	} {
		v, e := vector.With(made(x.v), x.d)
		checkVector(t, fmt.Sprint("With(", x.v, "; ", x.d.Who, " ", x.d.N, ")"), v, e, x.want, x.e)
	}
	for name, v := range wrong() {
		for _, d := range []api.Dot{dot("a", 1), dot("a", 2), dot("z", 1), dot("z", 9), {}} {
			got, e := vector.With(v, d)
			checkVector(t, name, got, e, "", api.ErrArg)
		}
	}
}

func TestP72WithAt64(t *testing.T) {
	full := row("m", 0, 64, 3)
	for i, d := range full {
		want := slices.Clone(full)
		want[i].N = 4
		v, e := vector.With(full, dot(d.Who, 4))
		checkVector(t, d.Who, v, e, text(want), api.OK)
		less := slices.Delete(slices.Clone(full), i, i+1)
		want[i].N = 1
		v, e = vector.With(less, dot(d.Who, 1))
		checkVector(t, d.Who, v, e, text(want), api.OK)
	}
	for _, who := range []string{"a", "m0305", "z"} {
		v, e := vector.With(full, dot(who, 1))
		checkVector(t, who, v, e, "", api.ErrVector)
		v, e = vector.With(full, dot(who, 0))
		checkVector(t, who, v, e, "", api.ErrArg)
	}
}

func TestP72JoinAndMeetOfTwo(t *testing.T) {
	for _, a := range small() {
		for _, b := range small() {
			j, e := vector.Join(a, b)
			m, f := vector.Meet(a, b)
			if e != api.OK || f != api.OK || !vector.Right(j) || !vector.Right(m) {
				t.Fatalf("%s and %s: %d, %d", text(a), text(b), e, f)
			}
			for _, d := range smallDots() {
				if has(j, d) != (has(a, d) || has(b, d)) || has(m, d) != (has(a, d) && has(b, d)) {
					t.Fatalf("%s and %s: Join %s, Meet %s", text(a), text(b), text(j), text(m))
				}
			}
		}
	}
}

func TestP72JoinExamples(t *testing.T) {
	for _, x := range [][3]string{
		{"a 2", "a 1, b 3", "a 2, b 3"},
		{"", "", ""},
		{"b 1, d 1, f 1", "a 1, c 1, e 1, g 1", "a 1, b 1, c 1, d 1, e 1, f 1, g 1"},
		{"a 1, b 1", "y 1, z 1", "a 1, b 1, y 1, z 1"},
		{"a 4611686018427387904", "a 1, b 4611686018427387904", "a 4611686018427387904, b 4611686018427387904"},
		{"a 1, aa 1", "a. 1, a9 2", "a 1, a. 1, a9 2, aa 1"},
	} {
		v, e := vector.Join(made(x[0]), made(x[1]))
		checkVector(t, x[0]+" and "+x[1], v, e, x[2], api.OK)
		v, e = vector.Join(made(x[1]), made(x[0]))
		checkVector(t, x[1]+" and "+x[0], v, e, x[2], api.OK)
	}
}

func TestP72JoinAt64(t *testing.T) {
	all := row("j", 0, 200, 2)
	for _, x := range []struct {
		a, b []api.Dot
		many int
	}{
		{all[:64], all[:64], 64}, {all[:64], nil, 64}, {all[:32], all[32:64], 64}, {all[:63], all[63:64], 64}, {all[:40], all[20:64], 64},
		{all[:64], all[64:65], 65}, {all[1:65], all[:1], 65}, {all[:33], all[32:65], 65}, {all[:33], all[33:65], 65}, {all[:64], all[64:128], 128},
	} {
		want, wantE := text(all[:64]), api.OK
		if x.many > 64 {
			want, wantE = "", api.ErrVector
		}
		v, e := vector.Join(x.a, x.b)
		checkVector(t, fmt.Sprint(x.many, " dots"), v, e, want, wantE)
		v, e = vector.Join(x.b, x.a)
		checkVector(t, fmt.Sprint(x.many, " dots"), v, e, want, wantE)
	}
	var odd, even []api.Dot
	for i, d := range all[:64] {
		if i%2 == 0 {
			even = append(even, d)
		} else {
			odd = append(odd, d)
		}
	}
	v, e := vector.Join(odd, even)
	checkVector(t, "in turns", v, e, text(all[:64]), api.OK)
	v, e = vector.Join(odd, append(even, all[70]))
	checkVector(t, "in turns, and one more", v, e, "", api.ErrVector)
}

func TestP72WrongVectors(t *testing.T) {
	for name, v := range wrong() {
		for _, w := range [][]api.Dot{nil, made("a 1"), row("z", 0, 64, 1), v} {
			got, e := vector.Join(v, w)
			checkVector(t, "Join of "+name, got, e, "", api.ErrArg)
			got, e = vector.Join(w, v)
			checkVector(t, "Join with "+name, got, e, "", api.ErrArg)
			for _, l := range [][][]api.Dot{{v}, {v, w}, {w, v}, {w, v, w}, {w, nil, v}, {nil, nil, nil, v}} {
				got, e = vector.Meet(l...)
				checkVector(t, "Meet with "+name, got, e, "", api.ErrArg)
			}
		}
	}
}

func TestP72MeetOfSome(t *testing.T) {
	got, e := vector.Meet()
	checkVector(t, "Meet of none", got, e, "", api.ErrArg)
	got, e = vector.Meet([][]api.Dot{}...)
	checkVector(t, "Meet of none", got, e, "", api.ErrArg)
	for name, v := range edges() {
		got, e := vector.Meet(v)
		checkVector(t, "Meet of "+name, got, e, text(v), api.OK)
		got, e = vector.Meet(v, v, v)
		checkVector(t, "Meet of thrice "+name, got, e, text(v), api.OK)
		got, e = vector.Meet(v, v, nil, v)
		checkVector(t, "Meet with nothing of "+name, got, e, "", api.OK)
	}
	for _, x := range []struct {
		want string
		of   []string
	}{
		{"a 1", []string{"a 2", "a 1, b 3"}},
		{"", []string{"a 2", "b 3"}},
		{"", []string{"a 2, b 2", "b 3, c 1", "a 1, c 4"}},
		{"b 1, d 2", []string{"a 1, b 1, d 4", "b 2, c 2, d 3", "b 3, d 2, e 9"}},
		{"c 1", []string{"a 1, c 1", "b 1, c 1", "c 1", "c 5, d 1"}},
		{"a 4611686018427387903", []string{"a 4611686018427387904", "a 4611686018427387903, b 1"}},
	} {
		for range len(x.of) {
			x.of = append(x.of[1:], x.of[0])
			var l [][]api.Dot
			for _, s := range x.of {
				l = append(l, made(s))
			}
			got, e := vector.Meet(l...)
			checkVector(t, strings.Join(x.of, "; "), got, e, x.want, api.OK)
		}
	}
}

func TestP72MeetOfMany(t *testing.T) {
	var l [][]api.Dot
	for i := range 3000 {
		v := row("m", 0, 64, 5000)
		v[i%64].N = int64(5000 - i)
		l = append(l, v)
	}
	want := row("m", 0, 64, 0)
	for i := range want {
		want[i].N = 5000 - int64(2999-(2999-i)%64)
	}
	got, e := vector.Meet(l...)
	checkVector(t, "3000 vectors", got, e, text(want), api.OK)
	for _, i := range []int{0, 1, 1500, 2999} {
		kept := l[i]
		l[i] = nil
		got, e = vector.Meet(l...)
		checkVector(t, "an empty one", got, e, "", api.OK)
		l[i] = made("a 0")
		got, e = vector.Meet(l...)
		checkVector(t, "a wrong one", got, e, "", api.ErrArg)
		l[i] = kept
	}
}

func TestP73LackOfTwo(t *testing.T) {
	for _, a := range small() {
		for _, b := range small() {
			l, e := vector.Lack(a, b)
			if e != api.OK {
				t.Fatalf("%s and %s: %d", text(a), text(b), e)
			}
			for _, d := range smallDots() {
				within := slices.ContainsFunc(l, func(s api.Span) bool { return s.Who == d.Who && s.From <= d.N && d.N <= s.To })
				if within != (has(b, d) && !has(a, d)) {
					t.Fatalf("Lack(%s; %s) = %s", text(a), text(b), spanText(l))
				}
			}
			for i, s := range l {
				if s.From > s.To || s.From < 1 || i > 0 && l[i-1].Who >= s.Who {
					t.Fatalf("Lack(%s; %s) = %s", text(a), text(b), spanText(l))
				}
			}
		}
	}
}

func TestP73LackExamples(t *testing.T) {
	for _, x := range [][3]string{
		{"a 1", "a 3, b 2", "a 2 to 3, b 1 to 2"},
		{"", "", ""},
		{"", "a 1", "a 1 to 1"},
		{"a 1", "", ""},
		{"a 1", "a 2", "a 2 to 2"},
		{"a 2", "a 1", ""},
		{"b 1, d 4", "a 5, b 1, c 2, d 6, e 1", "a 1 to 5, c 1 to 2, d 5 to 6, e 1 to 1"},
		{"a 5, b 1, c 2, d 6, e 1", "b 1, d 7", "d 7 to 7"},
		{"", "a 4611686018427387904", "a 1 to 4611686018427387904"},
		{"a 1", "a 4611686018427387904", "a 2 to 4611686018427387904"},
		{"a 4611686018427387903", "a 4611686018427387904", "a 4611686018427387904 to 4611686018427387904"},
		{"a 4611686018427387904", "a 4611686018427387904", ""},
	} {
		l, e := vector.Lack(made(x[0]), made(x[1]))
		if spanText(l) != x[2] || e != api.OK {
			t.Errorf("Lack(%s; %s) = %s and %d, not %s", x[0], x[1], spanText(l), e, x[2])
		}
	}
	if l, e := vector.Lack(row("y", 0, 64, 9), row("x", 0, 64, 9)); len(l) != 64 || l[63] != (api.Span{Who: "x063", From: 1, To: 9}) || e != api.OK {
		t.Error(spanText(l), e)
	}
}

func TestP73WrongVectors(t *testing.T) {
	for name, v := range wrong() {
		for _, w := range [][]api.Dot{nil, made("a 1"), row("z", 0, 64, 1), v} {
			if l, e := vector.Lack(v, w); len(l) != 0 || e != api.ErrArg {
				t.Error("Lack of", name, spanText(l), e)
			}
			if l, e := vector.Lack(w, v); len(l) != 0 || e != api.ErrArg {
				t.Error("Lack with", name, spanText(l), e)
			}
		}
	}
}

// laid are vectors and their encodings, byte by byte.
func laid() map[string]string {
	return map[string]string{
		"":              "\x00",
		"a 1":           "\x01\x01a\x01",
		"a 1, b 3":      "\x02\x01a\x01\x01b\x03",
		"phone.7 300":   "\x01\x07phone.7\x81\x2c",
		". 127, 0z 128": "\x02\x01.\x7f\x020z\x80\x80",
		strings.Repeat("z", 24) + " 4611686018427387904":         "\x01\x18" + strings.Repeat("z", 24) + "\xff\x40\x00\x00\x00\x00\x00\x00\x00",
		"a 72057594037927935, b 72057594037927936, c 16384, d 9": "\x04\x01a\xfe\xff\xff\xff\xff\xff\xff\xff\x01b\xff\x01\x00\x00\x00\x00\x00\x00\x00\x01c\xc0\x40\x00\x01d\x09",
		text(row("k", 0, 64, 5)):                                 "\x40" + rowBytes("k", 64),
	}
}

// rowBytes are the encodings of the dots of row, with the number 5.
func rowBytes(letter string, many int) string {
	out := ""
	for i := range many {
		out += fmt.Sprintf("\x04%s%03d\x05", letter, i)
	}
	return out
}

func wantTaken(t *testing.T, b string, at int, want string, end int) {
	t.Helper()
	if v, n, e := vector.Take([]byte(b), at); text(v) != want || n != end || e != api.OK {
		t.Errorf("Take(%.60x, %d) = %s, %d, %d, not %s, %d", b, at, text(v), n, e, want, end)
	}
}

func wantNotTaken(t *testing.T, b string, at int) {
	t.Helper()
	if v, n, e := vector.Take([]byte(b), at); len(v) != 0 || n != 0 || e != api.ErrVector {
		t.Errorf("Take(%.60x, %d) = %s, %d, %d, not ErrVector", b, at, text(v), n, e)
	}
}

func TestP74LayAndTake(t *testing.T) {
	for v, code := range laid() {
		for _, before := range []string{"", "\xff", "milk", strings.Repeat("\x01", 300)} {
			b, e := vector.Lay([]byte(before), made(v))
			if string(b) != before+code || e != api.OK {
				t.Errorf("Lay(%.20q, %s) = %x and %d, not %x", before, v, b, e, before+code)
			}
			for _, behind := range []string{"", "\x00", "\x01a\x01", "\xff\xff\xff"} {
				wantTaken(t, before+code+behind, len(before), v, len(before+code))
			}
		}
	}
	if b, e := vector.Lay(nil, nil); string(b) != "\x00" || e != api.OK {
		t.Errorf("%x, %d", b, e)
	}
	for name, v := range edges() {
		b, e := vector.Lay(nil, v)
		if e != api.OK {
			t.Error(name, e)
		}
		wantTaken(t, string(b), 0, text(v), len(b))
	}
	for name, v := range wrong() {
		for _, before := range [][]byte{nil, []byte("abc")} {
			if b, e := vector.Lay(before, v); len(b) != 0 || e != api.ErrArg {
				t.Errorf("Lay of %s: %x, %d", name, b, e)
			}
		}
	}
}

func TestP74TakeInARow(t *testing.T) {
	var b []byte
	vs := small()
	for _, v := range vs {
		b, _ = vector.Lay(b, v)
	}
	at := 0
	for _, want := range vs {
		v, end, e := vector.Take(b, at)
		checkVector(t, fmt.Sprint("at ", at), v, e, text(want), api.OK)
		at = end
	}
	if at != len(b) {
		t.Error("ends at", at, "of", len(b))
	}
	wantNotTaken(t, string(b), at)
}

func TestP74Places(t *testing.T) {
	for _, b := range []string{"", "\x00", "\x02\x01a\x01\x01b\x03"} {
		for _, at := range []int{-1, -2, math.MinInt, len(b), len(b) + 1, len(b) + 2, math.MaxInt} {
			wantNotTaken(t, b, at)
		}
	}
	if v, n, e := vector.Take(nil, 0); len(v) != 0 || n != 0 || e != api.ErrVector {
		t.Error(v, n, e)
	}
}

func TestP74BytesThatEndTooEarly(t *testing.T) {
	for _, code := range laid() {
		for k := range len(code) {
			wantNotTaken(t, code[:k], 0)
			wantNotTaken(t, "\x00\x00"+code[:k], 2)
		}
	}
}

func TestP74HowManyDots(t *testing.T) {
	for many := range 65 {
		code := string([]byte{byte(many)}) + rowBytes("k", many)
		wantTaken(t, code, 0, text(row("k", 0, many, 5)), len(code))
	}
	for _, many := range []int{65, 66, 100, 127} {
		wantNotTaken(t, string([]byte{byte(many)})+rowBytes("k", many), 0)
	}
	for _, many := range []string{"\x80\x80", "\x81\x00", "\xc0\x40\x00", "\xff\x80\x00\x00\x00\x00\x00\x00\x00", "\xff\xff\xff\xff\xff\xff\xff\xff\xff", "\xff\x80\x00\x00\x00\x00\x00\x00\x01"} {
		wantNotTaken(t, many+rowBytes("k", 300), 0)
	}
	// Numbers in forms that are not the shortest.
	wantNotTaken(t, "\x80\x00", 0)
	wantNotTaken(t, "\x80\x01\x01a\x01", 0)
	wantNotTaken(t, "\x80\x40"+rowBytes("k", 64), 0)
}

func TestP74DotsThatAreNotThoseOfAVector(t *testing.T) {
	for _, b := range []string{
		"\x01\x00\x01",         // no name
		"\x01\x01A\x01",        // a great letter
		"\x01\x02\xc3\xa9\x01", // a letter of two bytes
		"\x01\x01\xff\x01",     // no letter
		"\x01\x19" + strings.Repeat("a", 25) + "\x01",            // a name too long
		"\x01\x80\x01a\x01",                                      // a length in a longer form
		"\x01\xff\xff\xff\xff\xff\xff\xff\xff\xffa\x01",          // a length without end
		"\x01\x01a\x00",                                          // number 0
		"\x01\x01a\x80\x01",                                      // number 1 in a longer form
		"\x01\x01a\xff\x40\x00\x00\x00\x00\x00\x00\x01",          // 2^62 + 1
		"\x01\x01a\xff\x7f\xff\xff\xff\xff\xff\xff\xff",          // 2^63 - 1
		"\x01\x01a\xff\x80\x00\x00\x00\x00\x00\x00\x00",          // 2^63
		"\x01\x01a\xff\x80\x00\x00\x00\x00\x00\x00\x01",          // 2^63 + 1
		"\x01\x01a\xff\xff\xff\xff\xff\xff\xff\xff\xff",          // 2^64 - 1
		"\x02\x01a\x01\x01a\x01",                                 // a Who twice
		"\x02\x01a\x01\x01a\x02",                                 // a Who twice, with more
		"\x02\x01b\x01\x01a\x01",                                 // out of order
		"\x02\x02aa\x01\x01a\x01",                                // the shorter one behind
		"\x03\x01a\x01\x01b\x01\x01b\x01",                        // a Who twice at the end
		"\x02\x01a\x01\x01b\x00",                                 // number 0 at the end
		"\x02\x01a\x00\x01b\x01",                                 // number 0 at the start
		"\x02\x01a\x01\x00\x01",                                  // no name at the end
		"\x02\x01a\x01",                                          // one dot too few
		"\x40" + rowBytes("k", 63) + "\x04k062\x05",              // the last of 64 twice
		"\x40" + rowBytes("k", 63) + "\x04k063\x00" + "\x00\x00", // the last of 64 with number 0
	} {
		wantNotTaken(t, b, 0)
		wantNotTaken(t, "\x00"+b+"\x01\x01", 1)
	}
}

func TestP75BoundsOfTwo(t *testing.T) {
	leq := vector.Leq
	for _, a := range small() {
		for _, b := range small() {
			j, _ := vector.Join(a, b)
			m, _ := vector.Meet(a, b)
			if !leq(a, j) || !leq(b, j) || !leq(m, a) || !leq(m, b) {
				t.Fatalf("%s and %s: Join %s, Meet %s", text(a), text(b), text(j), text(m))
			}
			for _, c := range small() {
				if leq(a, c) && leq(b, c) && !leq(j, c) || leq(c, a) && leq(c, b) && !leq(c, m) {
					t.Fatalf("%s and %s, of %s: Join %s, Meet %s", text(a), text(b), text(c), text(j), text(m))
				}
			}
		}
	}
}

func TestP75MeetOfSomeIsTheGreatest(t *testing.T) {
	r := rand.New(rand.NewSource(7))
	for range 2000 {
		var l [][]api.Dot
		for range 1 + r.Intn(6) {
			l = append(l, random(r, 8, 3))
		}
		got, e := vector.Meet(l...)
		want := l[0]
		for _, v := range l {
			if !vector.Leq(got, v) {
				t.Fatalf("%s is not below %s", text(got), text(v))
			}
			want, _ = vector.Meet(want, v)
		}
		checkVector(t, "two by two", got, e, text(want), api.OK)
	}
}

func TestP75WithWhatItLacks(t *testing.T) {
	r := rand.New(rand.NewSource(8))
	pairs := [][2][]api.Dot{{row("l", 0, 40, 3), row("l", 24, 64, 9)}, {nil, row("l", 0, 64, 4)}, {row("l", 0, 64, 4), nil}}
	for range 1000 {
		pairs = append(pairs, [2][]api.Dot{random(r, 64, 9), random(r, 64, 9)})
	}
	for _, a := range small() {
		for _, b := range small() {
			pairs = append(pairs, [2][]api.Dot{a, b})
		}
	}
	for _, x := range pairs {
		v := x[0]
		lack, _ := vector.Lack(x[0], x[1])
		for _, s := range lack {
			for n := s.From; n <= s.To; n++ {
				var e api.Errno
				if v, e = vector.With(v, dot(s.Who, n)); e != api.OK {
					t.Fatalf("%s %d to %s: %d", s.Who, n, text(x[0]), e)
				}
			}
		}
		want, e := vector.Join(x[0], x[1])
		checkVector(t, text(x[0])+" with what it lacks", v, e, text(want), api.OK)
	}
}

func TestP75EncodingsDiffer(t *testing.T) {
	seen := map[string]string{}
	for _, v := range small() {
		b, _ := vector.Lay(nil, v)
		if other, twice := seen[string(b)]; twice {
			t.Errorf("%x of %s and of %s", b, other, text(v))
		}
		seen[string(b)] = text(v)
	}
}

// wantCanonical fails if bytes are read as a vector that is laid in another way.
func wantCanonical(t *testing.T, b []byte) bool {
	t.Helper()
	v, end, e := vector.Take(b, 0)
	if e != api.OK {
		if len(v) != 0 || end != 0 || e != api.ErrVector {
			t.Fatalf("%x: %s, %d, %d", b, text(v), end, e)
		}
		return false
	}
	if again, e := vector.Lay(nil, v); e != api.OK || !bytes.Equal(again, b[:end]) {
		t.Fatalf("%x is read as %s, which is laid as %x", b[:end], text(v), again)
	}
	return true
}

func TestP75NoOtherBytesAreAVector(t *testing.T) {
	for v, code := range laid() {
		for i := range len(code) {
			for x := range 256 {
				b := []byte(code + "\x01a\x01")
				b[i] = byte(x)
				if wantCanonical(t, b) && b[i] != code[i] {
					if w, _, _ := vector.Take(b, 0); text(w) == v {
						t.Fatalf("%x and %x are both %s", b, code, v)
					}
				}
			}
		}
	}
	r := rand.New(rand.NewSource(9))
	const often = "\x00\x01\x01\x01\x02\x02aab.z09\x7f\x80\x81\xff"
	read := 0
	for range 300000 {
		b := make([]byte, r.Intn(14))
		for i := range b {
			b[i] = often[r.Intn(len(often))]
		}
		if wantCanonical(t, b) {
			read++
		}
	}
	if read < 1000 {
		t.Error("only", read, "were vectors")
	}
}

// spare is a copy that has room behind it, with dots in that room.
func spare(v []api.Dot) []api.Dot {
	out := make([]api.Dot, 0, len(v)+8)
	out = append(out, v...)
	for i := len(v); i < cap(out); i++ {
		out[:cap(out)][i] = dot("spare", int64(i))
	}
	return out
}

func whole(v []api.Dot) string { return text(v[:cap(v)]) }

// answers calls whatever makes dots of two vectors, of which the first one has the next dot of the second one.
func answers(a, b []api.Dot) [][]api.Dot {
	j, _ := vector.Join(a, b)
	k, _ := vector.Join(b, a)
	l, _ := vector.Join(a, nil)
	m, _ := vector.Meet(a, b)
	n, _ := vector.Meet(a)
	o, _ := vector.Meet(a, a)
	p, _ := vector.With(a, dot("zz", 1))
	q, _ := vector.With(b, dot("a", 3))
	return [][]api.Dot{j, k, l, m, n, o, p, q}
}

func TestP72NewMemory(t *testing.T) {
	a, b := spare(made("a 3, b 1, c 7")), spare(made("a 2, c 7, d 1"))
	keptA, keptB := whole(a), whole(b)
	first, second := answers(a, b), answers(a, b)
	for i := range first {
		if len(first[i]) == 0 {
			t.Fatal("no answer", i)
		}
		kept := text(second[i])
		for j := range first[i][:cap(first[i])] {
			first[i][:cap(first[i])][j] = dot("x", -1)
		}
		if text(second[i]) != kept {
			t.Errorf("answer %d became %s", i, text(second[i]))
		}
	}
	vector.Lack(a, b)
	vector.Leq(a, b)
	vector.Has(a, b[0])
	if whole(a) != keptA || whole(b) != keptB {
		t.Errorf("the arguments became %s and %s", whole(a), whole(b))
	}
	again := answers(a, b)
	for i := range again {
		checkVector(t, fmt.Sprint("answer ", i), again[i], api.OK, text(second[i]), api.OK)
	}
}

func TestP72MeetKeepsItsArguments(t *testing.T) {
	l := [][]api.Dot{made("a 3, b 1"), made("a 2, c 7"), made("a 9")}
	list := slices.Clone(l)
	vector.Meet(list...)
	for i := range l {
		if text(list[i]) != text(l[i]) {
			t.Errorf("argument %d became %s", i, text(list[i]))
		}
	}
}

func TestP74NewMemory(t *testing.T) {
	room := []byte("abcdefghijklmnopqrstuvwxyz")
	kept := string(room)
	v := made("a 1, b 2")
	for _, n := range []int{0, 2, 26} {
		first, _ := vector.Lay(room[:n], v)
		second, _ := vector.Lay(room[:n], v)
		want := string(second)
		for i := range first[:cap(first)] {
			first[:cap(first)][i] = '!'
		}
		if string(second) != want || string(room) != kept {
			t.Errorf("shared: %q, %q", second, room)
		}
	}
	b, _ := vector.Lay(nil, v)
	got, _, _ := vector.Take(b, 0)
	for i := range b {
		b[i] = '!'
	}
	if text(got) != "a 1, b 2" {
		t.Error("the vector became", text(got))
	}
}
