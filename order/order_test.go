package order_test

import (
	"encoding/binary"
	"fmt"
	"math"
	"math/rand"
	"slices"
	"strconv"
	"strings"
	"testing"

	"pannier/api"
	"pannier/order"
)

const top = int64(1) << 62

func dot(who string, n int64) api.Dot { return api.Dot{Who: who, N: n} }

// dots reads dots, whether they are a vector or not, of a text such as "a 2, b 3".
func dots(s string) []api.Dot {
	var out []api.Dot
	for part := range strings.SplitSeq(s, ", ") {
		if s == "" {
			break
		}
		who, number, _ := strings.Cut(part, " ")
		n, err := strconv.ParseInt(number, 10, 64)
		if err != nil {
			panic(err)
		}
		out = append(out, dot(who, n))
	}
	return out
}

func text(l []api.Dot) string {
	var out []string
	for _, d := range l {
		out = append(out, fmt.Sprint(d.Who, " ", d.N))
	}
	return strings.Join(out, ", ")
}

// show tells all of an operation.
func show(o api.Op) string {
	return fmt.Sprintf("{%s %d; %s; %q %d %q %d; %s}", o.Dot.Who, o.Dot.N, text(o.Deps), o.Cart, o.Kind, o.Item, o.Qty, text(o.Seen))
}

func showAll(l []api.Op) string {
	var out []string
	for _, o := range l {
		out = append(out, show(o))
	}
	return strings.Join(out, " ")
}

// places tells the dots of operations.
func places(l []api.Op) string {
	var out []api.Dot
	for _, o := range l {
		out = append(out, o.Dot)
	}
	return text(out)
}

// row is the vector of dots with number n of the names that begin with a letter and end with the numbers from, .., to - 1.
func row(letter string, from, to int, n int64) []api.Dot {
	var out []api.Dot
	for i := from; i < to; i++ {
		out = append(out, dot(fmt.Sprintf("%s%03d", letter, i), n))
	}
	return out
}

// seen are so many dots of one, from 1 on.
func seen(who string, many int) []api.Dot {
	var out []api.Dot
	for i := range many {
		out = append(out, dot(who, int64(i+1)))
	}
	return out
}

// add makes an operation that adds a milk, of texts such as "a 2" and "a 1, b 3".
func add(place, deps string) api.Op {
	return api.Op{Dot: dots(place)[0], Deps: dots(deps), Cart: "c", Kind: api.KAdd, Item: "milk", Qty: 1}
}

func set(place, deps, gone string) api.Op {
	o := add(place, deps)
	o.Kind, o.Seen = api.KSet, dots(gone)
	return o
}

func remove(place, deps, gone string) api.Op {
	o := set(place, deps, gone)
	o.Kind, o.Qty = api.KRemove, 0
	return o
}

// changed is an operation with one thing changed, of which it shares no dots.
func changed(o api.Op, change func(o *api.Op)) api.Op {
	o.Deps, o.Seen = slices.Clone(o.Deps), slices.Clone(o.Seen)
	change(&o)
	return o
}

// valid are operations that differ, ordinary ones and those at the edges.
func valid() []api.Op {
	out := []api.Op{
		add("a 1", ""), add("b 1", ""), add("a 1", "b 1"), add("a 1", "b 1, c 1"), add("b 1", "a 2"), add("a 2", "a 1"), add("a 2", "a 1, b 7"), add("a 3", "a 2"),
		add("a 4611686018427387904", "a 4611686018427387903"), add("a 1", "b 4611686018427387904"), add("a.9 1", "a 1, aa 1"),
		set("a 1", "", ""), set("a 2", "a 1", ""), set("a 2", "a 1", "a 1"), set("b 1", "a 3", "a 1"), set("b 1", "a 3", "a 3"), set("b 1", "a 3", "a 1, a 3"), set("b 1", "a 3", "a 1, a 2, a 3"),
		remove("a 1", "", ""), remove("a 2", "a 1", ""), remove("a 2", "a 1", "a 1"), remove("b 1", "a 3, c 1", "a 2, c 1"), remove("b 3", "b 2, c 1", "b 1, b 2, c 1"),
		remove("a 1", "b 4611686018427387904", "b 4611686018427387904"), set("z 1", "a 5, aa 5", "a 1, a 5, aa 1, aa 2, aa 5"),
	}
	a, s := add("a 1", ""), set("b 7", "b 6", "b 1")
	for _, name := range []string{"a", "d", "\x00", "\xff", "\xc3", "\n", " ", "é", "ab", strings.Repeat("x", 31), strings.Repeat("x", 32), strings.Repeat("\xff", 32), strings.Repeat("\x00", 32), strings.Repeat("é", 16)} {
		out = append(out, changed(a, func(o *api.Op) { o.Cart = name }), changed(s, func(o *api.Op) { o.Item = name }))
	}
	for _, n := range []int64{2, 127, 128, 9998, 9999} {
		out = append(out, changed(a, func(o *api.Op) { o.Qty = n }), changed(s, func(o *api.Op) { o.Qty = n }))
	}
	for _, n := range []int{127, 128} {
		out = append(out, changed(set("b 1", "a 128", ""), func(o *api.Op) { o.Seen = seen("a", n) }), changed(remove("b 1", "a 200", ""), func(o *api.Op) { o.Seen = seen("a", n) }))
	}
	for _, v := range [][]api.Dot{row("k", 0, 63, 5), row("k", 0, 64, 5), row("k", 0, 64, top-1)} {
		first := changed(set("k000 1", "", ""), func(o *api.Op) { o.Dot.N, o.Deps, o.Seen = v[0].N+1, v, v })
		last := changed(remove("k062 1", "", ""), func(o *api.Op) { o.Dot.N, o.Deps, o.Seen = v[62].N+1, v, v[62:] })
		other := changed(a, func(o *api.Op) { o.Deps = v })
		out = append(out, first, last, other)
	}
	return append(out, changed(a, func(o *api.Op) { o.Dot.Who = strings.Repeat("z", 24) }), changed(remove("b 1", "", ""), func(o *api.Op) { o.Deps = []api.Dot{dot(strings.Repeat(".", 24), 3)}; o.Seen = o.Deps }))
}

// wrong are operations that are not valid.
func wrong() map[string]api.Op {
	out := map[string]api.Op{
		"nothing":                   {},
		"Deps without its own":      add("a 2", ""),
		"Deps without its own one":  add("a 2", "b 1"),
		"Deps with its own dot":     add("a 1", "a 1"),
		"Deps with more":            add("a 2", "a 3"),
		"Deps with less":            add("a 3", "a 1"),
		"Deps far from its dot":     add("a 2", "a 4611686018427387904"),
		"Deps of 0":                 add("a 1", "a 0"),
		"Deps of another's 0":       add("a 1", "b 0"),
		"Deps of -1":                add("a 1", "b -1"),
		"Deps beyond 2^62":          add("a 1", "b 4611686018427387905"),
		"a Who twice in Deps":       add("a 2", "a 1, a 1"),
		"a Who again in Deps":       add("c 1", "a 1, b 1, b 2"),
		"Deps out of order":         add("c 1", "b 1, a 1"),
		"Deps of no name":           add("a 1", "B 1"),
		"Seen of an addition":       changed(add("a 2", "a 1"), func(o *api.Op) { o.Seen = dots("a 1") }),
		"Seen behind Deps":          set("a 2", "a 1", "a 2"),
		"Seen behind another's":     remove("b 1", "a 3", "a 4"),
		"Seen of who isn't in Deps": set("b 1", "a 3", "c 1"),
		"Seen of itself":            set("b 1", "a 3", "b 1"),
		"Seen of 0":                 set("b 1", "a 3", "a 0"),
		"Seen of another's 0":       remove("b 1", "a 3", "c 0"),
		"Seen of -1":                set("b 1", "a 3", "a -1"),
		"Seen of the least":         set("b 1", "a 3", "c -9223372036854775808"),
		"Seen of no name":           remove("b 1", "a 3", "A 1"),
		"Seen of no Who":            changed(remove("b 1", "a 3", ""), func(o *api.Op) { o.Seen = make([]api.Dot, 1) }),
		"Seen twice":                set("b 1", "a 3", "a 2, a 2"),
		"Seen twice behind one":     remove("b 1", "a 3, c 3", "a 1, c 3, c 3"),
		"Seen out of order":         set("b 1", "a 3", "a 2, a 1"),
		"Seen of Whos out of order": remove("b 1", "a 3, c 3", "c 1, a 2"),
		"Seen out of order at last": remove("b 1", "a 3, c 3", "a 1, a 2, c 2, c 1"),
		"Seen back to the first":    remove("b 1", "a 3, c 3", "a 1, c 2, a 3"),
		"129 Seen":                  changed(set("b 1", "a 129", ""), func(o *api.Op) { o.Seen = seen("a", 129) }),
		"300 Seen":                  changed(remove("b 1", "a 300", ""), func(o *api.Op) { o.Seen = seen("a", 300) }),
		"65 Deps":                   changed(add("a 1", ""), func(o *api.Op) { o.Deps = row("k", 0, 65, 1) }),
	}
	a, s, r := add("a 1", ""), set("b 7", "b 6", "b 1"), remove("b 7", "b 6", "b 1")
	for _, d := range append(dots("a 0, a -1, a 4611686018427387905, a 9223372036854775807, a -9223372036854775808, A 1, é 1, a_ 1, a\xff 1"), dot("", 1), dot("a b", 1), dot(strings.Repeat("a", 25), 1), dot("a ", 1)) {
		out["the dot "+text([]api.Dot{d})] = changed(a, func(o *api.Op) { o.Dot = d })
		out["the dot with Deps "+text([]api.Dot{d})] = changed(a, func(o *api.Op) { o.Dot = d; o.Deps = []api.Dot{dot(d.Who, d.N-1)} })
	}
	for _, name := range []string{"", strings.Repeat("x", 33), strings.Repeat("é", 17), strings.Repeat("\x00", 33), strings.Repeat("a", 1000)} {
		out[fmt.Sprintf("the cart %q", name)] = changed(s, func(o *api.Op) { o.Cart = name })
		out[fmt.Sprintf("the item %q", name)] = changed(r, func(o *api.Op) { o.Item = name })
	}
	for _, kind := range []int{0, 4, 5, -1, -2, -3, 127, 257, 1 << 32, 1<<32 + 1, math.MaxInt, math.MinInt} {
		out[fmt.Sprint("the kind ", kind)] = changed(a, func(o *api.Op) { o.Kind = kind })
		out[fmt.Sprint("the kind without quantity ", kind)] = changed(r, func(o *api.Op) { o.Kind = kind })
	}
	for _, n := range []int64{0, -1, -9999, 10000, 10001, 1 << 32, 1<<32 + 1, math.MaxInt64, math.MinInt64} {
		out[fmt.Sprint("an addition of ", n)] = changed(a, func(o *api.Op) { o.Qty = n })
		out[fmt.Sprint("a setting to ", n)] = changed(s, func(o *api.Op) { o.Qty = n })
		if n != 0 {
			out[fmt.Sprint("a removal of ", n)] = changed(r, func(o *api.Op) { o.Qty = n })
		}
	}
	out["a removal of 1"] = changed(r, func(o *api.Op) { o.Qty = 1 })
	out["a removal of 9999"] = changed(r, func(o *api.Op) { o.Qty = 9999 })
	return out
}

// laidNumber is what chapter 2 says, of a number of up to eight bytes more.
func laidNumber(n uint64) string {
	for more := range 8 {
		if n < 1<<(7*(more+1)) {
			b := binary.BigEndian.AppendUint64(nil, n)[7-more:]
			b[0] |= ^(byte(0xff) >> more)
			return string(b)
		}
	}
	return "\xff" + string(binary.BigEndian.AppendUint64(nil, n))
}

func laidText(s string) string { return laidNumber(uint64(len(s))) + s }

func laidDots(l []api.Dot) string {
	out := laidNumber(uint64(len(l)))
	for _, d := range l {
		out += laidText(d.Who) + laidNumber(uint64(d.N))
	}
	return out
}

// laid is what the chapter says of operations, also of those that are not valid.
func laid(o api.Op) string {
	return laidText(o.Dot.Who) + laidNumber(uint64(o.Dot.N)) + laidDots(o.Deps) + laidText(o.Cart) + laidText(o.Item) +
		laidNumber(uint64(o.Kind)) + laidNumber(uint64(o.Qty)) + laidDots(o.Seen)
}

func TestP81Right(t *testing.T) {
	for _, o := range valid() {
		if !order.Right(o) {
			t.Error(show(o), "is not valid")
		}
	}
	for name, o := range wrong() {
		if order.Right(o) {
			t.Error(name, "is valid")
		}
	}
}

func TestP81Lengths(t *testing.T) {
	for n := range 70 {
		name, good := strings.Repeat("\xfe", n), n >= 1 && n <= 32
		for i, o := range []api.Op{
			changed(add("a 1", ""), func(o *api.Op) { o.Cart = name }),
			changed(add("a 1", ""), func(o *api.Op) { o.Item = name }),
			changed(remove("a 1", "", ""), func(o *api.Op) { o.Cart, o.Item = name, name }),
		} {
			if order.Right(o) != good {
				t.Error(n, "bytes", i)
			}
		}
	}
	for n := range 140 {
		o := changed(set("b 1", "a 200", ""), func(o *api.Op) { o.Seen = seen("a", n) })
		if order.Right(o) != (n <= 128) {
			t.Error(n, "dots of Seen")
		}
		o = changed(add("b 1", ""), func(o *api.Op) { o.Deps = row("k", 0, n, 1) })
		if order.Right(o) != (n <= 64) {
			t.Error(n, "dots of Deps")
		}
	}
}

func TestP81NumbersOfDeps(t *testing.T) {
	for n := int64(1); n < 20; n++ {
		for own := range int64(21) {
			o := changed(add("b 1", "a 9, c 9"), func(o *api.Op) { o.Dot.N = n })
			if own > 0 {
				o.Deps = slices.Insert(o.Deps, 1, dot("b", own))
			}
			if order.Right(o) != (own == n-1) {
				t.Errorf("number %d behind %d", n, own)
			}
		}
	}
}

func TestP81KindsAndQuantities(t *testing.T) {
	for kind := -3; kind < 300; kind++ {
		for n := int64(-3); n < 10005; n += 1 + n/7 {
			o := changed(add("a 1", ""), func(o *api.Op) { o.Kind, o.Qty = kind, n })
			want := (kind == api.KAdd || kind == api.KSet) && n >= 1 && n <= 9999 || kind == api.KRemove && n == 0
			if order.Right(o) != want {
				t.Error("kind", kind, "quantity", n)
			}
		}
	}
}

func TestP81Same(t *testing.T) {
	all := valid()
	for i, a := range all {
		for j, b := range all {
			if order.Same(a, b) != (i == j) {
				t.Errorf("Same(%s, %s)", show(a), show(b))
			}
		}
		if !order.Same(a, changed(a, func(*api.Op) {})) {
			t.Error(show(a), "and its copy")
		}
	}
	for name, o := range wrong() {
		if order.Same(o, o) || order.Same(o, all[0]) || order.Same(all[0], o) {
			t.Error(name)
		}
	}
	empty := remove("a 1", "", "")
	empty.Deps, empty.Seen = []api.Dot{}, []api.Dot{}
	if !order.Same(empty, remove("a 1", "", "")) || !order.Same(remove("a 1", "", ""), empty) {
		t.Error("empty and nil")
	}
}

func TestP81SameInAllButOne(t *testing.T) {
	o := set("b 2", "a 3, b 1, c 4", "a 1, a 2")
	for name, change := range map[string]func(o *api.Op){
		"Who":             func(o *api.Op) { o.Dot.Who = "bb"; o.Deps = dots("a 3, b 1, bb 1, c 4") },
		"N":               func(o *api.Op) { o.Dot.N, o.Deps[1].N = 3, 2 },
		"a number":        func(o *api.Op) { o.Deps[2].N = 5 },
		"the first one":   func(o *api.Op) { o.Deps[0].N = 4 },
		"a name":          func(o *api.Op) { o.Deps[2].Who = "d" },
		"a dot less":      func(o *api.Op) { o.Deps = o.Deps[:2] },
		"a dot more":      func(o *api.Op) { o.Deps = append(o.Deps, dot("d", 1)) },
		"Cart":            func(o *api.Op) { o.Cart = "C" },
		"a longer Cart":   func(o *api.Op) { o.Cart = "c\x00" },
		"Item":            func(o *api.Op) { o.Item = "mile" },
		"Cart and Item":   func(o *api.Op) { o.Cart, o.Item = o.Item, o.Cart },
		"Kind and Qty":    func(o *api.Op) { o.Kind, o.Qty = api.KRemove, 0 },
		"Qty":             func(o *api.Op) { o.Qty = 2 },
		"Seen":            func(o *api.Op) { o.Seen[1].N = 3 },
		"Who of Seen":     func(o *api.Op) { o.Seen[1].Who = "c" },
		"no Seen":         func(o *api.Op) { o.Seen = nil },
		"one Seen less":   func(o *api.Op) { o.Seen = o.Seen[:1] },
		"the first fewer": func(o *api.Op) { o.Seen = o.Seen[1:] },
		"one Seen more":   func(o *api.Op) { o.Seen = append(o.Seen, dot("a", 3)) },
	} {
		x := changed(o, change)
		if !order.Right(x) {
			t.Fatal(name, "is not valid")
		}
		if order.Same(o, x) || order.Same(x, o) {
			t.Error(name)
		}
	}
	kind := changed(add("a 1", ""), func(o *api.Op) { o.Kind = api.KSet })
	if order.Same(kind, add("a 1", "")) || !order.Right(kind) {
		t.Error("Kind")
	}
}

// known are encodings, written down by hand.
func known() map[string]api.Op {
	return map[string]api.Op{
		"\x01a\x01\x00\x01c\x04milk\x01\x01\x00":                                                         add("a 1", ""),
		"\x01b\x02\x02\x01a\x80\xc8\x01b\x01\x01c\x04milk\x02\x01\x02\x01a\x07\x01a\x80\x80":             set("b 2", "a 200, b 1", "a 7, a 128"),
		"\x02.9\x01\x01\x01z\xff\x40\x00\x00\x00\x00\x00\x00\x00\x01c\x04milk\x03\x00\x01\x01z\xc0@\x00": remove(".9 1", "z 4611686018427387904", "z 16384"),
		"\x01a\x01\x00\x02\xff\x00\x01\xc3\x01\xa7\x0f\x00":                                              {Dot: dot("a", 1), Cart: "\xff\x00", Item: "\xc3", Kind: api.KAdd, Qty: 9999},
	}
}

func TestP81LayAsTheChapterSays(t *testing.T) {
	for want, o := range known() {
		if s, e := order.Lay(o); s != want || e != api.OK {
			t.Errorf("Lay(%s) = %x, %d, not %x", show(o), s, e, want)
		}
		if x, e := order.Read(want); show(x) != show(o) || e != api.OK {
			t.Errorf("Read(%x) = %s, %d, not %s", want, show(x), e, show(o))
		}
	}
}

func TestP81LayAndRead(t *testing.T) {
	for _, o := range valid() {
		s, e := order.Lay(o)
		if s != laid(o) || e != api.OK {
			t.Errorf("Lay(%s) = %x, %d, not %x", show(o), s, e, laid(o))
		}
		if x, e := order.Read(laid(o)); show(x) != show(o) || e != api.OK {
			t.Errorf("Read(%x) = %s, %d, not %s", laid(o), show(x), e, show(o))
		}
	}
	for name, o := range wrong() {
		if s, e := order.Lay(o); s != "" || e != api.ErrArg {
			t.Errorf("Lay of %s: %x, %d", name, s, e)
		}
	}
}

func wantNotRead(t *testing.T, s string) {
	t.Helper()
	if o, e := order.Read(s); show(o) != show(api.Op{}) || o.Deps != nil || o.Seen != nil || e != api.ErrOp {
		t.Errorf("Read(%.80x) = %s, %d, not ErrOp", s, show(o), e)
	}
}

func TestP81ReadOfWhatIsNotValid(t *testing.T) {
	for _, o := range wrong() {
		wantNotRead(t, laid(o))
	}
}

func TestP81BytesThatEndTooEarlyOrGoOn(t *testing.T) {
	for _, o := range valid() {
		s := laid(o)
		for k := range len(s) {
			wantNotRead(t, s[:k])
		}
		for _, more := range []string{"\x00", "\x01", "\xff", "\x01a\x01", s} {
			wantNotRead(t, s+more)
		}
		wantNotRead(t, "\x00"+s)
	}
}

// parts are those of an operation's encoding, one by one.
func parts(o api.Op) []string {
	out := []string{laidNumber(uint64(len(o.Dot.Who))), o.Dot.Who, laidNumber(uint64(o.Dot.N)), laidNumber(uint64(len(o.Deps)))}
	for _, d := range o.Deps {
		out = append(out, laidNumber(uint64(len(d.Who))), d.Who, laidNumber(uint64(d.N)))
	}
	out = append(out, laidNumber(uint64(len(o.Cart))), o.Cart, laidNumber(uint64(len(o.Item))), o.Item, laidNumber(uint64(o.Kind)), laidNumber(uint64(o.Qty)), laidNumber(uint64(len(o.Seen))))
	for _, d := range o.Seen {
		out = append(out, laidNumber(uint64(len(d.Who))), d.Who, laidNumber(uint64(d.N)))
	}
	return out
}

// isNumber tells whether a part of the encoding of an operation of short names is a number.
func isNumber(part string) bool { return part[0] < '.' || part[0] >= 0x80 }

func TestP81NumbersThatAreTooGreat(t *testing.T) {
	great := []uint64{1<<62 + 1, 1<<63 - 1, 1 << 63, 1<<64 - 1, 1<<64 - 9998}
	for n := range uint64(4) {
		great = append(great, 1<<63+n, 1<<62+1<<32+n)
	}
	for _, o := range []api.Op{set("b 2", "a 3, b 1", "a 1, a 2"), remove("bb 1", "a 3", "a 2"), add("a 1", "")} {
		l := parts(o)
		if strings.Join(l, "") != laid(o) {
			t.Fatal("parts")
		}
		for i, part := range l {
			for _, n := range great {
				x := slices.Clone(l)
				x[i] = laidNumber(n)
				if isNumber(part) {
					wantNotRead(t, strings.Join(x, ""))
				}
			}
		}
	}
	before, behind := "\x01b\x01\x01\x01a\x03\x01c\x01i", "\x01a\x01"
	if _, e := order.Read(before + "\x02\x01\x01" + behind); e != api.OK {
		t.Error(e)
	}
	for n := range uint64(1000) {
		wantNotRead(t, before+"\x02\x01"+laidNumber(n+1))
		wantNotRead(t, before+"\x02\x01"+laidNumber(n+2)+behind)
	}
	for _, n := range []uint64{1 << 8, 1 << 16, 1 << 32} {
		wantNotRead(t, before+"\x02\x01"+laidNumber(n|1)+behind)
		wantNotRead(t, before+"\x02"+laidNumber(n<<8|1)+"\x01"+behind)
		wantNotRead(t, before+laidNumber(n|2)+"\x01\x01"+behind)
	}
}

func TestP81FormsThatAreNotTheShortest(t *testing.T) {
	o := set("b 2", "a 3, b 1", "a 1, a 2")
	l := parts(o)
	for i, part := range l {
		for _, form := range []string{"\x80", "\xc0\x00", "\xff\x00\x00\x00\x00\x00\x00\x00"} {
			x := slices.Clone(l)
			x[i] = form + part
			if isNumber(part) {
				wantNotRead(t, strings.Join(x, ""))
			}
		}
	}
}

// wantPut puts one, and holds what comes of it against what is wanted.
func wantPut(t *testing.T, p *order.Pool, o api.Op, want int, wantE api.Errno) {
	t.Helper()
	if n, e := p.Put(o); n != want || e != wantE {
		t.Errorf("Put(%s) = %d, %d, not %d, %d", show(o), n, e, want, wantE)
	}
}

// wantPool holds a pool's known vector, its delivered dots, and how many wait, against what is wanted.
func wantPool(t *testing.T, p *order.Pool, known, delivered string, waits int) {
	t.Helper()
	if k, d := text(p.Known()), places(p.Ops()); k != known || d != delivered || p.Waits() != waits {
		t.Errorf("Known %s, Ops %s, Waits %d, not %s, %s, %d", k, d, p.Waits(), known, delivered, waits)
	}
}

// state tells all that a pool answers.
func state(p *order.Pool) string {
	l, e := p.Behind(nil)
	return fmt.Sprint(text(p.Known()), " | ", showAll(p.Ops()), " | ", p.Waits(), " | ", showAll(l), e)
}

// wantUnchanged puts one that must be refused and change nothing.
func wantUnchanged(t *testing.T, p *order.Pool, o api.Op, e api.Errno) {
	t.Helper()
	before := state(p)
	wantPut(t, p, o, 0, e)
	if after := state(p); after != before {
		t.Errorf("Put(%s): %s became %s", show(o), before, after)
	}
}

func TestP82AsTheChapterSays(t *testing.T) {
	p := order.New()
	wantPool(t, p, "", "", 0)
	wantPut(t, p, add("a 2", "a 1"), 0, api.OK)
	wantPool(t, p, "", "", 1)
	wantPut(t, p, add("a 1", ""), 2, api.OK)
	wantPool(t, p, "a 2", "a 1, a 2", 0)
	wantPut(t, p, add("a 1", ""), 0, api.OK)
	wantUnchanged(t, p, changed(add("a 1", ""), func(o *api.Op) { o.Item = "tea" }), api.ErrClash)
	wantUnchanged(t, p, add("a 3", "a 1"), api.ErrArg)
	if l, e := p.Behind(dots("a 1")); places(l) != "a 2" || e != api.OK {
		t.Error(places(l), e)
	}
}

func TestP82NilPool(t *testing.T) {
	var p *order.Pool
	wantPut(t, p, add("a 1", ""), 0, api.ErrNil)
	wantPut(t, p, api.Op{}, 0, api.ErrNil)
}

func TestP82PoolsHaveNothingInCommon(t *testing.T) {
	p, q := order.New(), order.New()
	wantPut(t, p, add("a 1", ""), 1, api.OK)
	wantPut(t, p, add("b 2", "b 1"), 0, api.OK)
	wantPool(t, q, "", "", 0)
	wantPut(t, q, set("a 1", "", ""), 1, api.OK)
	wantPool(t, p, "a 1", "a 1", 1)
	var r order.Pool
	wantPool(t, &r, "", "", 0)
	wantPut(t, &r, add("b 1", "a 1"), 0, api.OK)
	wantPut(t, &r, add("a 1", ""), 2, api.OK)
}

func TestP82WrongOperationsChangeNothing(t *testing.T) {
	p := order.New()
	for name, o := range wrong() {
		before := t.Failed()
		wantUnchanged(t, p, o, api.ErrArg)
		if t.Failed() && !before {
			t.Fatal(name)
		}
	}
	wantPut(t, p, add("a 2", "a 1"), 0, api.OK)
	wantPut(t, p, add("b 1", ""), 1, api.OK)
	for _, o := range wrong() {
		wantUnchanged(t, p, o, api.ErrArg)
	}
}

func TestP82ValidOnesAreTaken(t *testing.T) {
	for _, o := range valid() {
		p := order.New()
		want := 0
		if len(o.Deps) == 0 {
			want = 1
		}
		wantPut(t, p, o, want, api.OK)
		if p.Waits() != 1-want || len(p.Ops()) != want || len(p.Known()) != want {
			t.Error(show(o), state(p))
		}
		wantUnchanged(t, p, o, api.OK)
	}
}

func TestP82WaitsForWhatItsMakerHad(t *testing.T) {
	for _, x := range []struct{ ops, many, delivered string }{
		{"a 1; b 1", "1 1", "a 1, b 1"},
		{"a 1; a 2 a 1; a 3 a 2", "1 1 1", "a 1, a 2, a 3"},
		{"a 3 a 2; a 2 a 1; a 1", "0 0 3", "a 1, a 2, a 3"},
		{"b 1 a 1; a 1", "0 2", "a 1, b 1"},
		// It waits for several: the last one of them delivers it.
		{"d 1 a 1, b 1, c 1; c 1; a 1; b 1", "0 1 1 2", "c 1, a 1, b 1, d 1"},
		{"d 1 a 2; a 1; a 2 a 1", "0 1 2", "a 1, a 2, d 1"},
		{"b 1 a 2; a 2 a 1; b 2 b 1; a 1", "0 0 0 4", "a 1, a 2, b 1, b 2"},
		// A chain through several makers, which arrives from its end on.
		{"e 1 d 1; d 1 c 1; c 1 b 1; b 1 a 1; a 1", "0 0 0 0 5", "a 1, b 1, c 1, d 1, e 1"},
		// One delivers many: in the order in which they arrived, not in that of their names.
		{"e 1 a 1; c 1 a 1; d 1 a 1; b 1 a 1; a 1", "0 0 0 0 5", "a 1, e 1, c 1, d 1, b 1"},
		// The first one that arrived goes first, also if a later one has made it deliverable.
		{"c 1 b 1; b 1 a 1; d 1 a 1; a 1", "0 0 0 4", "a 1, b 1, c 1, d 1"},
		{"e 1 c 1; d 1 a 1; c 1 a 1; b 1 a 1; a 1", "0 0 0 0 5", "a 1, d 1, c 1, e 1, b 1"},
		{"f 1 d 1; e 1 f 1; d 1 a 1; c 1 a 1; a 1; b 1", "0 0 0 0 5 1", "a 1, d 1, f 1, e 1, c 1, b 1"},
		// Some go on waiting.
		{"c 1 b 1; b 1 z 1; d 1 a 1; a 1", "0 0 0 2", "a 1, d 1"},
		{"a 3 a 2; a 1; b 1 a 3", "0 1 0", "a 1"},
		{"b 1 a 9; a 1; b 2 b 1", "0 1 0", "a 1"},
	} {
		p := order.New()
		var many []string
		put := 0
		for part := range strings.SplitSeq(x.ops, "; ") {
			place, deps := part, ""
			if l := strings.SplitN(part, " ", 3); len(l) == 3 {
				place, deps = l[0]+" "+l[1], l[2]
			}
			// Deps have its maker's own one before as well.
			if d := dots(place)[0]; d.N > 1 && !slices.ContainsFunc(dots(deps), func(x api.Dot) bool { return x.Who == d.Who }) {
				t.Fatal(part)
			}
			n, e := p.Put(add(place, deps))
			if e != api.OK {
				t.Fatal(x.ops, part, e)
			}
			many = append(many, fmt.Sprint(n))
			put++
		}
		if got := strings.Join(many, " "); got != x.many || places(p.Ops()) != x.delivered || p.Waits() != put-len(p.Ops()) {
			t.Errorf("%s: %s, %s, %d wait, not %s, %s", x.ops, got, places(p.Ops()), p.Waits(), x.many, x.delivered)
		}
	}
}

func TestP82ComesAgain(t *testing.T) {
	p := order.New()
	delivered, waiting := set("a 1", "b 1", "b 1"), set("a 3", "a 2, b 1", "a 1, b 1")
	wantPut(t, p, add("b 1", ""), 1, api.OK)
	wantPut(t, p, delivered, 1, api.OK)
	wantPut(t, p, waiting, 0, api.OK)
	for _, o := range []api.Op{delivered, waiting} {
		wantUnchanged(t, p, o, api.OK)
		wantUnchanged(t, p, changed(o, func(*api.Op) {}), api.OK)
		for _, change := range []func(o *api.Op){
			func(o *api.Op) { o.Deps = append(o.Deps, dot("z", 1)) },
			func(o *api.Op) { o.Deps[len(o.Deps)-1].N++ },
			func(o *api.Op) { o.Cart = "d" },
			func(o *api.Op) { o.Item = "tea" },
			func(o *api.Op) { o.Kind, o.Qty = api.KRemove, 0 },
			func(o *api.Op) { o.Kind, o.Seen = api.KAdd, nil },
			func(o *api.Op) { o.Qty++ },
			func(o *api.Op) { o.Seen = nil },
			func(o *api.Op) { o.Seen = o.Seen[1:] },
		} {
			if x := changed(o, change); !order.Right(x) {
				t.Fatal(show(x))
			} else {
				wantUnchanged(t, p, x, api.ErrClash)
			}
		}
		wantUnchanged(t, p, changed(o, func(o *api.Op) { o.Cart = "" }), api.ErrArg)
	}
	wantPut(t, p, add("a 2", "a 1"), 2, api.OK)
	wantUnchanged(t, p, waiting, api.OK)
	wantUnchanged(t, p, changed(waiting, func(o *api.Op) { o.Item = "tea" }), api.ErrClash)
	if l := p.Ops(); showAll(l) != showAll([]api.Op{add("b 1", ""), delivered, add("a 2", "a 1"), waiting}) {
		t.Error(showAll(l))
	}
}

func TestP82ClashOfAnotherCart(t *testing.T) {
	p := order.New()
	wantPut(t, p, add("a 1", ""), 1, api.OK)
	wantUnchanged(t, p, changed(add("a 1", ""), func(o *api.Op) { o.Cart = "d" }), api.ErrClash)
	wantPut(t, p, changed(add("a 2", "a 1"), func(o *api.Op) { o.Cart = "d" }), 1, api.OK)
}

// filled is a pool that knows the first ones of so many Whos.
func filled(t *testing.T, many int) *order.Pool {
	t.Helper()
	p := order.New()
	for i := range many {
		wantPut(t, p, add(fmt.Sprintf("k%03d 1", i), ""), 1, api.OK)
	}
	if text(p.Known()) != text(row("k", 0, many, 1)) {
		t.Fatal(text(p.Known()))
	}
	return p
}

func TestP82Room(t *testing.T) {
	p := filled(t, 63)
	wantPut(t, p, add("z 2", "z 1"), 0, api.OK)
	wantPut(t, p, add("y 1", "a 1"), 0, api.OK)
	wantPut(t, p, add("z 1", ""), 2, api.OK)
	if len(p.Known()) != 64 || p.Waits() != 1 {
		t.Fatal(state(p))
	}
	// Whoever is new has no room, whether it is deliverable or not; who is known goes on.
	wantUnchanged(t, p, add("a 1", ""), api.ErrVector)
	wantUnchanged(t, p, add("a 1", "z 2"), api.ErrVector)
	wantUnchanged(t, p, add("a 1", "z 3"), api.ErrVector)
	wantUnchanged(t, p, add("a 2", "a 1"), api.ErrVector)
	wantUnchanged(t, p, add("zz 1", "a 1"), api.ErrVector)
	wantUnchanged(t, p, add("y 2", "y 1"), api.ErrVector)
	wantUnchanged(t, p, add("y 1", "a 1"), api.OK)
	wantUnchanged(t, p, add("y 1", "a 2"), api.ErrClash)
	wantUnchanged(t, p, add("y 2", ""), api.ErrArg)
	wantUnchanged(t, p, add("k000 1", ""), api.OK)
	wantPut(t, p, add("k000 2", "k000 1"), 1, api.OK)
	wantPut(t, p, add("k062 3", "k062 2"), 0, api.OK)
	wantPut(t, p, add("k062 2", "k062 1, z 2"), 2, api.OK)
	wantPut(t, p, add("k001 2", "a 1, k001 1"), 0, api.OK)
	wantPut(t, p, add("z 4", "z 3"), 0, api.OK)
	wantPut(t, p, add("z 3", "z 2"), 2, api.OK)
	if p.Waits() != 2 || len(p.Known()) != 64 {
		t.Error(state(p))
	}
}

func TestP82RoomThatRunsOutMeanwhile(t *testing.T) {
	p := filled(t, 62)
	for _, o := range []api.Op{add("x 2", "x 1"), add("x 1", "k061 2"), add("y 1", "k061 2"), add("k000 2", "k000 1, x 2"), add("w 1", ""), add("w 2", "k061 2, w 1")} {
		if o.Dot != dot("w", 1) {
			wantPut(t, p, o, 0, api.OK)
		}
	}
	wantPut(t, p, add("v 1", "k061 2"), 0, api.OK)
	// x is the 63rd one and y the 64th one: v and w have no room, k000 needs none.
	wantPut(t, p, add("k061 2", "k061 1"), 5, api.OK)
	want := places(filled(t, 62).Ops()) + ", k061 2, x 1, x 2, y 1, k000 2"
	if got := places(p.Ops()); got != want || p.Waits() != 2 || len(p.Known()) != 64 {
		t.Errorf("%s, %d wait", got, p.Waits())
	}
	wantUnchanged(t, p, add("v 1", "k061 2"), api.OK)
	wantUnchanged(t, p, add("v 1", "k061 1"), api.ErrClash)
	wantUnchanged(t, p, add("w 1", ""), api.ErrVector)
	// Those that have no room don't keep later ones from being delivered.
	wantPut(t, p, add("k005 3", "k005 2"), 0, api.OK)
	wantPut(t, p, add("k005 2", "k005 1"), 2, api.OK)
	if p.Waits() != 2 {
		t.Error(p.Waits(), "wait")
	}
}

func TestP82RoomOfTheFirstThatWaits(t *testing.T) {
	p := filled(t, 62)
	for _, o := range []api.Op{add("z 1", "y 1"), add("x 1", "y 1"), add("a 1", "y 1"), add("k000 2", "k000 1, y 1")} {
		wantPut(t, p, o, 0, api.OK)
	}
	wantPut(t, p, add("y 1", "k000 1"), 3, api.OK)
	want := places(filled(t, 62).Ops()) + ", y 1, z 1, k000 2"
	if got := places(p.Ops()); got != want || p.Waits() != 2 {
		t.Errorf("%s, %d wait", got, p.Waits())
	}
}

func TestP82HowManyWait(t *testing.T) {
	p := order.New()
	for i := range 255 {
		wantPut(t, p, add(fmt.Sprintf("a %d", i+3), fmt.Sprintf("a %d", i+2)), 0, api.OK)
	}
	if p.Waits() != 255 {
		t.Fatal(p.Waits())
	}
	wantPut(t, p, add("b 1", "a 1"), 0, api.OK)
	if p.Waits() != 256 {
		t.Fatal(p.Waits())
	}
	wantUnchanged(t, p, add("a 258", "a 257"), api.ErrWait)
	wantUnchanged(t, p, add("c 1", "a 1"), api.ErrWait)
	wantUnchanged(t, p, add("a 3", "a 2"), api.OK)
	wantUnchanged(t, p, add("a 3", "a 2, b 1"), api.ErrClash)
	wantUnchanged(t, p, add("c 3", "a 2"), api.ErrArg)
	wantPut(t, p, add("c 1", ""), 1, api.OK)
	wantUnchanged(t, p, add("d 1", "a 1"), api.ErrWait)
	wantPut(t, p, add("a 1", ""), 2, api.OK)
	wantPut(t, p, add("d 1", "a 2"), 0, api.OK)
	wantUnchanged(t, p, add("e 1", "a 2"), api.ErrWait)
	wantPut(t, p, add("a 2", "a 1"), 257, api.OK)
	wantPool(t, p, "a 257, b 1, c 1, d 1", "c 1, a 1, b 1, "+text(seen("a", 257)[1:])+", d 1", 0)
}

func TestP82NoRoomGoesAheadOfTooManyWaiting(t *testing.T) {
	p := filled(t, 64)
	for i := range 256 {
		wantPut(t, p, add(fmt.Sprintf("k000 %d", i+3), fmt.Sprintf("k000 %d", i+2)), 0, api.OK)
	}
	wantUnchanged(t, p, add("a 1", "b 1"), api.ErrVector)
	wantUnchanged(t, p, add("k001 2", "b 1, k001 1"), api.ErrWait)
	wantPut(t, p, add("k001 2", "k001 1"), 1, api.OK)
	wantPut(t, p, add("k000 2", "k000 1"), 257, api.OK)
}

func TestP83NilPool(t *testing.T) {
	var p *order.Pool
	if len(p.Known()) != 0 || len(p.Ops()) != 0 || p.Waits() != 0 {
		t.Error("a nil pool has something")
	}
	for _, v := range [][]api.Dot{nil, dots("a 1"), dots("A 1")} {
		if l, e := p.Behind(v); len(l) != 0 || e != api.ErrNil {
			t.Error(text(v), places(l), e)
		}
	}
}

func wantBehind(t *testing.T, p *order.Pool, v []api.Dot, want string) {
	t.Helper()
	if l, e := p.Behind(v); places(l) != want || e != api.OK {
		t.Errorf("Behind(%s) = %s, %d, not %s", text(v), places(l), e, want)
	}
}

func TestP83Behind(t *testing.T) {
	p := order.New()
	wantBehind(t, p, nil, "")
	wantBehind(t, p, dots("a 1"), "")
	for _, o := range []api.Op{add("b 1", ""), add("c 2", "c 1"), add("a 1", ""), remove("b 2", "a 1, b 1", "a 1"), set("a 2", "a 1, b 2", "a 1"), add("b 3", "b 2"), add("d 2", "d 1")} {
		p.Put(o)
	}
	wantPool(t, p, "a 2, b 3", "b 1, a 1, b 2, a 2, b 3", 2)
	for v, want := range map[string]string{
		"":         "b 1, a 1, b 2, a 2, b 3",
		"a 2, b 3": "",
		"a 1":      "b 1, b 2, a 2, b 3",
		"a 2":      "b 1, b 2, b 3",
		"b 1":      "a 1, b 2, a 2, b 3",
		"b 2":      "a 1, a 2, b 3",
		"a 1, b 1": "b 2, a 2, b 3",
		"a 1, b 3": "a 2",
		"a 2, b 2": "b 3",
		// What the pool doesn't know makes no difference, nor what just waits.
		"x 1":                     "b 1, a 1, b 2, a 2, b 3",
		"c 1":                     "b 1, a 1, b 2, a 2, b 3",
		"c 9, d 9":                "b 1, a 1, b 2, a 2, b 3",
		"a 9, x 4":                "b 1, b 2, b 3",
		"a 4611686018427387904":   "b 1, b 2, b 3",
		"a 2, b 3, c 1, d 1, z 1": "",
		"aa 7, b 3":               "a 1, a 2",
	} {
		wantBehind(t, p, dots(v), want)
	}
	wantBehind(t, p, p.Known(), "")
	wantBehind(t, p, row("k", 0, 64, 1), "b 1, a 1, b 2, a 2, b 3")
	l, _ := p.Behind(dots("a 1, b 1"))
	if want := showAll([]api.Op{remove("b 2", "a 1, b 1", "a 1"), set("a 2", "a 1, b 2", "a 1"), add("b 3", "b 2")}); showAll(l) != want {
		t.Errorf("%s, not %s", showAll(l), want)
	}
}

func TestP83BehindWhatIsNoVector(t *testing.T) {
	p := order.New()
	p.Put(add("a 1", ""))
	for _, v := range [][]api.Dot{
		dots("a 0"), dots("a -1"), dots("a 4611686018427387905"), dots("A 1"), dots("a 1, a 1"), dots("a 1, a 2"), dots("b 1, a 1"), make([]api.Dot, 1),
		{dot("", 1)}, {dot(strings.Repeat("a", 25), 1)}, row("k", 0, 65, 1), dots("x 1, z 0"),
	} {
		if l, e := p.Behind(v); len(l) != 0 || e != api.ErrArg {
			t.Errorf("Behind(%s) = %s, %d", text(v), places(l), e)
		}
	}
}

func TestP83OpsAreWhatWasPut(t *testing.T) {
	p := order.New()
	var want []api.Op
	for i := range 40 {
		o := remove(fmt.Sprintf("a %d", i+1), "", "")
		o.Cart, o.Item = fmt.Sprint("cart\xff", i%3), strings.Repeat("\x00", 1+i%32)
		if i > 0 {
			o.Deps = dots(fmt.Sprintf("a %d", i))
			o.Seen = seen("a", i)
		}
		want = append(want, o)
	}
	for _, o := range slices.Backward(want) {
		p.Put(o)
	}
	if got := p.Ops(); showAll(got) != showAll(want) {
		t.Errorf("%s, not %s", showAll(got), showAll(want))
	}
}

// spoil writes over dots, and over the room behind them.
func spoil(l []api.Dot) {
	for i := range l[:cap(l)] {
		l[:cap(l)][i] = dot("spoilt", -7)
	}
}

func TestP82PutKeepsNoArgument(t *testing.T) {
	deps := append(make([]api.Dot, 0, 8), dots("a 2, b 1")...)
	gone := append(make([]api.Dot, 0, 8), dots("a 1, b 1")...)
	for _, waits := range []bool{true, false} {
		p := order.New()
		if !waits {
			p.Put(add("a 1", ""))
			p.Put(add("a 2", "a 1"))
			p.Put(add("b 1", ""))
		}
		o := changed(set("c 1", "", ""), func(o *api.Op) { o.Deps, o.Seen = slices.Clone(deps), slices.Clone(gone) })
		same := changed(o, func(*api.Op) {})
		p.Put(o)
		spoil(o.Deps)
		spoil(o.Seen)
		if waits {
			wantPut(t, p, add("b 1", ""), 1, api.OK)
			wantPut(t, p, add("a 1", ""), 1, api.OK)
			wantPut(t, p, add("a 2", "a 1"), 2, api.OK)
		}
		wantUnchanged(t, p, same, api.OK)
		if l, e := p.Behind(dots("a 2, b 1")); showAll(l) != show(same) || e != api.OK {
			t.Errorf("%s, %d, not %s", showAll(l), e, show(same))
		}
	}
}

func TestP82NothingWritesArguments(t *testing.T) {
	whole := func(o api.Op) string {
		return show(o) + text(o.Deps[:cap(o.Deps)]) + text(o.Seen[:cap(o.Seen)])
	}
	p := order.New()
	p.Put(add("a 1", ""))
	for _, o := range valid() {
		room := make([]api.Dot, 0, 200)
		o.Deps = append(room, o.Deps...)
		o.Seen = append(slices.Clone(room), o.Seen...)
		o.Deps[:cap(o.Deps)][199] = dot("spare", 1)
		before := whole(o)
		order.Right(o)
		order.Same(o, o)
		order.Lay(o)
		p.Put(o)
		p.Put(o)
		p.Behind(o.Deps)
		if whole(o) != before {
			t.Errorf("%s became %s", before, whole(o))
		}
	}
}

func TestP83AnswersAreNewMemory(t *testing.T) {
	p := order.New()
	for _, o := range []api.Op{add("a 1", ""), set("b 1", "a 1", "a 1"), remove("a 2", "a 1, b 1", "a 1, b 1"), remove("z 2", "a 2, b 1, z 1", "a 1")} {
		p.Put(o)
	}
	before := state(p)
	spoil(p.Known())
	for _, ask := range []func() []api.Op{
		p.Ops,
		func() []api.Op { l, _ := p.Behind(nil); return l },
		func() []api.Op { l, _ := p.Behind(dots("a 1")); return l },
	} {
		l := ask()
		for i := range l {
			// No two lists of one answer share memory: what is written into one is not in another one.
			spoil(l[i].Deps)
			spoil(l[i].Seen)
			if i+1 < len(l) && strings.Contains(show(l[i+1]), "spoilt") {
				t.Error("shared", show(l[i+1]))
			}
		}
		for i := range l[:cap(l)] {
			l[:cap(l)][i] = api.Op{}
		}
		if after := state(p); after != before {
			t.Errorf("%s became %s", before, after)
		}
	}
	wantPut(t, p, add("z 1", ""), 2, api.OK)
	if l := p.Ops(); show(l[4]) != show(remove("z 2", "a 2, b 1, z 1", "a 1")) {
		t.Error(show(l[4]))
	}
}

func TestP81ReadAnswersNewMemory(t *testing.T) {
	s := laid(set("b 1", "a 3", "a 1, a 2"))
	x, _ := order.Read(s)
	y, _ := order.Read(s)
	spoil(x.Deps)
	if text(x.Seen) != "a 1, a 2" {
		t.Error("Deps and Seen share memory")
	}
	spoil(x.Seen)
	if laid(y) != s {
		t.Error(show(y))
	}
}

// model is a pool as the chapter tells it, without regard to how long it takes.
type model struct{ delivered, waiting []api.Op }

func (m *model) known() map[string]int64 {
	out := map[string]int64{}
	for _, o := range m.delivered {
		out[o.Dot.Who] = max(out[o.Dot.Who], o.Dot.N)
	}
	return out
}

func (m *model) room(o api.Op) bool {
	k := m.known()
	k[o.Dot.Who] = o.Dot.N
	return len(k) <= 64
}

func (m *model) deliverable(o api.Op) bool {
	k := m.known()
	return !slices.ContainsFunc(o.Deps, func(d api.Dot) bool { return k[d.Who] < d.N })
}

func (m *model) put(o api.Op) (int, api.Errno) {
	for _, x := range slices.Concat(m.delivered, m.waiting) {
		if x.Dot == o.Dot && show(x) == show(o) {
			return 0, api.OK
		}
		if x.Dot == o.Dot {
			return 0, api.ErrClash
		}
	}
	switch {
	case !m.room(o):
		return 0, api.ErrVector
	case !m.deliverable(o) && len(m.waiting) == 256:
		return 0, api.ErrWait
	case !m.deliverable(o):
		m.waiting = append(m.waiting, o)
		return 0, api.OK
	}
	m.delivered = append(m.delivered, o)
	many := 1
	for {
		i := slices.IndexFunc(m.waiting, func(x api.Op) bool { return m.deliverable(x) && m.room(x) })
		if i < 0 {
			return many, api.OK
		}
		m.delivered = append(m.delivered, m.waiting[i])
		m.waiting = slices.Delete(m.waiting, i, i+1)
		many++
	}
}

// history makes operations of some makers, each of which knows part of what was made before.
func history(r *rand.Rand, makers, many int) []api.Op {
	var out []api.Op
	had := make([]*order.Pool, makers)
	for i := range had {
		had[i] = order.New()
	}
	for range many {
		me := r.Intn(makers)
		for _, o := range out {
			if r.Intn(4) == 0 {
				had[me].Put(o)
			}
		}
		deps := had[me].Known()
		who := fmt.Sprintf("m%02d", me)
		o := set(who+" 1", text(deps), "")
		for _, d := range deps {
			if d.Who == who {
				o.Dot.N = d.N + 1
			}
			if r.Intn(2) == 0 {
				o.Seen = append(o.Seen, dot(d.Who, 1+r.Int63n(d.N)))
			}
		}
		o.Qty = 1 + r.Int63n(9999)
		if _, e := had[me].Put(o); e == api.OK {
			out = append(out, o)
		}
	}
	return out
}

func wantModel(t *testing.T, p *order.Pool, m *model, o api.Op) {
	t.Helper()
	n, e := p.Put(o)
	if wantN, wantE := m.put(o); n != wantN || e != wantE {
		t.Fatalf("Put(%s) = %d, %d, not %d, %d", show(o), n, e, wantN, wantE)
	}
	if p.Waits() != len(m.waiting) || len(p.Known()) != len(m.known()) {
		t.Fatalf("%d wait, not %d; Known %s", p.Waits(), len(m.waiting), text(p.Known()))
	}
}

func wantModelAtLast(t *testing.T, p *order.Pool, m *model) {
	t.Helper()
	if showAll(p.Ops()) != showAll(m.delivered) {
		t.Fatalf("%s, not %s", places(p.Ops()), places(m.delivered))
	}
	k := m.known()
	for i, d := range p.Known() {
		if d.N != k[d.Who] || i > 0 && p.Known()[i-1].Who >= d.Who {
			t.Fatal(text(p.Known()))
		}
	}
}

func TestP82AsTheModelDoes(t *testing.T) {
	r := rand.New(rand.NewSource(81))
	for range 150 {
		l := history(r, 1+r.Intn(6), 1+r.Intn(40))
		p, m := order.New(), &model{}
		for range 2 {
			r.Shuffle(len(l), func(i, j int) { l[i], l[j] = l[j], l[i] })
			for _, o := range l {
				if r.Intn(9) == 0 {
					o.Qty = 1 + o.Qty%9999
				}
				wantModel(t, p, m, o)
			}
		}
		wantModelAtLast(t, p, m)
	}
}

func TestP82AsTheModelDoesAtTheLimits(t *testing.T) {
	r := rand.New(rand.NewSource(82))
	refused := map[api.Errno]int{}
	for range 4 {
		p, m := order.New(), &model{}
		for range 1500 {
			o := add(fmt.Sprintf("k%02d 1", r.Intn(70)), "")
			if r.Intn(6) > 0 {
				o.Dot.N = 2 + r.Int63n(11)
				o.Deps = []api.Dot{dot(o.Dot.Who, o.Dot.N-1)}
			}
			if r.Intn(40) == 0 {
				o.Deps = append(o.Deps, dot("z", 1))
			}
			wantModel(t, p, m, o)
			_, e := p.Put(o)
			refused[e]++
		}
		wantModelAtLast(t, p, m)
	}
	for _, e := range []api.Errno{api.OK, api.ErrVector, api.ErrWait} {
		if refused[e] == 0 {
			t.Error("never", e)
		}
	}
}

// permutations yields all orders of a list, in the list itself.
func permutations(l []api.Op, yield func()) {
	if len(l) < 2 {
		yield()
		return
	}
	for i := range l {
		l[0], l[i] = l[i], l[0]
		permutations(l[1:], yield)
		l[0], l[i] = l[i], l[0]
	}
}

// sorted tells operations, whatever their order.
func sorted(l []api.Op) string {
	var out []string
	for _, o := range l {
		out = append(out, show(o))
	}
	slices.Sort(out)
	return strings.Join(out, " ")
}

// wantCausal fails unless each operation is delivered behind all that its Deps have.
func wantCausal(t *testing.T, l []api.Op) {
	t.Helper()
	have := map[api.Dot]bool{}
	for _, o := range l {
		for _, d := range o.Deps {
			for n := int64(1); n <= d.N; n++ {
				if !have[dot(d.Who, n)] {
					t.Fatalf("%s comes ahead of %s %d", show(o), d.Who, n)
				}
			}
		}
		have[o.Dot] = true
	}
}

func TestP84EachOrderOfArrivalDeliversTheSame(t *testing.T) {
	for _, l := range [][]api.Op{
		{add("a 1", ""), add("a 2", "a 1"), add("b 1", "a 1"), remove("b 2", "a 2, b 1", "a 1, b 1"), set("c 1", "b 1", "b 1"), add("a 3", "a 2, c 1")},
		{add("a 1", ""), add("b 1", ""), add("c 1", ""), add("d 1", "a 1, b 1, c 1"), add("a 2", "a 1, d 1"), add("b 2", "b 1, x 1")},
		{add("a 2", "a 1"), add("a 3", "a 2"), add("b 1", "a 3"), add("c 1", ""), add("c 2", "c 1"), add("d 1", "c 2")},
	} {
		want := ""
		permutations(l, func() {
			p := order.New()
			many := 0
			for _, o := range l {
				n, e := p.Put(o)
				if e != api.OK {
					t.Fatal(show(o), e)
				}
				many += n
			}
			got := p.Ops()
			wantCausal(t, got)
			if want == "" {
				want = sorted(got)
			}
			if sorted(got) != want || many != len(got) || p.Waits() != len(l)-many {
				t.Fatalf("%s: %s", places(l), places(got))
			}
		})
	}
}

func TestP84RandomHistories(t *testing.T) {
	r := rand.New(rand.NewSource(84))
	for _, makers := range []int{1, 2, 3, 8, 64} {
		l := history(r, makers, 200)
		for range 6 {
			r.Shuffle(len(l), func(i, j int) { l[i], l[j] = l[j], l[i] })
			p := order.New()
			for i, o := range l {
				if _, e := p.Put(o); e != api.OK {
					t.Fatal(show(o), e)
				}
				p.Put(l[r.Intn(i+1)])
			}
			wantCausal(t, p.Ops())
			if sorted(p.Ops()) != sorted(l) || p.Waits() != 0 {
				t.Fatalf("%d of %d delivered, %d wait", len(p.Ops()), len(l), p.Waits())
			}
		}
	}
}

func TestP84TellingWhatIsBehindConverges(t *testing.T) {
	r := rand.New(rand.NewSource(85))
	l := history(r, 5, 60)
	a, b := order.New(), order.New()
	for i, o := range l {
		if i%2 == 0 {
			a.Put(o)
		} else {
			b.Put(o)
		}
	}
	for range 60 {
		for _, x := range [][2]*order.Pool{{a, b}, {b, a}} {
			lacks, _ := x[0].Behind(x[1].Known())
			for _, o := range lacks {
				if _, e := x[1].Put(o); e != api.OK {
					t.Fatal(e)
				}
			}
		}
	}
	if sorted(a.Ops()) != sorted(l) || sorted(b.Ops()) != sorted(l) {
		t.Error(places(a.Ops()), "and", places(b.Ops()))
	}
}

func TestP84EncodingsDiffer(t *testing.T) {
	have := map[string]string{}
	for _, o := range valid() {
		s, _ := order.Lay(o)
		if other, twice := have[s]; twice {
			t.Errorf("%x of %s and of %s", s, other, show(o))
		}
		have[s] = show(o)
	}
}

// wantCanonical fails if bytes are read as an operation that is laid in another way.
func wantCanonical(t *testing.T, s string) bool {
	t.Helper()
	o, e := order.Read(s)
	if e != api.OK {
		if show(o) != show(api.Op{}) || e != api.ErrOp {
			t.Fatalf("%x: %s, %d", s, show(o), e)
		}
		return false
	}
	if again, e := order.Lay(o); again != s || e != api.OK {
		t.Fatalf("%x is read as %s, which is laid as %x", s, show(o), again)
	}
	return true
}

func TestP84NoOtherBytesAreAnOperation(t *testing.T) {
	read := 0
	for _, o := range valid() {
		s := laid(o)
		if len(s) > 120 {
			continue
		}
		for i := range len(s) {
			for x := range 256 {
				b := []byte(s)
				b[i] = byte(x)
				if wantCanonical(t, string(b)) {
					read++
				}
			}
			wantCanonical(t, s[:i]+s[i+1:])
			wantCanonical(t, s[:i]+"\x01"+s[i:])
			wantCanonical(t, s[:i]+"\x80"+s[i:])
		}
	}
	if read < 1000 {
		t.Error("only", read, "were operations")
	}
}
