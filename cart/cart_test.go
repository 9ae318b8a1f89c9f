package cart_test

import (
	"encoding/binary"
	"fmt"
	"math"
	"math/rand"
	"slices"
	"strconv"
	"strings"
	"testing"

	"pannier/api"
	"pannier/cart"
	"pannier/order"
)

const top = int64(1) << 62

func dot(who string, n int64) api.Dot { return api.Dot{Who: who, N: n} }

// dots reads dots, whether they are a vector or not, of a text such as "a 2, b 3".
func dots(s string) []api.Dot {
	var out []api.Dot
	for part := range strings.SplitSeq(s, ", ") {
		if s == "" {
			break
		}
		who, number, _ := strings.Cut(part, " ")
		n, err := strconv.ParseInt(number, 10, 64)
		if err != nil {
			panic(err)
		}
		out = append(out, dot(who, n))
	}
	return out
}

func text(l []api.Dot) string {
	var out []string
	for _, d := range l {
		out = append(out, fmt.Sprint(d.Who, " ", d.N))
	}
	return strings.Join(out, ", ")
}

// show tells all of an operation.
func show(o api.Op) string {
	return fmt.Sprintf("{%s %d; %s; %q %d %q %d; %s}", o.Dot.Who, o.Dot.N, text(o.Deps), o.Cart, o.Kind, o.Item, o.Qty, text(o.Seen))
}

func showAll(l []api.Op) string {
	var out []string
	for _, o := range l {
		out = append(out, show(o))
	}
	return strings.Join(out, " ")
}

// entries tells all of live entries, such as "a 1 c milk 2".
func entries(l []api.Live) string {
	var out []string
	for _, x := range l {
		out = append(out, fmt.Sprintf("%s %d %s %s %d", x.Dot.Who, x.Dot.N, x.Cart, x.Item, x.Qty))
	}
	return strings.Join(out, ", ")
}

// all tells all of a state, such as "a 1 | a 1 c milk 2".
func all(s api.State) string { return text(s.Known) + " | " + entries(s.Live) }

// lines tells a view, such as "milk 5, tea 1".
func lines(l []api.Line) string {
	var out []string
	for _, x := range l {
		out = append(out, fmt.Sprint(x.Item, " ", x.Qty))
	}
	return strings.Join(out, ", ")
}

// row are the first dots of the names that begin with a letter and end with the numbers from, .., to - 1.
func row(letter string, from, to int) []api.Dot {
	var out []api.Dot
	for i := from; i < to; i++ {
		out = append(out, dot(fmt.Sprintf("%s%03d", letter, i), 1))
	}
	return out
}

// add makes an operation that adds to the cart c, of texts such as "a 2" and "a 1, b 3".
func add(place, deps string, qty int64, item string) api.Op {
	return api.Op{Dot: dots(place)[0], Deps: dots(deps), Cart: "c", Kind: api.KAdd, Item: item, Qty: qty}
}

func set(place, deps, gone string, qty int64, item string) api.Op {
	o := add(place, deps, qty, item)
	o.Kind, o.Seen = api.KSet, dots(gone)
	return o
}

func remove(place, deps, gone, item string) api.Op {
	o := set(place, deps, gone, 0, item)
	o.Kind = api.KRemove
	return o
}

// in is an operation on another cart.
func in(name string, o api.Op) api.Op {
	o.Cart = name
	return o
}

// changed is an operation with one thing changed, of which it shares no dots.
func changed(o api.Op, change func(o *api.Op)) api.Op {
	o.Deps, o.Seen = slices.Clone(o.Deps), slices.Clone(o.Seen)
	change(&o)
	return o
}

// live makes an entry of the cart c, of a text such as "a 2".
func live(place, item string, qty int64) api.Live {
	return api.Live{Dot: dots(place)[0], Cart: "c", Item: item, Qty: qty}
}

// made reads a state of a text such as "a 2, b 1 | a 1 c milk 2, b 1 c tea 1".
func made(s string) api.State {
	known, rest, _ := strings.Cut(s, " | ")
	out := api.State{Known: dots(known)}
	for part := range strings.SplitSeq(rest, ", ") {
		if rest == "" {
			break
		}
		f := strings.Fields(part)
		qty, err := strconv.ParseInt(f[4], 10, 64)
		if err != nil {
			panic(err)
		}
		out.Live = append(out.Live, api.Live{Dot: dots(f[0] + " " + f[1])[0], Cart: f[2], Item: f[3], Qty: qty})
	}
	return out
}

// of is the state of operations that have one.
func of(t *testing.T, l ...api.Op) api.State {
	t.Helper()
	s, e := cart.Of(l)
	if e != api.OK {
		t.Fatal("Of:", e, showAll(l))
	}
	return s
}

func wantView(t *testing.T, l []api.Op, name, want string) {
	t.Helper()
	if v, e := cart.View(l, name); lines(v) != want || e != api.OK {
		t.Errorf("View(%s, %q) = %s, %d, not %s", showAll(l), name, lines(v), e, want)
	}
}

func wantLiving(t *testing.T, l []api.Op, name, item, want string) {
	t.Helper()
	if d, e := cart.Living(l, name, item); text(d) != want || e != api.OK {
		t.Errorf("Living(%s, %q, %q) = %s, %d, not %s", showAll(l), name, item, text(d), e, want)
	}
}

// wantNoList holds against the calls that take lists that one is not valid.
func wantNoList(t *testing.T, why string, l []api.Op) {
	t.Helper()
	if v, e := cart.View(l, "c"); len(v) != 0 || e != api.ErrArg {
		t.Errorf("%s: View = %s, %d", why, lines(v), e)
	}
	if d, e := cart.Living(l, "c", "milk"); len(d) != 0 || e != api.ErrArg {
		t.Errorf("%s: Living = %s, %d", why, text(d), e)
	}
	wantNoState(t, why+": Of", api.ErrArg)(cart.Of(l))
}

// wantNoState holds what a call answered against an error.
func wantNoState(t *testing.T, call string, want api.Errno) func(s api.State, e api.Errno) {
	t.Helper()
	return func(s api.State, e api.Errno) {
		t.Helper()
		if len(s.Known) != 0 || len(s.Live) != 0 || e != want {
			t.Errorf("%s = %s, %d, not %d", call, all(s), e, want)
		}
	}
}

func wantState(t *testing.T, call, want string) func(s api.State, e api.Errno) {
	t.Helper()
	return func(s api.State, e api.Errno) {
		t.Helper()
		if all(s) != want || e != api.OK {
			t.Errorf("%s = %s, %d, not %s", call, all(s), e, want)
		}
		if !cart.Right(s) {
			t.Errorf("%s = %s, which is not valid", call, all(s))
		}
	}
}

// milk are the operations of the chapter's examples.
func milk() []api.Op {
	return []api.Op{add("a 1", "", 2, "milk"), add("b 1", "", 3, "milk"), set("a 2", "a 1", "a 1", 1, "milk"), remove("b 2", "b 1", "b 1", "milk")}
}

func TestP91AsTheChapterSays(t *testing.T) {
	l := milk()
	wantView(t, l[:2], "c", "milk 5")
	wantView(t, l[:3], "c", "milk 4")
	wantView(t, l, "c", "milk 1")
	wantView(t, []api.Op{add("a 1", "", 9999, "tea"), add("b 1", "", 1, "tea")}, "c", "tea 9999")
	wantLiving(t, l[:2], "c", "milk", "a 1, b 1")
	wantLiving(t, l[:3], "c", "milk", "a 2, b 1")
	wantLiving(t, l, "c", "milk", "a 2")
}

func TestP91OneWhoDidNotKnow(t *testing.T) {
	// The whole document's seventh example: what the one who sets has not received goes on living.
	l := []api.Op{add("a 1", "", 2, "milk"), add("b 1", "", 3, "milk"), set("a 2", "a 1", "a 1", 1, "milk")}
	wantView(t, l, "c", "milk 4")
	wantView(t, []api.Op{l[0], l[1], set("a 2", "a 1, b 1", "a 1, b 1", 1, "milk")}, "c", "milk 1")
	wantView(t, []api.Op{l[0], l[1], set("a 2", "a 1, b 1", "a 1", 1, "milk")}, "c", "milk 4")
}

func TestP91FewOperations(t *testing.T) {
	a1, b1 := add("a 1", "", 2, "milk"), add("b 1", "", 3, "milk")
	for name, x := range map[string]struct {
		l            []api.Op
		view, living string
	}{
		"none":                      {nil, "", ""},
		"one that adds":             {[]api.Op{a1}, "milk 2", "a 1"},
		"one that sets":             {[]api.Op{set("a 1", "", "", 7, "milk")}, "milk 7", "a 1"},
		"one that removes":          {[]api.Op{remove("a 1", "", "", "milk")}, "", ""},
		"twice the same":            {[]api.Op{a1, a1}, "milk 2", "a 1"},
		"twice the same, apart":     {[]api.Op{a1, b1, a1, b1, a1}, "milk 5", "a 1, b 1"},
		"set anew":                  {[]api.Op{a1, set("a 2", "a 1", "a 1", 7, "milk")}, "milk 7", "a 2"},
		"set anew, told first":      {[]api.Op{set("a 2", "a 1", "a 1", 7, "milk"), a1}, "milk 7", "a 2"},
		"set without seeing":        {[]api.Op{a1, set("a 2", "a 1", "", 7, "milk")}, "milk 9", "a 1, a 2"},
		"set twice":                 {[]api.Op{a1, set("a 2", "a 1", "a 1", 7, "milk"), set("a 3", "a 2", "a 2", 8, "milk")}, "milk 8", "a 3"},
		"set by two":                {[]api.Op{a1, set("a 2", "a 1", "a 1", 7, "milk"), set("b 1", "a 1", "a 1", 8, "milk")}, "milk 15", "a 2, b 1"},
		"the removed stays removed": {[]api.Op{a1, set("a 2", "a 1", "a 1", 7, "milk"), remove("a 3", "a 2", "a 2", "milk")}, "", ""},
		"removed":                   {[]api.Op{a1, remove("a 2", "a 1", "a 1", "milk")}, "", ""},
		"removed, told first":       {[]api.Op{remove("a 2", "a 1", "a 1", "milk"), a1}, "", ""},
		"removed by another":        {[]api.Op{a1, b1, remove("b 2", "a 1, b 1", "a 1", "milk")}, "milk 3", "b 1"},
		"removed by several":        {[]api.Op{a1, remove("b 1", "a 1", "a 1", "milk"), set("c 1", "a 1", "a 1", 4, "milk"), remove("a 2", "a 1", "a 1", "milk")}, "milk 4", "c 1"},
		"all removed":               {[]api.Op{a1, b1, remove("a 2", "a 1, b 1", "a 1, b 1", "milk")}, "", ""},
		"removed, and added again":  {[]api.Op{a1, remove("a 2", "a 1", "a 1", "milk"), add("a 3", "a 2", 5, "milk")}, "milk 5", "a 3"},
		"nothing removed":           {[]api.Op{a1, remove("a 2", "a 1", "", "milk")}, "milk 2", "a 1"},
		"a removal removed":         {[]api.Op{a1, remove("a 2", "a 1", "a 1", "milk"), remove("a 3", "a 2", "a 2", "milk")}, "", ""},
		"of another item only":      {[]api.Op{a1, remove("a 2", "a 1", "a 1", "tea")}, "milk 2", "a 1"},
		"set of another item only":  {[]api.Op{a1, set("a 2", "a 1", "a 1", 4, "tea")}, "milk 2, tea 4", "a 1"},
		"of an item like it":        {[]api.Op{a1, remove("a 2", "a 1", "a 1", "milk\x00"), remove("b 1", "a 1", "a 1", "mil"), remove("c 1", "a 1", "a 1", "Milk")}, "milk 2", "a 1"},
		"in another cart only":      {[]api.Op{a1, in("d", remove("a 2", "a 1", "a 1", "milk"))}, "milk 2", "a 1"},
		"set in another cart only":  {[]api.Op{a1, in("d", set("a 2", "a 1", "a 1", 4, "milk"))}, "milk 2", "a 1"},
		"names that run together":   {[]api.Op{a1, add("a 2", "a 1", 4, "dmilk"), in("cd", remove("a 3", "a 2", "a 1, a 2", "milk"))}, "dmilk 4, milk 2", "a 1"},
		"in another cart and here":  {[]api.Op{a1, in("d", remove("a 2", "a 1", "a 1", "milk")), remove("b 1", "a 1", "a 1", "milk")}, "", ""},
		"what isn't there, removed": {[]api.Op{remove("b 1", "a 9", "a 2, a 7", "milk"), add("b 2", "b 1", 6, "milk")}, "milk 6", "b 2"},
		"the end without the start": {[]api.Op{add("a 9", "a 8, z 4", 4, "milk"), set("b 3", "a 9, b 2", "a 8", 1, "milk")}, "milk 5", "a 9, b 3"},
		"the same numbers of two":   {[]api.Op{a1, b1, remove("c 1", "a 1, b 1", "b 1", "milk")}, "milk 2", "a 1"},
		"another number of one":     {[]api.Op{a1, add("a 2", "a 1", 4, "milk"), remove("a 3", "a 2", "a 2", "milk")}, "milk 2", "a 1"},
	} {
		t.Run(name, func(t *testing.T) {
			wantView(t, x.l, "c", x.view)
			wantLiving(t, x.l, "c", "milk", x.living)
		})
	}
}

func TestP91CartsAndItemsApart(t *testing.T) {
	l := []api.Op{
		add("a 1", "", 1, "milk"), add("b 1", "", 2, "tea"), in("d", add("c 1", "", 4, "milk")), in("d", add("e 1", "", 8, "rice")),
		in("cc", add("f 1", "", 16, "milk")), in("\xff", add("g 1", "", 32, "tea")), in("d", set("c 2", "c 1", "c 1", 64, "milk")),
	}
	for name, want := range map[string]string{"c": "milk 1, tea 2", "d": "milk 64, rice 8", "cc": "milk 16", "\xff": "tea 32", "": "", "C": "", "c\x00": "", strings.Repeat("c", 33): "", strings.Repeat("c", 2000): ""} {
		wantView(t, l, name, want)
		wantView(t, nil, name, "")
	}
	for _, x := range []struct{ name, item, want string }{
		{"c", "milk", "a 1"}, {"c", "tea", "b 1"}, {"d", "milk", "c 2"}, {"d", "rice", "e 1"}, {"d", "tea", ""}, {"cc", "milk", "f 1"}, {"\xff", "tea", "g 1"},
		{"", "milk", ""}, {"c", "", ""}, {"", "", ""}, {"c", "mil", ""}, {"c", strings.Repeat("m", 33), ""}, {strings.Repeat("c", 33), "milk", ""}, {"milk", "c", ""},
	} {
		wantLiving(t, l, x.name, x.item, x.want)
		wantLiving(t, nil, x.name, x.item, "")
	}
}

func TestP91Sums(t *testing.T) {
	for _, x := range []struct {
		l    []int64
		want int64
	}{
		{[]int64{1}, 1}, {[]int64{9998}, 9998}, {[]int64{9999}, 9999}, {[]int64{9997, 1}, 9998}, {[]int64{9998, 1}, 9999}, {[]int64{9998, 2}, 9999}, {[]int64{9999, 1}, 9999},
		{[]int64{9999, 9999}, 9999}, {[]int64{5000, 4999}, 9999}, {[]int64{5000, 5000}, 9999}, {[]int64{3333, 3333, 3333}, 9999}, {[]int64{3333, 3333, 3334}, 9999}, {[]int64{3333, 3333, 3332}, 9998},
	} {
		var l []api.Op
		for i, n := range x.l {
			l = append(l, add(fmt.Sprintf("k%d 1", i), "", n, "tea"))
		}
		want := fmt.Sprint("tea ", x.want)
		wantView(t, l, "c", want)
		if v, e := cart.Lines(of(t, l...), "c"); lines(v) != want || e != api.OK {
			t.Error(x.l, lines(v), e)
		}
	}
	// What is beyond counts for nothing when the rest is removed.
	l := []api.Op{add("a 1", "", 9999, "tea"), add("b 1", "", 9999, "tea"), add("c 1", "", 5, "tea"), remove("d 1", "a 1, b 1, c 1", "a 1, b 1", "tea")}
	wantView(t, l, "c", "tea 5")
}

// chain are so many operations of one, each of which adds to an item of its own.
func chain(who string, many int) []api.Op {
	var out []api.Op
	for i := range many {
		deps := ""
		if i > 0 {
			deps = fmt.Sprint(who, " ", i)
		}
		out = append(out, add(fmt.Sprint(who, " ", i+1), deps, 9999, fmt.Sprintf("item%03d", i)))
	}
	return out
}

func TestP91HowManyOperations(t *testing.T) {
	for _, many := range []int{511, 512} {
		l := chain("a", many)
		v, e := cart.View(l, "c")
		if len(v) != many || v[many-1] != (api.Line{Item: fmt.Sprintf("item%03d", many-1), Qty: 9999}) || e != api.OK {
			t.Error(many, len(v), e)
		}
		for i := range l {
			l[i].Item = "tea"
		}
		wantView(t, l, "c", "tea 9999")
		if d, e := cart.Living(l, "c", "tea"); len(d) != many || d[9] != dot("a", 10) || d[many-1] != dot("a", int64(many)) || e != api.OK {
			t.Error(many, text(d), e)
		}
		if s, e := cart.Of(l); len(s.Live) != many || text(s.Known) != fmt.Sprint("a ", many) || e != api.OK {
			t.Error(many, all(s), e)
		}
	}
	wantNoList(t, "513", chain("a", 513))
	wantNoList(t, "5000", chain("a", 5000))
	// Elements count, not dots.
	one := make([]api.Op, 513)
	for i := range one {
		one[i] = add("a 1", "", 2, "milk")
	}
	wantNoList(t, "513 times the same", one)
	wantView(t, one[:512], "c", "milk 2")
	wantLiving(t, one[:512], "c", "milk", "a 1")
	wantState(t, "Of", "a 1 | a 1 c milk 2")(cart.Of(one[:512]))
}

func TestP91ManyRemovedAtOnce(t *testing.T) {
	l := chain("a", 300)
	var gone []api.Dot
	for i := range l {
		l[i].Item = "tea"
		gone = append(gone, l[i].Dot)
	}
	one := func(d []api.Dot) api.Op {
		return changed(remove("b 1", "a 300", "", "tea"), func(o *api.Op) { o.Seen = d })
	}
	for _, many := range []int{127, 128} {
		wantLiving(t, append(slices.Clone(l), one(gone[:many])), "c", "tea", text(gone[many:]))
		wantLiving(t, append(slices.Clone(l), one(gone[300-many:])), "c", "tea", text(gone[:300-many]))
	}
	wantNoList(t, "129 Seen", append(slices.Clone(l), one(gone[:129])))
}

// names are names of carts and items, rising bytewise.
func names() []string {
	return []string{
		"\x00", "\x00\x00", "\x00a", "\n", " ", "0", "10", "9", "A", "B", strings.Repeat("Z", 32), "a", "a\x00", "aa", "ab", "a\xff", "b", "m" + strings.Repeat("\x00", 31),
		strings.Repeat("x", 31), strings.Repeat("x", 32), "é", strings.Repeat("é", 16), "\xc3\xff", "日本", "\xf5", "\xff", strings.Repeat("\xff", 31), strings.Repeat("\xff", 32),
	}
}

func TestP91NamesOfItemsAndCarts(t *testing.T) {
	l := names()
	if !slices.IsSorted(l) {
		t.Fatal("the names don't rise")
	}
	var items []api.Op
	var want []api.Line
	for i, name := range l {
		o := add(fmt.Sprintf("k%d 1", i), "", int64(i+1), name)
		items = append(items, o)
		want = append(want, api.Line{Item: name, Qty: int64(i + 1)})
		wantLiving(t, []api.Op{o}, "c", name, text([]api.Dot{o.Dot}))
		wantView(t, []api.Op{in(name, o)}, name, fmt.Sprint(name, " ", i+1))
		wantView(t, []api.Op{in(name, o)}, "c", "")
		anew := changed(in(name, set("z 1", "", "", 1, name)), func(x *api.Op) { x.Deps, x.Seen = []api.Dot{o.Dot}, []api.Dot{o.Dot} })
		wantView(t, []api.Op{in(name, o), anew}, name, name+" 1")
	}
	slices.Reverse(items)
	if v, e := cart.View(items, "c"); !slices.Equal(v, want) || e != api.OK {
		t.Error(v, e)
	}
	if v, e := cart.Lines(of(t, items...), "c"); !slices.Equal(v, want) || e != api.OK {
		t.Error(v, e)
	}
}

func TestP91LivingRises(t *testing.T) {
	want := "0 3, 1 3, a 1, a 2, a 3, a 9, a 10, a 11, a 100, a. 1, a.b 2, a0 1, aa 1, aa 2, ab 1, b 1, b 4611686018427387904, z 7"
	var l []api.Op
	for _, d := range dots(want) {
		o := add("a 1", "", 1, "milk")
		o.Dot = d
		if d.N > 1 {
			o.Deps = []api.Dot{dot(d.Who, d.N-1)}
		}
		l = append(l, o)
	}
	r := rand.New(rand.NewSource(91))
	for range 50 {
		r.Shuffle(len(l), func(i, j int) { l[i], l[j] = l[j], l[i] })
		wantLiving(t, l, "c", "milk", want)
		wantView(t, l, "c", "milk 18")
	}
}

// wrongOps are operations that are not valid: chapter 8 tells why.
func wrongOps() map[string]api.Op {
	good := set("b 2", "a 3, b 1", "a 1, a 2", 4, "milk")
	out := map[string]api.Op{"nothing": {}}
	for name, change := range map[string]func(o *api.Op){
		"no Who":              func(o *api.Op) { o.Dot.Who = "" },
		"no name":             func(o *api.Op) { o.Dot.Who = "B" },
		"N 0":                 func(o *api.Op) { o.Dot.N = 0; o.Deps = o.Deps[:1] },
		"N -1":                func(o *api.Op) { o.Dot.N = -1 },
		"a great N":           func(o *api.Op) { o.Dot.N = math.MaxInt64; o.Deps[1].N = math.MaxInt64 - 1 },
		"Deps lack its own":   func(o *api.Op) { o.Deps = o.Deps[:1] },
		"Deps with more":      func(o *api.Op) { o.Deps[1].N = 2 },
		"Deps not rising":     func(o *api.Op) { o.Deps[0], o.Deps[1] = o.Deps[1], o.Deps[0] },
		"Deps of 0":           func(o *api.Op) { o.Deps[0].N = 0 },
		"no Cart":             func(o *api.Op) { o.Cart = "" },
		"a long Cart":         func(o *api.Op) { o.Cart = strings.Repeat("c", 33) },
		"no Item":             func(o *api.Op) { o.Item = "" },
		"a long Item":         func(o *api.Op) { o.Item = strings.Repeat("i", 33) },
		"the kind 0":          func(o *api.Op) { o.Kind = 0 },
		"the kind 4":          func(o *api.Op) { o.Kind = 4 },
		"Qty 0":               func(o *api.Op) { o.Qty = 0 },
		"Qty 10000":           func(o *api.Op) { o.Qty = 10000 },
		"Qty -1":              func(o *api.Op) { o.Qty = -1 },
		"a removal's Qty":     func(o *api.Op) { o.Kind = api.KRemove },
		"an addition's Seen":  func(o *api.Op) { o.Kind = api.KAdd },
		"Seen not rising":     func(o *api.Op) { o.Seen[0], o.Seen[1] = o.Seen[1], o.Seen[0] },
		"Seen twice":          func(o *api.Op) { o.Seen[1] = o.Seen[0] },
		"Seen beyond Deps":    func(o *api.Op) { o.Seen[1].N = 4 },
		"Seen of who isn't":   func(o *api.Op) { o.Seen[1].Who = "z" },
		"Seen of its own dot": func(o *api.Op) { o.Seen[1] = o.Dot },
	} {
		out[name] = changed(good, change)
	}
	return out
}

func TestP91WrongLists(t *testing.T) {
	good := set("b 2", "a 3, b 1", "a 1, a 2", 4, "milk")
	wantView(t, []api.Op{good}, "c", "milk 4")
	for name, o := range wrongOps() {
		wantNoList(t, name, []api.Op{o})
		wantNoList(t, name+" twice", []api.Op{o, o})
		for _, l := range [][]api.Op{{o, add("x 1", "", 1, "milk")}, {add("x 1", "", 1, "milk"), o}, append(chain("y", 511), o), {add("x 1", "", 1, "milk"), o, add("z 1", "", 1, "milk")}} {
			wantNoList(t, name, l)
		}
	}
	wantNoList(t, "in another cart", []api.Op{in("d", add("a 1", "", 10000, "milk"))})
}

func TestP91ClashingDots(t *testing.T) {
	o := set("b 2", "a 3, b 1", "a 1, a 2", 4, "milk")
	for name, change := range map[string]func(o *api.Op){
		"Deps":      func(o *api.Op) { o.Deps[0].N = 4 },
		"a dep":     func(o *api.Op) { o.Deps = append(o.Deps, dot("z", 1)) },
		"Cart":      func(o *api.Op) { o.Cart = "d" },
		"Item":      func(o *api.Op) { o.Item = "tea" },
		"Qty":       func(o *api.Op) { o.Qty = 5 },
		"Kind":      func(o *api.Op) { o.Kind, o.Qty = api.KRemove, 0 },
		"no Seen":   func(o *api.Op) { o.Seen = nil },
		"Seen":      func(o *api.Op) { o.Seen[1].N = 3 },
		"less Seen": func(o *api.Op) { o.Seen = o.Seen[1:] },
	} {
		x := changed(o, change)
		if !order.Right(x) {
			t.Fatal(name)
		}
		wantNoList(t, name, []api.Op{o, x})
		wantNoList(t, name, []api.Op{x, o})
		wantNoList(t, name, []api.Op{o, o, add("x 1", "", 1, "milk"), x})
		wantNoList(t, name, append(chain("y", 510), x, o))
	}
	wantView(t, []api.Op{o, changed(o, func(*api.Op) {})}, "c", "milk 4")
	empty := add("a 1", "", 2, "milk")
	empty.Deps, empty.Seen = []api.Dot{}, []api.Dot{}
	wantView(t, []api.Op{empty, add("a 1", "", 2, "milk")}, "c", "milk 2")
}

// modelLive are the live entries of operations, as the chapter tells it, rising.
func modelLive(l []api.Op) []api.Live {
	var out []api.Live
	for i, o := range l {
		again := slices.ContainsFunc(l[:i], func(x api.Op) bool { return x.Dot == o.Dot })
		gone := slices.ContainsFunc(l, func(x api.Op) bool {
			return (x.Kind == api.KSet || x.Kind == api.KRemove) && x.Cart == o.Cart && x.Item == o.Item && slices.Contains(x.Seen, o.Dot)
		})
		if (o.Kind == api.KAdd || o.Kind == api.KSet) && !again && !gone {
			out = append(out, api.Live{Dot: o.Dot, Cart: o.Cart, Item: o.Item, Qty: o.Qty})
		}
	}
	return rising(out)
}

func before(a, b api.Dot) bool { return a.Who < b.Who || a.Who == b.Who && a.N < b.N }

// rising puts entries in order, without regard to how long it takes.
func rising(l []api.Live) []api.Live {
	out := slices.Clone(l)
	for i := range out {
		for j := i; j > 0 && before(out[j].Dot, out[j-1].Dot); j-- {
			out[j], out[j-1] = out[j-1], out[j]
		}
	}
	return out
}

func modelView(l []api.Live, name string) string {
	var items, out []string
	for _, x := range l {
		if x.Cart == name && !slices.Contains(items, x.Item) {
			items = append(items, x.Item)
		}
	}
	slices.Sort(items)
	for _, item := range items {
		sum := int64(0)
		for _, x := range l {
			if x.Cart == name && x.Item == item {
				sum += x.Qty
			}
		}
		out = append(out, fmt.Sprint(item, " ", min(sum, 9999)))
	}
	return strings.Join(out, ", ")
}

func modelLiving(l []api.Live, name, item string) string {
	var out []api.Dot
	for _, x := range l {
		if x.Cart == name && x.Item == item {
			out = append(out, x.Dot)
		}
	}
	return text(out)
}

// loose makes a valid list of operations that need not be downward closed, on two carts and two items.
func loose(r *rand.Rand, many int) []api.Op {
	var out []api.Op
	for range many {
		who := string(rune('a' + r.Intn(3)))
		o := add(fmt.Sprint(who, " ", 1+r.Intn(4)), "", 1+r.Int63n(9999), pick(r, "milk", "tea"))
		for _, other := range []string{"a", "b", "c"} {
			n := int64(r.Intn(5))
			if other == who {
				n = o.Dot.N - 1
			}
			if n > 0 {
				o.Deps = append(o.Deps, dot(other, n))
			}
		}
		o.Cart, o.Kind = pick(r, "c", "d"), 1+r.Intn(3)
		if o.Kind == api.KRemove {
			o.Qty = 0
		}
		for _, d := range o.Deps {
			for n := int64(1); n <= d.N && o.Kind != api.KAdd; n++ {
				if r.Intn(3) == 0 {
					o.Seen = append(o.Seen, dot(d.Who, n))
				}
			}
		}
		if i := slices.IndexFunc(out, func(x api.Op) bool { return x.Dot == o.Dot }); i >= 0 {
			o = out[i]
		}
		out = append(out, o)
	}
	return out
}

func pick(r *rand.Rand, l ...string) string { return l[r.Intn(len(l))] }

func TestP91AsTheModelDoes(t *testing.T) {
	r := rand.New(rand.NewSource(911))
	for range 3000 {
		l := loose(r, r.Intn(12))
		want := modelLive(l)
		for _, name := range []string{"c", "d", "e"} {
			wantView(t, l, name, modelView(want, name))
			for _, item := range []string{"milk", "tea", "rice"} {
				wantLiving(t, l, name, item, modelLiving(want, name, item))
			}
		}
		if t.Failed() {
			return
		}
	}
}

func TestP92AsTheChapterSays(t *testing.T) {
	l := milk()
	for i, want := range []string{" | ", "a 1 | a 1 c milk 2", "a 1, b 1 | a 1 c milk 2, b 1 c milk 3", "a 2, b 1 | a 2 c milk 1, b 1 c milk 3", "a 2, b 2 | a 2 c milk 1"} {
		wantState(t, showAll(l[:i]), want)(cart.Of(l[:i]))
	}
}

func TestP92Of(t *testing.T) {
	a1 := add("a 1", "", 2, "milk")
	for name, x := range map[string]struct {
		l    []api.Op
		want string
	}{
		"none":                  {nil, " | "},
		"a removal":             {[]api.Op{remove("a 1", "", "", "milk")}, "a 1 | "},
		"twice the same":        {[]api.Op{a1, a1}, "a 1 | a 1 c milk 2"},
		"the end first":         {[]api.Op{set("a 3", "a 2", "a 1", 1, "milk"), add("a 2", "a 1", 5, "tea"), a1}, "a 3 | a 2 c tea 5, a 3 c milk 1"},
		"several carts":         {[]api.Op{in("d", add("b 1", "", 4, "rice")), a1, in("d", remove("a 2", "a 1", "a 1", "milk"))}, "a 2, b 1 | a 1 c milk 2, b 1 d rice 4"},
		"several makers":        {[]api.Op{add("c 1", "a 1, b 1", 1, "x"), add("b 1", "a 1", 1, "x"), a1}, "a 1, b 1, c 1 | a 1 c milk 2, b 1 c x 1, c 1 c x 1"},
		"all removed":           {[]api.Op{a1, add("b 1", "", 7, "milk"), remove("z 1", "a 1, b 1", "a 1, b 1", "milk")}, "a 1, b 1, z 1 | "},
		"Whos that begin alike": {[]api.Op{add("ab 1", "", 1, "x"), add("a.b 1", "", 2, "x"), add("aa 1", "", 3, "x"), a1, add("a0 1", "", 4, "x")}, "a 1, a.b 1, a0 1, aa 1, ab 1 | a 1 c milk 2, a.b 1 c x 2, a0 1 c x 4, aa 1 c x 3, ab 1 c x 1"},
	} {
		wantState(t, name, x.want)(cart.Of(x.l))
	}
	l := chain("a", 12)
	slices.Reverse(l)
	s := of(t, l...)
	if text(s.Known) != "a 12" || s.Live[1].Dot != dot("a", 2) || s.Live[9] != (api.Live{Dot: dot("a", 10), Cart: "c", Item: "item009", Qty: 9999}) {
		t.Error(all(s))
	}
}

func TestP92ListsThatAreNotClosed(t *testing.T) {
	for name, l := range map[string][]api.Op{
		"its own one before":         {add("a 2", "a 1", 1, "x")},
		"one in between":             {add("a 1", "", 1, "x"), add("a 3", "a 2", 1, "x")},
		"the first one":              {add("a 2", "a 1", 1, "x"), add("a 3", "a 2", 1, "x")},
		"another one's":              {add("a 1", "b 1", 1, "x")},
		"another one's last":         {add("a 1", "b 2", 1, "x"), add("b 1", "", 1, "x")},
		"another one's first":        {add("a 1", "b 2", 1, "x"), add("b 2", "b 1", 1, "x")},
		"of a removal":               {add("a 1", "", 1, "x"), remove("b 1", "a 2", "a 1", "x")},
		"a far one":                  {add("a 1", "z 4611686018427387904", 1, "x")},
		"its own far one":            {add("a 4611686018427387904", "a 4611686018427387903", 1, "x")},
		"the last of many Deps":      {add("a 1", "", 1, "x"), add("b 1", "", 1, "x"), add("d 1", "a 1, b 1, c 1", 1, "x")},
		"the first of many Deps":     {add("b 1", "", 1, "x"), add("c 1", "", 1, "x"), add("d 1", "a 1, b 1, c 1", 1, "x")},
		"one has it, another one no": {add("a 1", "", 1, "x"), add("b 1", "a 1", 1, "x"), add("c 1", "z 1", 1, "x")},
		// Their numbers come to 2^64.
		"four far ones": {add("a 4611686018427387904", "a 4611686018427387903", 1, "x"), add("b 4611686018427387904", "b 4611686018427387903", 1, "x"), add("c 4611686018427387904", "c 4611686018427387903", 1, "x"), add("d 4611686018427387904", "d 4611686018427387903", 1, "x"), add("e 5", "e 4", 1, "x")},
	} {
		wantNoState(t, name, api.ErrArg)(cart.Of(l))
		if _, e := cart.View(l, "c"); e != api.OK {
			t.Error(name, "View needs no closed list:", e)
		}
		if _, e := cart.Living(l, "c", "x"); e != api.OK {
			t.Error(name, "Living needs no closed list:", e)
		}
	}
}

// modelClosed tells whether a list has all dots that the Deps of each of its operations have.
func modelClosed(l []api.Op) bool {
	for _, o := range l {
		for _, d := range o.Deps {
			for n := int64(1); n <= d.N; n++ {
				if !slices.ContainsFunc(l, func(x api.Op) bool { return x.Dot == dot(d.Who, n) }) {
					return false
				}
			}
		}
	}
	return true
}

func TestP92EachDotThatLacks(t *testing.T) {
	r := rand.New(rand.NewSource(921))
	refused := 0
	for range 200 {
		l := family(r, 1+r.Intn(4), 12)[0]
		of(t, l...)
		for i := range l {
			rest := slices.Delete(slices.Clone(l), i, i+1)
			s, e := cart.Of(rest)
			if modelClosed(rest) {
				wantState(t, "Of", all(modelOf(rest)))(s, e)
			} else {
				wantNoState(t, "Of "+showAll(rest), api.ErrArg)(s, e)
				refused++
			}
		}
		if t.Failed() {
			return
		}
	}
	if refused < 100 {
		t.Error("too few lists were refused:", refused)
	}
}

// alone are operations of so many Whos, one of each, that add.
func alone(letter string, many int) []api.Op {
	var out []api.Op
	for _, d := range row(letter, 0, many) {
		out = append(out, add(text([]api.Dot{d}), "", 1, "x"))
	}
	return out
}

func TestP92HowManyWhos(t *testing.T) {
	for _, many := range []int{63, 64} {
		l := alone("k", many)
		s := of(t, l...)
		if text(s.Known) != text(row("k", 0, many)) || len(s.Live) != many {
			t.Error(many, all(s))
		}
		of(t, append(l, add("k000 2", "k000 1", 1, "x"))...)
	}
	for _, many := range []int{65, 66, 512} {
		wantNoState(t, fmt.Sprint(many), api.ErrVector)(cart.Of(alone("k", many)))
	}
	l := alone("k", 65)
	wantView(t, l, "c", "x 65")
	wantNoState(t, "removals count too", api.ErrVector)(cart.Of(append(l[:64:64], remove("z 1", "", "", "x"))))
	wantNoState(t, "not closed", api.ErrArg)(cart.Of(append(slices.Clone(l), add("z 2", "z 1", 1, "x"))))
	wantNoState(t, "not valid", api.ErrArg)(cart.Of(append(slices.Clone(l), add("z 1", "", 0, "x"))))
	wantNoState(t, "too long", api.ErrArg)(cart.Of(alone("k", 513)))
}

// wrongStates are states that are not valid.
func wrongStates() map[string]api.State {
	out := map[string]api.State{
		"Known of 0":           made("a 0 | "),
		"Known of -1":          made("a -1 | "),
		"Known beyond 2^62":    made("a 4611686018427387905 | "),
		"Known of no name":     made("A 1 | "),
		"Known of no Who":      {Known: make([]api.Dot, 1)},
		"Known not rising":     made("b 1, a 1 | "),
		"Known twice":          made("a 1, a 1 | "),
		"Known twice, risen":   made("a 1, a 2 | a 1 c milk 1"),
		"Known of 65":          {Known: row("k", 0, 65)},
		"Known of 300":         {Known: row("k", 0, 300)},
		"wrong only at last":   made("a 1, b 1, c 0 | a 1 c milk 1"),
		"a dot of 0":           made("a 1 | a 0 c milk 1"),
		"a dot of -1":          made("a 1 | a -1 c milk 1"),
		"a dot of the least":   made("a 1 | a -9223372036854775808 c milk 1"),
		"a dot behind Known":   made("a 1 | a 2 c milk 1"),
		"a dot far behind":     made("a 1 | a 9223372036854775807 c milk 1"),
		"a dot of who isn't":   made("a 1 | b 1 c milk 1"),
		"a 0 of who isn't":     made("a 1 | b 0 c milk 1"),
		"Known of nothing":     made(" | a 1 c milk 1"),
		"a 0 of nothing":       made(" | a 0 c milk 1"),
		"no Who":               {Known: dots("a 1"), Live: []api.Live{{Dot: dot("", 1), Cart: "c", Item: "i", Qty: 1}}},
		"an empty entry":       {Known: dots("a 1"), Live: make([]api.Live, 1)},
		"twice":                made("a 1 | a 1 c milk 1, a 1 c milk 1"),
		"twice, differing":     made("a 1 | a 1 c milk 1, a 1 d tea 2"),
		"numbers not rising":   made("a 2 | a 2 c milk 1, a 1 c milk 1"),
		"Whos not rising":      made("a 1, b 1 | b 1 c milk 1, a 1 c milk 1"),
		"rising by number":     made("a 2, b 2 | b 1 c milk 1, a 2 c milk 1"),
		"back to the first":    made("a 2, b 2 | a 1 c milk 1, b 1 c milk 1, a 2 c milk 1"),
		"the last but not all": made("a 3 | a 1 c milk 1, a 2 c milk 1, a 2 c milk 1"),
		"513 entries":          full("k", 513),
		"600 entries":          full("k", 600),
	}
	for _, bad := range []string{"", strings.Repeat("x", 33), strings.Repeat("é", 17), strings.Repeat("\x00", 33), strings.Repeat("x", 1000)} {
		for i := range 2 {
			s := made("a 2 | a 1 c milk 1, a 2 c tea 2")
			s.Live[i].Cart = bad
			out[fmt.Sprintf("the cart %q of %d", bad, i)] = s
			s = made("a 2 | a 1 c milk 1, a 2 c tea 2")
			s.Live[i].Item = bad
			out[fmt.Sprintf("the item %q of %d", bad, i)] = s
		}
	}
	for _, n := range []int64{0, -1, -9999, 10000, 10001, 1<<32 + 1, math.MaxInt64, math.MinInt64} {
		for i := range 2 {
			s := made("a 2 | a 1 c milk 1, a 2 c tea 2")
			s.Live[i].Qty = n
			out[fmt.Sprintf("the quantity %d of %d", n, i)] = s
		}
	}
	return out
}

// full is a state of so many entries of one.
func full(who string, many int) api.State {
	s := api.State{Known: []api.Dot{dot(who, int64(many))}}
	for i := range many {
		s.Live = append(s.Live, api.Live{Dot: dot(who, int64(i+1)), Cart: "c", Item: "x", Qty: 1})
	}
	return s
}

// validStates are states that differ, ordinary ones and those at the edges.
func validStates() []api.State {
	out := []api.State{
		{}, made("a 1 | "), made("a 2 | "), made("a 4611686018427387904 | "), made("a 1, b 1 | "), made("a 1, b 2, c 3 | "),
		made("a 1 | a 1 c milk 1"), made("a 2 | a 1 c milk 1"), made("a 2 | a 2 c milk 1"), made("a 2 | a 1 c milk 1, a 2 c milk 1"), made("a 2 | a 1 c milk 9998, a 2 d tea 9999"),
		made("a 1 | a 1 d milk 1"), made("a 1 | a 1 c tea 1"), made("a 1 | a 1 c milk 127"), made("a 1 | a 1 c milk 128"), made("a 1, b 1 | b 1 c milk 1"),
		made("a 4611686018427387904 | a 1 c milk 1, a 4611686018427387904 c milk 1"), made("a 200, a.b 1, aa 1 | a 2 c x 1, a 10 c x 1, a 128 c x 1, a 200 c x 1, a.b 1 c x 1, aa 1 c x 1"),
		{Known: row("k", 0, 63)}, {Known: row("k", 0, 64)}, full("k", 1), full("k", 511), full("k", 512),
	}
	for i, name := range names() {
		other := names()[len(names())-1-i]
		out = append(out, api.State{Known: dots("a 1"), Live: []api.Live{{Dot: dot("a", 1), Cart: name, Item: other, Qty: 1 + int64(i)}}})
	}
	who := strings.Repeat("z", 24)
	out = append(out, api.State{Known: []api.Dot{dot(who, 300)}, Live: []api.Live{{Dot: dot(who, 299), Cart: "c", Item: "x", Qty: 9999}}})
	many := api.State{Known: row("k", 0, 64)}
	for _, d := range many.Known {
		many.Live = append(many.Live, api.Live{Dot: d, Cart: strings.Repeat("\xff", 32), Item: strings.Repeat("\x00", 32), Qty: 9999})
	}
	return append(out, many)
}

func TestP92Right(t *testing.T) {
	for _, s := range validStates() {
		if !cart.Right(s) {
			t.Error(all(s), "is not valid")
		}
	}
	for name, s := range wrongStates() {
		if cart.Right(s) {
			t.Error(name, "is valid")
		}
	}
}

func TestP92RightAtEachNumber(t *testing.T) {
	for n := range 40 {
		s := made("a 1 | a 1 c milk 1")
		s.Live[0].Cart = strings.Repeat("\xfe", n)
		x := made("a 1 | a 1 c milk 1")
		x.Live[0].Item = strings.Repeat("\xfe", n)
		if good := n >= 1 && n <= 32; cart.Right(s) != good || cart.Right(x) != good {
			t.Error(n, "bytes")
		}
	}
	for n := int64(-5); n < 12000; n++ {
		s := api.State{Known: dots("a 7"), Live: []api.Live{live("a 7", "milk", n)}}
		if cart.Right(s) != (n >= 1 && n <= 9999) {
			t.Error("quantity", n)
		}
		s = api.State{Known: dots("a 7"), Live: []api.Live{{Dot: dot("a", n), Cart: "c", Item: "milk", Qty: 1}}}
		if cart.Right(s) != (n >= 1 && n <= 7) {
			t.Error("dot", n)
		}
	}
}

func TestP92Lines(t *testing.T) {
	s := made("a 9, b 4 | a 1 c tea 3, a 2 d tea 5, a 3 c milk 2, a 9 c tea 4, b 1 d rice 9999, b 2 d rice 9999, b 4 c é 7")
	for name, want := range map[string]string{"c": "milk 2, tea 7, é 7", "d": "rice 9999, tea 5", "e": "", "": "", "cc": "", strings.Repeat("c", 33): ""} {
		if v, e := cart.Lines(s, name); lines(v) != want || e != api.OK {
			t.Errorf("Lines(%q) = %s, %d, not %s", name, lines(v), e, want)
		}
		if v, e := cart.Lines(api.State{}, name); len(v) != 0 || e != api.OK {
			t.Errorf("Lines of nothing = %s, %d", lines(v), e)
		}
	}
	for _, s := range validStates() {
		for _, x := range append(s.Live, live("a 1", "x", 1)) {
			if v, e := cart.Lines(s, x.Cart); lines(v) != modelView(s.Live, x.Cart) || e != api.OK {
				t.Errorf("Lines(%s, %q) = %s, %d", all(s), x.Cart, lines(v), e)
			}
		}
	}
	for why, s := range wrongStates() {
		if v, e := cart.Lines(s, "c"); len(v) != 0 || e != api.ErrArg {
			t.Errorf("Lines of %s = %s, %d", why, lines(v), e)
		}
	}
}

func TestP93Merge(t *testing.T) {
	for name, x := range map[string]struct{ a, b, want string }{
		"nothing":                  {" | ", " | ", " | "},
		"with nothing":             {"a 2 | a 2 c milk 1", " | ", "a 2 | a 2 c milk 1"},
		"apart":                    {"a 1 | a 1 c milk 2", "b 1 | b 1 c tea 3", "a 1, b 1 | a 1 c milk 2, b 1 c tea 3"},
		"the chapter's":            {"a 2 | a 2 c milk 1", "b 2 | ", "a 2, b 2 | a 2 c milk 1"},
		"both have it":             {"a 1 | a 1 c milk 2", "a 1 | a 1 c milk 2", "a 1 | a 1 c milk 2"},
		"one removed it":           {"a 1 | a 1 c milk 2", "a 1, b 1 | ", "a 1, b 1 | "},
		"one set it anew":          {"a 1 | a 1 c milk 2", "a 1, b 1 | b 1 c milk 7", "a 1, b 1 | b 1 c milk 7"},
		"both removed it":          {"a 2 | ", "a 1, b 1 | ", "a 2, b 1 | "},
		"one is behind":            {"a 1 | a 1 c milk 2", "a 3 | a 2 c tea 1, a 3 c milk 4", "a 3 | a 2 c tea 1, a 3 c milk 4"},
		"one is behind, it lives":  {"a 1 | a 1 c milk 2", "a 3 | a 1 c milk 2, a 3 c milk 4", "a 3 | a 1 c milk 2, a 3 c milk 4"},
		"each knows more":          {"a 3, b 1 | a 1 c x 1, a 3 c x 2, b 1 c x 3", "a 1, b 4 | a 1 c x 1, b 2 c x 4, b 4 c x 5", "a 3, b 4 | a 1 c x 1, a 3 c x 2, b 2 c x 4, b 4 c x 5"},
		"in between":               {"a 9, c 1 | a 1 c x 1, a 3 c x 1, a 9 c x 1, c 1 c x 1", "b 1, d 1 | b 1 c x 2, d 1 c x 2", "a 9, b 1, c 1, d 1 | a 1 c x 1, a 3 c x 1, a 9 c x 1, b 1 c x 2, c 1 c x 1, d 1 c x 2"},
		"only the last differs":    {"a 10 | a 2 c x 1, a 10 c x 1", "a 9 | a 2 c x 1, a 9 c x 1", "a 10 | a 2 c x 1, a 10 c x 1"},
		"the other quantity":       {"a 1 | a 1 c milk 2", "a 1 | a 1 c milk 3", "a 1 | a 1 c milk 2"},
		"all else is other":        {"a 2 | a 1 c milk 2, a 2 d tea 9", "a 2 | a 1 e rice 3, a 2 f soap 1", "a 2 | a 1 c milk 2, a 2 d tea 9"},
		"other, and more on right": {"a 1 | a 1 c milk 2", "a 1, b 1 | a 1 d tea 3, b 1 c x 1", "a 1, b 1 | a 1 c milk 2, b 1 c x 1"},
	} {
		wantState(t, name, x.want)(cart.Merge(made(x.a), made(x.b)))
	}
	// Of what differs the other one's is taken, turned round.
	wantState(t, "turned", "a 1, b 1 | a 1 d tea 3, b 1 c x 1")(cart.Merge(made("a 1, b 1 | a 1 d tea 3, b 1 c x 1"), made("a 1 | a 1 c milk 2")))
}

func TestP93MergeWithItselfAndNothing(t *testing.T) {
	for _, s := range validStates() {
		wantState(t, "itself", all(s))(cart.Merge(s, s))
		wantState(t, "nothing", all(s))(cart.Merge(s, api.State{}))
		wantState(t, "of nothing", all(s))(cart.Merge(api.State{}, s))
		// One that knows all, and has nothing left.
		done := api.State{Known: s.Known}
		wantState(t, "done", all(done))(cart.Merge(s, done))
		wantState(t, "of done", all(done))(cart.Merge(done, s))
	}
}

func TestP93MergeOfWrongStates(t *testing.T) {
	good := made("a 1 | a 1 c milk 2")
	for why, s := range wrongStates() {
		wantNoState(t, why, api.ErrArg)(cart.Merge(s, good))
		wantNoState(t, why, api.ErrArg)(cart.Merge(good, s))
		wantNoState(t, why, api.ErrArg)(cart.Merge(s, s))
		wantNoState(t, why+" ahead of ErrVector", api.ErrArg)(cart.Merge(api.State{Known: row("z", 0, 64)}, s))
		wantNoState(t, why+" ahead of ErrMany", api.ErrArg)(cart.Merge(s, full("z", 512)))
	}
}

func TestP93MergeAtTheLimits(t *testing.T) {
	of := func(l []api.Dot) api.State { return api.State{Known: l} }
	wantState(t, "64", text(row("k", 0, 64))+" | ")(cart.Merge(of(row("k", 0, 40)), of(row("k", 20, 64))))
	wantState(t, "63", text(row("k", 0, 63))+" | ")(cart.Merge(of(row("k", 0, 62)), of(row("k", 62, 63))))
	wantNoState(t, "65", api.ErrVector)(cart.Merge(of(row("k", 0, 64)), of(row("k", 64, 65))))
	wantNoState(t, "65", api.ErrVector)(cart.Merge(of(row("k", 0, 1)), of(row("k", 1, 65))))
	wantNoState(t, "128", api.ErrVector)(cart.Merge(of(row("k", 0, 64)), of(row("m", 0, 64))))
	for _, x := range []struct{ a, b int }{{256, 255}, {256, 256}, {256, 257}, {510, 1}, {511, 1}, {512, 1}, {1, 510}, {1, 511}, {1, 512}, {512, 512}} {
		s, e := cart.Merge(full("b", x.a), full("a", x.b))
		if x.a+x.b > 512 {
			wantNoState(t, "too many", api.ErrMany)(s, e)
		} else if len(s.Live) != x.a+x.b || e != api.OK || !cart.Right(s) {
			t.Error(x, len(s.Live), e)
		}
	}
	// Not Known's dots count, but what lives.
	if s, e := cart.Merge(without(full("a", 512), 7), full("b", 1)); len(s.Live) != 512 || e != api.OK {
		t.Error(len(s.Live), e)
	}
	wantState(t, "the same 512", all(full("a", 512)))(cart.Merge(full("a", 512), full("a", 512)))
	wantState(t, "what was removed doesn't count", "a 512, b 1 | b 1 c x 1")(cart.Merge(full("a", 512), made("a 512, b 1 | b 1 c x 1")))
	a, b := full("a", 512), full("b", 512)
	a.Known, b.Known = append(a.Known, row("k", 0, 63)...), append(b.Known, row("k", 0, 63)...)
	wantNoState(t, "both", api.ErrVector)(cart.Merge(a, b))
}

// without is a state without one of its entries.
func without(s api.State, i int) api.State {
	s.Live = slices.Delete(slices.Clone(s.Live), i, i+1)
	return s
}

// modelMerge is Merge within the limits, as the chapter tells it.
func modelMerge(a, b api.State) api.State {
	var out api.State
	numbers := map[string]int64{}
	for _, d := range slices.Concat(a.Known, b.Known) {
		numbers[d.Who] = max(numbers[d.Who], d.N)
	}
	out.Known = vectorOf(numbers)
	had := func(s api.State, d api.Dot) bool {
		return slices.ContainsFunc(s.Live, func(x api.Live) bool { return x.Dot == d })
	}
	for _, x := range a.Live {
		if had(b, x.Dot) || !knows(b.Known, x.Dot) {
			out.Live = append(out.Live, x)
		}
	}
	for _, x := range b.Live {
		if !had(a, x.Dot) && !knows(a.Known, x.Dot) {
			out.Live = append(out.Live, x)
		}
	}
	out.Live = rising(out.Live)
	return out
}

func knows(known []api.Dot, d api.Dot) bool {
	return slices.ContainsFunc(known, func(x api.Dot) bool { return x.Who == d.Who && x.N >= d.N })
}

func vectorOf(numbers map[string]int64) []api.Dot {
	var whos []string
	for who := range numbers {
		whos = append(whos, who)
	}
	slices.Sort(whos)
	var out []api.Dot
	for _, who := range whos {
		out = append(out, dot(who, numbers[who]))
	}
	return out
}

// someState makes a valid state that no operations need have made.
func someState(r *rand.Rand) api.State {
	var s api.State
	for _, who := range []string{"a", "b", "c"} {
		n := int64(r.Intn(5))
		if n > 0 {
			s.Known = append(s.Known, dot(who, n))
		}
		for i := range n {
			if r.Intn(2) == 0 {
				s.Live = append(s.Live, api.Live{Dot: dot(who, i+1), Cart: pick(r, "c", "d"), Item: pick(r, "milk", "tea"), Qty: 1 + r.Int63n(9999)})
			}
		}
	}
	return s
}

func TestP93MergeAsTheModelDoes(t *testing.T) {
	r := rand.New(rand.NewSource(931))
	for range 5000 {
		a, b := someState(r), someState(r)
		wantState(t, all(a)+" with "+all(b), all(modelMerge(a, b)))(cart.Merge(a, b))
		if t.Failed() {
			return
		}
	}
}

func TestP93Apply(t *testing.T) {
	s := "a 3, b 2 | a 1 c milk 2, a 3 c tea 1, b 1 c milk 4, b 2 d milk 8"
	for name, x := range map[string]struct {
		o    api.Op
		want string
	}{
		"adds":                      {add("a 4", "a 3", 9, "milk"), "a 4, b 2 | a 1 c milk 2, a 3 c tea 1, a 4 c milk 9, b 1 c milk 4, b 2 d milk 8"},
		"adds, of another":          {add("aa 1", "", 9, "milk"), "a 3, aa 1, b 2 | a 1 c milk 2, a 3 c tea 1, aa 1 c milk 9, b 1 c milk 4, b 2 d milk 8"},
		"adds, the last":            {add("z 1", "a 3, b 2", 9, "milk"), "a 3, b 2, z 1 | a 1 c milk 2, a 3 c tea 1, b 1 c milk 4, b 2 d milk 8, z 1 c milk 9"},
		"adds, the first":           {add("0 1", "", 9, "milk"), "0 1, a 3, b 2 | 0 1 c milk 9, a 1 c milk 2, a 3 c tea 1, b 1 c milk 4, b 2 d milk 8"},
		"sets none anew":            {set("a 4", "a 3", "", 9, "milk"), "a 4, b 2 | a 1 c milk 2, a 3 c tea 1, a 4 c milk 9, b 1 c milk 4, b 2 d milk 8"},
		"sets one anew":             {set("a 4", "a 3", "a 1", 9, "milk"), "a 4, b 2 | a 3 c tea 1, a 4 c milk 9, b 1 c milk 4, b 2 d milk 8"},
		"sets several anew":         {set("a 4", "a 3, b 2", "a 1, b 1", 9, "milk"), "a 4, b 2 | a 3 c tea 1, a 4 c milk 9, b 2 d milk 8"},
		"sets only what is of it":   {set("a 4", "a 3, b 2", "a 1, a 2, a 3, b 1, b 2", 9, "milk"), "a 4, b 2 | a 3 c tea 1, a 4 c milk 9, b 2 d milk 8"},
		"removes nothing":           {remove("b 3", "b 2", "", "milk"), "a 3, b 3 | a 1 c milk 2, a 3 c tea 1, b 1 c milk 4, b 2 d milk 8"},
		"removes what is gone":      {remove("b 3", "a 3, b 2", "a 2", "milk"), "a 3, b 3 | a 1 c milk 2, a 3 c tea 1, b 1 c milk 4, b 2 d milk 8"},
		"removes one":               {remove("b 3", "b 2", "b 1", "milk"), "a 3, b 3 | a 1 c milk 2, a 3 c tea 1, b 2 d milk 8"},
		"removes several":           {remove("b 3", "a 1, b 2", "a 1, b 1", "milk"), "a 3, b 3 | a 3 c tea 1, b 2 d milk 8"},
		"removes in another cart":   {in("d", remove("b 3", "a 1, b 2", "a 1, b 1, b 2", "milk")), "a 3, b 3 | a 1 c milk 2, a 3 c tea 1, b 1 c milk 4"},
		"removes of another item":   {remove("b 3", "a 3, b 2", "a 1, a 3, b 1, b 2", "tea"), "a 3, b 3 | a 1 c milk 2, b 1 c milk 4, b 2 d milk 8"},
		"removes where nothing is":  {in("e", remove("b 3", "a 3, b 2", "a 1, a 3, b 1, b 2", "milk")), "a 3, b 3 | a 1 c milk 2, a 3 c tea 1, b 1 c milk 4, b 2 d milk 8"},
		"removes, of another":       {remove("c 1", "a 1", "a 1", "milk"), "a 3, b 2, c 1 | a 3 c tea 1, b 1 c milk 4, b 2 d milk 8"},
		"its Deps are known just":   {add("c 1", "a 3, b 2", 9, "milk"), "a 3, b 2, c 1 | a 1 c milk 2, a 3 c tea 1, b 1 c milk 4, b 2 d milk 8, c 1 c milk 9"},
		"known":                     {add("a 3", "a 2", 9, "soap"), s},
		"known, the first":          {add("a 1", "", 9, "soap"), s},
		"known, one that removes":   {remove("b 2", "a 1, b 1", "a 1, b 1", "milk"), s},
		"known, its Deps are not":   {add("b 2", "b 1, z 7", 9, "soap"), s},
		"known, its Deps are more":  {remove("b 1", "a 9", "a 1", "milk"), s},
		"known, and it was removed": {add("a 2", "a 1", 9, "milk"), s},
	} {
		wantState(t, name, x.want)(cart.Apply(made(s), x.o))
	}
	wantState(t, "to nothing", "a 1 | a 1 c milk 2")(cart.Apply(api.State{}, add("a 1", "", 2, "milk")))
	wantState(t, "to nothing", "a 1 | ")(cart.Apply(api.State{}, remove("a 1", "", "", "milk")))
	wantState(t, "the last one", "a 4611686018427387904 | a 4611686018427387904 c milk 2")(cart.Apply(made("a 4611686018427387903 | "), add("a 4611686018427387904", "a 4611686018427387903", 2, "milk")))
}

func TestP93ApplyOfWhatLacks(t *testing.T) {
	s := made("a 3, b 2 | a 1 c milk 2")
	for name, o := range map[string]api.Op{
		"its own one":         add("a 5", "a 4", 1, "milk"),
		"its own first":       add("c 2", "c 1", 1, "milk"),
		"another one's":       add("a 4", "a 3, c 1", 1, "milk"),
		"another one's later": add("a 4", "a 3, b 3", 1, "milk"),
		"of a new one":        add("c 1", "a 4", 1, "milk"),
		"of one that removes": remove("c 1", "a 3, b 3", "a 1", "milk"),
		"the last of Deps":    add("c 1", "a 3, b 2, z 1", 1, "milk"),
		"the first of Deps":   add("c 1", "0 1, a 3, b 2", 1, "milk"),
		"a far one":           add("c 1", "a 4611686018427387904", 1, "milk"),
	} {
		wantNoState(t, name, api.ErrVector)(cart.Apply(s, o))
	}
	wantNoState(t, "of nothing", api.ErrVector)(cart.Apply(api.State{}, add("a 2", "a 1", 1, "milk")))
}

func TestP93ApplyOfWhatIsWrong(t *testing.T) {
	good := add("a 2", "a 1", 1, "milk")
	for why, s := range wrongStates() {
		wantNoState(t, why, api.ErrArg)(cart.Apply(s, good))
		wantNoState(t, why+" with its dot", api.ErrArg)(cart.Apply(s, add("a 1", "", 1, "milk")))
		wantNoState(t, why+" without Deps", api.ErrArg)(cart.Apply(s, add("x 2", "x 1", 1, "milk")))
		wantNoState(t, why, api.ErrArg)(cart.Apply(s, api.Op{}))
	}
	for why, o := range wrongOps() {
		wantNoState(t, why, api.ErrArg)(cart.Apply(made("a 9, b 1 | "), o))
		wantNoState(t, why+" with its dot", api.ErrArg)(cart.Apply(made("a 9, b 9 | b 2 c milk 1"), o))
		wantNoState(t, why+" to nothing", api.ErrArg)(cart.Apply(api.State{}, o))
		wantNoState(t, why+" to a full one", api.ErrArg)(cart.Apply(full("b", 512), o))
	}
}

func TestP93ApplyAtTheLimits(t *testing.T) {
	s := api.State{Known: row("k", 0, 63)}
	wantState(t, "the 64th", text(append(row("k", 0, 63), dot("z", 1)))+" | z 1 c milk 1")(cart.Apply(s, add("z 1", "k000 1", 1, "milk")))
	s = api.State{Known: row("k", 0, 64)}
	wantNoState(t, "the 65th", api.ErrVector)(cart.Apply(s, add("z 1", "k000 1", 1, "milk")))
	wantNoState(t, "the 65th, which removes", api.ErrVector)(cart.Apply(s, remove("a 1", "", "", "milk")))
	if x, e := cart.Apply(s, add("k063 2", "k063 1", 1, "milk")); len(x.Known) != 64 || x.Known[63] != dot("k063", 2) || len(x.Live) != 1 || e != api.OK {
		t.Error(all(x), e)
	}
	wantState(t, "known", all(s))(cart.Apply(s, add("k063 1", "", 1, "milk")))
	if x, e := cart.Apply(full("a", 511), add("b 1", "", 1, "x")); len(x.Live) != 512 || !cart.Right(x) || e != api.OK {
		t.Error(len(x.Live), e)
	}
	f := full("a", 512)
	wantNoState(t, "513 entries", api.ErrMany)(cart.Apply(f, add("b 1", "", 1, "x")))
	wantNoState(t, "513 entries, of one that sets", api.ErrMany)(cart.Apply(f, set("a 513", "a 512", "", 1, "x")))
	wantNoState(t, "513 entries, of one that sets another item", api.ErrMany)(cart.Apply(f, set("a 513", "a 512", "a 7", 1, "y")))
	wantState(t, "known", all(f))(cart.Apply(f, add("a 512", "a 511", 1, "y")))
	if x, e := cart.Apply(f, remove("a 513", "a 512", "", "x")); len(x.Live) != 512 || text(x.Known) != "a 513" || e != api.OK {
		t.Error(len(x.Live), e)
	}
	if x, e := cart.Apply(f, set("a 513", "a 512", "a 7", 5, "x")); len(x.Live) != 512 || x.Live[6].Dot.N != 8 || x.Live[511] != live("a 513", "x", 5) || e != api.OK {
		t.Error(len(x.Live), e)
	}
	both := full("a", 512)
	both.Known = append(both.Known, row("k", 0, 63)...)
	wantNoState(t, "both", api.ErrVector)(cart.Apply(both, add("z 1", "", 1, "x")))
	wantNoState(t, "both, lacking", api.ErrVector)(cart.Apply(f, add("b 1", "c 1", 1, "x")))
}

func TestP93ApplyAsTheModelDoes(t *testing.T) {
	r := rand.New(rand.NewSource(932))
	results := map[api.Errno]int{}
	for range 8000 {
		s, o := someState(r), loose(r, 1)[0]
		x, e := cart.Apply(s, o)
		results[e]++
		switch {
		case knows(s.Known, o.Dot):
			wantState(t, "known", all(s))(x, e)
		case slices.ContainsFunc(o.Deps, func(d api.Dot) bool { return !knows(s.Known, d) }):
			wantNoState(t, "lacking", api.ErrVector)(x, e)
		default:
			numbers := map[string]int64{o.Dot.Who: o.Dot.N}
			for _, d := range s.Known {
				numbers[d.Who] = max(numbers[d.Who], d.N)
			}
			want := api.State{Known: vectorOf(numbers)}
			for _, y := range s.Live {
				if y.Cart != o.Cart || y.Item != o.Item || !slices.Contains(o.Seen, y.Dot) {
					want.Live = append(want.Live, y)
				}
			}
			if o.Kind != api.KRemove {
				want.Live = append(want.Live, api.Live{Dot: o.Dot, Cart: o.Cart, Item: o.Item, Qty: o.Qty})
			}
			want.Live = rising(want.Live)
			wantState(t, all(s)+" with "+show(o), all(want))(x, e)
		}
		if t.Failed() {
			return
		}
	}
	if results[api.OK] < 500 || results[api.ErrVector] < 500 {
		t.Error(results)
	}
}

// laidNumber is what chapter 2 says, of a number.
func laidNumber(n uint64) string {
	for more := range 8 {
		if n < 1<<(7*(more+1)) {
			b := binary.BigEndian.AppendUint64(nil, n)[7-more:]
			b[0] |= ^(byte(0xff) >> more)
			return string(b)
		}
	}
	return "\xff" + string(binary.BigEndian.AppendUint64(nil, n))
}

// parts are those of a state's encoding, one by one, also of one that is not valid, and which of them are numbers.
func parts(s api.State) ([]string, []bool) {
	var out []string
	var isNumber []bool
	number := func(n uint64) { out, isNumber = append(out, laidNumber(n)), append(isNumber, true) }
	bytes := func(s string) {
		number(uint64(len(s)))
		out, isNumber = append(out, s), append(isNumber, false)
	}
	number(uint64(len(s.Known)))
	for _, d := range s.Known {
		bytes(d.Who)
		number(uint64(d.N))
	}
	number(uint64(len(s.Live)))
	for _, x := range s.Live {
		bytes(x.Dot.Who)
		number(uint64(x.Dot.N))
		bytes(x.Cart)
		bytes(x.Item)
		number(uint64(x.Qty))
	}
	return out, isNumber
}

func laid(s api.State) string {
	l, _ := parts(s)
	return strings.Join(l, "")
}

func wantNotRead(t *testing.T, s string) {
	t.Helper()
	if x, e := cart.Read(s); len(x.Known) != 0 || len(x.Live) != 0 || e != api.ErrArg {
		t.Errorf("Read(%.80x) = %s, %d, not ErrArg", s, all(x), e)
	}
}

func TestP94ByHand(t *testing.T) {
	for want, s := range map[string]api.State{
		"\x00\x00":          {},
		"\x01\x01a\x01\x00": made("a 1 | "),
		"\x01\x01a\x01\x01\x01a\x01\x01c\x04milk\x02":                                                      made("a 1 | a 1 c milk 2"),
		"\x02\x01a\x80\xc8\x02b.\x03\x02\x01a\x07\x01c\x02\xc3\xa9\xa7\x0f\x02b.\x03\x02\xff\x00\x01 \x01": {Known: dots("a 200, b. 3"), Live: []api.Live{{Dot: dot("a", 7), Cart: "c", Item: "é", Qty: 9999}, {Dot: dot("b.", 3), Cart: "\xff\x00", Item: " ", Qty: 1}}},
		"\x01\x01z\xff\x40\x00\x00\x00\x00\x00\x00\x00\x01\x01z\xc0@\x00\x01c\x01i\x80\x80":                {Known: []api.Dot{dot("z", top)}, Live: []api.Live{{Dot: dot("z", 16384), Cart: "c", Item: "i", Qty: 128}}},
	} {
		if x, e := cart.Lay(s); x != want || e != api.OK {
			t.Errorf("Lay(%s) = %x, %d, not %x", all(s), x, e, want)
		}
		wantState(t, fmt.Sprintf("Read(%x)", want), all(s))(cart.Read(want))
	}
}

func TestP94LayAndRead(t *testing.T) {
	for _, s := range validStates() {
		x, e := cart.Lay(s)
		if x != laid(s) || e != api.OK {
			t.Errorf("Lay(%s) = %x, %d, not %x", all(s), x, e, laid(s))
		}
		wantState(t, fmt.Sprintf("Read(%.80x)", x), all(s))(cart.Read(x))
	}
	r := rand.New(rand.NewSource(94))
	for range 2000 {
		s := someState(r)
		x, e := cart.Lay(s)
		if x != laid(s) || e != api.OK {
			t.Fatalf("Lay(%s) = %x, %d", all(s), x, e)
		}
		wantState(t, "Read", all(s))(cart.Read(x))
	}
}

func TestP94WrongStates(t *testing.T) {
	for why, s := range wrongStates() {
		if x, e := cart.Lay(s); x != "" || e != api.ErrArg {
			t.Errorf("Lay of %s = %x, %d", why, x, e)
		}
		wantNotRead(t, laid(s))
	}
}

func TestP94BytesThatEndTooEarlyOrGoOn(t *testing.T) {
	wantNotRead(t, "")
	for _, s := range validStates() {
		b := laid(s)
		for k := range len(b) {
			if k < 300 || k > len(b)-40 {
				wantNotRead(t, b[:k])
			}
		}
		for _, more := range []string{"\x00", "\x01", "\xff", "\x01a\x01\x01c\x01i\x01", b} {
			wantNotRead(t, b+more)
		}
	}
	wantNotRead(t, "\x00"+laid(made("a 1 | ")))
}

func TestP94NumbersThatAreTooGreat(t *testing.T) {
	great := []uint64{1<<62 + 1, 1<<63 - 1, 1 << 63, 1<<64 - 1, 1<<64 - 9998}
	for n := range uint64(4) {
		great = append(great, 1<<63+n, 1<<62+1<<32+n, 1<<32+n+1<<33, 100000+n)
	}
	s := made("a 3, b 7 | a 1 c milk 2, a 3 d tea 3, b 7 c rice 1")
	l, isNumber := parts(s)
	if _, e := cart.Read(strings.Join(l, "")); e != api.OK {
		t.Fatal(e)
	}
	for i := range l {
		for _, n := range great {
			x := slices.Clone(l)
			x[i] = laidNumber(n)
			// Known may have great numbers, as long as they are those of a dot.
			if isNumber[i] && (n > 1<<62 || i != 3 && i != 6) {
				wantNotRead(t, strings.Join(x, ""))
			}
		}
	}
	for n := uint64(1); n < 3000; n++ {
		wantNotRead(t, "\x00"+laidNumber(n))
		wantNotRead(t, laidNumber(n)+"\x00")
		wantNotRead(t, "\x01\x01a\x01"+laidNumber(n+1)+"\x01a\x01\x01c\x01i\x01")
	}
	for n := range uint64(12000) {
		_, e := cart.Read("\x01\x01a\x05\x01\x01a\x05\x01c\x01i" + laidNumber(n))
		if (e == api.OK) != (n >= 1 && n <= 9999) {
			t.Error("quantity", n, e)
		}
		_, e = cart.Read("\x01\x01a\x05\x01\x01a" + laidNumber(n) + "\x01c\x01i\x01")
		if (e == api.OK) != (n >= 1 && n <= 5) {
			t.Error("dot", n, e)
		}
	}
}

func TestP94FormsThatAreNotTheShortest(t *testing.T) {
	l, isNumber := parts(made("a 3, b 7 | a 1 c milk 2, b 7 c rice 1"))
	for i, part := range l {
		for _, form := range []string{"\x80", "\xc0\x00", "\xff\x00\x00\x00\x00\x00\x00\x00"} {
			x := slices.Clone(l)
			x[i] = form + part
			if isNumber[i] {
				wantNotRead(t, strings.Join(x, ""))
			}
		}
	}
}

func TestP94NoOtherBytesAreAState(t *testing.T) {
	for _, s := range []api.State{made("a 3, b 7 | a 1 c milk 2, b 7 d tea 9"), made("a 1 | "), {}} {
		b := laid(s)
		for i := range len(b) {
			for x := range 256 {
				other := b[:i] + string([]byte{byte(x)}) + b[i+1:]
				got, e := cart.Read(other)
				if e != api.OK {
					wantNotRead(t, other)
				} else if again, e := cart.Lay(got); again != other || e != api.OK || (other == b) != (all(got) == all(s)) {
					t.Errorf("Read(%x) = %s, whose encoding is %x", other, all(got), again)
				}
			}
		}
	}
	seen := map[string]bool{}
	for _, s := range validStates() {
		if x, _ := cart.Lay(s); seen[x] {
			t.Errorf("%s has the encoding of another one", all(s))
		} else {
			seen[x] = true
		}
	}
}

// modelOf is the state of a closed list, as the chapter tells it.
func modelOf(l []api.Op) api.State {
	numbers := map[string]int64{}
	for _, o := range l {
		numbers[o.Dot.Who] = max(numbers[o.Dot.Who], o.Dot.N)
	}
	return api.State{Known: vectorOf(numbers), Live: modelLive(l)}
}

// family makes the operations that each of some makers has at last: closed lists, each in an order in which operations follow their Deps.
func family(r *rand.Rand, makers, many int) [][]api.Op {
	had := make([]*order.Pool, makers)
	for i := range had {
		had[i] = order.New()
	}
	var made []api.Op
	for range many {
		me := r.Intn(makers)
		for _, o := range made {
			if r.Intn(3) == 0 {
				had[me].Put(o)
			}
		}
		o := edit(r, fmt.Sprint("m", me), had[me])
		had[me].Put(o)
		made = append(made, o)
	}
	var out [][]api.Op
	for _, p := range had {
		out = append(out, p.Ops())
	}
	return out
}

// edit makes the next operation of one: it mostly removes what lives of its cart and item, and at times anything that is known.
func edit(r *rand.Rand, who string, p *order.Pool) api.Op {
	o := api.Op{Dot: dot(who, 1), Deps: p.Known(), Cart: pick(r, "c", "d"), Kind: 1 + r.Intn(3), Item: pick(r, "milk", "tea", "rice"), Qty: 1 + r.Int63n(5000)}
	for _, d := range o.Deps {
		if d.Who == who {
			o.Dot.N = d.N + 1
		}
	}
	if o.Kind == api.KRemove {
		o.Qty = 0
	}
	wild := r.Intn(4) == 0
	for _, d := range o.Deps {
		for n := int64(1); n <= d.N && o.Kind != api.KAdd; n++ {
			its := slices.ContainsFunc(modelLive(p.Ops()), func(x api.Live) bool {
				return x.Dot == dot(d.Who, n) && x.Cart == o.Cart && x.Item == o.Item
			})
			if its && !wild || wild && r.Intn(2) == 0 {
				o.Seen = append(o.Seen, dot(d.Who, n))
			}
		}
	}
	return o
}

func TestP95StatesHaveTheViewsOfTheirLists(t *testing.T) {
	r := rand.New(rand.NewSource(951))
	for range 200 {
		for _, l := range family(r, 1+r.Intn(5), r.Intn(30)) {
			s := of(t, l...)
			wantState(t, "Of", all(modelOf(l)))(s, api.OK)
			for _, name := range []string{"c", "d", "e"} {
				v, e := cart.View(l, name)
				w, f := cart.Lines(s, name)
				if !slices.Equal(v, w) || e != api.OK || f != api.OK || lines(v) != modelView(modelLive(l), name) {
					t.Fatalf("View %s, %d, Lines %s, %d", lines(v), e, lines(w), f)
				}
			}
		}
	}
}

func TestP95BothTogetherAreTheMerge(t *testing.T) {
	r := rand.New(rand.NewSource(952))
	for range 150 {
		f := family(r, 2+r.Intn(4), r.Intn(30))
		for _, a := range f {
			for _, b := range f {
				want := of(t, slices.Concat(a, b)...)
				wantState(t, "Merge", all(want))(cart.Merge(of(t, a...), of(t, b...)))
			}
		}
		if t.Failed() {
			return
		}
		// All of them, in any order.
		r.Shuffle(len(f), func(i, j int) { f[i], f[j] = f[j], f[i] })
		var s api.State
		for _, l := range f {
			s, _ = cart.Merge(s, of(t, l...))
		}
		wantState(t, "all", all(of(t, slices.Concat(f...)...)))(s, api.OK)
	}
}

func TestP95AppliedOneByOne(t *testing.T) {
	r := rand.New(rand.NewSource(953))
	for range 150 {
		for _, l := range family(r, 1+r.Intn(5), r.Intn(30)) {
			// Another order in which each follows its Deps: that in which a pool delivers them.
			p := order.New()
			for _, i := range r.Perm(len(l)) {
				p.Put(l[i])
			}
			for _, ops := range [][]api.Op{l, p.Ops()} {
				var s api.State
				for i, o := range ops {
					x, e := cart.Apply(s, o)
					if e != api.OK {
						t.Fatal(e, show(o))
					}
					s = x
					wantState(t, "Apply", all(of(t, ops[:i+1]...)))(s, e)
					wantState(t, "again", all(s))(cart.Apply(s, ops[r.Intn(i+1)]))
				}
			}
			if t.Failed() {
				return
			}
		}
	}
}

func TestP95TheOrderOfAListIsNoMatter(t *testing.T) {
	l := []api.Op{add("a 1", "", 2, "milk"), set("a 2", "a 1", "a 1", 1, "milk"), add("b 1", "a 1", 5, "tea"), remove("b 2", "a 1, b 1", "a 1, b 1", "tea"), set("c 1", "b 2, a 2", "", 4, "rice")}
	l[4].Deps = dots("a 2, b 2")
	want := modelOf(l)
	if all(want) != "a 2, b 2, c 1 | a 2 c milk 1, c 1 c rice 4" {
		t.Fatal(all(want))
	}
	var each func(done, rest []api.Op)
	each = func(done, rest []api.Op) {
		if len(rest) == 0 {
			wantState(t, "Of", all(want))(cart.Of(done))
			wantView(t, done, "c", "milk 1, rice 4")
			return
		}
		for i := range rest {
			each(append(slices.Clone(done), rest[i]), slices.Delete(slices.Clone(rest), i, i+1))
		}
	}
	each(nil, l)
}

// wide are operations of many makers on many items of some carts, of which some are removed.
func wide() []api.Op {
	var l []api.Op
	for i, d := range row("k", 0, 60) {
		o := add("a 1", "", int64(i+1), fmt.Sprintf("item%d", i%25))
		o.Dot, o.Cart = d, []string{"c", "d"}[i%2]
		l = append(l, o)
		if i%3 == 0 {
			o = changed(o, func(o *api.Op) { o.Dot.N, o.Deps, o.Kind = 2, row("k", i, i+1), api.KSet })
			o.Seen = o.Deps
			l = append(l, o)
		}
	}
	return l
}

// answers tells what all calls answer of a list.
func answers(l []api.Op) string {
	var out []string
	for _, name := range []string{"c", "d"} {
		v, e := cart.View(l, name)
		out = append(out, fmt.Sprint(v, e))
		for i := range 25 {
			d, e := cart.Living(l, name, fmt.Sprintf("item%d", i))
			out = append(out, fmt.Sprint(d, e))
		}
	}
	s, e := cart.Of(l)
	out = append(out, fmt.Sprint(s, e))
	half, _ := cart.Of(l[:len(l)/2])
	m, e := cart.Merge(half, s)
	out = append(out, fmt.Sprint(m, e))
	x, e := cart.Apply(s, changed(set("z 1", "", "", 3, "item2"), func(o *api.Op) { o.Deps = row("k", 0, 60); o.Seen = o.Deps }))
	out = append(out, fmt.Sprint(x, e))
	v, e := cart.Lines(s, "c")
	b, f := cart.Lay(s)
	return strings.Join(append(out, fmt.Sprint(v, e), fmt.Sprint(b, f)), "\n")
}

func TestP95NoAnswerHangsOnTheOrderOfAMap(t *testing.T) {
	l := wide()
	want := answers(l)
	if s := of(t, l...); all(s) != all(modelOf(l)) || len(s.Known) != 60 || len(s.Live) != 60 {
		t.Fatal(all(s))
	}
	for range 200 {
		if answers(l) != want {
			t.Fatal("the same calls answer differently")
		}
	}
}

// spoilDots writes over dots, and over the room behind them.
func spoilDots(l []api.Dot) {
	for i := range l[:cap(l)] {
		l[:cap(l)][i] = dot("spoilt", -7)
	}
}

func spoil(s api.State) {
	spoilDots(s.Known)
	for i := range s.Live[:cap(s.Live)] {
		s.Live[:cap(s.Live)][i] = api.Live{Dot: dot("spoilt", -7), Cart: "spoilt"}
	}
}

// roomy is a state with room behind its slices, in which something stands.
func roomy(s api.State) api.State {
	known := append(make([]api.Dot, 0, 100), s.Known...)
	live := append(make([]api.Live, 0, 600), s.Live...)
	for i := len(known); i < 100; i++ {
		known[:100][i] = dot("spare", int64(i))
	}
	for i := len(live); i < 600; i++ {
		live[:600][i] = api.Live{Cart: "spare", Qty: int64(i)}
	}
	return api.State{Known: known, Live: live}
}

// whole tells all of a state, and what stands behind it.
func whole(s api.State) string {
	return all(api.State{Known: s.Known[:cap(s.Known)], Live: s.Live[:cap(s.Live)]})
}

func TestP93NoArgumentIsWritten(t *testing.T) {
	for _, x := range []string{" | ", "a 3, b 2 | a 1 c milk 2, b 1 c milk 4", "a 3, c 1 | a 3 c milk 1, c 1 d tea 3", "a 3, b 2 | "} {
		for _, y := range []string{" | ", "a 3, b 2 | a 1 c milk 2, b 1 c milk 4", "0 7, b 2, z 9 | 0 1 c milk 2, b 1 c milk 4, z 9 c x 1"} {
			for _, o := range []api.Op{add("a 1", "", 1, "x"), add("0 1", "", 1, "x"), set("a 4", "a 3", "a 1", 7, "milk"), remove("c 1", "a 1, b 1", "a 1, b 1", "milk")} {
				a, b := roomy(made(x)), roomy(made(y))
				o.Deps = roomy(api.State{Known: o.Deps}).Known
				o.Seen = roomy(api.State{Known: o.Seen}).Known
				tell := func() string {
					return whole(a) + whole(b) + show(o) + text(o.Deps[:cap(o.Deps)]) + text(o.Seen[:cap(o.Seen)])
				}
				before := tell()
				cart.Right(a)
				cart.Merge(a, b)
				cart.Merge(b, a)
				cart.Merge(a, a)
				cart.Apply(a, o)
				cart.Lines(a, "c")
				cart.Lay(a)
				if tell() != before {
					t.Errorf("%s became %s", before, tell())
				}
			}
		}
	}
}

func TestP91NoListIsWritten(t *testing.T) {
	l := append(make([]api.Op, 0, 200), wide()...)
	slices.Reverse(l)
	l[:200][199] = add("spare 1", "", 1, "x")
	for i := range l {
		l[i].Deps = roomy(api.State{Known: l[i].Deps}).Known
		l[i].Seen = roomy(api.State{Known: l[i].Seen}).Known
	}
	tell := func() string {
		out := showAll(l[:cap(l)])
		for _, o := range l {
			out += text(o.Deps[:cap(o.Deps)]) + text(o.Seen[:cap(o.Seen)])
		}
		return out
	}
	before := tell()
	want := answers(l)
	if tell() != before {
		t.Error("a list was written")
	}
	// Nor do later calls hang on what was handed in before.
	other := slices.Clone(l)
	for i := range l {
		spoilDots(l[i].Deps)
	}
	clear(l[:cap(l)])
	for i := range other {
		other[i].Deps = nil
		if other[i].Dot.N > 1 {
			other[i].Deps = []api.Dot{dot(other[i].Dot.Who, other[i].Dot.N-1)}
		}
	}
	if answers(other) != want {
		t.Error("a list was kept")
	}
}

func TestP93AnswersAreNewMemory(t *testing.T) {
	a, b := roomy(made("a 3, b 2 | a 1 c milk 2, b 1 c milk 4")), roomy(made("a 3, d 1 | a 1 c milk 2, d 1 c x 1"))
	nothing := roomy(api.State{})
	o := add("z 1", "a 3", 1, "x")
	bytes := laid(a)
	l := []api.Op{add("a 1", "", 2, "milk"), add("b 1", "", 2, "tea")}
	for name, call := range map[string]func() (api.State, api.Errno){
		"Of":                func() (api.State, api.Errno) { return cart.Of(l) },
		"Merge":             func() (api.State, api.Errno) { return cart.Merge(a, b) },
		"Merge with itself": func() (api.State, api.Errno) { return cart.Merge(a, a) },
		"Merge to nothing":  func() (api.State, api.Errno) { return cart.Merge(nothing, b) },
		"Merge of nothing":  func() (api.State, api.Errno) { return cart.Merge(a, nothing) },
		"Apply":             func() (api.State, api.Errno) { return cart.Apply(a, o) },
		"Apply of a known":  func() (api.State, api.Errno) { return cart.Apply(a, l[0]) },
		"Apply of a removal": func() (api.State, api.Errno) {
			return cart.Apply(a, remove("b 3", "a 3, b 2", "a 1", "milk"))
		},
		"Apply to nothing": func() (api.State, api.Errno) { return cart.Apply(nothing, l[0]) },
		"Read":             func() (api.State, api.Errno) { return cart.Read(bytes) },
	} {
		before := whole(a) + whole(b) + whole(nothing) + show(o) + showAll(l)
		x, e := call()
		y, _ := call()
		want := all(x)
		spoil(x)
		if e != api.OK || all(y) != want {
			t.Errorf("%s: %s, %d, not %s", name, all(y), e, want)
		}
		if after := whole(a) + whole(b) + whole(nothing) + show(o) + showAll(l); after != before {
			t.Errorf("%s: %s became %s", name, before, after)
		}
	}
}

func TestP91AnswersAreNewMemory(t *testing.T) {
	l := []api.Op{add("a 1", "", 2, "milk"), set("b 1", "a 1", "", 2, "tea"), set("b 2", "a 1, b 1", "a 1", 2, "milk")}
	s := of(t, l...)
	before := showAll(l) + all(s)
	for range 2 {
		v, _ := cart.View(l, "c")
		w, _ := cart.Lines(s, "c")
		for _, x := range [][]api.Line{v, w} {
			if lines(x) != "milk 2, tea 2" {
				t.Error(lines(x))
			}
			for i := range x[:cap(x)] {
				x[:cap(x)][i] = api.Line{Item: "spoilt"}
			}
		}
		d, _ := cart.Living(l, "c", "milk")
		if text(d) != "b 2" {
			t.Error(text(d))
		}
		spoilDots(d)
	}
	if after := showAll(l) + all(s); after != before {
		t.Errorf("%s became %s", before, after)
	}
}
