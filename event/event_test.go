package event_test

import (
	"fmt"
	"math"
	"math/rand"
	"reflect"
	"slices"
	"strconv"
	"strings"
	"testing"

	"pannier/api"
	"pannier/bits"
	"pannier/event"
)

const top = int64(1) << 62

var zero, one = leaf(0), leaf(1)

func leaf(n int64) api.Event { return api.Event{N: n} }

func node(n int64, kids ...api.Event) api.Event { return api.Event{N: n, Kids: kids} }

// text is the text of a tree as it stands, in normal form or not.
func text(t api.Event) string { return string(addText(nil, t)) }

func addText(out []byte, t api.Event) []byte {
	if len(t.Kids) == 0 {
		return fmt.Append(out, t.N)
	}
	out = fmt.Append(append(out, '('), t.N)
	for _, kid := range t.Kids {
		out = addText(append(out, ','), kid)
	}
	return append(out, ')')
}

// tree reads the text of a tree, in normal form or not.
func tree(s string) api.Event {
	t, rest, ok := readTree(s)
	if !ok || rest != "" {
		panic("no tree: " + s)
	}
	return t
}

// readTree reads the text of a tree ahead of a rest, and isn't strict about its numbers.
func readTree(s string) (api.Event, string, bool) {
	s, inner := strings.CutPrefix(s, "(")
	rest := strings.TrimLeft(s, "0123456789")
	n, err := strconv.ParseInt(s[:len(s)-len(rest)], 10, 64)
	if err != nil {
		return zero, "", false
	}
	if !inner {
		return leaf(n), rest, true
	}
	t := node(n)
	for range 2 {
		behind, ok := strings.CutPrefix(rest, ",")
		if !ok {
			return zero, "", false
		}
		kid, after, ok := readTree(behind)
		if !ok {
			return zero, "", false
		}
		t.Kids, rest = append(t.Kids, kid), after
	}
	rest, ok := strings.CutPrefix(rest, ")")
	return t, rest, ok
}

// digits are the bits of a tree as it stands, as a text of 0 and 1.
func digits(t api.Event) string { return string(addDigits(nil, t)) }

func addDigits(out []byte, t api.Event) []byte {
	if len(t.Kids) == 0 {
		return append(append(out, '0'), gamma(t.N)...)
	}
	out = append(append(out, '1'), gamma(t.N)...)
	return addDigits(addDigits(out, t.Kids[0]), t.Kids[1])
}

func gamma(n int64) string {
	s := strconv.FormatInt(n+1, 2)
	return strings.Repeat("0", len(s)-1) + s
}

// bitString makes the bit string of digits.
func bitString(digits string) ([]byte, int) {
	b := make([]byte, (len(digits)+7)/8)
	for i, x := range digits {
		if x == '1' {
			b[i/8] |= 128 >> (i % 8)
		}
	}
	return b, len(digits)
}

func size(t api.Event) int {
	n := 1
	for _, kid := range t.Kids {
		n += size(kid)
	}
	return n
}

func depth(t api.Event) int {
	d := 0
	for _, kid := range t.Kids {
		d = max(d, depth(kid)+1)
	}
	return d
}

// trees are all trees up to a depth, with leaves of 0 to 2 and nodes of 0 and 1.
func trees(deep int) []api.Event {
	out := []api.Event{leaf(0), leaf(1), leaf(2)}
	if deep == 0 {
		return out
	}
	below := trees(deep - 1)
	for _, first := range below {
		for _, second := range below {
			out = append(out, node(0, first, second), node(1, first, second))
		}
	}
	return out
}

// cells are the counts of 2^deep equal pieces of [0, 1).
func cells(t api.Event, deep int) []int64 {
	if len(t.Kids) == 0 {
		return slices.Repeat([]int64{t.N}, 1<<deep)
	}
	out := slices.Concat(cells(t.Kids[0], deep-1), cells(t.Kids[1], deep-1))
	for i := range out {
		out[i] += t.N
	}
	return out
}

// form is the normal form that denotes those counts.
func form(cells []int64) api.Event { return formAbove(cells, 0) }

func formAbove(cells []int64, above int64) api.Event {
	least, most := slices.Min(cells), slices.Max(cells)
	if least == most {
		return leaf(least - above)
	}
	half := len(cells) / 2
	return node(least-above, formAbove(cells[:half], least), formAbove(cells[half:], least))
}

// below tells whether a count of a is nowhere greater than that of b.
func below(a, b []int64) bool {
	for i := range a {
		if a[i] > b[i] {
			return false
		}
	}
	return true
}

func greater(a, b []int64) []int64 {
	out := make([]int64, len(a))
	for i := range a {
		out[i] = max(a[i], b[i])
	}
	return out
}

// chain is a tree of that depth: a tree below nodes of 0 whose other kids are other.
func chain(deep int, t, other api.Event) api.Event {
	for range deep {
		t = node(0, other, t)
	}
	return t
}

// full is the tree of that depth all of whose leaves are at it, 0 and 1 in turns: a normal form of 2^(deep+1) - 1 nodes.
func full(deep int) api.Event {
	if deep == 1 {
		return node(0, zero, one)
	}
	return node(0, full(deep-1), full(deep-1))
}

// wide is a normal form with that (odd) number of nodes, whose counts are 0 and 1.
func wide(count int) api.Event {
	t := one
	for size(t) < count {
		t = grown(t, min(count-size(t), size(t)+1)/2)
	}
	return t
}

// grown puts a node into the place of each of the first leaves.
func grown(t api.Event, leaves int) api.Event {
	done := 0
	var grow func(t api.Event) api.Event
	grow = func(t api.Event) api.Event {
		if len(t.Kids) > 0 {
			first := grow(t.Kids[0])
			return node(t.N, first, grow(t.Kids[1]))
		}
		if done == leaves {
			return t
		}
		done++
		return full(1)
	}
	return grow(t)
}

// changed is a tree with other leaves.
func changed(t api.Event, to func(n int64) int64) api.Event {
	if len(t.Kids) == 0 {
		return leaf(to(t.N))
	}
	return node(t.N, changed(t.Kids[0], to), changed(t.Kids[1], to))
}

// flat is a tree of that many nodes that denotes 1 everywhere.
func flat(count int) api.Event {
	return changed(wide(count), func(int64) int64 { return 1 })
}

// opposite has 1 where a tree of nodes of 0 has 0, and 0 where it has 1.
func opposite(t api.Event) api.Event {
	return changed(t, func(n int64) int64 { return 1 - n })
}

// random is a tree up to a depth, the more often deep the greater it is, with counts of at most most on each level.
func random(r *rand.Rand, deep int, most int64) api.Event {
	n := r.Int63n(most + 1)
	if deep == 0 || r.Intn(5) == 0 {
		return leaf(n)
	}
	return node(n, random(r, deep-1, most), random(r, deep-1, most))
}

// wrong are trees that aren't valid.
func wrong() map[string]api.Event {
	round := make([]api.Event, 2)
	round[0].Kids, round[1].Kids = round, round
	line := make([]api.Event, 2)
	line[1].Kids = line
	out := map[string]api.Event{
		"depth 33":             chain(33, one, zero),
		"depth 33 of ones":     chain(33, one, one),
		"depth 33, first":      node(0, chain(32, one, zero), zero),
		"depth 65536":          chain(1<<16, one, zero),
		"2049 nodes":           wide(2049),
		"2049 nodes, flat":     flat(2049),
		"4095 nodes":           full(11),
		"a slice in itself":    {Kids: round},
		"a second in itself":   {Kids: line},
		"a million kids":       {Kids: make([]api.Event, 1<<20)},
		"a million kids below": node(0, one, api.Event{Kids: make([]api.Event, 1<<20)}),
		"1 above 2^62":         node(1, zero, leaf(top)),
		"2^62 + 1 by 33":       spread(1, top-31),
		"1 above a deep 2^62":  node(1, chain(31, leaf(top), zero), zero),
	}
	for name, t := range map[string]api.Event{
		"one kid":                  node(0, one),
		"three kids":               node(0, one, zero, zero),
		"four kids":                node(0, one, zero, one, zero),
		"one kid of two":           node(1, node(0, one, zero)),
		"-1":                       leaf(-1),
		"the least number":         leaf(math.MinInt64),
		"a node of -1":             node(-1, one, leaf(2)),
		"-1 below 5":               node(5, leaf(-1), zero),
		"-1 below 5, second":       node(5, zero, leaf(-1)),
		"-1 above 2^62 + 1":        node(-1, leaf(top+1), one),
		"2^62 + 1":                 leaf(top + 1),
		"the greatest number":      leaf(math.MaxInt64),
		"a node of 2^62 + 1":       node(top+1, zero, zero),
		"a node of the greatest":   node(math.MaxInt64, zero, zero),
		"-1 below 2^62 + 1":        node(top+1, leaf(-1), leaf(-1)),
		"1 below 2^62":             node(top, zero, one),
		"1 below 2^62, first":      node(top, one, zero),
		"2^62 below 1":             node(1, leaf(top), zero),
		"2^62 below 2^62":          node(top, leaf(top), leaf(top)),
		"four of 2^62":             node(top, zero, node(top, node(top, leaf(top), leaf(top)), zero)),
		"the greatest below 1":     node(1, leaf(math.MaxInt64), zero),
		"the greatest, twice":      node(math.MaxInt64, leaf(math.MaxInt64), zero),
		"the greatest, three of 2": node(math.MaxInt64, node(math.MaxInt64, leaf(2), leaf(2)), node(math.MaxInt64, leaf(2), leaf(2))),
	} {
		out[name] = t
		out["first: "+name] = node(0, t, zero)
		out["second: "+name] = node(0, one, t)
		out["deep: "+name] = chain(30, t, zero)
		out["behind many: "+name] = node(0, wide(1023), t)
	}
	return out
}

// spread is a tree of depth 32 with that number at each node and, at its deepest leaf, the last.
func spread(each, last int64) api.Event {
	t := leaf(last)
	for range 32 {
		t = node(each, zero, t)
	}
	return t
}

// atTheLimits are valid trees, in normal form, that are as great as they may be.
func atTheLimits() map[string]api.Event {
	return map[string]api.Event{
		"0":                    zero,
		"2^62":                 leaf(top),
		"2^62 - 1":             leaf(top - 1),
		"2^62, second":         node(0, zero, leaf(top)),
		"2^62, first":          node(0, leaf(top), zero),
		"1 above 2^62 - 1":     node(1, zero, leaf(top-1)),
		"2^62 - 1 above 1":     node(top-1, one, zero),
		"half of 2^62 twice":   node(top/2, zero, leaf(top/2)),
		"2^62 by 33":           spread(1, top-32),
		"2^62 at depth 32":     chain(32, leaf(top), zero),
		"depth 32":             chain(32, one, zero),
		"depth 32, turned":     chain(32, zero, one),
		"2047 nodes":           wide(2047),
		"2047 nodes, full":     full(10),
		"depth 32, 2047 nodes": node(0, chain(31, one, zero), wide(2047-64)),
		"2047 nodes and 2^62":  changed(full(10), func(n int64) int64 { return n * top }),
		"2047 nodes, lifted":   raised(full(10), top-1),
	}
}

// raised is a tree with more at its root.
func raised(t api.Event, n int64) api.Event { return api.Event{N: t.N + n, Kids: t.Kids} }

// copied is a tree of the same nodes in memory of its own.
func copied(t api.Event) api.Event {
	out := leaf(t.N)
	for _, kid := range t.Kids {
		out.Kids = append(out.Kids, copied(kid))
	}
	return out
}

// roomy is a tree whose slices have spare capacity that is not empty.
func roomy(t api.Event) api.Event {
	kids := []api.Event{}
	for _, kid := range t.Kids {
		kids = append(kids, roomy(kid))
	}
	spare := append(kids, node(-7, one), leaf(-9))
	return api.Event{N: t.N, Kids: spare[:len(kids)]}
}

// places adds where a tree's slices lie, with their spare capacity, and tells whether one of these was there already.
func places(seen map[*api.Event]bool, t api.Event) bool {
	twice := false
	all := t.Kids[:cap(t.Kids)]
	for i := range all {
		twice = twice || seen[&all[i]]
		seen[&all[i]] = true
	}
	for _, kid := range t.Kids {
		twice = places(seen, kid) || twice
	}
	return twice
}

// checkNew fails if trees share memory with each other.
func checkNew(t *testing.T, l ...api.Event) {
	t.Helper()
	seen := map[*api.Event]bool{}
	for i, x := range l {
		if places(seen, x) {
			t.Fatalf("tree %d of %d shares memory: %s", i, len(l), text(x))
		}
	}
}

func equal(a, b api.Event) bool { return text(a) == text(b) }

func nothing(t api.Event) bool { return t.N == 0 && len(t.Kids) == 0 }

func TestP51RightOfTrees(t *testing.T) {
	for _, x := range trees(2) {
		if !event.Right(x) {
			t.Error("not valid:", text(x))
		}
	}
	for name, x := range atTheLimits() {
		if !event.Right(x) {
			t.Error("not valid:", name)
		}
	}
	for name, x := range map[string]api.Event{
		"an empty list":       {N: 3, Kids: []api.Event{}},
		"empty lists below":   roomy(tree("(0,(1,1,1),5)")),
		"2^62 above 0":        node(top, zero, zero),
		"2^62 below 0, twice": node(0, leaf(top), leaf(top)),
		"depth 32 of zeros":   chain(32, zero, zero),
		"2047 nodes, flat":    flat(2047),
		"2^62 at each leaf":   changed(full(10), func(int64) int64 { return top }),
	} {
		if !event.Right(x) {
			t.Error("not valid:", name)
		}
	}
	// The limits are met, not undercut.
	limits := atTheLimits()
	if got := depth(limits["depth 32, 2047 nodes"]); got != 32 {
		t.Fatal(got)
	}
	for _, name := range []string{"2047 nodes", "2047 nodes, full", "depth 32, 2047 nodes"} {
		if got := size(limits[name]); got != 2047 {
			t.Fatal(name, got)
		}
	}
}

func TestP51RightOfWrongTrees(t *testing.T) {
	for name, x := range wrong() {
		if event.Right(x) {
			t.Error("valid:", name)
		}
	}
}

func TestP51NormExamples(t *testing.T) {
	for x, want := range map[string]string{
		"(2,1,1)":                   "3",
		"(1,2,(0,3,1))":             "(2,1,(0,2,0))",
		"(0,0,0)":                   "0",
		"(5,0,0)":                   "5",
		"(0,(1,2,2),3)":             "3",
		"(0,(0,1,2),(0,1,2))":       "(1,(0,0,1),(0,0,1))",
		"(0,(3,0,1),(2,2,1))":       "(3,(0,0,1),(0,1,0))",
		"(1,(1,(1,1,1),1),2)":       "(3,(0,1,0),0)",
		"(0,3,(1,(1,1,1),(0,2,2)))": "3",
	} {
		if got, e := event.Norm(tree(x)); text(got) != want || e != api.OK {
			t.Error(x, text(got), e)
		}
	}
}

func TestP51NormHasTheFewestNodes(t *testing.T) {
	check := func(x api.Event, deep int) {
		want := form(cells(x, deep))
		if got, e := event.Norm(x); !equal(got, want) || e != api.OK {
			t.Fatal(text(x), text(got), e, text(want))
		}
	}
	for _, x := range trees(2) {
		check(x, 2)
	}
	r := rand.New(rand.NewSource(51))
	for i := range 1000 {
		check(random(r, 7, int64(i%3)), 7)
		check(random(r, 5, top/6), 5)
	}
}

func TestP51NormAtTheLimits(t *testing.T) {
	for name, x := range atTheLimits() {
		if got, e := event.Norm(x); !equal(got, x) || e != api.OK {
			t.Error(name, text(got), e)
		}
	}
	for name, c := range map[string][2]api.Event{
		"depth 32 of zeros":  {chain(32, zero, zero), zero},
		"depth 32 of 2^62":   {chain(32, leaf(top), leaf(top)), leaf(top)},
		"2047 nodes, flat":   {flat(2047), one},
		"2^62 above 0":       {node(top, zero, zero), leaf(top)},
		"1 above 2^62 - 1":   {node(1, leaf(top-1), leaf(top-1)), leaf(top)},
		"2^62 and less":      {node(0, leaf(top), leaf(top-1)), node(top-1, one, zero)},
		"an empty list":      {api.Event{N: 4, Kids: []api.Event{}}, leaf(4)},
		"a deep level less":  {chain(31, node(1, leaf(2), leaf(2)), zero), chain(31, leaf(3), zero)},
		"2047 nodes, raised": {changed(full(10), func(n int64) int64 { return n + top - 1 }), raised(full(10), top-1)},
	} {
		if got, e := event.Norm(c[0]); !equal(got, c[1]) || e != api.OK {
			t.Error(name, text(got), e)
		}
	}
	for name, x := range wrong() {
		if got, e := event.Norm(x); !nothing(got) || e != api.ErrArg {
			t.Error(name, text(got), e)
		}
	}
}

func TestP51Ends(t *testing.T) {
	check := func(x api.Event, deep int) {
		all := cells(x, deep)
		least, most, e := event.Ends(x)
		if least != slices.Min(all) || most != slices.Max(all) || e != api.OK {
			t.Fatal(text(x), least, most, e)
		}
	}
	for _, x := range trees(2) {
		check(x, 2)
	}
	r := rand.New(rand.NewSource(510))
	for range 500 {
		check(random(r, 7, 3), 7)
		check(random(r, 5, top/6), 5)
	}
	for name, c := range map[string]struct {
		t           api.Event
		least, most int64
	}{
		"the example":      {tree("(2,1,(0,2,0))"), 2, 4},
		"0":                {zero, 0, 0},
		"2^62":             {leaf(top), top, top},
		"2^62 above 0":     {node(top, zero, zero), top, top},
		"0 and 2^62":       {node(0, leaf(top), zero), 0, top},
		"2^62 by 33":       {spread(1, top-32), 1, top},
		"2^62 deep":        {chain(32, leaf(top), leaf(3)), 3, top},
		"2047 nodes":       {full(10), 0, 1},
		"2047 nodes, flat": {flat(2047), 1, 1},
		"raised":           {raised(full(10), top-1), top - 1, top},
	} {
		if least, most, e := event.Ends(c.t); least != c.least || most != c.most || e != api.OK {
			t.Error(name, least, most, e)
		}
	}
	for name, x := range wrong() {
		if least, most, e := event.Ends(x); least != 0 || most != 0 || e != api.ErrArg {
			t.Error(name, least, most, e)
		}
	}
}

// checkTwo holds what is told of two valid trees against their cells.
func checkTwo(t *testing.T, a, b api.Event, deep int) {
	t.Helper()
	x, y := cells(a, deep), cells(b, deep)
	if got, want := event.Same(a, b), slices.Equal(x, y); got != want {
		t.Fatal("same", text(a), text(b), got)
	}
	if got, want := event.Leq(a, b), below(x, y); got != want {
		t.Fatal("leq", text(a), text(b), got)
	}
	if got, e := event.Join(a, b); !equal(got, form(greater(x, y))) || e != api.OK {
		t.Fatal("join", text(a), text(b), text(got), e)
	}
}

func TestP52TwoTrees(t *testing.T) {
	for _, a := range trees(2) {
		for _, b := range trees(1) {
			checkTwo(t, a, b, 2)
			checkTwo(t, b, a, 2)
		}
		checkTwo(t, a, a, 2)
	}
}

// above is a tree that is nowhere less than another, and often as much.
func above(r *rand.Rand, t api.Event) api.Event {
	n := t.N + r.Int63n(2)*r.Int63n(2)
	switch {
	case len(t.Kids) > 0:
		return node(n, above(r, t.Kids[0]), above(r, t.Kids[1]))
	case r.Intn(4) == 0:
		return node(n, leaf(r.Int63n(2)), zero)
	}
	return leaf(n)
}

// TestP52TwoRandomTrees takes trees that are alike, that stand one below the other, and that do not.
func TestP52TwoRandomTrees(t *testing.T) {
	r := rand.New(rand.NewSource(52))
	for range 1000 {
		a := random(r, 5, 2)
		b := above(r, a)
		checkTwo(t, a, b, 6)
		checkTwo(t, b, a, 6)
		checkTwo(t, b, above(r, a), 6)
		checkTwo(t, b, form(cells(b, 6)), 6)
		checkTwo(t, a, random(r, 6, 3), 6)
		checkTwo(t, random(r, 5, top/6), random(r, 5, top/6), 6)
	}
}

func TestP52Examples(t *testing.T) {
	if !event.Leq(one, tree("(0,1,2)")) || event.Leq(tree("(0,1,2)"), one) {
		t.Error("leq")
	}
	if got, e := event.Join(tree("(0,1,0)"), tree("(0,0,2)")); text(got) != "(1,0,1)" || e != api.OK {
		t.Error(text(got), e)
	}
	if event.Leq(tree("(0,1,0)"), tree("(0,0,2)")) || event.Leq(tree("(0,0,2)"), tree("(0,1,0)")) {
		t.Error("neither is below the other")
	}
}

func TestP52OrderAtTheLimits(t *testing.T) {
	deep := chain(32, one, zero)
	for name, c := range map[string]struct {
		a, b     api.Event
		leq, geq bool
	}{
		"0 and 2^62":              {zero, leaf(top), true, false},
		"2^62 twice":              {leaf(top), node(1, leaf(top-1), leaf(top-1)), true, true},
		"2^62 and nearly":         {leaf(top), node(0, leaf(top), leaf(top-1)), false, true},
		"depth 32":                {deep, copied(deep), true, true},
		"depth 32 and 0":          {deep, zero, false, true},
		"depth 32 and 1":          {deep, one, true, false},
		"depth 32 and its mirror": {deep, chain(32, zero, one), false, false},
		"a deep leaf":             {deep, chain(32, leaf(2), zero), true, false},
		"one level less":          {deep, chain(31, one, zero), true, false},
		"one level more by form":  {chain(31, one, zero), chain(31, node(0, one, one), zero), true, true},
		"2047 nodes":              {full(10), roomy(full(10)), true, true},
		"2047 nodes and 1":        {full(10), one, true, false},
		"2047 nodes and flat":     {flat(2047), one, true, true},
		"2047 nodes turned":       {full(10), opposite(full(10)), false, false},
		"2^62 by 33":              {spread(1, top-32), leaf(top), true, false},
		"all limits":              {raised(full(10), top-1), changed(full(10), func(n int64) int64 { return n * top }), false, true},
		"an empty list":           {api.Event{N: 1, Kids: []api.Event{}}, one, true, true},
	} {
		if event.Leq(c.a, c.b) != c.leq || event.Leq(c.b, c.a) != c.geq {
			t.Error(name, "leq")
		}
		if event.Same(c.a, c.b) != (c.leq && c.geq) || event.Same(c.b, c.a) != (c.leq && c.geq) {
			t.Error(name, "same")
		}
	}
}

func TestP52JoinsAtTheLimits(t *testing.T) {
	half := wide(1023)
	for name, c := range map[string]struct {
		a, b, want api.Event
		e          api.Errno
	}{
		"2047 nodes":               {node(0, half, zero), node(0, zero, half), node(0, half, half), api.OK},
		"2049 nodes":               {node(0, half, zero), node(0, zero, wide(1025)), zero, api.ErrArg},
		"4091 nodes":               {node(0, wide(2045), zero), node(0, zero, wide(2045)), zero, api.ErrArg},
		"2049 nodes below 2^62":    {node(0, raised(half, top-1), zero), node(0, zero, raised(wide(1025), top-1)), zero, api.ErrArg},
		"one covers many":          {node(0, wide(2045), zero), node(0, leaf(5), wide(2045)), node(0, leaf(5), wide(2045)), api.OK},
		"all of many":              {full(10), opposite(full(10)), one, api.OK},
		"many and a leaf of 0":     {wide(2047), zero, wide(2047), api.OK},
		"many and a leaf above":    {wide(2047), leaf(2), leaf(2), api.OK},
		"many and as much":         {wide(2047), one, one, api.OK},
		"many, flat, and 0":        {flat(2047), zero, one, api.OK},
		"many and 2^62":            {full(10), leaf(top), leaf(top), api.OK},
		"2^62 in both halves":      {node(0, leaf(top), zero), node(0, zero, leaf(top)), leaf(top), api.OK},
		"2^62 and less":            {node(0, leaf(top), zero), node(0, zero, leaf(top-1)), node(top-1, one, zero), api.OK},
		"two of 0":                 {zero, zero, zero, api.OK},
		"two of 2^62":              {leaf(top), leaf(top), leaf(top), api.OK},
		"depth 32 and its mirror":  {chain(32, one, zero), chain(32, zero, one), one, api.OK},
		"depth 32 and more":        {chain(32, leaf(2), zero), chain(31, one, zero), chain(31, node(1, zero, one), zero), api.OK},
		"depth 32 and a leaf":      {chain(32, leaf(7), zero), leaf(3), raised(chain(32, leaf(4), zero), 3), api.OK},
		"not in normal form":       {tree("(0,(2,1,1),3)"), tree("(1,1,1)"), leaf(3), api.OK},
		"lists that are empty":     {api.Event{N: 2, Kids: []api.Event{}}, api.Event{N: 1, Kids: []api.Event{}}, leaf(2), api.OK},
		"the same many":            {wide(2047), wide(2047), wide(2047), api.OK},
		"many one above the other": {raised(wide(2047), 1), wide(2047), raised(wide(2047), 1), api.OK},
	} {
		if got, e := event.Join(c.a, c.b); !equal(got, c.want) || e != c.e {
			t.Error(name, size(got), e)
		}
		if got, e := event.Join(c.b, c.a); !equal(got, c.want) || e != c.e {
			t.Error(name, "turned round", size(got), e)
		}
	}
}

func TestP52WrongTrees(t *testing.T) {
	for name, x := range wrong() {
		for _, y := range []api.Event{zero, leaf(top), full(2), x} {
			for _, two := range [][2]api.Event{{x, y}, {y, x}} {
				if got, e := event.Join(two[0], two[1]); !nothing(got) || e != api.ErrArg {
					t.Error(name, text(got), e)
				}
				if event.Leq(two[0], two[1]) || event.Same(two[0], two[1]) {
					t.Error(name, "leq or same")
				}
			}
		}
	}
}

func TestP53ShowTheNormalForm(t *testing.T) {
	for _, x := range trees(2) {
		want := text(form(cells(x, 2)))
		if got, e := event.Show(x); got != want || e != api.OK {
			t.Fatal(text(x), got, e)
		}
	}
	for name, x := range atTheLimits() {
		if got, e := event.Show(x); got != text(x) || e != api.OK {
			t.Error(name, got, e)
		}
	}
	for want, x := range map[string]api.Event{
		"0":                         zero,
		"10":                        leaf(10),
		"4611686018427387904":       leaf(top),
		"(4611686018427387903,1,0)": node(0, leaf(top), leaf(top-1)),
		"(0,0,4611686018427387904)": node(0, zero, node(0, leaf(top), leaf(top))),
		"1":                         flat(2047),
	} {
		if got, e := event.Show(x); got != want || e != api.OK {
			t.Error(want, got, e)
		}
	}
	for name, x := range wrong() {
		if got, e := event.Show(x); got != "" || e != api.ErrArg {
			t.Error(name, got, e)
		}
	}
}

func checkParse(t *testing.T, s string, want api.Event, e api.Errno) {
	t.Helper()
	if got, f := event.Parse(s); !equal(got, want) || f != e {
		t.Fatalf("%.80q: %.80s %d", s, text(got), f)
	}
}

// TestP53ParseShortTexts takes all texts of few bytes.
func TestP53ParseShortTexts(t *testing.T) {
	read := 0
	var try func(s string, left int)
	try = func(s string, left int) {
		x, rest, ok := readTree(s)
		if ok && rest == "" && text(form(cells(x, 4))) == s {
			checkParse(t, s, x, api.OK)
			read++
		} else {
			checkParse(t, s, zero, api.ErrEvent)
		}
		if left == 0 {
			return
		}
		for _, x := range "012(),-" {
			try(s+string(x), left-1)
		}
	}
	try("", 6)
	for _, start := range []string{"(0,", "(2,0,", "(12,1,", "(0,(1,0,1),", "(0,0,(1,0,", "(1,2,(0,0,"} {
		try(start, 5)
	}
	if read < 500 {
		t.Error("too few were read:", read)
	}
}

func TestP53ParseTrees(t *testing.T) {
	for _, x := range trees(2) {
		if s := text(x); s == text(form(cells(x, 2))) {
			checkParse(t, s, x, api.OK)
		} else {
			checkParse(t, s, zero, api.ErrEvent)
		}
	}
	for _, x := range atTheLimits() {
		s := text(x)
		checkParse(t, s, x, api.OK)
		for _, more := range []string{"(", ",", ")", " ", "\x00", "-", "+", s + ")"} {
			checkParse(t, s+more, zero, api.ErrEvent)
			checkParse(t, more+s, zero, api.ErrEvent)
		}
		if len(x.Kids) == 0 {
			continue
		}
		for i := 0; i < len(s); i += 1 + len(s)/1000 {
			checkParse(t, s[:i], zero, api.ErrEvent)
		}
		checkParse(t, s[:len(s)-1], zero, api.ErrEvent)
		for _, more := range []string{"0", "1", s} {
			checkParse(t, s+more, zero, api.ErrEvent)
			checkParse(t, more+s, zero, api.ErrEvent)
		}
	}
	for n := int64(1); n > 0 && n <= top; n *= 3 {
		checkParse(t, strconv.FormatInt(n, 10), leaf(n), api.OK)
		checkParse(t, "0"+strconv.FormatInt(n, 10), zero, api.ErrEvent)
	}
}

// notForms are trees that are no normal forms of valid ones.
func notForms() []api.Event {
	return []api.Event{
		chain(33, one, zero), node(0, chain(32, one, zero), zero), chain(1<<16, one, zero), wide(2049), full(11),
		chain(32, one, one), chain(32, zero, zero), flat(2047), chain(30, full(2), node(0, one, one)),
		node(top-1, zero, leaf(2)), node(top-1, leaf(2), zero), node(1, node(top-1, zero, one), zero), node(0, zero, spread(1, top-32)),
		node(top-1, node(0, zero, one), node(1, zero, one)), raised(spread(1, top-32), 2), raised(full(10), top),
		node(0, one, one), node(0, zero, zero), node(5, one, leaf(2)), node(0, leaf(2), raised(full(2), 1)),
		node(0, raised(full(2), 1), raised(full(2), 2)), node(0, node(0, zero, zero), one), node(0, one, node(0, zero, zero)), node(0, zero, node(0, one, leaf(2))),
	}
}

func TestP53ParseNoNormalForm(t *testing.T) {
	for _, x := range notForms() {
		checkParse(t, text(x), zero, api.ErrEvent)
	}
	for s, want := range map[string]api.Event{
		"4611686018427387904":             leaf(top),
		"(4611686018427387903,0,1)":       node(top-1, zero, one),
		"(0,4611686018427387904,0)":       node(0, leaf(top), zero),
		"(1,4611686018427387903,(0,0,1))": node(1, leaf(top-1), full(1)),
		"(9,0,(9,0,9))":                   node(9, zero, node(9, zero, leaf(9))),
	} {
		checkParse(t, s, want, api.OK)
	}
}

func TestP53ParseWrongTexts(t *testing.T) {
	for _, s := range []string{
		"", " ", "a", "(", ")", ",", "()", "(,)", "(,,)", "(0)", "(0,)", "(0,,)", "(0,0)", "(0,0,)", "(0,,1)", "(,0,1)", "(0,1,0,0)", "(0,1,0", "0,1,0)", "0,1,0", "(0,1,0))", "((0,1,0)", "((0,1,0))",
		"((0,1,0),1,0)", "(0(0,0,1),0)", "(0,(0,0,1)0)", "(0,0(0,0,1))", "(0,,0,1)", "(0,0,,1)", "(0,0,1,)", "(0,1;0)", "[0,1,0]", "(0 ,1,0)", "(0, 1,0)", "(0,1,0 )", " 1", "1 ", "1\n", "\x00", "\xff", "\xef\xbc\x91", "(0\x00,1,0)", "0x1", "1e3", "1_000", "1.0", "1,", "1)", "1(", "1(0,1,0)",
		"00", "01", "000", "010", "-0", "+0", "-1", "+1", "--1", "(00,1,0)", "(01,1,0)", "(0,01,0)", "(0,1,00)", "(-0,1,0)", "(+0,1,0)", "(0,-1,0)", "(0,1,-0)", "(0,+1,0)", "(-1,1,2)", "(1,-1,0)",
		"4611686018427387905", "4611686018427387910", "4611686018427387914", "4711686018427387904", "5000000000000000000", "9223372036854775807", "9223372036854775808", "9223372036854775809", "9999999999999999999",
		"04611686018427387904", "10000000000000000000", "18446744073709551615", "18446744073709551616", "18446744073709551617", "23058430092136939520", "46116860184273879040", "340282366920938463463374607431768211456",
		"(4611686018427387905,1,0)", "(0,4611686018427387905,0)", "(0,18446744073709551617,0)", "(18446744073709551616,1,0)", "(4611686018427387904,4611686018427387904,0)", "(4611686018427387904,0,1)",
		"(1,1,1)", "(0,1,1)", "(0,0,0)", "(1,1,2)", "(0,(0,1,2),0)", "(0,(0,0,0),1)", "(2,(1,0,1),1)",
		strings.Repeat("(", 1<<20), strings.Repeat("0", 1<<20), strings.Repeat("1", 1<<20), strings.Repeat("(0,", 1<<20), strings.Repeat("(0,0,", 1<<20), strings.Repeat("(0,1,0)", 1<<18), strings.Repeat(")", 1<<20), strings.Repeat(",", 1<<20),
		"1" + strings.Repeat("0", 1<<20), strings.Repeat("0", 1<<20) + "1", strings.Repeat("(0,0,", 32) + "1" + strings.Repeat(")", 31), strings.Repeat("(0,0,", 32) + "1" + strings.Repeat(")", 33), strings.Repeat("(0,0,", 32) + "1",
	} {
		checkParse(t, s, zero, api.ErrEvent)
	}
}

func checkLay(t *testing.T, before string, x api.Event, form api.Event) {
	t.Helper()
	b, n := bitString(before)
	kept := slices.Clone(b)
	spare := append(make([]byte, 0, len(b)+64), b...)
	got, m, e := event.Lay(spare, n, x)
	want, end := bitString(before + digits(form))
	if !slices.Equal(got, want) || m != end || e != api.OK {
		t.Fatalf("%.80s behind %.40q: %x %d %d", text(x), before, got, m, e)
	}
	got = got[:cap(got)]
	for i := range got {
		got[i] = 0x55
	}
	if !slices.Equal(spare, kept) || slices.ContainsFunc(spare[len(b):cap(spare)], func(x byte) bool { return x != 0 }) {
		t.Fatal("the bit string was changed")
	}
}

func hasBits(t api.Event) bool {
	return t.N < top && !slices.ContainsFunc(t.Kids, func(kid api.Event) bool { return !hasBits(kid) })
}

func TestP54LayBehindBits(t *testing.T) {
	for _, x := range trees(2) {
		form := form(cells(x, 2))
		for _, before := range []string{"", "1", "0000000", "10101010", "111111111"} {
			checkLay(t, before, x, form)
		}
	}
	count := 0
	for _, x := range atTheLimits() {
		if !hasBits(x) {
			continue
		}
		count++
		for _, n := range []int{0, 1, 5, 7, 8, 9, 63, 64, 65, 1000} {
			checkLay(t, strings.Repeat("1", n), x, x)
		}
	}
	if count < 10 {
		t.Error("too few have bits:", count)
	}
	checkLay(t, strings.Repeat("10", 5000), flat(2047), one)
	checkLay(t, "101", node(0, leaf(top), leaf(top-1)), node(top-1, one, zero))
	if got, n, e := event.Lay(nil, 0, node(1, zero, one)); !slices.Equal(got, []byte{0xA4, 0x80}) || n != 10 || e != api.OK {
		t.Errorf("%x %d %d", got, n, e) // 1 010, 0 1, 0 010
	}
}

func TestP54LayOfAGreatNumber(t *testing.T) {
	for name, x := range map[string]api.Event{
		"2^62":                        leaf(top),
		"2^62 above 0":                node(top, zero, zero),
		"2^62 by two":                 node(1, leaf(top-1), leaf(top-1)),
		"2^62, first":                 node(0, leaf(top), zero),
		"2^62, second":                node(0, zero, leaf(top)),
		"2^62 at depth 32":            chain(32, leaf(top), zero),
		"2^62 at the last of many":    node(0, wide(2045), leaf(top)),
		"2^62 at many":                changed(full(10), func(n int64) int64 { return n * top }),
		"2^62 in the normal form":     node(0, node(top-1, one, one), zero),
		"2^62 in two, of normal form": node(0, zero, node(0, leaf(top), leaf(top))),
	} {
		for _, before := range []string{"", "0", "11111111", "101010101"} {
			b, n := bitString(before)
			if got, m, e := event.Lay(b, n, x); len(got) != 0 || m != 0 || e != api.ErrEvent {
				t.Errorf("%s: %x %d %d", name, got, m, e)
			}
		}
		if got, m, e := event.Lay([]byte{1}, 7, x); len(got) != 0 || m != 0 || e != api.ErrArg {
			t.Errorf("%s behind wrong bits: %x %d %d", name, got, m, e)
		}
	}
}

// wrongBits are bit strings that aren't valid.
var wrongBits = []struct {
	b []byte
	n int
}{
	{nil, 1}, {nil, -1}, {nil, 8}, {[]byte{0}, 0}, {[]byte{0}, 9}, {[]byte{0, 0}, 8}, {[]byte{0, 0}, 17}, {[]byte{0x40}, 1}, {[]byte{0x41}, 7}, {[]byte{0x40, 1}, 15},
	{[]byte{0x40}, -1}, {[]byte{0x40}, -2}, {[]byte{0x40}, math.MaxInt}, {[]byte{0x40}, math.MinInt}, {nil, math.MaxInt}, {nil, math.MinInt}, {[]byte{0}, -8},
}

func TestP54LayWrongly(t *testing.T) {
	for _, c := range wrongBits {
		for _, x := range []api.Event{zero, one, leaf(top), wide(2047), node(0, one)} {
			if got, n, e := event.Lay(c.b, c.n, x); len(got) != 0 || n != 0 || e != api.ErrArg {
				t.Errorf("%x %d: %x %d %d", c.b, c.n, got, n, e)
			}
		}
	}
	for name, x := range wrong() {
		for _, n := range []int{0, 2, 8} {
			b, _ := bitString(strings.Repeat("0", n))
			if got, m, e := event.Lay(b, n, x); len(got) != 0 || m != 0 || e != api.ErrArg {
				t.Errorf("%s: %x %d %d", name, got, m, e)
			}
		}
	}
}

func checkTake(t *testing.T, all string, at int, want api.Event, end int, e api.Errno) {
	t.Helper()
	b, n := bitString(all)
	if got, m, f := event.Take(b, n, at); !equal(got, want) || m != end || f != e {
		t.Fatalf("%.80q at %d: %.80s %d %d", all, at, text(got), m, f)
	}
}

// short are all trees of at most that many bits, in normal form or not.
func short(most int) []api.Event {
	var out []api.Event
	for n := int64(0); len(digits(leaf(n))) <= most; n++ {
		out = append(out, leaf(n))
	}
	for n := int64(0); len(gamma(n))+1+2+2 <= most; n++ {
		left := most - 1 - len(gamma(n))
		for _, first := range short(left - 2) {
			for _, second := range short(left - len(digits(first))) {
				out = append(out, node(n, first, second))
			}
		}
	}
	return out
}

// TestP54TakeShortBits takes all bit strings of few bits, at all of their positions.
func TestP54TakeShortBits(t *testing.T) {
	const most = 14
	known := map[string]api.Event{}
	others := 0
	for _, x := range short(most) {
		if text(x) == text(form(cells(x, 4))) {
			known[digits(x)] = x
		} else {
			others++
		}
	}
	if len(known) < 100 || others < 100 {
		t.Fatal("too few trees:", len(known), others)
	}
	for n := range most + 1 {
		for v := range 1 << n {
			all := fmt.Sprintf("%0*b", most, v)[most-n:]
			for at := range n + 1 {
				want, end, e := zero, 0, api.ErrEvent
				for i := at; i <= n; i++ {
					if x, ok := known[all[at:i]]; ok {
						want, end, e = x, i, api.OK
					}
				}
				checkTake(t, all, at, want, end, e)
			}
		}
	}
}

func TestP54TakeTrees(t *testing.T) {
	for _, x := range trees(2) {
		form := text(x) == text(form(cells(x, 2)))
		for _, before := range []string{"", "1", "010", "11111111", "000000000"} {
			for _, behind := range []string{"", "0", "1", "0101", "1111111111"} {
				all, at := before+digits(x)+behind, len(before)
				if form {
					checkTake(t, all, at, x, at+len(digits(x)), api.OK)
				} else {
					checkTake(t, all, at, zero, 0, api.ErrEvent)
				}
			}
		}
	}
	for _, x := range atTheLimits() {
		if !hasBits(x) {
			continue
		}
		own := digits(x)
		for _, before := range []string{"", "0", "10101010", strings.Repeat("1", 4000)} {
			checkTake(t, before+own, len(before), x, len(before)+len(own), api.OK)
			checkTake(t, before+own+"1", len(before), x, len(before)+len(own), api.OK)
			checkTake(t, before+own+strings.Repeat("01", 3000), len(before), x, len(before)+len(own), api.OK)
			for i := 0; i < len(own); i += 1 + len(own)/100 {
				checkTake(t, before+own[:i], len(before), zero, 0, api.ErrEvent)
			}
			checkTake(t, before+own[:len(own)-1], len(before), zero, 0, api.ErrEvent)
		}
	}
}

func TestP54TakeWrongBits(t *testing.T) {
	for _, x := range notForms() {
		if hasBits(x) {
			checkTake(t, digits(x), 0, zero, 0, api.ErrEvent)
			checkTake(t, "1"+digits(x)+"0000", 1, zero, 0, api.ErrEvent)
		}
	}
	// The number 2^62 has no gamma code, so the tree of it has no bits.
	checkTake(t, "0"+gamma(top), 0, zero, 0, api.ErrEvent)
	checkTake(t, digits(node(0, zero, leaf(top))), 0, zero, 0, api.ErrEvent)
	checkTake(t, strings.Repeat("1", 1<<20), 0, zero, 0, api.ErrEvent)
	checkTake(t, strings.Repeat("0", 1<<20), 0, zero, 0, api.ErrEvent)
	checkTake(t, strings.Repeat("11", 32)+strings.Repeat("01", 1<<16), 0, zero, 0, api.ErrEvent)
	checkTake(t, strings.Repeat("1101", 1<<16), 0, zero, 0, api.ErrEvent)
	checkTake(t, "", 0, zero, 0, api.ErrEvent)
	checkTake(t, "01", 0, zero, 2, api.OK)
	checkTake(t, "01", 1, zero, 0, api.ErrEvent)
	checkTake(t, "01", 2, zero, 0, api.ErrEvent)
	checkTake(t, "1101", 2, zero, 4, api.OK)
	checkTake(t, "11010010", 0, full(1), 8, api.OK)
	for _, at := range []int{-1, 9, 16, math.MaxInt, math.MinInt} {
		checkTake(t, "11010010", at, zero, 0, api.ErrArg)
	}
	for _, at := range []int{-1, 1, math.MaxInt, math.MinInt} {
		checkTake(t, "", at, zero, 0, api.ErrArg)
	}
	for _, c := range wrongBits {
		for _, at := range []int{0, 1, -1, c.n, math.MaxInt} {
			if got, m, e := event.Take(c.b, c.n, at); !nothing(got) || m != 0 || e != api.ErrArg {
				t.Errorf("%x %d at %d: %s %d %d", c.b, c.n, at, text(got), m, e)
			}
		}
	}
}

// TestP54OfALongString: what stands ahead of a tree or behind it costs no more than a copy.
func TestP54OfALongString(t *testing.T) {
	b := make([]byte, 1<<24)
	b[0] = 0xD2
	if got, m, e := event.Take(b, 8<<24, 0); text(got) != "(0,0,1)" || m != 8 || e != api.OK {
		t.Error(text(got), m, e)
	}
	if got, m, e := event.Take(b, 8<<24, 8<<24-1); !nothing(got) || m != 0 || e != api.ErrEvent {
		t.Error(text(got), m, e)
	}
	x := raised(full(10), top-1)
	got, m, e := event.Lay(b, 8<<24, x)
	want, n := bitString(digits(x))
	if m != 8<<24+n || e != api.OK || !slices.Equal(got[:1<<24], b) || !slices.Equal(got[1<<24:], want) {
		t.Error(len(got), m, e)
	}
	if got, end, e := event.Take(got, m, 8<<24); !equal(got, x) || end != m || e != api.OK {
		t.Error(size(got), end, e)
	}
}

// TestP55LeqIsAPartialOrder: it goes by counts alone, and is reflexive, antisymmetric and transitive.
func TestP55LeqIsAPartialOrder(t *testing.T) {
	some := slices.Concat(trees(1), []api.Event{full(2), opposite(full(2)), leaf(top), wide(2047), chain(32, one, zero)})
	for _, a := range some {
		form, _ := event.Norm(a)
		if !event.Leq(a, a) || !event.Leq(a, form) || !event.Leq(form, a) {
			t.Error("not reflexive:", text(a))
		}
		for _, b := range some {
			if event.Same(a, b) != (event.Leq(a, b) && event.Leq(b, a)) {
				t.Error("not antisymmetric:", text(a), text(b))
			}
			for _, c := range some {
				if event.Leq(a, b) && event.Leq(b, c) && !event.Leq(a, c) {
					t.Error("not transitive:", text(a), text(b), text(c))
				}
			}
		}
	}
}

func TestP55JoinIsTheLeastUpperBound(t *testing.T) {
	check := func(a, b, c api.Event) {
		j, e := event.Join(a, b)
		if e != api.OK || !event.Leq(a, j) || !event.Leq(b, j) {
			t.Fatal("no upper bound:", text(a), text(b), text(j), e)
		}
		if event.Leq(a, c) && event.Leq(b, c) != event.Leq(j, c) {
			t.Fatal("not the least:", text(a), text(b), text(j), text(c))
		}
		if event.Same(a, j) != event.Leq(b, a) {
			t.Fatal("above one that has it all:", text(a), text(b), text(j))
		}
		if form, _ := event.Norm(j); !equal(form, j) {
			t.Fatal("no normal form:", text(j))
		}
		left, _ := event.Join(j, c)
		right, _ := event.Join(b, c)
		right, _ = event.Join(a, right)
		if !equal(left, right) {
			t.Fatal("it hangs on the order:", text(a), text(b), text(c))
		}
	}
	some := trees(1)
	for _, a := range some {
		for _, b := range some {
			for _, c := range some {
				check(a, b, c)
			}
		}
	}
	r := rand.New(rand.NewSource(55))
	for range 1000 {
		a := random(r, 5, 2)
		b := random(r, 5, 2)
		check(a, b, random(r, 5, 3))
		j, _ := event.Join(a, b)
		check(a, b, above(r, j))
	}
}

func TestP55OneTextAndOneRowOfBits(t *testing.T) {
	texts, rows := map[string]string{}, map[string]string{}
	check := func(x api.Event) {
		form, _ := event.Norm(x)
		s, _ := event.Show(x)
		b, n, _ := event.Lay(nil, 0, x)
		row := fmt.Sprintf("%x %d", b, n)
		if other, ok := texts[s]; ok && other != row {
			t.Fatal(s, row, other)
		}
		if other, ok := rows[row]; ok && other != s {
			t.Fatal(row, s, other)
		}
		texts[s], rows[row] = row, s
		if got, e := event.Parse(s); !equal(got, form) || e != api.OK {
			t.Fatal(s, text(got), e)
		}
		if got, end, e := event.Take(b, n, 0); !equal(got, form) || end != n || e != api.OK {
			t.Fatal(row, text(got), end, e)
		}
	}
	counts := map[string]bool{}
	for _, x := range trees(2) {
		check(x)
		counts[fmt.Sprint(cells(x, 2))] = true
	}
	if len(texts) != len(counts) || len(rows) != len(counts) {
		t.Error("not as many as there are counts:", len(texts), len(rows), len(counts))
	}
	r := rand.New(rand.NewSource(551))
	for i := range 500 {
		check(random(r, 8, int64(i)))
		check(random(r, 8, top/10))
	}
	for _, x := range atTheLimits() {
		if hasBits(x) {
			check(x)
		}
	}
}

// TestP55RowsOfTrees: the bits of trees one behind the other, with numbers between them, are read back in order.
func TestP55RowsOfTrees(t *testing.T) {
	r := rand.New(rand.NewSource(552))
	var l []api.Event
	var b []byte
	n := 0
	for i := range 60 {
		x := random(r, 6, int64(i)*int64(i))
		form, _ := event.Norm(x)
		l = append(l, form)
		var e, f api.Errno
		b, n, e = event.Lay(b, n, x)
		b, n, f = bits.PutOwn(b, n, uint64(i))
		if e != api.OK || f != api.OK {
			t.Fatal(e, f)
		}
	}
	at := 0
	for i, want := range l {
		got, end, e := event.Take(b, n, at)
		if !equal(got, want) || e != api.OK {
			t.Fatal(i, text(got), e)
		}
		v, next, e := bits.TakeOwn(b, n, end)
		if v != uint64(i) || e != api.OK {
			t.Fatal(i, v, e)
		}
		at = next
	}
	if at != n {
		t.Error(at, n)
	}
}

// TestP51MemoryIsNew: no call writes to its trees or keeps them, and no two slices of an answer are one (R3).
func TestP51MemoryIsNew(t *testing.T) {
	for _, s := range []string{"0", "7", "(1,0,1)", "(2,1,1)", "(1,2,(0,3,1))", "(0,(0,1,0),(0,0,1))", "(3,(1,(0,2,2),4),(2,(0,1,0),0))"} {
		x := roomy(tree(s))
		before := copied(x)
		form, _ := event.Norm(x)
		again, _ := event.Norm(x)
		own, _ := event.Join(x, x)
		none, _ := event.Join(x, roomy(tree("(0,0,0)")))
		turned, _ := event.Join(zero, x)
		lifted, _ := event.Join(x, form)
		parsed, _ := event.Parse(text(form))
		row, n, _ := event.Lay(nil, 0, x)
		taken, _, _ := event.Take(row, n, 0)
		checkNew(t, x, form, again, own, none, turned, lifted, parsed, taken)
		event.Right(x)
		event.Same(x, form)
		event.Leq(x, form)
		event.Leq(form, x)
		event.Ends(x)
		event.Show(x)
		if !reflect.DeepEqual(copied(x), before) || !reflect.DeepEqual(x, roomy(tree(s))) {
			t.Error("changed:", s, text(x))
		}
		if spare := x.Kids[len(x.Kids) : len(x.Kids)+2]; text(spare[0]) != "(-7,1)" || text(spare[1]) != "-9" {
			t.Error("the spare capacity was changed:", s)
		}
	}
	// One slice in two places of an argument is two in the answer.
	kids := []api.Event{one, zero}
	shared := node(0, api.Event{Kids: kids}, node(0, zero, api.Event{Kids: kids}))
	form, _ := event.Norm(shared)
	sum, _ := event.Join(shared, zero)
	own, _ := event.Join(shared, shared)
	checkNew(t, api.Event{Kids: kids}, form, sum, own)
	if !equal(form, shared) || !equal(sum, shared) || !equal(own, shared) {
		t.Error(text(form), text(sum), text(own))
	}
}
