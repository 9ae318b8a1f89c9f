package id_test

import (
	"fmt"
	"math"
	"math/rand"
	"reflect"
	"slices"
	"strings"
	"testing"

	"pannier/api"
	"pannier/bits"
	"pannier/id"
)

var zero, one = api.Id{}, api.Id{One: true}

func node(kids ...api.Id) api.Id { return api.Id{Kids: kids} }

// text is the text of a tree as it stands, in normal form or not.
func text(t api.Id) string { return string(addText(nil, t)) }

func addText(out []byte, t api.Id) []byte {
	if len(t.Kids) == 0 {
		return append(out, digit(t.One))
	}
	for i, kid := range t.Kids {
		between := byte(',')
		if i == 0 {
			between = '('
		}
		out = addText(append(out, between), kid)
	}
	return append(out, ')')
}

// tree reads the text of a tree, in normal form or not.
func tree(s string) api.Id {
	t, rest := readTree(s)
	if rest != "" {
		panic("no tree: " + s)
	}
	return t
}

func readTree(s string) (api.Id, string) {
	if s[0] != '(' {
		return api.Id{One: s[0] == '1'}, s[1:]
	}
	first, rest := readTree(s[1:])
	second, rest := readTree(rest[1:])
	return node(first, second), rest[1:]
}

// digits are the bits of a tree as it stands, as a text of 0 and 1.
func digits(t api.Id) string { return string(addDigits(nil, t)) }

func addDigits(out []byte, t api.Id) []byte {
	if len(t.Kids) == 0 {
		return append(out, '0', digit(t.One))
	}
	return addDigits(addDigits(append(out, '1'), t.Kids[0]), t.Kids[1])
}

func digit(one bool) byte {
	if one {
		return '1'
	}
	return '0'
}

// bitString makes the bit string of digits.
func bitString(digits string) ([]byte, int) {
	b := make([]byte, (len(digits)+7)/8)
	for i, x := range digits {
		if x == '1' {
			b[i/8] |= 128 >> (i % 8)
		}
	}
	return b, len(digits)
}

func size(t api.Id) int {
	n := 1
	for _, kid := range t.Kids {
		n += size(kid)
	}
	return n
}

func depth(t api.Id) int {
	d := 0
	for _, kid := range t.Kids {
		d = max(d, depth(kid)+1)
	}
	return d
}

// trees are all trees up to a depth.
func trees(deep int) []api.Id {
	out := []api.Id{zero, one}
	if deep == 0 {
		return out
	}
	below := trees(deep - 1)
	for _, first := range below {
		for _, second := range below {
			out = append(out, node(first, second))
		}
	}
	return out
}

// cells tells for each of 2^deep equal pieces of [0, 1) whether it is in a tree's part.
func cells(t api.Id, deep int) []bool {
	if len(t.Kids) == 0 {
		return slices.Repeat([]bool{t.One}, 1<<deep)
	}
	return slices.Concat(cells(t.Kids[0], deep-1), cells(t.Kids[1], deep-1))
}

// lowest is the tree with the fewest nodes that denotes those pieces.
func lowest(cells []bool) api.Id {
	if !slices.Contains(cells, !cells[0]) {
		return api.Id{One: cells[0]}
	}
	half := len(cells) / 2
	return node(lowest(cells[:half]), lowest(cells[half:]))
}

func meets(a, b []bool) bool {
	for i := range a {
		if a[i] && b[i] {
			return true
		}
	}
	return false
}

func either(a, b []bool) []bool {
	out := make([]bool, len(a))
	for i := range a {
		out[i] = a[i] || b[i]
	}
	return out
}

// chain is a tree of that depth: a leaf below nodes whose other kids are other.
func chain(deep int, leaf, other api.Id) api.Id {
	for range deep {
		leaf = node(other, leaf)
	}
	return leaf
}

// full is the tree of that depth all of whose leaves are at it, 0 and 1 in turns: a normal form of 2^(deep+1) - 1 nodes.
func full(deep int) api.Id {
	if deep == 1 {
		return node(zero, one)
	}
	return node(full(deep-1), full(deep-1))
}

// wide is a normal form with that (odd) number of nodes.
func wide(count int) api.Id {
	if count == 1 {
		return one
	}
	t := full(1)
	for size(t) < count {
		t = grown(t, min(count-size(t), size(t)+1)/2)
	}
	return t
}

// grown puts a node into the place of each of the first leaves.
func grown(t api.Id, leaves int) api.Id {
	done := 0
	var grow func(t api.Id) api.Id
	grow = func(t api.Id) api.Id {
		if len(t.Kids) > 0 {
			first := grow(t.Kids[0])
			return node(first, grow(t.Kids[1]))
		}
		if done == leaves {
			return t
		}
		done++
		return full(1)
	}
	return grow(t)
}

// random is a tree up to a depth, the more often deep the greater it is.
func random(r *rand.Rand, deep int) api.Id {
	if deep == 0 || r.Intn(5) == 0 {
		return api.Id{One: r.Intn(2) == 0}
	}
	return node(random(r, deep-1), random(r, deep-1))
}

// wrong are trees that aren't valid.
func wrong() map[string]api.Id {
	round := make([]api.Id, 2)
	round[0].Kids, round[1].Kids = round, round
	line := make([]api.Id, 2)
	line[1].Kids = line
	out := map[string]api.Id{
		"depth 33":             chain(33, one, zero),
		"depth 33 of ones":     chain(33, one, one),
		"depth 65536":          chain(1<<16, one, zero),
		"2049 nodes":           wide(2049),
		"2049 nodes of one":    ones(2049),
		"4095 nodes":           full(11),
		"a slice in itself":    {Kids: round},
		"a second in itself":   {Kids: line},
		"a million kids":       {Kids: make([]api.Id, 1<<20)},
		"a million kids below": node(one, api.Id{Kids: make([]api.Id, 1<<20)}),
	}
	for name, t := range map[string]api.Id{
		"one kid":            node(one),
		"three kids":         node(one, zero, zero),
		"two kids and One":   {One: true, Kids: []api.Id{one, zero}},
		"two zeros and One":  {One: true, Kids: []api.Id{zero, zero}},
		"two ones and One":   {One: true, Kids: []api.Id{one, one}},
		"one kid and One":    {One: true, Kids: []api.Id{one}},
		"three kids and One": {One: true, Kids: []api.Id{zero, one, one}},
		"four kids":          node(one, zero, one, zero),
	} {
		out[name] = t
		out[name+", first"] = node(t, zero)
		out[name+", second"] = node(one, t)
		out[name+", deep"] = chain(31, t, zero)
		out[name+", behind many"] = node(wide(1023), t)
	}
	return out
}

// ones is a tree of that many nodes that denotes the whole.
func ones(count int) api.Id {
	t := wide(count)
	var fill func(t api.Id) api.Id
	fill = func(t api.Id) api.Id {
		if len(t.Kids) == 0 {
			return one
		}
		return node(fill(t.Kids[0]), fill(t.Kids[1]))
	}
	return fill(t)
}

// copied is a tree of the same nodes in memory of its own.
func copied(t api.Id) api.Id {
	out := api.Id{One: t.One}
	for _, kid := range t.Kids {
		out.Kids = append(out.Kids, copied(kid))
	}
	return out
}

// roomy is a tree whose slices have spare capacity that is not empty.
func roomy(t api.Id) api.Id {
	kids := []api.Id{}
	for _, kid := range t.Kids {
		kids = append(kids, roomy(kid))
	}
	spare := append(kids, node(one), one)
	return api.Id{One: t.One, Kids: spare[:len(kids)]}
}

// places adds where a tree's slices lie, with their spare capacity, and tells whether one of these was there already.
func places(seen map[*api.Id]bool, t api.Id) bool {
	twice := false
	all := t.Kids[:cap(t.Kids)]
	for i := range all {
		twice = twice || seen[&all[i]]
		seen[&all[i]] = true
	}
	for _, kid := range t.Kids {
		twice = places(seen, kid) || twice
	}
	return twice
}

// checkNew fails if trees share memory with each other.
func checkNew(t *testing.T, l ...api.Id) {
	t.Helper()
	seen := map[*api.Id]bool{}
	for i, x := range l {
		if places(seen, x) {
			t.Fatalf("tree %d of %d shares memory: %s", i, len(l), text(x))
		}
	}
}

// equal tells whether two trees have the same nodes, and their leaves no Kids.
func equal(a, b api.Id) bool { return text(a) == text(b) && plain(a) && plain(b) }

func plain(t api.Id) bool {
	for _, kid := range t.Kids {
		if !plain(kid) {
			return false
		}
	}
	return len(t.Kids) == 0 || !t.One
}

func nothing(t api.Id) bool { return !t.One && len(t.Kids) == 0 }

func TestP41RightOfTrees(t *testing.T) {
	for _, x := range trees(3) {
		if !id.Right(x) {
			t.Error("not valid:", text(x))
		}
	}
	for name, x := range map[string]api.Id{
		"an empty list":      {Kids: []api.Id{}},
		"an empty list, One": {One: true, Kids: make([]api.Id, 0, 4)},
		"empty lists below":  roomy(tree("((1,1),0)")),
		"depth 32":           chain(32, one, zero),
		"depth 32 of zeros":  chain(32, zero, zero),
		"2047 nodes":         wide(2047),
		"2047 nodes, full":   full(10),
		"2047 nodes of one":  ones(2047),
		"both":               node(chain(31, one, zero), wide(2047-64)),
	} {
		if !id.Right(x) {
			t.Error("not valid:", name)
		}
	}
	if got := size(node(chain(31, one, zero), wide(2047-64))); got != 2047 {
		t.Fatal(got)
	}
}

func TestP41RightOfWrongTrees(t *testing.T) {
	for name, x := range wrong() {
		if id.Right(x) {
			t.Error("valid:", name)
		}
	}
}

func TestP41NormHasTheFewestNodes(t *testing.T) {
	for _, x := range trees(3) {
		want := lowest(cells(x, 3))
		if got, e := id.Norm(x); !equal(got, want) || e != api.OK {
			t.Fatal(text(x), text(got), e, text(want))
		}
	}
	r := rand.New(rand.NewSource(41))
	for range 300 {
		x := random(r, 8)
		want := lowest(cells(x, 8))
		if got, e := id.Norm(x); !equal(got, want) || e != api.OK {
			t.Fatal(text(x), text(got), e, text(want))
		}
	}
}

func TestP41NormAtTheLimits(t *testing.T) {
	for name, c := range map[string][2]api.Id{
		"depth 32":          {chain(32, one, zero), chain(32, one, zero)},
		"depth 32 of zeros": {chain(32, zero, zero), zero},
		"depth 32 of ones":  {chain(32, one, one), one},
		"2047 nodes":        {wide(2047), wide(2047)},
		"2047 nodes, full":  {full(10), full(10)},
		"2047 nodes of one": {ones(2047), one},
		"an empty list":     {api.Id{One: true, Kids: []api.Id{}}, one},
	} {
		if got, e := id.Norm(c[0]); !equal(got, c[1]) || e != api.OK {
			t.Error(name, text(got), e)
		}
	}
	for name, x := range wrong() {
		if got, e := id.Norm(x); !nothing(got) || e != api.ErrArg {
			t.Error(name, text(got), e)
		}
	}
}

func TestP41SplitExamples(t *testing.T) {
	for x, want := range map[string][2]string{
		"0":                 {"0", "0"},
		"1":                 {"(1,0)", "(0,1)"},
		"(0,1)":             {"(0,(1,0))", "(0,(0,1))"},
		"(1,0)":             {"((1,0),0)", "((0,1),0)"},
		"(1,(0,1))":         {"(1,0)", "(0,(0,1))"},
		"((1,0),1)":         {"((1,0),0)", "(0,1)"},
		"((1,0),(0,1))":     {"((1,0),0)", "(0,(0,1))"},
		"(0,((1,0),(1,0)))": {"(0,((1,0),0))", "(0,(0,(1,0)))"},
		"((0,(1,0)),0)":     {"((0,((1,0),0)),0)", "((0,((0,1),0)),0)"},
		"(0,0)":             {"0", "0"},
		"(1,1)":             {"(1,0)", "(0,1)"},
		"((0,0),(1,1))":     {"(0,(1,0))", "(0,(0,1))"},
		"((1,1),((0,0),1))": {"(1,0)", "(0,(0,1))"},
	} {
		a, b, e := id.Split(tree(x))
		if text(a) != want[0] || text(b) != want[1] || e != api.OK {
			t.Error(x, text(a), text(b), e)
		}
	}
}

// halves is the split of a normal form of two kids or more, said by that of its kid.
func halves(t *testing.T, x api.Id) (api.Id, api.Id) {
	first, second := x.Kids[0], x.Kids[1]
	switch {
	case text(first) == "0":
		a, b := mustSplit(t, second)
		return node(zero, a), node(zero, b)
	case text(second) == "0":
		a, b := mustSplit(t, first)
		return node(a, zero), node(b, zero)
	}
	return node(first, zero), node(zero, second)
}

func mustSplit(t *testing.T, x api.Id) (api.Id, api.Id) {
	t.Helper()
	a, b, e := id.Split(x)
	if e != api.OK {
		t.Fatal(text(x), e)
	}
	return a, b
}

func TestP41SplitGoesByTheKids(t *testing.T) {
	check := func(x api.Id, deep int) {
		form := lowest(cells(x, deep))
		if len(form.Kids) == 0 {
			return
		}
		a, b := mustSplit(t, x)
		c, d := halves(t, form)
		if !equal(a, c) || !equal(b, d) {
			t.Fatal(text(x), text(a), text(b))
		}
	}
	for _, x := range trees(3) {
		check(x, 3)
	}
	r := rand.New(rand.NewSource(411))
	for range 300 {
		check(random(r, 7), 7)
	}
}

func TestP41SplitTooDeep(t *testing.T) {
	deepest := chain(32, one, zero)
	mirrored := one
	for range 32 {
		mirrored = node(mirrored, zero)
	}
	for name, x := range map[string]api.Id{"a second of depth 32": deepest, "a first of depth 32": mirrored} {
		if a, b, e := id.Split(x); !nothing(a) || !nothing(b) || e != api.ErrIdDepth {
			t.Error(name, text(a), text(b), e)
		}
	}
	a, b := mustSplit(t, chain(31, one, zero))
	if !equal(a, chain(31, node(one, zero), zero)) || !equal(b, chain(31, node(zero, one), zero)) {
		t.Error(text(a), text(b))
	}
	// Neither half is deeper than what is split here.
	a, b = mustSplit(t, node(one, chain(31, one, zero)))
	if !equal(a, node(one, zero)) || !equal(b, node(zero, chain(31, one, zero))) {
		t.Error(text(a), text(b))
	}
	a, b = mustSplit(t, chain(31, node(one, zero), one))
	if !equal(a, node(one, zero)) || !equal(b, node(zero, chain(30, node(one, zero), one))) {
		t.Error(text(a), text(b))
	}
	// Only the normal form counts.
	a, b = mustSplit(t, chain(31, node(one, one), zero))
	if depth(a) != 32 || depth(b) != 32 {
		t.Error(depth(a), depth(b))
	}
	if _, _, e := id.Split(chain(31, node(zero, zero), zero)); e != api.OK {
		t.Error(e)
	}
}

func TestP41SplitOfMany(t *testing.T) {
	a, b := mustSplit(t, full(10))
	if !equal(a, node(full(9), zero)) || !equal(b, node(zero, full(9))) {
		t.Error(size(a), size(b))
	}
	a, b = mustSplit(t, wide(2047))
	if size(a)+size(b) != 2047+3 {
		t.Error(size(a), size(b))
	}
	for name, x := range wrong() {
		if a, b, e := id.Split(x); !nothing(a) || !nothing(b) || e != api.ErrArg {
			t.Error(name, text(a), text(b), e)
		}
	}
}

// checkTwo holds what is told of two valid trees against their cells.
func checkTwo(t *testing.T, a, b api.Id, deep int) {
	t.Helper()
	x, y := cells(a, deep), cells(b, deep)
	if got, want := id.Apart(a, b), !meets(x, y); got != want {
		t.Fatal("apart", text(a), text(b), got)
	}
	if got, want := id.Same(a, b), slices.Equal(x, y); got != want {
		t.Fatal("same", text(a), text(b), got)
	}
	all := either(x, y)
	if got, want := id.Whole(a, b), !meets(x, y) && !slices.Contains(all, false); got != want {
		t.Fatal("whole", text(a), text(b), got)
	}
	sum, e := id.Sum(a, b)
	if meets(x, y) {
		if !nothing(sum) || e != api.ErrIdBoth {
			t.Fatal("sum", text(a), text(b), text(sum), e)
		}
		return
	}
	if !equal(sum, lowest(all)) || e != api.OK {
		t.Fatal("sum", text(a), text(b), text(sum), e)
	}
}

func TestP42TwoTrees(t *testing.T) {
	for _, a := range trees(3) {
		for _, b := range trees(2) {
			checkTwo(t, a, b, 3)
			checkTwo(t, b, a, 3)
		}
	}
}

// parted gives each leaf of a tree to one of two, so that they are apart, unless they are to meet.
func parted(r *rand.Rand, t api.Id, both bool) (api.Id, api.Id) {
	if len(t.Kids) == 0 {
		switch r.Intn(3) {
		case 0:
			return t, zero
		case 1:
			return zero, t
		}
		if both {
			return t, t
		}
		return node(zero, t), node(t, zero)
	}
	a, b := parted(r, t.Kids[0], both)
	c, d := parted(r, t.Kids[1], both)
	return node(a, c), node(b, d)
}

func TestP42TwoRandomTrees(t *testing.T) {
	r := rand.New(rand.NewSource(42))
	for i := range 600 {
		a, b := parted(r, random(r, 6), i%3 == 0)
		checkTwo(t, a, b, 8)
	}
}

func TestP42SumsAtTheLimits(t *testing.T) {
	half := wide(1023)
	for name, c := range map[string]struct {
		a, b, want api.Id
		e          api.Errno
	}{
		"2047 nodes":                  {node(half, zero), node(zero, half), node(half, half), api.OK},
		"2049 nodes":                  {node(half, zero), node(zero, wide(1025)), zero, api.ErrArg},
		"4091 nodes":                  {node(wide(2045), zero), node(zero, wide(2045)), zero, api.ErrArg},
		"too many and both":           {node(wide(2045), zero), node(one, wide(2045)), zero, api.ErrIdBoth},
		"all of the many":             {full(10), opposite(full(10)), one, api.OK},
		"many nodes and none":         {full(10), zero, full(10), api.OK},
		"many nodes and empty ones":   {wide(2047), node(zero, zero), wide(2047), api.OK},
		"two whole ones":              {one, one, zero, api.ErrIdBoth},
		"two empty ones":              {zero, zero, zero, api.OK},
		"an empty one with nodes":     {node(zero, node(zero, zero)), one, one, api.OK},
		"the same small part":         {chain(32, one, zero), chain(32, one, zero), zero, api.ErrIdBoth},
		"neighbours at depth 32":      {chain(32, one, zero), chain(31, node(one, zero), zero), chain(31, one, zero), api.OK},
		"a small part within another": {chain(32, one, zero), chain(31, one, zero), zero, api.ErrIdBoth},
	} {
		if got, e := id.Sum(c.a, c.b); !equal(got, c.want) || e != c.e {
			t.Error(name, size(got), e)
		}
		if got, e := id.Sum(c.b, c.a); e != c.e || size(got) != size(c.want) {
			t.Error(name, "turned round", size(got), e)
		}
		if got := id.Apart(c.a, c.b); got != (c.e != api.ErrIdBoth) {
			t.Error(name, "apart", got)
		}
	}
}

// opposite has what a tree lacks.
func opposite(t api.Id) api.Id {
	if len(t.Kids) == 0 {
		return api.Id{One: !t.One}
	}
	return node(opposite(t.Kids[0]), opposite(t.Kids[1]))
}

func TestP42WrongTrees(t *testing.T) {
	for name, x := range wrong() {
		for _, y := range []api.Id{zero, one, x} {
			for _, two := range [][2]api.Id{{x, y}, {y, x}} {
				if got, e := id.Sum(two[0], two[1]); !nothing(got) || e != api.ErrArg {
					t.Error(name, text(got), e)
				}
				if id.Apart(two[0], two[1]) || id.Same(two[0], two[1]) || id.Whole(two[0], two[1]) {
					t.Error(name, "apart, same or whole")
				}
			}
		}
		if id.Whole(x) {
			t.Error(name, "whole")
		}
	}
}

func TestP42WholeOfFew(t *testing.T) {
	if id.Whole() || id.Whole([]api.Id{}...) {
		t.Error("nothing is whole")
	}
	for _, x := range trees(3) {
		if got, want := id.Whole(x), !slices.Contains(cells(x, 3), false); got != want {
			t.Error(text(x), got)
		}
	}
	some := trees(2)
	r := rand.New(rand.NewSource(420))
	check := func(l ...api.Id) {
		all, ok := make([]bool, 4), true
		for _, x := range l {
			ok = ok && !meets(all, cells(x, 2))
			all = either(all, cells(x, 2))
		}
		if got, want := id.Whole(l...), ok && !slices.Contains(all, false); got != want {
			t.Fatal(text(node(l...)), got)
		}
	}
	for _, a := range trees(1) {
		for _, b := range trees(1) {
			for _, c := range trees(2) {
				check(a, b, c)
				check(a, c, b)
				check(c, a, b)
			}
		}
	}
	for range 20000 {
		check(some[r.Intn(38)], some[r.Intn(38)], some[r.Intn(38)], some[r.Intn(38)])
	}
}

// pieces are that many trees that are whole, by splitting always the oldest one.
func pieces(t *testing.T, count int) []api.Id {
	out := []api.Id{one}
	for len(out) < count {
		a, b := mustSplit(t, out[0])
		out = append(out[1:], a, b)
	}
	return out
}

func TestP42WholeOfMany(t *testing.T) {
	for count := 1; count <= 66; count++ {
		l := pieces(t, count)
		if got := id.Whole(l...); got != (count <= 64) {
			t.Error(count, got)
		}
	}
	all := pieces(t, 64)
	for i := range all {
		less := slices.Concat(all[:i], all[i+1:])
		if id.Whole(less...) {
			t.Error("whole without tree", i)
		}
		if !id.Whole(append(less, all[i])...) {
			t.Error("not whole in another order", i)
		}
		if id.Whole(append(less[:62:62], all[i], all[i])...) {
			t.Error("whole with tree twice", i)
		}
		less[i%63] = one
		if id.Whole(append(less, all[i])...) {
			t.Error("whole with more than it", i)
		}
	}
	empties := append(make([]api.Id, 62), one, node(zero, zero))
	if !id.Whole(empties...) {
		t.Error("64 trees, empty but for one")
	}
	if id.Whole(append(empties, zero)...) || id.Whole(make([]api.Id, 65)...) || id.Whole(make([]api.Id, 1<<20)...) {
		t.Error("65 trees or more")
	}
	if id.Whole(append(empties[:63:63], node(one))...) || id.Whole(append([]api.Id{node(one)}, empties[:63]...)...) {
		t.Error("one of them isn't valid")
	}
}

// TestP42WholeOfGreatTrees: the sum of the first two has too many nodes, yet all of them together are whole.
func TestP42WholeOfGreatTrees(t *testing.T) {
	var l, others []api.Id
	for i := range 4 {
		l = append(l, quarter(full(9), i))
		others = append(others, quarter(opposite(full(9)), i))
	}
	if sum, e := id.Sum(l[0], l[1]); !nothing(sum) || e != api.ErrArg {
		t.Error(size(sum), e)
	}
	l = append(l, others...)
	if !id.Whole(l...) {
		t.Error("not whole")
	}
	if id.Whole(l[:7]...) || id.Whole(l[1:]...) || id.Whole(append(l, others[2])...) {
		t.Error("whole with one less or one more")
	}
	if !id.Whole(full(10), opposite(full(10))) || id.Whole(full(10), full(10)) || id.Whole(full(10)) {
		t.Error("two great trees")
	}
}

// quarter puts a tree into a quarter of [0, 1).
func quarter(t api.Id, i int) api.Id {
	kids := []api.Id{zero, zero, zero, zero}
	kids[i] = t
	return node(node(kids[0], kids[1]), node(kids[2], kids[3]))
}

func TestP42SameAtTheLimits(t *testing.T) {
	deep := chain(32, one, zero)
	for name, c := range map[string]struct {
		a, b api.Id
		want bool
	}{
		"depth 32":              {deep, copied(deep), true},
		"one leaf differs":      {deep, chain(32, zero, zero), false},
		"one level differs":     {deep, chain(31, one, zero), false},
		"not in normal form":    {chain(31, one, zero), chain(31, node(one, one), zero), true},
		"many ones":             {ones(2047), one, true},
		"many ones against 0":   {ones(2047), zero, false},
		"many nodes":            {wide(2047), roomy(wide(2047)), true},
		"many nodes against 1":  {wide(2047), one, false},
		"many nodes against 0":  {wide(2047), zero, false},
		"the opposite of many":  {full(10), opposite(full(10)), false},
		"empty lists":           {api.Id{One: true, Kids: []api.Id{}}, one, true},
		"empty lists, not same": {api.Id{Kids: []api.Id{}}, one, false},
	} {
		if id.Same(c.a, c.b) != c.want || id.Same(c.b, c.a) != c.want {
			t.Error(name)
		}
	}
}

func TestP43ShowTheNormalForm(t *testing.T) {
	for _, x := range trees(3) {
		want := text(lowest(cells(x, 3)))
		if got, e := id.Show(x); got != want || e != api.OK {
			t.Fatal(text(x), got, e)
		}
	}
	for _, x := range []api.Id{chain(32, one, zero), wide(2047), full(10)} {
		if got, e := id.Show(x); got != text(x) || e != api.OK {
			t.Error(got, e)
		}
	}
	if got, e := id.Show(chain(32, one, one)); got != "1" || e != api.OK {
		t.Error(got, e)
	}
	for name, x := range wrong() {
		if got, e := id.Show(x); got != "" || e != api.ErrArg {
			t.Error(name, got, e)
		}
	}
}

// forms are the normal forms up to a depth.
func forms(deep int) []api.Id {
	var out []api.Id
	for _, x := range trees(deep) {
		if text(lowest(cells(x, deep))) == text(x) {
			out = append(out, x)
		}
	}
	return out
}

func checkParse(t *testing.T, s string, want api.Id, e api.Errno) {
	t.Helper()
	if got, f := id.Parse(s); !equal(got, want) || f != e {
		t.Fatalf("%.80q: %.80s %d", s, text(got), f)
	}
}

// TestP43ParseShortTexts takes all texts of few bytes.
func TestP43ParseShortTexts(t *testing.T) {
	known := map[string]api.Id{}
	for _, x := range forms(3) {
		known[text(x)] = x
	}
	read := 0
	var try func(s string, left int)
	try = func(s string, left int) {
		if x, ok := known[s]; ok {
			checkParse(t, s, x, api.OK)
			read++
		} else {
			checkParse(t, s, zero, api.ErrId)
		}
		if left == 0 {
			return
		}
		for _, x := range "01(),2" {
			try(s+string(x), left-1)
		}
	}
	try("", 7)
	for _, start := range []string{"(0,(", "(1,(", "((0,", "((1,"} {
		try(start, 5)
	}
	if read == 0 {
		t.Error("nothing was read")
	}
}

func TestP43ParseTrees(t *testing.T) {
	for _, x := range trees(3) {
		if s := text(x); s == text(lowest(cells(x, 3))) {
			checkParse(t, s, x, api.OK)
		} else {
			checkParse(t, s, zero, api.ErrId)
		}
	}
	for _, x := range []api.Id{chain(32, one, zero), chain(32, zero, one), wide(2047), full(10), node(chain(31, one, zero), wide(2047-64))} {
		s := text(x)
		checkParse(t, s, x, api.OK)
		for _, more := range []string{"0", "1", "(", ",", ")", " ", "\x00", s} {
			checkParse(t, s+more, zero, api.ErrId)
			checkParse(t, more+s, zero, api.ErrId)
		}
		for i := range len(s) {
			checkParse(t, s[:i], zero, api.ErrId)
		}
	}
}

func TestP43ParseWrongTexts(t *testing.T) {
	for _, x := range []api.Id{chain(33, one, zero), chain(1<<16, one, zero), wide(2049), full(11), chain(32, one, one), chain(32, zero, zero), ones(2047), chain(30, full(2), node(one, one))} {
		checkParse(t, text(x), zero, api.ErrId)
	}
	for _, s := range []string{
		"", " ", "2", "a", "(", ")", ",", "()", "(,)", "(0,)", "(,0)", "(1)", "((1,0))", "(1,0,0)", "(1,0,1)", "(1 ,0)", "(1, 0)", " 1", "1 ", "01", "10", "00", "11",
		"(1;0)", "[1,0]", "{1,0}", "(1,0", "1,0)", "1,0", "(1,0))", "((1,0)", "(1.0)", "(01,0)", "(+1,0)", "(-0,1)", "\xef\xbc\x881,0)", "(1,0)\n", "\x00", "\xff",
		"(0,(1,1))", "((0,0),1)", "(1,(0,(1,1)))", "(1,1)", "(0,0)",
		strings.Repeat("(", 1<<20), strings.Repeat("0", 1<<20), strings.Repeat("(0,", 1<<20), strings.Repeat("(1,0)", 1<<18), strings.Repeat(")", 1<<20),
		strings.Repeat("(", 32), strings.Repeat("(0,", 32) + "1", strings.Repeat("(0,", 32) + "1" + strings.Repeat(")", 31),
		strings.Repeat("(0,", 33) + "1" + strings.Repeat(")", 33), strings.Repeat("(0,", 32) + "1" + strings.Repeat(")", 33),
	} {
		checkParse(t, s, zero, api.ErrId)
	}
}

func checkLay(t *testing.T, before string, x api.Id, form api.Id) {
	t.Helper()
	b, n := bitString(before)
	kept := slices.Clone(b)
	roomyB := append(make([]byte, 0, len(b)+64), b...)
	got, m, e := id.Lay(roomyB, n, x)
	want, end := bitString(before + digits(form))
	if !slices.Equal(got, want) || m != end || e != api.OK {
		t.Fatalf("%s behind %.40q: %x %d %d", text(x), before, got, m, e)
	}
	if !slices.Equal(roomyB, kept) || slices.ContainsFunc(roomyB[len(b):cap(roomyB)], func(x byte) bool { return x != 0 }) {
		t.Fatal("the bit string was changed")
	}
}

func TestP44LayBehindBits(t *testing.T) {
	for _, x := range trees(3) {
		form := lowest(cells(x, 3))
		for _, before := range []string{"", "1", "0000000", "10101010", "111111111"} {
			checkLay(t, before, x, form)
		}
	}
	for _, x := range []api.Id{chain(32, one, zero), wide(2047), wide(2045), full(10)} {
		for count := range 70 {
			checkLay(t, strings.Repeat("1", count), x, x)
		}
	}
	checkLay(t, strings.Repeat("10", 5000), ones(2047), one)
	if got, n, e := id.Lay(nil, 0, node(one, zero)); !slices.Equal(got, []byte{0xA0}) || n != 5 || e != api.OK {
		t.Errorf("%x %d %d", got, n, e)
	}
}

// wrongBits are bit strings that aren't valid.
var wrongBits = []struct {
	b []byte
	n int
}{
	{nil, 1}, {nil, -1}, {nil, 8}, {[]byte{0}, 0}, {[]byte{0}, 9}, {[]byte{0, 0}, 8}, {[]byte{0, 0}, 17}, {[]byte{0x40}, 1}, {[]byte{0x41}, 7}, {[]byte{0x40, 1}, 15},
	{[]byte{0x40}, -1}, {[]byte{0x40}, -2}, {[]byte{0x40}, math.MaxInt}, {[]byte{0x40}, math.MinInt}, {nil, math.MaxInt}, {nil, math.MinInt}, {[]byte{0}, -8},
}

func TestP44LayWrongly(t *testing.T) {
	for _, c := range wrongBits {
		for _, x := range []api.Id{zero, one, wide(2047), node(one)} {
			if got, n, e := id.Lay(c.b, c.n, x); len(got) != 0 || n != 0 || e != api.ErrArg {
				t.Errorf("%x %d: %x %d %d", c.b, c.n, got, n, e)
			}
		}
	}
	for name, x := range wrong() {
		for _, n := range []int{0, 2, 8} {
			b, _ := bitString(strings.Repeat("0", n))
			if got, m, e := id.Lay(b, n, x); len(got) != 0 || m != 0 || e != api.ErrArg {
				t.Errorf("%s: %x %d %d", name, got, m, e)
			}
		}
	}
}

func checkTake(t *testing.T, all string, at int, want api.Id, end int, e api.Errno) {
	t.Helper()
	b, n := bitString(all)
	if got, m, f := id.Take(b, n, at); !equal(got, want) || m != end || f != e {
		t.Fatalf("%.80q at %d: %.80s %d %d", all, at, text(got), m, f)
	}
}

// TestP44TakeShortBits takes all bit strings of few bits, at all of their positions.
func TestP44TakeShortBits(t *testing.T) {
	known := map[string]api.Id{}
	for _, x := range forms(3) {
		known[digits(x)] = x
	}
	for n := range 14 {
		for v := range 1 << n {
			all := ""
			if n > 0 {
				all = fmt.Sprintf("%0*b", n, v)
			}
			for at := range n + 1 {
				want, end, e := zero, 0, api.ErrId
				for i := at; i <= n; i++ {
					if x, ok := known[all[at:i]]; ok {
						want, end, e = x, i, api.OK
					}
				}
				checkTake(t, all, at, want, end, e)
			}
		}
	}
}

func TestP44TakeTrees(t *testing.T) {
	for _, x := range trees(3) {
		form := text(x) == text(lowest(cells(x, 3)))
		for _, before := range []string{"", "1", "010", "11111111", "000000000"} {
			for _, behind := range []string{"", "0", "1", "0101", "1111111111"} {
				all, at := before+digits(x)+behind, len(before)
				if form {
					checkTake(t, all, at, x, at+len(digits(x)), api.OK)
				} else {
					checkTake(t, all, at, zero, 0, api.ErrId)
				}
			}
		}
	}
	for _, x := range []api.Id{chain(32, one, zero), chain(32, zero, one), wide(2047), full(10), node(chain(31, one, zero), wide(2047-64))} {
		own := digits(x)
		for _, before := range []string{"", "0", "10101010", strings.Repeat("1", 4000)} {
			checkTake(t, before+own, len(before), x, len(before)+len(own), api.OK)
			checkTake(t, before+own+"1", len(before), x, len(before)+len(own), api.OK)
			checkTake(t, before+own+strings.Repeat("01", 3000), len(before), x, len(before)+len(own), api.OK)
			for i := 0; i < len(own); i += 1 + len(own)/100 {
				checkTake(t, before+own[:i], len(before), zero, 0, api.ErrId)
			}
			checkTake(t, before+own[:len(own)-1], len(before), zero, 0, api.ErrId)
		}
	}
}

func TestP44TakeWrongBits(t *testing.T) {
	for _, x := range []api.Id{chain(33, one, zero), chain(1<<16, one, zero), wide(2049), full(11), chain(32, one, one), chain(32, zero, zero), ones(2047), chain(30, full(2), node(one, one))} {
		checkTake(t, digits(x), 0, zero, 0, api.ErrId)
		checkTake(t, "1"+digits(x)+"0000", 1, zero, 0, api.ErrId)
	}
	checkTake(t, strings.Repeat("1", 1<<20), 0, zero, 0, api.ErrId)
	checkTake(t, strings.Repeat("1", 32)+strings.Repeat("0", 1<<16), 0, zero, 0, api.ErrId)
	checkTake(t, strings.Repeat("100", 1<<16), 0, zero, 0, api.ErrId)
	checkTake(t, "", 0, zero, 0, api.ErrId)
	checkTake(t, "01", 2, zero, 0, api.ErrId)
	checkTake(t, "01", 1, zero, 0, api.ErrId)
	checkTake(t, "10100", 0, node(one, zero), 5, api.OK)
	for _, at := range []int{-1, 6, 8, math.MaxInt, math.MinInt} {
		checkTake(t, "10100", at, zero, 0, api.ErrArg)
	}
	for _, at := range []int{-1, 1, math.MaxInt, math.MinInt} {
		checkTake(t, "", at, zero, 0, api.ErrArg)
	}
	for _, c := range wrongBits {
		for _, at := range []int{0, 1, -1, c.n, math.MaxInt} {
			if got, m, e := id.Take(c.b, c.n, at); !nothing(got) || m != 0 || e != api.ErrArg {
				t.Errorf("%x %d at %d: %s %d %d", c.b, c.n, at, text(got), m, e)
			}
		}
	}
}

// TestP44TakeOfALongString: what stands behind a tree costs nothing.
func TestP44TakeOfALongString(t *testing.T) {
	b := make([]byte, 1<<24)
	b[0] = 0xA0
	if got, m, e := id.Take(b, 8<<24, 0); text(got) != "(1,0)" || m != 5 || e != api.OK {
		t.Error(text(got), m, e)
	}
	if got, m, e := id.Take(b, 8<<24, 8<<24-1); !nothing(got) || m != 0 || e != api.ErrId {
		t.Error(text(got), m, e)
	}
	got, m, e := id.Lay(b, 8<<24, node(one, zero))
	if len(got) != 1<<24+1 || got[1<<24] != 0xA0 || m != 8<<24+5 || e != api.OK {
		t.Error(len(got), m, e)
	}
}

func checkSplit(t *testing.T, x api.Id) {
	t.Helper()
	a, b, e := id.Split(x)
	if e != api.OK {
		t.Fatal(text(x), e)
	}
	if !id.Right(a) || !id.Right(b) || !id.Apart(a, b) {
		t.Fatal("not apart:", text(x), text(a), text(b))
	}
	form, _ := id.Norm(x)
	if sum, e := id.Sum(a, b); !equal(sum, form) || e != api.OK {
		t.Fatal("another sum:", text(x), text(sum), e)
	}
	if none := id.Same(x, zero); id.Same(a, zero) != none || id.Same(b, zero) != none {
		t.Fatal("an empty half:", text(x), text(a), text(b))
	}
	for _, half := range []api.Id{a, b} {
		if form, _ := id.Norm(half); !equal(form, half) {
			t.Fatal("no normal form:", text(half))
		}
	}
}

func TestP45SplitsAreApart(t *testing.T) {
	for _, x := range trees(3) {
		checkSplit(t, x)
	}
	for _, x := range []api.Id{chain(31, one, zero), chain(32, zero, one), wide(2047), full(10), ones(2047)} {
		checkSplit(t, x)
	}
	r := rand.New(rand.NewSource(45))
	for range 500 {
		checkSplit(t, random(r, 8))
	}
}

// TestP45SplitsAndSumsStayWhole splits and puts together at random, as replicas do.
func TestP45SplitsAndSumsStayWhole(t *testing.T) {
	r := rand.New(rand.NewSource(450))
	l := []api.Id{one}
	for range 3000 {
		i := r.Intn(len(l))
		a, b, e := id.Split(l[i])
		switch {
		case e == api.OK && len(l) < 64 && r.Intn(2) == 0:
			l[i] = a
			l = append(l, b)
		case len(l) > 1:
			j := (i + 1 + r.Intn(len(l)-1)) % len(l)
			sum, e := id.Sum(l[i], l[j])
			if e != api.OK {
				t.Fatal(text(l[i]), text(l[j]), e)
			}
			l[i] = sum
			l = slices.Delete(l, j, j+1)
		}
		if !id.Whole(l...) {
			t.Fatal("not whole:", text(node(l...)))
		}
	}
}

func TestP45OneTextAndOneRowOfBits(t *testing.T) {
	texts, rows := map[string]string{}, map[string]string{}
	check := func(x api.Id) {
		form, _ := id.Norm(x)
		s, _ := id.Show(x)
		b, n, _ := id.Lay(nil, 0, x)
		row := fmt.Sprintf("%x %d", b, n)
		if other, ok := texts[s]; ok && other != row {
			t.Fatal(s, row, other)
		}
		if other, ok := rows[row]; ok && other != s {
			t.Fatal(row, s, other)
		}
		texts[s], rows[row] = row, s
		if got, e := id.Parse(s); !equal(got, form) || e != api.OK {
			t.Fatal(s, text(got), e)
		}
		if got, end, e := id.Take(b, n, 0); !equal(got, form) || end != n || e != api.OK {
			t.Fatal(row, text(got), end, e)
		}
	}
	for _, x := range trees(3) {
		check(x)
	}
	if len(texts) != 256 || len(rows) != 256 {
		t.Error("not as many as parts:", len(texts), len(rows))
	}
	r := rand.New(rand.NewSource(451))
	for range 500 {
		check(random(r, 9))
	}
	check(chain(32, one, zero))
	check(wide(2047))
}

// TestP45RowsOfTrees: the bits of trees one behind the other, with numbers between them, are read back in order.
func TestP45RowsOfTrees(t *testing.T) {
	r := rand.New(rand.NewSource(452))
	var l []api.Id
	var b []byte
	n := 0
	for i := range 60 {
		x := random(r, 6)
		form, _ := id.Norm(x)
		l = append(l, form)
		var e, f api.Errno
		b, n, e = id.Lay(b, n, x)
		b, n, f = bits.PutOwn(b, n, uint64(i))
		if e != api.OK || f != api.OK {
			t.Fatal(e, f)
		}
	}
	at := 0
	for i, want := range l {
		got, end, e := id.Take(b, n, at)
		if !equal(got, want) || e != api.OK {
			t.Fatal(i, text(got), e)
		}
		v, next, e := bits.TakeOwn(b, n, end)
		if v != uint64(i) || e != api.OK {
			t.Fatal(i, v, e)
		}
		at = next
	}
	if at != n {
		t.Error(at, n)
	}
}

// TestP41MemoryIsNew: no call writes to its trees or keeps them, and no two slices of an answer are one (R3).
func TestP41MemoryIsNew(t *testing.T) {
	for _, s := range []string{"0", "1", "(1,0)", "((1,1),0)", "((1,0),(0,1))", "(0,((1,0),(1,0)))", "((0,(1,0)),((1,0),0))", "((0,0),(0,(1,(0,1))))"} {
		x := roomy(tree(s))
		before := copied(x)
		form, _ := id.Norm(x)
		again, _ := id.Norm(x)
		a, b, _ := id.Split(x)
		sum, _ := id.Sum(a, b)
		none, _ := id.Sum(x, roomy(tree("(0,0)")))
		turned, _ := id.Sum(zero, x)
		parsed, _ := id.Parse(text(form))
		row, n, _ := id.Lay(nil, 0, x)
		taken, _, _ := id.Take(row, n, 0)
		checkNew(t, x, form, again, a, b, sum, none, turned, parsed, taken)
		id.Same(x, form)
		id.Apart(x, form)
		id.Whole(x, form)
		id.Show(x)
		if !reflect.DeepEqual(copied(x), before) || !reflect.DeepEqual(x, roomy(tree(s))) {
			t.Error("changed:", s, text(x))
		}
	}
	// One slice in two places of an argument is two in the answer.
	kids := []api.Id{one, zero}
	shared := node(api.Id{Kids: kids}, node(zero, api.Id{Kids: kids}))
	form, _ := id.Norm(shared)
	a, b, _ := id.Split(shared)
	sum, _ := id.Sum(shared, zero)
	checkNew(t, form, a, b, sum)
	if text(form) != text(shared) {
		t.Error(text(form))
	}
}

// TestP42WholeKeepsItsList: Whole doesn't change the list it is given.
func TestP42WholeKeepsItsList(t *testing.T) {
	l := make([]api.Id, 0, 8)
	l = append(l, tree("((1,0),0)"), tree("(0,1)"), zero, tree("((0,1),0)"))
	want := text(node(l...))
	if !id.Whole(l...) {
		t.Error("not whole")
	}
	if text(node(l...)) != want || !nothing(l[:8][4]) {
		t.Error("changed:", text(node(l...)))
	}
}
