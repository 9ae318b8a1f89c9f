package stamp_test

import (
	"bytes"
	"fmt"
	"math"
	"math/rand"
	"reflect"
	"slices"
	"strconv"
	"strings"
	"testing"
	"time"

	"pannier/api"
	"pannier/event"
	"pannier/id"
	"pannier/stamp"
)

const top = int64(1) << 62

var none, whole = api.Id{}, api.Id{One: true}

func pair(first, second api.Id) api.Id { return api.Id{Kids: []api.Id{first, second}} }

func leaf(n int64) api.Event { return api.Event{N: n} }

func node(n int64, kids ...api.Event) api.Event { return api.Event{N: n, Kids: kids} }

func of(i api.Id, e api.Event) api.Stamp { return api.Stamp{Id: i, Ev: e} }

// made reads the stamp of two texts, of normal forms or not.
func made(i, e string) api.Stamp {
	who, rest := readId(i)
	seen, more := readEvent(e)
	if rest != "" || more != "" {
		panic("no stamp: " + i + " and " + e)
	}
	return of(who, seen)
}

func readId(s string) (api.Id, string) {
	if s[0] != '(' {
		return api.Id{One: s[0] == '1'}, s[1:]
	}
	first, rest := readId(s[1:])
	second, rest := readId(rest[1:])
	return pair(first, second), rest[1:]
}

func readEvent(s string) (api.Event, string) {
	s, inner := strings.CutPrefix(s, "(")
	rest := strings.TrimLeft(s, "0123456789")
	n, err := strconv.ParseInt(s[:len(s)-len(rest)], 10, 64)
	if err != nil {
		panic("no number: " + s)
	}
	if !inner {
		return leaf(n), rest
	}
	first, rest := readEvent(rest[1:])
	second, rest := readEvent(rest[1:])
	return node(n, first, second), rest[1:]
}

// idText and eventText are the texts of trees as they stand, in normal form or not.
func idText(t api.Id) string {
	if len(t.Kids) == 0 {
		return map[bool]string{false: "0", true: "1"}[t.One]
	}
	return "(" + idText(t.Kids[0]) + "," + idText(t.Kids[1]) + ")"
}

func eventText(t api.Event) string {
	if len(t.Kids) == 0 {
		return fmt.Sprint(t.N)
	}
	return "(" + fmt.Sprint(t.N) + "," + eventText(t.Kids[0]) + "," + eventText(t.Kids[1]) + ")"
}

func text(s api.Stamp) string { return idText(s.Id) + " and " + eventText(s.Ev) }

func nothing(s api.Stamp) bool {
	return !s.Id.One && len(s.Id.Kids) == 0 && s.Ev.N == 0 && len(s.Ev.Kids) == 0
}

// idCells tells for each of 2^deep equal pieces of [0, 1) whether it is in an identity's part; eventCells tells its count.
func idCells(t api.Id, deep int) []bool {
	if len(t.Kids) == 0 {
		return slices.Repeat([]bool{t.One}, 1<<deep)
	}
	return slices.Concat(idCells(t.Kids[0], deep-1), idCells(t.Kids[1], deep-1))
}

func eventCells(t api.Event, deep int) []int64 {
	if len(t.Kids) == 0 {
		return slices.Repeat([]int64{t.N}, 1<<deep)
	}
	out := slices.Concat(eventCells(t.Kids[0], deep-1), eventCells(t.Kids[1], deep-1))
	for i := range out {
		out[i] += t.N
	}
	return out
}

// idForm and eventForm are the normal forms that denote those pieces and those counts.
func idForm(cells []bool) api.Id {
	if !slices.Contains(cells, !cells[0]) {
		return api.Id{One: cells[0]}
	}
	half := len(cells) / 2
	return pair(idForm(cells[:half]), idForm(cells[half:]))
}

func eventForm(cells []int64, above int64) api.Event {
	least := slices.Min(cells)
	if least == slices.Max(cells) {
		return leaf(least - above)
	}
	half := len(cells) / 2
	return node(least-above, eventForm(cells[:half], least), eventForm(cells[half:], least))
}

// form is the stamp of the normal forms of both trees, which are at most that deep.
func form(s api.Stamp, deep int) api.Stamp {
	return of(idForm(idCells(s.Id, deep)), eventForm(eventCells(s.Ev, deep), 0))
}

// ids are all identities up to a depth, in normal form or not.
func ids(deep int) []api.Id {
	out := []api.Id{none, whole}
	if deep == 0 {
		return out
	}
	below := ids(deep - 1)
	for _, first := range below {
		for _, second := range below {
			out = append(out, pair(first, second))
		}
	}
	return out
}

// events are all event trees up to a depth with leaves of 0 to 2 and nodes of 0 and 1, in normal form or not.
func events(deep int) []api.Event {
	out := []api.Event{leaf(0), leaf(1), leaf(2)}
	if deep == 0 {
		return out
	}
	below := events(deep - 1)
	for _, first := range below {
		for _, second := range below {
			out = append(out, node(0, first, second), node(1, first, second))
		}
	}
	return out
}

func randomId(r *rand.Rand, deep int) api.Id {
	if deep == 0 || r.Intn(6) == 0 {
		return api.Id{One: r.Intn(2) == 0}
	}
	return pair(randomId(r, deep-1), randomId(r, deep-1))
}

func randomEvent(r *rand.Rand, deep int, most int64) api.Event {
	n := r.Int63n(most + 1)
	if deep == 0 || r.Intn(4) == 0 {
		return leaf(n)
	}
	return node(n, randomEvent(r, deep-1, most), randomEvent(r, deep-1, most))
}

// deepId is an identity below so many nodes whose first kids are other; deepEvent likewise an event tree, below nodes of 0.
func deepId(deep int, t, other api.Id) api.Id {
	for range deep {
		t = pair(other, t)
	}
	return t
}

func deepEvent(deep int, t, other api.Event) api.Event {
	for range deep {
		t = node(0, other, t)
	}
	return t
}

// fullId and fullEvent are normal forms of 2^(deep+1) - 1 nodes, whose leaves are 0 and 1 in turns.
func fullId(deep int) api.Id {
	if deep == 1 {
		return pair(none, whole)
	}
	return pair(fullId(deep-1), fullId(deep-1))
}

func fullEvent(deep int) api.Event {
	if deep == 1 {
		return node(0, leaf(0), leaf(1))
	}
	return node(0, fullEvent(deep-1), fullEvent(deep-1))
}

// turned has 1 where a tree of nodes of 0 has 0, and 0 where it has 1.
func turned(t api.Event) api.Event {
	if len(t.Kids) == 0 {
		return leaf(1 - t.N)
	}
	return node(0, turned(t.Kids[0]), turned(t.Kids[1]))
}

// wrongIds and wrongEvents are trees that aren't valid.
func wrongIds() map[string]api.Id {
	round := make([]api.Id, 2)
	round[0].Kids, round[1].Kids = round, round
	return map[string]api.Id{
		"one kid":           {Kids: []api.Id{whole}},
		"three kids":        {Kids: []api.Id{whole, none, none}},
		"kids and One":      {One: true, Kids: []api.Id{whole, none}},
		"one kid below":     pair(whole, api.Id{Kids: []api.Id{none}}),
		"depth 33":          deepId(33, whole, none),
		"depth 33 of zeros": deepId(33, none, none),
		"4095 nodes":        fullId(11),
		"in itself":         {Kids: round},
	}
}

func wrongEvents() map[string]api.Event {
	round := make([]api.Event, 2)
	round[0].Kids, round[1].Kids = round, round
	return map[string]api.Event{
		"one kid":         node(0, leaf(1)),
		"three kids":      node(0, leaf(1), leaf(0), leaf(0)),
		"-1":              leaf(-1),
		"the least":       leaf(math.MinInt64),
		"2^62 + 1":        leaf(top + 1),
		"the greatest":    leaf(math.MaxInt64),
		"1 below 2^62":    node(top, leaf(0), leaf(1)),
		"-1 below":        node(5, leaf(0), leaf(-1)),
		"depth 33":        deepEvent(33, leaf(1), leaf(0)),
		"depth 33 of one": deepEvent(33, leaf(1), leaf(1)),
		"4095 nodes":      fullEvent(11),
		"in itself":       {Kids: round},
	}
}

// wrong are stamps of which one tree isn't valid, or both.
func wrong() map[string]api.Stamp {
	out := map[string]api.Stamp{}
	for name, i := range wrongIds() {
		out["id: "+name] = of(i, leaf(0))
		out["id: "+name+", with a tree that has no bits"] = of(i, leaf(top))
		out["id: "+name+", event: -1"] = of(i, leaf(-1))
	}
	for name, e := range wrongEvents() {
		out["event: "+name] = of(whole, e)
		out["event: "+name+", of the empty part"] = of(none, e)
		out["event: "+name+", of depth 32"] = of(deepId(32, whole, none), e)
		out["event: "+name+", id: one kid"] = of(api.Id{Kids: []api.Id{whole}}, e)
	}
	return out
}

// check fails unless an answer is that stamp and OK, or nothing and an error.
func check(t *testing.T, name string, got api.Stamp, e api.Errno, want string, wantE api.Errno) {
	t.Helper()
	if e != wantE {
		t.Errorf("%s: error %d, not %d", name, e, wantE)
		return
	}
	if e != api.OK && !nothing(got) {
		t.Errorf("%s: %s beside error %d", name, text(got), e)
	}
	if e == api.OK && text(got) != want {
		t.Errorf("%s: %s, not %s", name, text(got), want)
	}
}

func must(t *testing.T, s api.Stamp, e api.Errno) api.Stamp {
	t.Helper()
	if e != api.OK {
		t.Fatal("error", e)
	}
	return s
}

func TestP61Seed(t *testing.T) {
	if s := stamp.Seed(); text(s) != "1 and 0" {
		t.Error(text(s))
	}
}

func TestP61ForkExamples(t *testing.T) {
	for _, x := range [][4]string{
		{"1", "1", "(1,0) and 1", "(0,1) and 1"},
		{"0", "5", "0 and 5", "0 and 5"},
		{"((0,0),0)", "(0,5,5)", "0 and 5", "0 and 5"},
		{"(0,1)", "(2,1,1)", "(0,(1,0)) and 3", "(0,(0,1)) and 3"},
		{"(1,(0,1))", "(1,2,(0,3,1))", "(1,0) and (2,1,(0,2,0))", "(0,(0,1)) and (2,1,(0,2,0))"},
		{"((1,1),(1,1))", "(0,0,(0,0,0))", "(1,0) and 0", "(0,1) and 0"},
	} {
		a, b, e := stamp.Fork(made(x[0], x[1]))
		check(t, x[0], a, e, x[2], api.OK)
		check(t, x[0], b, e, x[3], api.OK)
	}
}

func TestP61ForkAndPeek(t *testing.T) {
	for _, i := range ids(2) {
		for _, v := range events(1) {
			s := of(i, v)
			want := form(s, 2)
			first, second, _ := id.Split(i)
			a, b, e := stamp.Fork(s)
			check(t, text(s), a, e, text(of(first, want.Ev)), api.OK)
			check(t, text(s), b, e, text(of(second, want.Ev)), api.OK)
			p, e := stamp.Peek(s)
			check(t, text(s), p, e, text(of(none, want.Ev)), api.OK)
		}
	}
}

func TestP61ForkTooDeep(t *testing.T) {
	seen := deepEvent(32, leaf(3), leaf(1))
	for name, x := range map[string]struct {
		i api.Id
		e api.Errno
	}{
		"depth 31":                {deepId(31, whole, none), api.OK},
		"depth 32":                {deepId(32, whole, none), api.ErrIdDepth},
		"depth 32, first":         {deepId(31, pair(whole, none), none), api.ErrIdDepth},
		"depth 32, two parts":     {deepId(32, whole, whole), api.OK},
		"depth 32, two deep ones": {deepId(30, pair(pair(none, whole), pair(none, whole)), none), api.OK},
		"depth 32, empty":         {deepId(32, none, none), api.OK},
	} {
		s := of(x.i, seen)
		a, b, e := stamp.Fork(s)
		first, second, _ := id.Split(x.i)
		form, _ := event.Norm(seen)
		check(t, name, a, e, text(of(first, form)), x.e)
		check(t, name, b, e, text(of(second, form)), x.e)
	}
}

func TestP61PeekAtTheLimits(t *testing.T) {
	for name, s := range map[string]api.Stamp{
		"depth 32":   of(deepId(32, whole, none), deepEvent(32, leaf(top), leaf(0))),
		"2047 nodes": of(fullId(10), fullEvent(10)),
		"2^62":       of(whole, leaf(top)),
		"a peek":     of(none, leaf(7)),
	} {
		p, e := stamp.Peek(s)
		check(t, name, p, e, text(of(none, s.Ev)), api.OK)
		if !stamp.Leq(p, s) || !stamp.Leq(s, p) {
			t.Error(name, "has not seen the same")
		}
	}
}

func TestP61WrongStamps(t *testing.T) {
	good := made("(1,0)", "1")
	for name, s := range wrong() {
		a, b, e := stamp.Fork(s)
		check(t, "Fork of "+name, a, e, "", api.ErrArg)
		check(t, "Fork of "+name, b, e, "", api.ErrArg)
		p, e := stamp.Peek(s)
		check(t, "Peek of "+name, p, e, "", api.ErrArg)
		if stamp.Leq(s, good) || stamp.Leq(good, s) || stamp.Leq(s, s) {
			t.Error("Leq of", name)
		}
	}
}

func TestP61JoinOfTwo(t *testing.T) {
	small := []api.Event{leaf(0), leaf(2), node(1, leaf(0), leaf(1)), node(0, leaf(3), node(0, leaf(0), leaf(1))), node(1, leaf(1), leaf(1))}
	for _, i := range ids(2) {
		for _, j := range ids(2) {
			both, either := false, idCells(i, 2)
			for k, in := range idCells(j, 2) {
				both = both || in && either[k]
				either[k] = in || either[k]
			}
			for _, v := range small {
				for _, w := range small {
					counts := eventCells(v, 2)
					for k, n := range eventCells(w, 2) {
						counts[k] = max(n, counts[k])
					}
					got, e := stamp.Join(of(i, v), of(j, w))
					wantE := api.OK
					if both {
						wantE = api.ErrIdBoth
					}
					check(t, text(of(i, v))+" with "+text(of(j, w)), got, e, text(of(idForm(either), eventForm(counts, 0))), wantE)
				}
			}
		}
	}
}

func TestP61JoinExamples(t *testing.T) {
	for _, x := range [][5]string{
		{"(1,0)", "(0,1,0)", "(0,1)", "(0,0,2)", "1 and (1,0,1)"},
		{"(0,(1,0))", "1", "0", "(0,0,2)", "(0,(1,0)) and (1,0,1)"},
		{"0", "0", "0", "(1,1,1)", "0 and 2"},
	} {
		got, e := stamp.Join(made(x[0], x[1]), made(x[2], x[3]))
		check(t, fmt.Sprint(x), got, e, x[4], api.OK)
	}
}

// TestP61JoinErrors: the error of the identities is told ahead of that of the event trees.
func TestP61JoinErrors(t *testing.T) {
	left, right := pair(whole, none), pair(none, whole)
	for name, i := range wrongIds() {
		for _, v := range []api.Event{leaf(0), leaf(-1)} {
			got, e := stamp.Join(of(i, v), of(right, leaf(1)))
			check(t, "first id: "+name, got, e, "", api.ErrArg)
			got, e = stamp.Join(of(left, leaf(1)), of(i, v))
			check(t, "second id: "+name, got, e, "", api.ErrArg)
		}
	}
	for name, v := range wrongEvents() {
		got, e := stamp.Join(of(left, v), of(right, leaf(1)))
		check(t, "first event: "+name, got, e, "", api.ErrArg)
		got, e = stamp.Join(of(left, leaf(1)), of(right, v))
		check(t, "second event: "+name, got, e, "", api.ErrArg)
		got, e = stamp.Join(of(left, v), of(left, leaf(1)))
		check(t, "first event, ids overlap: "+name, got, e, "", api.ErrIdBoth)
		got, e = stamp.Join(of(whole, leaf(1)), of(right, v))
		check(t, "second event, ids overlap: "+name, got, e, "", api.ErrIdBoth)
	}
}

func TestP61JoinTooGreat(t *testing.T) {
	// Two identities of depth 11 with 1025 nodes each, in quarters that the other one has not.
	low, high := pair(fullId(9), none), pair(none, fullId(9))
	got, e := stamp.Join(of(low, leaf(0)), of(high, leaf(1)))
	check(t, "2047 nodes", got, e, text(of(fullId(10), leaf(1))), api.OK)
	great := pair(none, pair(fullId(9), none))
	got, e = stamp.Join(of(pair(fullId(9), none), leaf(0)), of(great, leaf(1)))
	check(t, "2049 nodes", got, e, "", api.ErrArg)
	got, e = stamp.Join(of(pair(fullId(9), none), leaf(-1)), of(great, leaf(1)))
	check(t, "2049 nodes, and an event tree that isn't valid", got, e, "", api.ErrArg)

	i, j := pair(whole, none), pair(none, whole)
	v, w := node(0, fullEvent(9), leaf(0)), node(0, leaf(0), fullEvent(9))
	got, e = stamp.Join(of(i, v), of(j, w))
	check(t, "2047 nodes of events", got, e, text(of(whole, fullEvent(10))), api.OK)
	w = node(0, leaf(0), node(0, fullEvent(9), leaf(0)))
	got, e = stamp.Join(of(i, v), of(j, w))
	check(t, "2049 nodes of events", got, e, "", api.ErrArg)
	got, e = stamp.Join(of(i, v), of(i, w))
	check(t, "2049 nodes of events, ids overlap", got, e, "", api.ErrIdBoth)
	got, e = stamp.Join(of(i, fullEvent(10)), of(j, turned(fullEvent(10))))
	check(t, "opposite events", got, e, "1 and 1", api.OK)
}

func TestP61Leq(t *testing.T) {
	who := []api.Id{none, whole, pair(whole, none), pair(none, none)}
	all := events(1)
	for k, v := range all {
		for l, w := range all {
			want := true
			for c, n := range eventCells(v, 2) {
				want = want && n <= eventCells(w, 2)[c]
			}
			i, j := who[k%len(who)], who[l%len(who)]
			if got := stamp.Leq(of(i, v), of(j, w)); got != want {
				t.Error(text(of(i, v)), text(of(j, w)), got)
			}
		}
	}
	for _, x := range []struct {
		a, b api.Event
		want bool
	}{
		{leaf(top), leaf(top), true},
		{leaf(top), node(top-1, leaf(1), leaf(0)), false},
		{deepEvent(32, leaf(top-1), leaf(0)), deepEvent(32, leaf(top), leaf(0)), true},
		{deepEvent(32, leaf(top), leaf(0)), deepEvent(32, leaf(top-1), leaf(5)), false},
		{fullEvent(10), leaf(1), true},
		{leaf(1), fullEvent(10), false},
	} {
		if got := stamp.Leq(of(whole, x.a), of(whole, x.b)); got != x.want {
			t.Error(eventText(x.a), eventText(x.b), got)
		}
	}
}

// filled is the fill of counts for the pieces of an identity.
func filled(who []bool, counts []int64) []int64 {
	out := slices.Clone(counts)
	all, some := !slices.Contains(who, false), slices.Contains(who, true)
	even := slices.Min(counts) == slices.Max(counts)
	switch {
	case !some, !all && even:
		return out
	case all:
		return slices.Repeat([]int64{slices.Max(counts)}, len(counts))
	}
	half := len(who) / 2
	a, b := out[:half], out[half:]
	switch {
	case !slices.Contains(who[:half], false):
		b = filled(who[half:], b)
		a = slices.Repeat([]int64{max(slices.Max(a), slices.Min(b))}, half)
	case !slices.Contains(who[half:], false):
		a = filled(who[:half], a)
		b = slices.Repeat([]int64{max(slices.Max(b), slices.Min(a))}, half)
	default:
		a, b = filled(who[:half], a), filled(who[half:], b)
	}
	return slices.Concat(a, b)
}

// grown adds 1 where it costs least, on the right among places that cost the same: it goes through all leaves of the identity, each a place.
func grown(who api.Id, seen api.Event, counts []int64) []int64 {
	best, from, to := math.MaxInt, 0, 0
	var visit func(i api.Id, e api.Event, cost, at, end int)
	visit = func(i api.Id, e api.Event, cost, at, end int) {
		if len(i.Kids) == 0 {
			if i.One && cost <= best {
				best, from, to = cost, at, end
			}
			return
		}
		if len(e.Kids) == 0 {
			e, cost = node(e.N, leaf(0), leaf(0)), cost+1000
		}
		middle := (at + end) / 2
		visit(i.Kids[0], e.Kids[0], cost+1, at, middle)
		visit(i.Kids[1], e.Kids[1], cost+1, middle, end)
	}
	visit(who, seen, 0, 0, len(counts))
	out := slices.Clone(counts)
	for k := from; k < to; k++ {
		out[k]++
	}
	return out
}

// after is the stamp after an event, by counts and pieces alone.
func after(s api.Stamp, deep int) api.Stamp {
	s = form(s, deep)
	who, counts := idCells(s.Id, deep), eventCells(s.Ev, deep)
	more := filled(who, counts)
	if slices.Equal(more, counts) {
		more = grown(s.Id, s.Ev, counts)
	}
	return of(s.Id, eventForm(more, 0))
}

func checkEvent(t *testing.T, s api.Stamp, deep int) {
	t.Helper()
	got, e := stamp.Event(s)
	if !slices.Contains(idCells(s.Id, deep), true) {
		check(t, text(s), got, e, "", api.ErrStamp)
		return
	}
	check(t, text(s), got, e, text(after(s, deep)), api.OK)
}

func TestP62EventsOfSmallStamps(t *testing.T) {
	seen := events(2)
	for _, i := range ids(2) {
		for _, v := range seen {
			checkEvent(t, of(i, v), 2)
		}
	}
}

func TestP62EventsOfRandomStamps(t *testing.T) {
	r := rand.New(rand.NewSource(6))
	for range 6000 {
		deep := 1 + r.Intn(6)
		s := of(randomId(r, deep), randomEvent(r, deep, 1+r.Int63n(3)))
		checkEvent(t, s, deep)
		// What an event leaves is not changed by the fill: so the tree grows from here on.
		next, e := stamp.Event(s)
		for k := 0; k < 3 && e == api.OK; k++ {
			checkEvent(t, next, deep)
			next, e = stamp.Event(next)
		}
	}
}

func TestP62Examples(t *testing.T) {
	for _, x := range [][3]string{
		{"1", "0", "1 and 1"},
		{"1", "1", "1 and 2"},
		{"(1,0)", "0", "(1,0) and (0,1,0)"},
		{"(1,0)", "(0,1,0)", "(1,0) and (0,2,0)"},
		{"(1,0)", "(0,0,1)", "(1,0) and 1"},
	} {
		got, e := stamp.Event(made(x[0], x[1]))
		check(t, fmt.Sprint(x), got, e, x[2], api.OK)
	}
	got, e := stamp.Event(made("0", "5"))
	check(t, "0 and 5", got, e, "", api.ErrStamp)
}

// TestP62Fill: each case of the fill, alone and below another, where it changes counts.
func TestP62Fill(t *testing.T) {
	for name, x := range map[string][3]string{
		"1: the maximum":                     {"1", "(1,2,(0,0,4))", "1 and 5"},
		"(1,r): the minimum behind":          {"(1,0)", "(0,0,(2,0,1))", "(1,0) and (2,0,(0,0,1))"},
		"(1,r): the maximum ahead":           {"(1,0)", "(1,(0,3,0),0)", "(1,0) and (1,3,0)"},
		"(1,r): both alike":                  {"(1,0)", "(0,(0,3,0),3)", "(1,0) and 3"},
		"(1,r): r is filled first":           {"(1,(0,1))", "(0,0,(0,4,1))", "(1,(0,1)) and 4"},
		"(l,1): the minimum ahead":           {"(0,1)", "(0,(2,1,0),0)", "(0,1) and (2,(0,1,0),0)"},
		"(l,1): the maximum behind":          {"(0,1)", "(1,0,(0,0,3))", "(0,1) and (1,0,3)"},
		"(l,1): l is filled first":           {"((1,0),1)", "(0,(0,1,4),0)", "((1,0),1) and 4"},
		"(l,1): l is filled, and ends below": {"((1,0),1)", "(0,(0,4,1),0)", "((1,0),1) and (1,(0,3,0),0)"},
		"(l,r): both":                        {"((1,0),(0,1))", "(0,(0,0,1),(0,2,0))", "((1,0),(0,1)) and (1,0,1)"},
		"(l,r): the first alone":             {"((1,0),(0,1))", "(0,(0,0,1),5)", "((1,0),(0,1)) and (1,0,4)"},
		"(l,r): the second alone":            {"((1,0),(0,1))", "(0,5,(0,1,0))", "((1,0),(0,1)) and (1,4,0)"},
		"(0,r): below":                       {"(0,(1,0))", "(0,7,(0,0,2))", "(0,(1,0)) and (2,5,0)"},
		"(l,0): below":                       {"((0,1),0)", "(1,(0,3,0),0)", "((0,1),0) and (1,3,0)"},
		"0: what is there stays":             {"(0,1)", "(0,(0,5,7),(0,9,8))", "(0,1) and (5,(0,0,2),4)"},
		"a leaf of the tree stays":           {"((1,0),(1,0))", "(0,3,(0,0,1))", "((1,0),(1,0)) and (1,2,0)"},
		"not in normal form":                 {"((1,1),(0,0))", "(0,0,(1,0,0))", "(1,0) and 1"},
		"not in normal form, both":           {"(((1,1),1),(0,(0,0)))", "(1,(0,0,0),(1,1,(0,0,2)))", "(1,0) and (2,0,(0,1,(0,0,2)))"},
	} {
		got, e := stamp.Event(made(x[0], x[1]))
		check(t, name, got, e, x[2], api.OK)
	}
}

// TestP62Grow: each case of growing, with costs that are alike and costs that are not.
func TestP62Grow(t *testing.T) {
	for name, x := range map[string][3]string{
		"1 and a leaf":                       {"1", "7", "1 and 8"},
		"(0,r), a leaf":                      {"(0,1)", "7", "(0,1) and (7,0,1)"},
		"(l,0), a leaf":                      {"(1,0)", "7", "(1,0) and (7,1,0)"},
		"(0,r), a node":                      {"(0,1)", "(1,0,2)", "(0,1) and (1,0,3)"},
		"(l,0), a node":                      {"(1,0)", "(1,2,0)", "(1,0) and (1,3,0)"},
		"two leaves opened":                  {"(0,(1,0))", "7", "(0,(1,0)) and (7,0,(0,1,0))"},
		"one of two levels opened":           {"(0,(1,0))", "(1,0,1)", "(0,(1,0)) and (1,0,(1,1,0))"},
		"alike: the second":                  {"((1,0),(0,1))", "(0,(0,1,0),(0,0,1))", "((1,0),(0,1)) and (0,(0,1,0),(0,0,2))"},
		"alike, opened: the second":          {"((1,0),(1,0))", "3", "((1,0),(1,0)) and (3,0,(0,1,0))"},
		"alike, one of them opened above":    {"((1,0),(0,1))", "(0,1,0)", "((1,0),(0,1)) and (0,1,(0,0,1))"},
		"the first has fewer levels":         {"(1,(0,1))", "(0,1,(0,0,1))", "(1,(0,1)) and (0,2,(0,0,1))"},
		"the second has fewer levels":        {"((1,0),1)", "(0,(0,1,0),1)", "((1,0),1) and (0,(0,1,0),2)"},
		"the first opens fewer":              {"((1,0),(1,0))", "(0,(0,1,0),0)", "((1,0),(1,0)) and (0,(0,2,0),0)"},
		"the second opens fewer":             {"((1,0),(1,0))", "(0,0,(0,1,0))", "((1,0),(1,0)) and (0,0,(0,2,0))"},
		"a leaf opened outweighs levels":     {"(((0,(0,1)),0),(0,1))", "(0,(0,(0,0,(0,0,1)),0),0)", "(((0,(0,1)),0),(0,1)) and (0,(0,(0,0,(0,0,2)),0),0)"},
		"the first of a leaf, fewer levels":  {"(1,(1,0))", "4", "(1,(1,0)) and (4,1,0)"},
		"the second of a leaf, fewer levels": {"((1,0),1)", "4", "((1,0),1) and (4,0,1)"},
		"alike deeper, not above":            {"(((1,0),(1,0)),1)", "4", "(((1,0),(1,0)),1) and (4,0,1)"},
		"not in normal form":                 {"((1,1),(0,0))", "(0,3,(1,2,2))", "(1,0) and (3,1,0)"},
	} {
		got, e := stamp.Event(made(x[0], x[1]))
		check(t, name, got, e, x[2], api.OK)
	}
}

func TestP62DeepTrees(t *testing.T) {
	last, first := deepId(32, whole, none), deepId(31, pair(whole, none), none)
	for name, x := range map[string]struct {
		i          api.Id
		seen, want api.Event
	}{
		"a leaf, opened down to depth 32":    {last, leaf(9), node(9, leaf(0), deepEvent(31, leaf(1), leaf(0)))},
		"a leaf, opened, and grown ahead":    {first, leaf(0), deepEvent(31, node(0, leaf(1), leaf(0)), leaf(0))},
		"a tree of depth 32, grown":          {last, deepEvent(32, leaf(1), leaf(0)), deepEvent(32, leaf(2), leaf(0))},
		"a tree of depth 32, filled":         {last, deepEvent(32, leaf(0), leaf(1)), deepEvent(31, leaf(1), leaf(1))},
		"a tree of depth 32, filled below 1": {whole, deepEvent(32, leaf(5), leaf(1)), leaf(5)},
		"a tree of depth 16, opened":         {last, deepEvent(16, leaf(1), leaf(0)), deepEvent(16, node(1, leaf(0), deepEvent(15, leaf(1), leaf(0))), leaf(0))},
		"31 levels cost less than a leaf":    {pair(deepId(31, whole, none), pair(whole, none)), node(0, deepEvent(31, leaf(1), leaf(0)), leaf(0)), node(0, deepEvent(31, leaf(2), leaf(0)), leaf(0))},
		"the empty part beside":              {pair(whole, deepId(31, none, none)), deepEvent(32, leaf(1), leaf(0)), node(0, leaf(1), deepEvent(31, leaf(1), leaf(0)))},
		"rows of ones, opened in the first":  {deepId(32, none, whole), leaf(0), node(0, leaf(1), leaf(0))},
		"rows of ones, filled":               {deepId(32, none, whole), deepEvent(32, leaf(1), leaf(0)), leaf(1)},
		"rows of ones, filled in part":       {deepId(32, none, whole), deepEvent(16, node(2, node(0, leaf(0), leaf(1)), leaf(0)), leaf(1)), deepEvent(16, node(2, leaf(1), leaf(0)), leaf(2))},
		"rows of ones, grown in the first":   {deepId(32, none, whole), deepEvent(16, node(0, leaf(4), leaf(0)), leaf(2)), node(0, leaf(3), deepEvent(15, node(0, leaf(4), leaf(0)), leaf(2)))},
	} {
		got, e := stamp.Event(of(x.i, x.seen))
		want, _ := event.Norm(x.want)
		who, _ := id.Norm(x.i)
		check(t, name, got, e, text(of(who, want)), api.OK)
	}
}

// TestP62Counts: counts at the greatest number, of which a tree that grows has no greater one.
func TestP62Counts(t *testing.T) {
	half := top / 2
	for name, x := range map[string]struct {
		i    string
		seen api.Event
		want api.Event
		e    api.Errno
	}{
		"2^62 - 1 grows":                {"1", leaf(top - 1), leaf(top), api.OK},
		"2^62 doesn't":                  {"1", leaf(top), leaf(0), api.ErrEvent},
		"2^62 ahead doesn't":            {"(1,0)", node(0, leaf(top), leaf(0)), leaf(0), api.ErrEvent},
		"2^62 behind doesn't":           {"(0,1)", node(0, leaf(0), leaf(top)), leaf(0), api.ErrEvent},
		"2^62 by two doesn't":           {"(0,1)", node(half, leaf(0), leaf(half)), leaf(0), api.ErrEvent},
		"2^62 - 1 by two grows":         {"(0,1)", node(half, leaf(0), leaf(half-1)), node(half, leaf(0), leaf(half)), api.OK},
		"2^62 opened doesn't":           {"(0,(1,0))", leaf(top), leaf(0), api.ErrEvent},
		"2^62 - 1 opened grows":         {"(0,(1,0))", leaf(top - 1), node(top-1, leaf(0), node(0, leaf(1), leaf(0))), api.OK},
		"filled up to 2^62":             {"(0,1)", node(0, leaf(top), leaf(0)), leaf(top), api.OK},
		"filled up to 2^62 by the most": {"1", node(1, leaf(0), leaf(top-1)), leaf(top), api.OK},
		"another's 2^62":                {"(1,0)", node(0, node(0, leaf(1), leaf(0)), node(0, leaf(top), leaf(0))), node(0, leaf(1), node(0, leaf(top), leaf(0))), api.OK},
		"what costs less doesn't":       {"(1,(0,1))", node(0, leaf(top), leaf(0)), leaf(0), api.ErrEvent},
		"the second, alike, doesn't":    {"((1,0),(0,1))", node(0, node(0, leaf(1), leaf(0)), node(0, leaf(0), leaf(top))), leaf(0), api.ErrEvent},
		"the first, alike, isn't taken": {"((1,0),(0,1))", node(0, node(0, leaf(top), leaf(0)), node(0, leaf(0), leaf(1))), node(0, node(0, leaf(top), leaf(0)), node(0, leaf(0), leaf(2))), api.OK},
	} {
		i, _ := readId(x.i)
		got, e := stamp.Event(of(i, x.seen))
		check(t, name, got, e, text(of(i, x.want)), x.e)
	}
}

// TestP62Nodes: a tree that grows beyond 2047 nodes isn't valid.
func TestP62Nodes(t *testing.T) {
	all := fullEvent(10)
	deepest := pair(none, deepId(9, whole, none))
	got, e := stamp.Event(of(deepest, all))
	if e != api.OK || eventText(got.Ev) == eventText(all) || strings.Count(eventText(got.Ev), "(") != 1023 {
		t.Error("2047 nodes: a leaf grows:", e)
	}
	got, e = stamp.Event(of(deepId(11, whole, none), all))
	check(t, "2047 nodes: a leaf is opened", got, e, "", api.ErrEvent)
	got, e = stamp.Event(of(whole, all))
	check(t, "2047 nodes: filled", got, e, "1 and 1", api.OK)

	// 2045 nodes: the last pair of leaves is one.
	less := node(0, fullEvent(9), lastCut(fullEvent(9)))
	got, e = stamp.Event(of(deepId(10, whole, none), less))
	if e != api.OK || strings.Count(eventText(got.Ev), "(") != 1023 {
		t.Error("2045 nodes: one leaf is opened:", e)
	}
	got, e = stamp.Event(of(deepId(11, whole, none), less))
	check(t, "2045 nodes: two leaves are opened", got, e, "", api.ErrEvent)

	// Whichever of two leaves is opened, the tree would be too great.
	both := pair(deepId(31, whole, none), deepId(10, whole, none))
	got, e = stamp.Event(of(both, all))
	check(t, "2047 nodes: two ways to open leaves", got, e, "", api.ErrEvent)
}

// lastCut is a full tree without its last pair of leaves.
func lastCut(t api.Event) api.Event {
	if len(t.Kids) == 0 {
		return t
	}
	if len(t.Kids[1].Kids) == 0 {
		return leaf(0)
	}
	return node(t.N, t.Kids[0], lastCut(t.Kids[1]))
}

func TestP62EmptyParts(t *testing.T) {
	for _, i := range []api.Id{none, pair(none, none), pair(none, pair(none, none)), deepId(32, none, none), {Kids: []api.Id{}}} {
		for _, v := range []api.Event{leaf(0), leaf(5), leaf(top), node(0, leaf(0), leaf(1)), fullEvent(10)} {
			got, e := stamp.Event(of(i, v))
			check(t, idText(i), got, e, "", api.ErrStamp)
		}
	}
}

func TestP62WrongStamps(t *testing.T) {
	for name, s := range wrong() {
		got, e := stamp.Event(s)
		check(t, name, got, e, "", api.ErrArg)
	}
}

// TestP62GreatTrees: the greatest trees take no long while.
func TestP62GreatTrees(t *testing.T) {
	start := time.Now()
	for _, i := range []api.Id{whole, fullId(10), deepId(32, none, whole), deepId(22, fullId(9), whole)} {
		for _, v := range []api.Event{leaf(0), fullEvent(10), turned(fullEvent(10)), deepEvent(22, fullEvent(9), leaf(3))} {
			s, e := of(i, v), api.OK
			for k := 0; k < 8 && e == api.OK; k++ {
				s, e = stamp.Event(s)
			}
		}
	}
	if d := time.Since(start); d > 20*time.Second {
		t.Error(d)
	}
}

// digits are the bits of a stamp's trees as they stand, as a text of 0 and 1.
func digits(s api.Stamp) string { return idDigits(s.Id) + eventDigits(s.Ev) }

func idDigits(t api.Id) string {
	if len(t.Kids) == 0 {
		return "0" + idText(t)
	}
	return "1" + idDigits(t.Kids[0]) + idDigits(t.Kids[1])
}

func eventDigits(t api.Event) string {
	if len(t.Kids) == 0 {
		return "0" + gamma(t.N)
	}
	return "1" + gamma(t.N) + eventDigits(t.Kids[0]) + eventDigits(t.Kids[1])
}

func gamma(n int64) string {
	s := strconv.FormatInt(n+1, 2)
	return strings.Repeat("0", len(s)-1) + s
}

// number is the encoding of a number below 2^21.
func number(n int) string {
	switch {
	case n < 1<<7:
		return string([]byte{byte(n)})
	case n < 1<<14:
		return string([]byte{0x80 | byte(n>>8), byte(n)})
	}
	return string([]byte{0xC0 | byte(n>>16), byte(n >> 8), byte(n)})
}

func packed(digits string) string {
	b := make([]byte, (len(digits)+7)/8)
	for i, x := range []byte(digits) {
		if x == '1' {
			b[i/8] |= 128 >> (i % 8)
		}
	}
	return string(b)
}

func encoded(digits string) string { return number(len(digits)) + packed(digits) }

// checkBytes fails unless a stamp is laid as the bytes of its normal form, and read from them.
func checkBytes(t *testing.T, s, form api.Stamp) {
	t.Helper()
	want := encoded(digits(form))
	got, e := stamp.Lay(s)
	if e != api.OK || got != want {
		t.Errorf("Lay(%.200s): %x, %d, not %x", text(s), got, e, want)
	}
	back, e := stamp.Read(want)
	check(t, fmt.Sprintf("Read(%x)", want), back, e, text(form), api.OK)
}

func TestP63Examples(t *testing.T) {
	for _, x := range []struct{ i, e, want string }{
		{"1", "0", "\x04\x50"},                                   // 01 01
		{"0", "0", "\x04\x10"},                                   // 00 01
		{"(1,0)", "1", "\x09\xa1\x00"},                           // 10100 0010
		{"1", "4", "\x08\x45"},                                   // 01 000101
		{"(1,0)", "(0,1,0)", "\x0d\xa6\x48"},                     // 10100 11 0010 01
		{"((1,1),(0,0))", "(0,(0,1,1),(0,0,0))", "\x0d\xa6\x48"}, // the same
	} {
		s := made(x.i, x.e)
		got, e := stamp.Lay(s)
		if got != x.want || e != api.OK {
			t.Errorf("%s: %x, %d", text(s), got, e)
		}
		back, e := stamp.Read(x.want)
		check(t, text(s), back, e, text(form(s, 3)), api.OK)
	}
}

func TestP63LayAndReadSmallStamps(t *testing.T) {
	seen := events(2)
	for k, i := range ids(2) {
		for l := k % 3; l < len(seen); l += 3 {
			s := of(i, seen[l])
			checkBytes(t, s, form(s, 2))
		}
	}
	r := rand.New(rand.NewSource(63))
	for range 3000 {
		deep := 1 + r.Intn(6)
		s := of(randomId(r, deep), randomEvent(r, deep, 1+r.Int63n(1<<(1+r.Intn(40)))))
		checkBytes(t, s, form(s, deep))
	}
}

// great are stamps in normal form, as great as they may be, whose event trees have bits.
func great() map[string]api.Stamp {
	return map[string]api.Stamp{
		"2^62 - 1":            of(whole, leaf(top-1)),
		"2^62 by two":         of(none, node(1, leaf(0), leaf(top-1))),
		"depth 32":            of(deepId(32, whole, none), deepEvent(32, leaf(1), leaf(0))),
		"depth 32 of ones":    of(deepId(32, none, whole), deepEvent(32, leaf(0), leaf(1))),
		"2047 nodes":          of(fullId(10), fullEvent(10)),
		"2047 nodes, turned":  of(fullId(10), turned(fullEvent(10))),
		"a number of 2 bytes": of(fullId(5), leaf(3)),
	}
}

func TestP63LayAndReadAtTheLimits(t *testing.T) {
	for _, s := range great() {
		checkBytes(t, s, s)
	}
}

func TestP63LayWithoutBits(t *testing.T) {
	for _, i := range []api.Id{none, whole, deepId(32, whole, none)} {
		for _, v := range []api.Event{
			leaf(top),
			node(0, leaf(top), leaf(0)),
			node(0, leaf(0), leaf(top)),
			deepEvent(32, leaf(top), leaf(0)),
			node(top-1, leaf(1), leaf(1)),
			node(top/2, leaf(top/2), leaf(top/2)),
			node(top, leaf(0), leaf(0)),
			node(0, leaf(top), leaf(top)),
		} {
			if got, e := stamp.Lay(of(i, v)); e != api.ErrEvent || got != "" {
				t.Errorf("%s: %x, %d", text(of(i, v)), got, e)
			}
		}
	}
	// A number that a normal form takes off another one leaves bits.
	for _, v := range []api.Event{node(1, leaf(top-1), leaf(top-2)), node(0, leaf(top), leaf(1))} {
		if _, e := stamp.Lay(of(whole, v)); e != api.OK {
			t.Error(eventText(v), e)
		}
	}
}

func TestP63LayWrongStamps(t *testing.T) {
	for name, s := range wrong() {
		if got, e := stamp.Lay(s); e != api.ErrArg || got != "" {
			t.Errorf("%s: %x, %d", name, got, e)
		}
	}
}

// shortIds and shortEvents are the normal forms of at most so many bits.
func shortIds(most int) []api.Id {
	if most < 2 {
		return nil
	}
	out := []api.Id{none, whole}
	for _, first := range shortIds(most - 3) {
		for _, second := range shortIds(most - 1 - len(idDigits(first))) {
			if len(first.Kids)+len(second.Kids) > 0 || first.One != second.One {
				out = append(out, pair(first, second))
			}
		}
	}
	return out
}

func shortEvents(most int) []api.Event {
	var out []api.Event
	for n := int64(0); 1+len(gamma(n)) <= most; n++ {
		out = append(out, leaf(n))
		used := 1 + len(gamma(n))
		for _, first := range shortEvents(most - used - 2) {
			for _, second := range shortEvents(most - used - len(eventDigits(first))) {
				alike := len(first.Kids)+len(second.Kids) == 0 && first.N == second.N
				if min(first.N, second.N) == 0 && !alike {
					out = append(out, node(n, first, second))
				}
			}
		}
	}
	return out
}

// TestP63ReadShortBytes reads all texts of up to three bytes, the first of them at most 20.
func TestP63ReadShortBytes(t *testing.T) {
	const most = 16
	want := map[string]string{}
	for _, i := range shortIds(most - 2) {
		for _, v := range shortEvents(most - len(idDigits(i))) {
			want[encoded(digits(of(i, v)))] = text(of(i, v))
		}
	}
	found := 0
	try := func(b ...byte) {
		s := string(b)
		got, e := stamp.Read(s)
		if there, ok := want[s]; ok {
			found++
			check(t, fmt.Sprintf("%x", s), got, e, there, api.OK)
		} else {
			check(t, fmt.Sprintf("%x", s), got, e, "", api.ErrStamp)
		}
	}
	try()
	for a := range 256 {
		try(byte(a))
		for b := range 256 {
			try(byte(a), byte(b))
			for c := 0; a <= 20 && c < 256; c++ {
				try(byte(a), byte(b), byte(c))
			}
		}
	}
	if found != len(want) || found < 1000 {
		t.Error(found, "of", len(want))
	}
}

// wrongDigits are bits that aren't those of two normal forms.
func wrongDigits() map[string]string {
	line := func(deep int) string { return strings.Repeat("100", deep) + "01" }
	return map[string]string{
		"none":                             "",
		"an identity alone":                idDigits(whole),
		"an event tree alone":              eventDigits(leaf(3)),
		"the event tree ahead":             eventDigits(leaf(4)) + idDigits(whole),
		"two identities":                   idDigits(fullId(2)) + idDigits(none),
		"an event tree too many":           digits(made("1", "1")) + eventDigits(leaf(0)),
		"a 0 too many":                     digits(made("1", "1")) + "0",
		"a 1 too many":                     digits(made("1", "1")) + "1",
		"8 bits too many":                  digits(made("1", "1")) + "00000000",
		"(1,1)":                            digits(made("(1,1)", "0")),
		"(0,0)":                            digits(made("(0,0)", "0")),
		"(1,(0,0))":                        digits(made("(1,(0,0))", "0")),
		"(0,1,1)":                          digits(made("1", "(0,1,1)")),
		"(0,0,0)":                          digits(made("1", "(0,0,0)")),
		"(0,1,2)":                          digits(made("1", "(0,1,2)")),
		"(0,(1,0,1),1)":                    digits(made("1", "(0,(1,0,1),1)")),
		"(0,0,(0,2,2))":                    digits(made("1", "(0,0,(0,2,2))")),
		"an identity of depth 33":          line(33) + eventDigits(leaf(0)),
		"an identity of 4095 nodes":        idDigits(fullId(11)) + eventDigits(leaf(0)),
		"an event tree of depth 33":        idDigits(whole) + eventDigits(deepEvent(33, leaf(1), leaf(0))),
		"an event tree of 4095 nodes":      idDigits(whole) + eventDigits(fullEvent(11)),
		"an event tree beyond 2^62":        idDigits(whole) + eventDigits(node(2, leaf(0), leaf(top-1))),
		"an event tree with 2^62":          idDigits(whole) + eventDigits(leaf(top)),
		"an event tree with 2^62, below":   idDigits(whole) + eventDigits(node(0, leaf(0), leaf(top))),
		"an event tree with 2^62 + 1":      idDigits(whole) + eventDigits(leaf(top+1)),
		"a number that doesn't end":        idDigits(whole) + "0" + strings.Repeat("0", 200),
		"a node without a second kid":      idDigits(whole) + "11" + eventDigits(leaf(0)),
		"an identity without a second kid": "101",
	}
}

func TestP63ReadWrongBits(t *testing.T) {
	for name, d := range wrongDigits() {
		got, e := stamp.Read(encoded(d))
		check(t, name, got, e, "", api.ErrStamp)
	}
	// As deep as it may be, and with as much as it may have, the same is read.
	line := strings.Repeat("100", 32) + "01"
	got, e := stamp.Read(encoded(line + eventDigits(node(1, leaf(0), leaf(top-1)))))
	check(t, "depth 32", got, e, text(of(deepId(32, whole, none), node(1, leaf(0), leaf(top-1)))), api.OK)
}

// TestP63ReadWrongBytes: no bytes beside its encoding are read as a stamp.
func TestP63ReadWrongBytes(t *testing.T) {
	all := great()
	for _, x := range [][2]string{{"1", "0"}, {"(1,0)", "1"}, {"1", "4"}, {"(0,(1,0))", "(1,0,(0,2,0))"}} {
		all[x[0]] = made(x[0], x[1])
	}
	for name, s := range all {
		d := digits(s)
		b, right := packed(d), encoded(d)
		n := len(d)
		bad := []string{right + "\x00", right + "\xff", right + right, right[1:], "\x00" + right, b}
		for k := range min(len(right), 40) {
			bad = append(bad, right[:k], right[:len(right)-1-k])
		}
		for k := 1; k <= 20; k++ {
			bad = append(bad, number(n+k)+b, number(n+k)+packed(d+strings.Repeat("0", k)))
			bad = append(bad, number(n+k)+packed(d+strings.Repeat("1", k)), number(max(n-k, 0))+b)
			bad = append(bad, encoded(d[:max(n-k, 0)]))
		}
		for k := n; k < 8*len(b); k++ {
			low := []byte(right)
			low[len(low)-1] |= 1 << (k - n)
			bad = append(bad, string(low))
		}
		for _, long := range []string{"\x80" + string(rune(n%128)), "\xc0" + string([]byte{byte(n >> 8), byte(n)}), "\xff" + string([]byte{0, 0, 0, 0, 0, 0, byte(n >> 8), byte(n)})} {
			bad = append(bad, long+b)
		}
		// Numbers of bits that an int would wrap round.
		bad = append(bad, "\xff\x80\x00\x00\x00\x00\x00"+string([]byte{byte(n >> 8), byte(n)})+b, "\xff\xff\xff\xff\xff\xff\xff\xff\xff"+b, "\xff\x7f\xff\xff\xff\xff\xff\xff\xff"+b, "\xf8\x01\x00\x00"+string([]byte{byte(n >> 8), byte(n)})+b)
		for _, x := range bad {
			got, e := stamp.Read(x)
			check(t, fmt.Sprintf("%s: %.80x", name, x), got, e, "", api.ErrStamp)
		}
	}
}

// TestP63ReadChangedBytes: what is read is laid as the very bytes again.
func TestP63ReadChangedBytes(t *testing.T) {
	r := rand.New(rand.NewSource(36))
	for range 3000 {
		s := of(randomId(r, 4), randomEvent(r, 4, 9))
		l, e := stamp.Lay(s)
		if e != api.OK {
			t.Fatal(e)
		}
		for range 10 {
			b := []byte(l)
			b[r.Intn(len(b))] ^= 1 << r.Intn(8)
			got, e := stamp.Read(string(b))
			if e == api.OK {
				if again, _ := stamp.Lay(got); again != string(b) {
					t.Fatalf("%x is read as %s, which is %x", b, text(got), again)
				}
			} else {
				check(t, fmt.Sprintf("%x", b), got, e, "", api.ErrStamp)
			}
		}
	}
}

func TestP63ReadLongTexts(t *testing.T) {
	start := time.Now()
	for _, x := range []byte{0x00, 0x55, 0x92, 0xFF} {
		long := bytes.Repeat([]byte{x}, 1<<20)
		n := 8 * len(long)
		head := string([]byte{0xE0 | byte(n>>24), byte(n >> 16), byte(n >> 8), byte(n)})
		for _, s := range []string{string(long), head + string(long)} {
			got, e := stamp.Read(s)
			check(t, fmt.Sprintf("%x", x), got, e, "", api.ErrStamp)
		}
	}
	if d := time.Since(start); d > 20*time.Second {
		t.Error(d)
	}
}

// checkGreater fails unless a stamp after an event has seen more than before.
func checkGreater(t *testing.T, s api.Stamp) {
	t.Helper()
	next, e := stamp.Event(s)
	if e != api.OK {
		return
	}
	if !stamp.Leq(s, next) || stamp.Leq(next, s) || event.Same(s.Ev, next.Ev) || !id.Same(s.Id, next.Id) {
		t.Error("not greater:", text(s), text(next))
	}
}

func TestP64EventsAreGreater(t *testing.T) {
	seen := events(2)
	for _, i := range ids(2) {
		for k := 0; k < len(seen); k += 5 {
			checkGreater(t, of(i, seen[k]))
		}
	}
	r := rand.New(rand.NewSource(64))
	for range 5000 {
		deep := 1 + r.Intn(8)
		checkGreater(t, of(randomId(r, deep), randomEvent(r, deep, 1+r.Int63n(5))))
	}
	for _, s := range great() {
		checkGreater(t, s)
	}
}

// history is a stamp, and which events it has seen.
type history struct {
	stamp api.Stamp
	seen  [5]uint64
}

func (h history) with(o history) [5]uint64 {
	for i := range h.seen {
		h.seen[i] |= o.seen[i]
	}
	return h.seen
}

// family is stamps that came from one, and messages of theirs.
type family struct {
	t      *testing.T
	r      *rand.Rand
	live   []history
	sent   []history
	events int
}

func (f *family) event() {
	h := &f.live[f.r.Intn(len(f.live))]
	next, e := stamp.Event(h.stamp)
	h.stamp = must(f.t, next, e)
	h.seen[f.events/64] |= 1 << (f.events % 64)
	f.events++
}

func (f *family) fork() {
	k := f.r.Intn(len(f.live))
	a, b, e := stamp.Fork(f.live[k].stamp)
	if e == api.ErrIdDepth {
		return
	}
	f.live[k].stamp = must(f.t, a, e)
	f.live = append(f.live, history{must(f.t, b, e), f.live[k].seen})
}

func (f *family) join() {
	k, l := f.r.Intn(len(f.live)), f.r.Intn(len(f.live))
	if k == l {
		return
	}
	s, e := stamp.Join(f.live[k].stamp, f.live[l].stamp)
	f.live[k] = history{must(f.t, s, e), f.live[k].with(f.live[l])}
	f.live = slices.Delete(f.live, l, l+1)
}

func (f *family) send() {
	h := f.live[f.r.Intn(len(f.live))]
	s, e := stamp.Peek(h.stamp)
	f.sent = append(f.sent, history{must(f.t, s, e), h.seen})
	if len(f.sent) > 6 {
		f.sent = f.sent[1:]
	}
}

func (f *family) receive() {
	if len(f.sent) == 0 {
		return
	}
	h, message := &f.live[f.r.Intn(len(f.live))], f.sent[f.r.Intn(len(f.sent))]
	s, e := stamp.Join(h.stamp, message.stamp)
	*h = history{must(f.t, s, e), h.with(message)}
}

// pass lays a stamp, and goes on with what is read.
func (f *family) pass() {
	h := &f.live[f.r.Intn(len(f.live))]
	l, e := stamp.Lay(h.stamp)
	if e != api.OK {
		f.t.Fatal(e)
	}
	back, e := stamp.Read(l)
	if e != api.OK || text(back) != text(h.stamp) {
		f.t.Fatal(text(h.stamp), text(back), e)
	}
	h.stamp = back
}

func (f *family) checkWhole() {
	f.t.Helper()
	var parts []api.Id
	for _, h := range f.live {
		parts = append(parts, h.stamp.Id)
	}
	if !id.Whole(parts...) {
		f.t.Fatal("not whole:", parts)
	}
}

func (f *family) checkOrder() {
	f.t.Helper()
	all := slices.Concat(f.live, f.sent)
	for _, a := range all {
		for _, b := range all {
			if want := a.with(b) == b.seen; stamp.Leq(a.stamp, b.stamp) != want {
				f.t.Fatal(text(a.stamp), text(b.stamp), "has seen all:", want)
			}
		}
	}
}

func TestP64LeqIsWhatWasSeen(t *testing.T) {
	for seed := range 24 {
		f := &family{t: t, r: rand.New(rand.NewSource(int64(seed))), live: []history{{stamp: stamp.Seed()}}}
		many := 2 + seed%9
		for step := range 600 {
			switch k := f.r.Intn(10); {
			case k < 4 && f.events < 320:
				f.event()
			case k < 6 && len(f.live) < many:
				f.fork()
			case k < 7:
				f.join()
			case k < 8:
				f.send()
			case k < 9:
				f.receive()
			default:
				f.pass()
			}
			f.checkWhole()
			if step%8 == 0 {
				f.checkOrder()
			}
		}
		for len(f.live) > 1 {
			f.join()
			f.checkWhole()
		}
		f.checkOrder()
		if !id.Same(f.live[0].stamp.Id, whole) {
			t.Error(text(f.live[0].stamp))
		}
	}
}

// roomyId and roomyEvent are trees whose slices have spare capacity that is not empty.
func roomyId(t api.Id) api.Id {
	kids := []api.Id{}
	for _, kid := range t.Kids {
		kids = append(kids, roomyId(kid))
	}
	spare := append(kids, pair(whole, whole), whole)
	return api.Id{One: t.One, Kids: spare[:len(kids)]}
}

func roomyEvent(t api.Event) api.Event {
	kids := []api.Event{}
	for _, kid := range t.Kids {
		kids = append(kids, roomyEvent(kid))
	}
	spare := append(kids, node(-7, leaf(1)), leaf(-9))
	return api.Event{N: t.N, Kids: spare[:len(kids)]}
}

func roomy(s api.Stamp) api.Stamp { return of(roomyId(s.Id), roomyEvent(s.Ev)) }

// places adds where the slices of a stamp lie, with their spare capacity, and tells whether one of these was there already.
func places(seen map[any]bool, s api.Stamp) bool {
	twice := false
	note := func(at any) {
		twice = twice || seen[at]
		seen[at] = true
	}
	var inId func(t api.Id)
	inId = func(t api.Id) {
		all := t.Kids[:cap(t.Kids)]
		for i := range all {
			note(&all[i])
		}
		for _, kid := range t.Kids {
			inId(kid)
		}
	}
	var inEvent func(t api.Event)
	inEvent = func(t api.Event) {
		all := t.Kids[:cap(t.Kids)]
		for i := range all {
			note(&all[i])
		}
		for _, kid := range t.Kids {
			inEvent(kid)
		}
	}
	inId(s.Id)
	inEvent(s.Ev)
	return twice
}

// opened is a stamp whose slices show their spare capacity, in memory of its own.
func opened(s api.Stamp) api.Stamp {
	return of(openedId(s.Id), openedEvent(s.Ev))
}

func openedId(t api.Id) api.Id {
	out := api.Id{One: t.One}
	for _, kid := range t.Kids[:cap(t.Kids)] {
		out.Kids = append(out.Kids, openedId(kid))
	}
	return out
}

func openedEvent(t api.Event) api.Event {
	out := leaf(t.N)
	for _, kid := range t.Kids[:cap(t.Kids)] {
		out.Kids = append(out.Kids, openedEvent(kid))
	}
	return out
}

// TestP61MemoryIsNew: the answers share no memory with each other or with what was handed in, and that stays as it was.
func TestP61MemoryIsNew(t *testing.T) {
	for _, x := range [][2]string{
		{"1", "0"}, {"0", "(0,1,0)"}, {"(1,0)", "(0,(0,1,0),(0,0,2))"}, {"(1,0)", "(0,(1,1,0),(0,0,2))"},
		{"((1,0),(0,1))", "(0,(0,1,0),(0,0,1))"}, {"((1,0),(0,1))", "(0,(0,0,1),(0,0,1))"}, {"(0,(1,(0,1)))", "(0,1,(0,0,1))"},
		{"((0,0),((1,1),(0,1)))", "(3,(1,0,(0,2,2)),(0,1,(5,0,0)))"},
	} {
		s := roomy(made(x[0], x[1]))
		before := opened(s)
		a, b, _ := stamp.Fork(s)
		p, _ := stamp.Peek(s)
		q, _ := stamp.Join(s, p)
		j, _ := stamp.Join(a, b)
		e, _ := stamp.Event(s)
		again, _ := stamp.Event(e)
		l, _ := stamp.Lay(s)
		r, _ := stamp.Read(l)
		stamp.Leq(s, q)
		seen := map[any]bool{}
		for i, y := range []api.Stamp{s, a, b, p, q, j, e, again, r, stamp.Seed()} {
			if places(seen, y) {
				t.Error(x, "answer", i, "shares memory:", text(y))
			}
		}
		if !reflect.DeepEqual(before, opened(s)) {
			t.Error("changed:", x, text(s))
		}
	}
}
