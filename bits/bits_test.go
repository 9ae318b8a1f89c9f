package bits_test

import (
	"bytes"
	"math"
	"strconv"
	"strings"
	"testing"

	"pannier/api"
	"pannier/bits"
)

const top = uint64(1) << 62

// pack lays a text of the runes 0 and 1 out as a bit string.
func pack(text string) ([]byte, int) {
	b := make([]byte, (len(text)+7)/8)
	for i, r := range text {
		if r == '1' {
			b[i/8] += 128 >> (i % 8)
		}
	}
	return b, len(text)
}

// unpack tells a bit string as a text of the runes 0 and 1.
func unpack(b []byte, n int) string {
	var all strings.Builder
	for _, x := range b {
		s := strconv.FormatUint(uint64(x), 2)
		all.WriteString(strings.Repeat("0", 8-len(s)) + s)
	}
	return all.String()[:n]
}

// fixed is the code with width w, made from the number's text.
func fixed(v uint64, w int) string {
	if w == 0 {
		return ""
	}
	s := strconv.FormatUint(v, 2)
	return strings.Repeat("0", w-len(s)) + s
}

// gamma is the gamma code, made from the number's text.
func gamma(v uint64) string {
	s := strconv.FormatUint(v+1, 2)
	return strings.Repeat("0", len(s)-1) + s
}

// allTexts tells every text of 0 and 1 with at most longest runes.
func allTexts(longest int) []string {
	all := []string{""}
	for i := 0; i < len(all); i++ {
		if len(all[i]) < longest {
			all = append(all, all[i]+"0", all[i]+"1")
		}
	}
	return all
}

type invalid struct {
	b []byte
	n int
}

func invalids() []invalid {
	return []invalid{
		{nil, 1}, {nil, 8}, {nil, -1}, {nil, -8}, {nil, math.MinInt}, {nil, math.MaxInt},
		{[]byte{0}, 0}, {[]byte{0}, -1}, {[]byte{0}, 9}, {[]byte{0}, 16}, {[]byte{0}, math.MaxInt}, {[]byte{0}, math.MinInt},
		{[]byte{0xA8}, 4}, {[]byte{1}, 7}, {[]byte{0x40}, 1}, {[]byte{0x80}, 0},
		{[]byte{0, 0}, 8}, {[]byte{0, 0}, 7}, {[]byte{0, 0}, 17}, {[]byte{0, 1}, 15}, {[]byte{255, 0x40}, 9},
	}
}

// someNumbers holds every power of two with its neighbours, and some that follow no pattern.
func someNumbers() []uint64 {
	all := []uint64{0, 5, 6, math.MaxUint64, 0x9E3779B97F4A7C15, 0x123456789ABCDEF0}
	for i := range 64 {
		p := uint64(1) << i
		all = append(all, p-1, p, p+1)
	}
	return all
}

func TestP11RightOfValid(t *testing.T) {
	for _, text := range allTexts(11) {
		if b, n := pack(text); !bits.Right(b, n) {
			t.Errorf("Right(%x, %d) is false", b, n)
		}
	}
	if !bits.Right([]byte{}, 0) || !bits.Right(nil, 0) {
		t.Error("the empty bit string is not valid")
	}
	if !bits.Right([]byte{255, 255}, 16) {
		t.Error("a full last byte is not valid")
	}
}

func TestP11RightOfInvalid(t *testing.T) {
	for _, x := range invalids() {
		if bits.Right(x.b, x.n) {
			t.Errorf("Right(%x, %d) is true", x.b, x.n)
		}
	}
}

func TestP11RightOfEveryLengthAndLastByte(t *testing.T) {
	for size := range 4 {
		for last := range 256 {
			b := make([]byte, size)
			if size > 0 {
				b[0] = 255
				b[size-1] = byte(last)
			}
			for n := -9; n < 34; n++ {
				want := n >= 0 && (n+7)/8 == size
				if want && n%8 != 0 {
					want = last%(1<<(8-n%8)) == 0
				}
				if got := bits.Right(b, n); got != want {
					t.Fatalf("Right(%x, %d) is %v", b, n, got)
				}
			}
		}
	}
}

func TestP12PutExamples(t *testing.T) {
	a, n, e := bits.Put(nil, 0, 5, 3)
	if !bytes.Equal(a, []byte{0xA0}) || n != 3 || e != api.OK {
		t.Fatalf("%x %d %d", a, n, e)
	}
	b, m, e := bits.Put(a, n, 1, 2)
	if !bytes.Equal(b, []byte{0xA8}) || m != 5 || e != api.OK {
		t.Fatalf("%x %d %d", b, m, e)
	}
}

func TestP12PutOfEveryWidth(t *testing.T) {
	for _, text := range []string{"", "1", "0", "1011", "1111111", "10110100", "110101011", "000000000000000"} {
		b, n := pack(text)
		for w := range 65 {
			for _, v := range someNumbers() {
				out, end, e := bits.Put(b, n, v, w)
				if w < 64 && v >= 1<<w {
					if e != api.ErrArg || len(out) != 0 || end != 0 {
						t.Fatalf("Put(%s; %d, %d): %x %d %d", text, v, w, out, end, e)
					}
					continue
				}
				if e != api.OK || !bits.Right(out, end) || unpack(out, end) != text+fixed(v, w) {
					t.Fatalf("Put(%s; %d, %d): %x %d %d", text, v, w, out, end, e)
				}
			}
		}
	}
}

func TestP12PutOfWrongArguments(t *testing.T) {
	for _, w := range []int{-1, 65, 66, 128, math.MinInt, math.MaxInt} {
		for _, v := range []uint64{0, 1, math.MaxUint64} {
			if out, n, e := bits.Put([]byte{0x80}, 1, v, w); e != api.ErrArg || len(out) != 0 || n != 0 {
				t.Errorf("Put(80, 1; %d, %d): %x %d %d", v, w, out, n, e)
			}
		}
	}
	for _, x := range invalids() {
		for _, w := range []int{0, 1, 3, 64} {
			if out, n, e := bits.Put(x.b, x.n, 0, w); e != api.ErrArg || len(out) != 0 || n != 0 {
				t.Errorf("Put(%x, %d; 0, %d): %x %d %d", x.b, x.n, w, out, n, e)
			}
		}
	}
}

func TestP12PutOwnExamples(t *testing.T) {
	if b, n, e := bits.PutOwn(nil, 0, 0); !bytes.Equal(b, []byte{0x80}) || n != 1 || e != api.OK {
		t.Errorf("%x %d %d", b, n, e)
	}
	if b, n, e := bits.PutOwn(nil, 0, 4); !bytes.Equal(b, []byte{0x28}) || n != 5 || e != api.OK {
		t.Errorf("%x %d %d", b, n, e)
	}
}

func TestP12PutOwn(t *testing.T) {
	numbers := append(someNumbers(), top-2, top-1, top, top+1)
	for v := range uint64(300) {
		numbers = append(numbers, v)
	}
	for _, text := range []string{"", "1", "000", "1111111", "10110100", "110101011"} {
		b, n := pack(text)
		for _, v := range numbers {
			out, end, e := bits.PutOwn(b, n, v)
			if v >= top {
				if e != api.ErrArg || len(out) != 0 || end != 0 {
					t.Fatalf("PutOwn(%s; %d): %x %d %d", text, v, out, end, e)
				}
				continue
			}
			if e != api.OK || !bits.Right(out, end) || unpack(out, end) != text+gamma(v) {
				t.Fatalf("PutOwn(%s; %d): %x %d %d", text, v, out, end, e)
			}
		}
	}
}

func TestP12PutOwnOfWrongArguments(t *testing.T) {
	for _, x := range invalids() {
		for _, v := range []uint64{0, 4, top - 1, top, math.MaxUint64} {
			if out, n, e := bits.PutOwn(x.b, x.n, v); e != api.ErrArg || len(out) != 0 || n != 0 {
				t.Errorf("PutOwn(%x, %d; %d): %x %d %d", x.b, x.n, v, out, n, e)
			}
		}
	}
}

func TestP12PutsLeaveTheirArgumentAlone(t *testing.T) {
	puts := map[string]func(b []byte, n int) ([]byte, int, api.Errno){
		"Put of 0 bits": func(b []byte, n int) ([]byte, int, api.Errno) { return bits.Put(b, n, 0, 0) },
		"Put in a byte": func(b []byte, n int) ([]byte, int, api.Errno) { return bits.Put(b, n, 3, 2) },
		"Put of 64":     func(b []byte, n int) ([]byte, int, api.Errno) { return bits.Put(b, n, math.MaxUint64, 64) },
		"PutOwn of 0":   func(b []byte, n int) ([]byte, int, api.Errno) { return bits.PutOwn(b, n, 0) },
		"PutOwn of max": func(b []byte, n int) ([]byte, int, api.Errno) { return bits.PutOwn(b, n, top-1) },
	}
	for name, put := range puts {
		whole := bytes.Repeat([]byte{0xA8}, 32)
		before := bytes.Clone(whole)
		out, _, e := put(whole[:1], 5)
		if e != api.OK {
			t.Fatal(name, e)
		}
		if !bytes.Equal(whole, before) {
			t.Errorf("%s wrote to its argument: %x", name, whole)
		}
		out = out[:cap(out)]
		for i := range out {
			out[i] = 0x55
		}
		if !bytes.Equal(whole, before) {
			t.Errorf("%s gave out its argument's memory: %x", name, whole)
		}
	}
}

func TestP13TakeExamples(t *testing.T) {
	if v, e := bits.Take([]byte{0xA8}, 5, 3, 2); v != 1 || e != api.OK {
		t.Error(v, e)
	}
	if v, e := bits.Take([]byte{0xA8}, 5, 4, 2); v != 0 || e != api.ErrBits {
		t.Error(v, e)
	}
}

func TestP13TakeAtEveryPosition(t *testing.T) {
	whole := "1" + fixed(math.MaxUint64, 64) + fixed(0x123456789ABCDEF0, 64) + "0101101"
	for _, text := range []string{"", "1", "10110", whole[:64], whole[:65], whole} {
		b, n := pack(text)
		for at := 0; at <= n; at++ {
			for w := range 65 {
				v, e := bits.Take(b, n, at, w)
				if at+w > n {
					if v != 0 || e != api.ErrBits {
						t.Fatalf("Take(%s; %d, %d): %d %d", text, at, w, v, e)
					}
					continue
				}
				want, _ := strconv.ParseUint("0"+text[at:at+w], 2, 64)
				if v != want || e != api.OK {
					t.Fatalf("Take(%s; %d, %d): %d %d", text, at, w, v, e)
				}
			}
		}
	}
}

func TestP13TakeOfWrongArguments(t *testing.T) {
	for _, at := range []int{-1, 6, 7, 8, math.MinInt, math.MaxInt} {
		for _, w := range []int{0, 1, 64} {
			if v, e := bits.Take([]byte{0xA8}, 5, at, w); v != 0 || e != api.ErrArg {
				t.Errorf("Take(A8, 5; %d, %d): %d %d", at, w, v, e)
			}
		}
	}
	for _, w := range []int{-1, 65, math.MinInt, math.MaxInt} {
		for _, at := range []int{0, 3, 5} {
			if v, e := bits.Take([]byte{0xA8}, 5, at, w); v != 0 || e != api.ErrArg {
				t.Errorf("Take(A8, 5; %d, %d): %d %d", at, w, v, e)
			}
		}
	}
	for _, x := range invalids() {
		for _, w := range []int{0, 1, 64} {
			if v, e := bits.Take(x.b, x.n, 0, w); v != 0 || e != api.ErrArg {
				t.Errorf("Take(%x, %d; 0, %d): %d %d", x.b, x.n, w, v, e)
			}
		}
	}
}

func TestP14TakeOwnExamples(t *testing.T) {
	if v, after, e := bits.TakeOwn([]byte{0x28}, 5, 0); v != 4 || after != 5 || e != api.OK {
		t.Error(v, after, e)
	}
	if v, after, e := bits.TakeOwn([]byte{0x20}, 3, 0); v != 0 || after != 0 || e != api.ErrBits {
		t.Error(v, after, e)
	}
}

func noOwn(t *testing.T, text string, at int, want api.Errno) {
	t.Helper()
	b, n := pack(text)
	if v, after, e := bits.TakeOwn(b, n, at); v != 0 || after != 0 || e != want {
		t.Errorf("TakeOwn(%s; %d): %d %d %d", text, at, v, after, e)
	}
}

func TestP14TakeOwnOfEveryShortText(t *testing.T) {
	codes := make(map[string]uint64)
	for v := range uint64(1) << 7 {
		codes[gamma(v)] = v
	}
	for _, text := range allTexts(12) {
		b, n := pack(text)
		for at := range n + 1 {
			found := false
			for end := at; end <= n && !found; end++ {
				want, ok := codes[text[at:end]]
				if !ok {
					continue
				}
				found = true
				if v, after, e := bits.TakeOwn(b, n, at); v != want || after != end || e != api.OK {
					t.Fatalf("TakeOwn(%s; %d): %d %d %d", text, at, v, after, e)
				}
			}
			if !found {
				noOwn(t, text, at, api.ErrBits)
			}
		}
	}
}

func TestP14TakeOwnOfCutCodes(t *testing.T) {
	for _, v := range []uint64{1, 4, 255, 256, 1 << 31, 1<<61 - 1, 1 << 61, top - 2, top - 1} {
		code := gamma(v)
		for n := range len(code) {
			noOwn(t, code[:n], 0, api.ErrBits)
			noOwn(t, "101"+code[:n], 3, api.ErrBits)
		}
	}
}

func TestP14TakeOwnAtTheLimit(t *testing.T) {
	last := strings.Repeat("0", 62) + "1" + strings.Repeat("0", 62)
	for _, behind := range []string{"", "0", "1", strings.Repeat("1", 70)} {
		b, n := pack(last + behind)
		if v, after, e := bits.TakeOwn(b, n, 0); v != top-1 || after != 125 || e != api.OK {
			t.Errorf("with %s behind: %d %d %d", behind, v, after, e)
		}
	}
	for i := range 62 {
		beyond := []byte(last)
		beyond[63+i] = '1'
		noOwn(t, string(beyond), 0, api.ErrBits)
	}
	for _, zeros := range []int{63, 64, 65, 127, 128, 200, 1000} {
		noOwn(t, strings.Repeat("0", zeros)+"1"+strings.Repeat("0", zeros), 0, api.ErrBits)
		noOwn(t, strings.Repeat("0", zeros)+strings.Repeat("1", zeros+1), 0, api.ErrBits)
		noOwn(t, strings.Repeat("0", zeros), 0, api.ErrBits)
	}
}

func TestP14TakeOwnOfWrongArguments(t *testing.T) {
	for _, at := range []int{-1, 6, 8, math.MinInt, math.MaxInt} {
		noOwn(t, "00101", at, api.ErrArg)
	}
	noOwn(t, "00101", 5, api.ErrBits)
	noOwn(t, "", 0, api.ErrBits)
	noOwn(t, "", 1, api.ErrArg)
	for _, x := range invalids() {
		for _, at := range []int{0, 1} {
			if v, after, e := bits.TakeOwn(x.b, x.n, at); v != 0 || after != 0 || e != api.ErrArg {
				t.Errorf("TakeOwn(%x, %d; %d): %d %d %d", x.b, x.n, at, v, after, e)
			}
		}
	}
}

func TestP15TakeReturnsWhatPutAppended(t *testing.T) {
	for _, v := range someNumbers() {
		for w := range 65 {
			if w < 64 && v >= 1<<w {
				continue
			}
			for _, text := range []string{"", "101", "11111111", "010101010"} {
				b, n := pack(text)
				b, end, _ := bits.Put(b, n, v, w)
				if end != n+w {
					t.Fatal(text, v, w, end)
				}
				if got, e := bits.Take(b, end, n, w); got != v || e != api.OK {
					t.Fatal(text, v, w, got, e)
				}
			}
		}
	}
}

func TestP15CodesAreReadBackInOrder(t *testing.T) {
	var numbers []uint64
	for _, v := range someNumbers() {
		numbers = append(numbers, v%top, v%7)
	}
	var b []byte
	n, text := 0, ""
	for _, v := range numbers {
		var e api.Errno
		if b, n, e = bits.PutOwn(b, n, v); e != api.OK {
			t.Fatal(v, e)
		}
		text += gamma(v)
	}
	if unpack(b, n) != text {
		t.Fatal("the codes do not follow each other")
	}
	at := 0
	for i, v := range numbers {
		got, after, e := bits.TakeOwn(b, n, at)
		if got != v || after != at+len(gamma(v)) || e != api.OK {
			t.Fatal(i, v, got, at, after, e)
		}
		at = after
	}
	if at != n {
		t.Fatal(at, n)
	}
}

func TestP15NoOtherBitsAreReadAsCodes(t *testing.T) {
	for _, text := range allTexts(13) {
		b, n := pack(text)
		v, after, e := bits.TakeOwn(b, n, 0)
		if e != api.OK {
			continue
		}
		if again, size, e := bits.PutOwn(nil, 0, v); e != api.OK || unpack(again, size) != text[:after] {
			t.Fatalf("%s is read as %d", text[:after], v)
		}
	}
}
