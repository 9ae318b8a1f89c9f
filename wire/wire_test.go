package wire_test

import (
	"bytes"
	"hash/crc32"
	"math"
	"math/big"
	"strings"
	"testing"

	"pannier/api"
	"pannier/wire"
)

// form is the form of n with more following bytes, whether it is the shortest or not; it holds n only below 2^(7*more+7), or with eight.
func form(n uint64, more int) string {
	b := make([]byte, 1+more)
	new(big.Int).SetUint64(n).FillBytes(b)
	for i := range more {
		b[0] |= 1 << (7 - i)
	}
	return string(b)
}

// shortest is the encoding of n, by the limits that the chapter names.
func shortest(n uint64) string {
	for more := range 8 {
		if new(big.Int).SetUint64(n).BitLen() <= 7*(more+1) {
			return form(n, more)
		}
	}
	return form(n, 8)
}

// sealed is the sealed record, with the library's checksum.
func sealed(kind byte, body string) string {
	return withSum(string(oneByte(kind)) + shortest(uint64(len(body))) + body)
}

func oneByte(x byte) []byte { return []byte{x} }

func withSum(s string) string {
	n := crc32.ChecksumIEEE([]byte(s))
	return s + string([]byte{byte(n), byte(n >> 8), byte(n >> 16), byte(n >> 24)})
}

// edges tells the numbers round each power of 2, 2^64 - 1 among them.
func edges() []uint64 {
	all := []uint64{0, 1, 2, 5, 300, math.MaxUint64}
	for i := range 64 {
		p := uint64(1) << i
		all = append(all, p-1, p, p+1)
	}
	return all
}

// outside tells positions that are not in bytes of that length.
func outside(n int) []int {
	return []int{-1, -2, math.MinInt, n + 1, n + 2, math.MaxInt}
}

func wantNumber(t *testing.T, b string, at int, n uint64, end int) {
	t.Helper()
	if m, k, e := wire.TakeNumber([]byte(b), at); m != n || k != end || e != api.OK {
		t.Errorf("TakeNumber(%x, %d) = %d, %d, %d, want %d, %d", b, at, m, k, e, n, end)
	}
}

func wantNoNumber(t *testing.T, b string, at int) {
	t.Helper()
	if m, k, e := wire.TakeNumber([]byte(b), at); m != 0 || k != 0 || e != api.ErrWire {
		t.Errorf("TakeNumber(%x, %d) = %d, %d, %d, want ErrWire", b, at, m, k, e)
	}
}

func wantText(t *testing.T, b string, at, most int, s string, end int) {
	t.Helper()
	if r, k, e := wire.TakeText([]byte(b), at, most); r != s || k != end || e != api.OK {
		t.Errorf("TakeText(%.40x, %d, %d) = %.40q, %d, %d, want %.40q, %d", b, at, most, r, k, e, s, end)
	}
}

func wantNoText(t *testing.T, b string, at, most int) {
	t.Helper()
	if r, k, e := wire.TakeText([]byte(b), at, most); r != "" || k != 0 || e != api.ErrWire {
		t.Errorf("TakeText(%.40x, %d, %d) = %.40q, %d, %d, want ErrWire", b, at, most, r, k, e)
	}
}

func wantOpen(t *testing.T, s string, at, most int, kind byte, body string, end int) {
	t.Helper()
	if k, b, n, e := wire.Open(s, at, most); k != kind || b != body || n != end || e != api.OK {
		t.Errorf("Open(%.40x, %d, %d) = %d, %.40q, %d, %d, want %d, %.40q, %d", s, at, most, k, b, n, e, kind, body, end)
	}
}

func wantClosed(t *testing.T, s string, at, most int, want api.Errno) {
	t.Helper()
	if k, b, n, e := wire.Open(s, at, most); k != 0 || b != "" || n != 0 || e != want {
		t.Errorf("Open(%.40x, %d, %d) = %d, %.40q, %d, %d, want %d", s, at, most, k, b, n, e, want)
	}
}

func TestP21NumbersOfTheChapter(t *testing.T) {
	for n, want := range map[uint64]string{
		0: "\x00", 5: "\x05", 127: "\x7f", 128: "\x80\x80", 300: "\x81\x2c",
		1<<14 - 1: "\xbf\xff", 1 << 14: "\xc0\x40\x00",
		1<<21 - 1: "\xdf\xff\xff", 1 << 21: "\xe0\x20\x00\x00",
		1<<49 - 1: "\xfd\xff\xff\xff\xff\xff\xff", 1 << 49: "\xfe\x02\x00\x00\x00\x00\x00\x00",
		1<<56 - 1: "\xfe\xff\xff\xff\xff\xff\xff\xff", 1 << 56: "\xff\x01\x00\x00\x00\x00\x00\x00\x00",
		math.MaxUint64: "\xff\xff\xff\xff\xff\xff\xff\xff\xff",
	} {
		if b := wire.Number(nil, n); string(b) != want {
			t.Errorf("Number(nil, %d) = %x, want %x", n, b, want)
		}
		wantNumber(t, want, 0, n, len(want))
	}
}

func TestP21NumbersRoundEachPower(t *testing.T) {
	for _, n := range edges() {
		want := shortest(n)
		for _, before := range []string{"", "a", "\xff\xff", strings.Repeat("\x00", 50)} {
			if b := wire.Number([]byte(before), n); string(b) != before+want {
				t.Errorf("Number(%x, %d) = %x", before, n, b)
			}
			for _, behind := range []string{"", "\x00", "\xff\x80"} {
				wantNumber(t, before+want+behind, len(before), n, len(before+want))
			}
		}
	}
}

func TestP21OnlyTheShortestFormIsRead(t *testing.T) {
	for _, n := range edges() {
		for more := len(shortest(n)); more <= 8; more++ {
			wantNoNumber(t, form(n, more), 0)
			wantNoNumber(t, "a"+form(n, more)+"\x00\x00", 1)
		}
	}
}

func TestP21NumbersThatEndTooEarly(t *testing.T) {
	for _, n := range edges() {
		whole := shortest(n)
		for k := range len(whole) {
			wantNoNumber(t, whole[:k], 0)
			wantNoNumber(t, "ab"+whole[:k], 2)
		}
	}
	for first := 0x80; first <= 0xff; first++ {
		wantNoNumber(t, string(oneByte(byte(first))), 0)
	}
}

func TestP21PositionsOfNumbers(t *testing.T) {
	for _, b := range []string{"", "\x00", "\x01\x02\x03"} {
		wantNoNumber(t, b, len(b))
		for _, at := range outside(len(b)) {
			wantNoNumber(t, b, at)
		}
		for at := range len(b) {
			wantNumber(t, b, at, uint64(b[at]), at+1)
		}
	}
	wantNoNumber(t, "", 0)
	if n, k, e := wire.TakeNumber(nil, 0); n != 0 || k != 0 || e != api.ErrWire {
		t.Error(n, k, e)
	}
}

func TestP21Texts(t *testing.T) {
	for _, n := range []int{0, 1, 2, 127, 128, 300, 1<<14 - 1, 1 << 14, 1 << 21} {
		s := strings.Repeat("\xff", n)
		code := shortest(uint64(n)) + s
		for _, before := range []string{"", "\x80x"} {
			if b := wire.Text([]byte(before), s); string(b) != before+code {
				t.Errorf("Text of %d bytes behind %x: %d bytes", n, before, len(b))
			}
			for _, most := range []int{n, n + 1, math.MaxInt} {
				wantText(t, before+code, len(before), most, s, len(before+code))
				wantText(t, before+code+"\x00b", len(before), most, s, len(before+code))
			}
			wantNoText(t, before+code, len(before), n-1)
			wantNoText(t, before+code, len(before), -1)
			wantNoText(t, before+code, len(before), math.MinInt)
			if n > 0 {
				wantNoText(t, before+code[:len(code)-1], len(before), n)
				wantNoText(t, before+code, len(before), 0)
			}
		}
	}
	if b := wire.Text(nil, "ab"); string(b) != "\x02ab" {
		t.Errorf("%x", b)
	}
	all := make([]byte, 256)
	for i := range all {
		all[i] = byte(i)
	}
	wantText(t, string(wire.Text(nil, string(all))), 0, 256, string(all), 258)
}

func TestP21TextsThatCannotBeRead(t *testing.T) {
	wantNoText(t, "", 0, 9)
	wantNoText(t, "\x01", 0, 9)
	wantNoText(t, "\x03ab", 0, 9)
	wantNoText(t, "\x80", 0, 9)
	wantNoText(t, "\x80\x00", 0, 9)
	wantNoText(t, "\x80\x02ab", 0, 9)
	wantNoText(t, "\xc0\x00\x02ab", 0, 9)
	for _, n := range edges() {
		if n > 2 {
			wantNoText(t, shortest(n)+"ab", 0, math.MaxInt)
		}
	}
	b := "\x01a\x00"
	wantText(t, b, 0, 1, "a", 2)
	wantText(t, b, 2, 0, "", 3)
	wantNoText(t, b, 3, 5)
	for _, at := range outside(len(b)) {
		wantNoText(t, b, at, 5)
	}
}

func TestP21NewMemory(t *testing.T) {
	for _, put := range []func([]byte) []byte{
		func(b []byte) []byte { return wire.Number(b, 300) },
		func(b []byte) []byte { return wire.Number(b, math.MaxUint64) },
		func(b []byte) []byte { return wire.Text(b, "") },
		func(b []byte) []byte { return wire.Text(b, "milk") },
	} {
		whole := []byte("abcdefghijklmnopqrst")
		first := put(whole[:2])
		second := put(whole[:2])
		if string(whole) != "abcdefghijklmnopqrst" {
			t.Errorf("the argument became %q", whole)
		}
		kept := string(second)
		for i := range first[:cap(first)] {
			first[:cap(first)][i] ^= 0xff
		}
		if string(whole) != "abcdefghijklmnopqrst" || string(second) != kept {
			t.Errorf("shared memory: %q, %q", whole, second)
		}
	}
	b := []byte("\x02ab")
	s, _, _ := wire.TakeText(b, 0, 2)
	b[1] = 'x'
	if s != "ab" {
		t.Errorf("the text became %q", s)
	}
}

func TestP22Sum(t *testing.T) {
	for s, want := range map[string]uint32{"": 0, "123456789": 0xCBF43926, "a": 0xE8B7BE43, "\x00": 0xD202EF8D, "\xff\xff\xff\xff": 0xFFFFFFFF} {
		if n := wire.Sum([]byte(s)); n != want {
			t.Errorf("Sum(%q) = %X, want %X", s, n, want)
		}
	}
	if n := wire.Sum(nil); n != 0 {
		t.Errorf("Sum(nil) = %X", n)
	}
	x := uint32(1)
	var b []byte
	for i := range 3000 {
		if n := wire.Sum(b); n != crc32.ChecksumIEEE(b) {
			t.Fatalf("Sum of %d bytes = %X, want %X", i, n, crc32.ChecksumIEEE(b))
		}
		x = x*1664525 + 1013904223
		b = append(b, byte(x>>24))
	}
	kept := bytes.Clone(b)
	wire.Sum(b)
	if !bytes.Equal(b, kept) {
		t.Error("the argument was changed")
	}
}

func TestP22SumOfEachByte(t *testing.T) {
	for i := range 256 {
		for j := range 256 {
			b := []byte{byte(i), byte(j)}
			if n := wire.Sum(b[:1]); n != crc32.ChecksumIEEE(b[:1]) {
				t.Fatalf("Sum(%x) = %X", b[:1], n)
			}
			if n := wire.Sum(b); n != crc32.ChecksumIEEE(b) {
				t.Fatalf("Sum(%x) = %X", b, n)
			}
		}
	}
}

func TestP23Seal(t *testing.T) {
	if s := wire.Seal(7, "ab"); len(s) != 8 || s[:4] != "\x07\x02ab" {
		t.Errorf("%x", s)
	}
	for _, n := range []int{0, 1, 127, 128, 1<<14 - 1, 1 << 14, 1 << 21} {
		body := strings.Repeat("\xe9", n)
		for _, kind := range []byte{0, 1, 127, 128, 255} {
			s := wire.Seal(kind, body)
			if s != sealed(kind, body) {
				t.Errorf("Seal(%d, a body of %d bytes) = %.40x", kind, n, s)
			}
			for _, most := range []int{n, n + 1, math.MaxInt} {
				wantOpen(t, s, 0, most, kind, body, len(s))
				wantOpen(t, "ab"+s+"\x00", 2, most, kind, body, 2+len(s))
			}
			wantClosed(t, s, 0, n-1, api.ErrWire)
			wantClosed(t, s, 0, -1, api.ErrWire)
			wantClosed(t, s, 0, math.MinInt, api.ErrWire)
		}
	}
}

func TestP23RecordsInARow(t *testing.T) {
	bodies := []string{"", "a", strings.Repeat("b", 200), "\x00\xff", ""}
	all := ""
	for i, b := range bodies {
		all += wire.Seal(byte(i), b)
	}
	at := 0
	for i, b := range bodies {
		kind, body, end, e := wire.Open(all, at, 200)
		if kind != byte(i) || body != b || e != api.OK {
			t.Errorf("record %d: %d, %.20q, %d", i, kind, body, e)
		}
		at = end
	}
	if at != len(all) {
		t.Errorf("the records end at %d of %d", at, len(all))
	}
	wantClosed(t, all, at, 200, api.ErrWire)
}

func TestP23RecordsThatEndTooEarly(t *testing.T) {
	for _, body := range []string{"", "ab", strings.Repeat("c", 130)} {
		s := wire.Seal(9, body)
		for k := range len(s) {
			wantClosed(t, s[:k], 0, 130, api.ErrWire)
			wantClosed(t, "xy"+s[:k], 2, 130, api.ErrWire)
		}
	}
}

func TestP23Positions(t *testing.T) {
	for _, s := range []string{"", "\x07", wire.Seal(7, "ab")} {
		wantClosed(t, s, len(s), 99, api.ErrWire)
		for _, at := range outside(len(s)) {
			wantClosed(t, s, at, 99, api.ErrWire)
		}
	}
}

func TestP23LengthsThatCannotBe(t *testing.T) {
	for _, head := range []string{"\x07\x80\x02ab", "\x07\xc0\x00\x02ab", "\x07\xff\x00\x00\x00\x00\x00\x00\x00\x02ab"} {
		wantClosed(t, withSum(head), 0, 99, api.ErrWire)
	}
	for _, n := range edges() {
		if n > 6 {
			wantClosed(t, withSum("\x07"+shortest(n)+"ab"), 0, math.MaxInt, api.ErrWire)
		}
	}
}

func TestP23Checksum(t *testing.T) {
	s := wire.Seal(7, "ab")
	for i := len(s) - 4; i < len(s); i++ {
		for x := 1; x < 256; x++ {
			b := []byte(s)
			b[i] ^= byte(x)
			wantClosed(t, string(b), 0, 2, api.ErrSeal)
			// What cannot be read is named ahead of what is not sealed.
			wantClosed(t, string(b), 0, 1, api.ErrWire)
			wantClosed(t, string(b[:len(b)-1]), 0, 2, api.ErrWire)
		}
	}
	wantClosed(t, "\x06"+s[1:], 0, 2, api.ErrSeal)
	wantClosed(t, s[:2]+"ac"+s[4:], 0, 2, api.ErrSeal)
	turned := []byte(s)
	turned[4], turned[5], turned[6], turned[7] = s[7], s[6], s[5], s[4]
	wantClosed(t, string(turned), 0, 2, api.ErrSeal)
}

func TestP24NoOtherBytesAreANumber(t *testing.T) {
	for i := range 1 << 24 {
		b := []byte{byte(i >> 16), byte(i >> 8), byte(i)}
		n, end, e := wire.TakeNumber(b, 0)
		if e == api.OK && string(b[:end]) != shortest(n) {
			t.Fatalf("%x is read as %d", b[:end], n)
		}
		if e != api.OK && (n != 0 || end != 0 || e != api.ErrWire || b[0] < 0x80) {
			t.Fatalf("%x: %d, %d, %d", b, n, end, e)
		}
	}
}

func TestP24NoOtherBytesAreAText(t *testing.T) {
	for i := range 1 << 16 {
		b := []byte{byte(i >> 8), byte(i), 'x', 'y'}
		s, end, e := wire.TakeText(b, 0, 4)
		if e == api.OK && string(wire.Text(nil, s)) != string(b[:end]) {
			t.Fatalf("%x is read as %q", b, s)
		}
		if ok := b[0] <= 3; ok != (e == api.OK) {
			t.Fatalf("%x: %q, %d, %d", b, s, end, e)
		}
	}
}

func TestP24WhatWasLaidIsReadAgain(t *testing.T) {
	var b []byte
	for _, n := range edges() {
		b = wire.Number(b, n)
		b = wire.Text(b, strings.Repeat("t", int(n%150)))
	}
	at := 0
	for _, n := range edges() {
		m, mid, e := wire.TakeNumber(b, at)
		if m != n || e != api.OK {
			t.Fatal(n, m, e)
		}
		s, end, e := wire.TakeText(b, mid, 149)
		if s != strings.Repeat("t", int(n%150)) || e != api.OK {
			t.Fatal(n, s, e)
		}
		at = end
	}
	if at != len(b) {
		t.Errorf("%d of %d bytes are read", at, len(b))
	}
}

func TestP24AChangedByteIsNotTheSameRecord(t *testing.T) {
	for _, body := range []string{"", "a", "\x00\x00\x00\x00", "milk and bread", strings.Repeat("d", 140)} {
		s := wire.Seal(7, body)
		for i := range len(s) {
			for x := 1; x < 256; x++ {
				b := []byte(s)
				b[i] ^= byte(x)
				for _, more := range []string{"", strings.Repeat("\x00", 300)} {
					kind, got, _, e := wire.Open(string(b)+more, 0, math.MaxInt)
					if e == api.OK && kind == 7 && got == body {
						t.Fatalf("%x is opened like %x", b, s)
					}
				}
			}
		}
	}
}
