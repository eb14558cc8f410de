package crc_test

import (
	"bytes"
	"hash/crc32"
	"math"
	"math/rand/v2"
	"testing"

	"regauge/api"
	"regauge/crc"
)

// known are sums that stand in the chapter, in RFC 3720, or follow from a rest reckoned by hand.
var known = []struct {
	b   []byte
	sum uint32
}{
	{nil, 0},
	{[]byte{}, 0},
	{[]byte("a"), 0xc1d04330},
	{[]byte("123456789"), 0xe3069283},
	{make([]byte, 32), 0x8a9136aa},
	{bytes.Repeat([]byte{0xff}, 32), 0x62a8ab43},
	{rising(32), 0x46dd794e},
	{falling(32), 0x113fdb5c},
}

func rising(n int) []byte {
	b := make([]byte, n)
	for i := range b {
		b[i] = byte(i)
	}
	return b
}

func falling(n int) []byte {
	b := rising(n)
	for i := range b {
		b[i] = byte(n - 1 - i)
	}
	return b
}

// reckon goes bit by bit, as the chapter says it.
func reckon(b []byte) uint32 {
	c := uint32(math.MaxUint32)
	for _, x := range b {
		c ^= uint32(x)
		for range 8 {
			out := c & 1
			c >>= 1
			if out == 1 {
				c ^= 0x82f63b78
			}
		}
	}
	return ^c
}

// some is n bytes, the same ones for the same seed.
func some(seed uint64, n int) []byte {
	r := rand.New(rand.NewPCG(seed, 2))
	b := make([]byte, n)
	for i := range b {
		b[i] = byte(r.Uint32())
	}
	return b
}

func TestP21KnownSums(t *testing.T) {
	for _, k := range known {
		if n := crc.Of(k.b); n != k.sum {
			t.Errorf("Of(%x) is %x, want %x", k.b, n, k.sum)
		}
		if n := crc.Update(0, k.b); n != k.sum {
			t.Errorf("Update(0, %x) is %x, want %x", k.b, n, k.sum)
		}
	}
}

func TestP21EachByte(t *testing.T) {
	for x := range 256 {
		b := []byte{byte(x)}
		if n := crc.Of(b); n != reckon(b) {
			t.Errorf("Of(%x) is %x, want %x", b, n, reckon(b))
		}
	}
}

func TestP21AsReckoned(t *testing.T) {
	castagnoli := crc32.MakeTable(crc32.Castagnoli)
	for n := range 600 {
		b := some(uint64(n), n)
		got := crc.Of(b)
		if got != reckon(b) || got != crc32.Checksum(b, castagnoli) {
			t.Fatalf("%d bytes: %x, want %x", n, got, reckon(b))
		}
	}
}

func TestP21GivenStays(t *testing.T) {
	b := some(1, 100)
	was := bytes.Clone(b)
	first := crc.Of(b)
	crc.Update(7, b)
	if !bytes.Equal(b, was) {
		t.Error("the bytes are other ones")
	}
	if crc.Of(b) != first {
		t.Error("the same bytes tell another sum")
	}
}

func TestP21UpdateOfNothing(t *testing.T) {
	for _, sum := range []uint32{0, 1, 0xe3069283, math.MaxInt32, math.MaxUint32} {
		if n := crc.Update(sum, nil); n != sum {
			t.Errorf("Update(%x, nil) is %x", sum, n)
		}
		if n := crc.Update(sum, []byte{}); n != sum {
			t.Errorf("Update(%x, {}) is %x", sum, n)
		}
	}
}

func TestP21UpdateOfAnySum(t *testing.T) {
	castagnoli := crc32.MakeTable(crc32.Castagnoli)
	for i, sum := range []uint32{0, 1, 0x80000000, 0xe3069283, math.MaxUint32} {
		b := some(uint64(i), 40)
		if n, want := crc.Update(sum, b), crc32.Update(sum, castagnoli, b); n != want {
			t.Errorf("Update(%x, ..) is %x, want %x", sum, n, want)
		}
	}
}

func TestP22SealKnown(t *testing.T) {
	for _, k := range []struct {
		b    string
		at   int
		want string
	}{
		{"12345....6789", 5, "12345\x83\x92\x06\xe36789"},
		{"....123456789", 0, "\x83\x92\x06\xe3123456789"},
		{"123456789....", 9, "123456789\x83\x92\x06\xe3"},
		{"abcd", 0, "\x00\x00\x00\x00"},
		{"a....", 1, "a\x30\x43\xd0\xc1"},
		{"....a", 0, "\x30\x43\xd0\xc1a"},
	} {
		if s := crc.Seal([]byte(k.b), k.at); string(s) != k.want {
			t.Errorf("Seal(%q, %d) is %q, want %q", k.b, k.at, s, k.want)
		}
		if !crc.Sealed([]byte(k.want), k.at) {
			t.Errorf("%q is not sealed at %d", k.want, k.at)
		}
	}
}

func TestP22SealEachPlace(t *testing.T) {
	b := some(3, 40)
	for at := range len(b) - 3 {
		others := append(bytes.Clone(b[:at]), b[at+4:]...)
		sum := reckon(others)
		want := bytes.Clone(b)
		for i := range 4 {
			want[at+i] = byte(sum >> (8 * i))
		}
		s := crc.Seal(b, at)
		if !bytes.Equal(s, want) {
			t.Errorf("at %d: %x, want %x", at, s, want)
		}
		if !crc.Sealed(s, at) {
			t.Errorf("at %d: not sealed", at)
		}
		if crc.Sealed(b, at) {
			t.Errorf("at %d: bytes that were not sealed are", at)
		}
	}
}

func TestP22NoRoom(t *testing.T) {
	for _, n := range []int{0, 1, 2, 3, 4, 5, 256} {
		b := some(uint64(n), n)
		for _, at := range []int{math.MinInt, math.MinInt + 3, -4, -1, n - 3, n - 1, n, n + 1, math.MaxInt - 3, math.MaxInt} {
			s := crc.Seal(b, at)
			if !bytes.Equal(s, b) {
				t.Errorf("Seal of %d bytes at %d is other bytes", n, at)
			}
			if crc.Sealed(b, at) {
				t.Errorf("%d bytes are sealed at %d", n, at)
			}
		}
	}
	if len(crc.Seal(nil, 0)) != 0 || crc.Sealed(nil, 0) {
		t.Error("nil is sealed at 0")
	}
}

// Four noughts are sealed if the sum is nought, which it is of no bytes; but there have to be four.
func TestP22Noughts(t *testing.T) {
	for n := range 9 {
		if got, want := crc.Sealed(make([]byte, n), 0), n == 4; got != want {
			t.Errorf("%d noughts: %v", n, got)
		}
	}
}

func TestP22SealIsNew(t *testing.T) {
	whole := some(5, 64)
	was := bytes.Clone(whole)
	b := whole[:32]
	for _, at := range []int{-1, 0, 7, 28, 29, 40} {
		s := crc.Seal(b, at)
		if len(s) != len(b) {
			t.Fatalf("at %d: %d bytes", at, len(s))
		}
		for i := range s {
			s[i]++
		}
		_ = append(s, 1, 2, 3)
		if !bytes.Equal(whole, was) {
			t.Fatalf("at %d: what was given is changed", at)
		}
		again := crc.Seal(b, at)
		keep := bytes.Clone(again)
		for i := range b {
			b[i]++
		}
		if !bytes.Equal(again, keep) {
			t.Fatalf("at %d: what was told hangs on what was given", at)
		}
		copy(whole, was)
	}
}

// What stands in the sum's own place is of no account.
func TestP22SealAgain(t *testing.T) {
	b := some(6, api.Page)
	for _, at := range []int{0, 4, 252} {
		s := crc.Seal(b, at)
		if !bytes.Equal(crc.Seal(s, at), s) {
			t.Errorf("at %d: sealed again it is other bytes", at)
		}
		other := bytes.Clone(b)
		copy(other[at:], []byte{1, 2, 3, 4})
		if !bytes.Equal(crc.Seal(other, at), s) {
			t.Errorf("at %d: the sum hangs on its own place", at)
		}
	}
}

func TestP23Parts(t *testing.T) {
	for n := range 80 {
		b := some(uint64(n)+100, n)
		for k := range n + 1 {
			if got, want := crc.Update(crc.Of(b[:k]), b[k:]), crc.Of(b); got != want {
				t.Fatalf("%d and %d bytes: %x, want %x", k, n-k, got, want)
			}
		}
	}
}

func TestP23ManyParts(t *testing.T) {
	b := some(7, 1000)
	for step := 1; step < 60; step += 7 {
		sum := crc.Of(nil)
		for at := 0; at < len(b); at += step {
			sum = crc.Update(sum, b[at:min(at+step, len(b))])
		}
		if sum != crc.Of(b) {
			t.Errorf("parts of %d: %x, want %x", step, sum, crc.Of(b))
		}
	}
}

func TestP23OneBit(t *testing.T) {
	for _, n := range []int{4, 5, 20, api.Page} {
		for _, at := range []int{0, (n - 4) / 2, n - 4} {
			s := crc.Seal(some(uint64(n), n), at)
			if !crc.Sealed(s, at) {
				t.Errorf("%d bytes, at %d: not sealed", n, at)
			}
			for k := range 8 * n {
				s[k/8] ^= 1 << (k % 8)
				if crc.Sealed(s, at) {
					t.Errorf("%d bytes, at %d: sealed with bit %d turned", n, at, k)
				}
				s[k/8] ^= 1 << (k % 8)
			}
		}
	}
}

func TestP23OtherPlace(t *testing.T) {
	s := crc.Seal(some(8, 64), 20)
	for at := range 61 {
		if got := crc.Sealed(s, at); got != (at == 20) {
			t.Errorf("sealed at 20, asked at %d: %v", at, got)
		}
	}
}

func TestP23TornPage(t *testing.T) {
	old, fresh := crc.Seal(some(9, api.Page), 4), crc.Seal(some(10, api.Page), 4)
	for keep := range 16 {
		b := bytes.Clone(old)
		for i := range 4 {
			if keep>>i&1 == 1 {
				copy(b[i*api.Sector:], fresh[i*api.Sector:(i+1)*api.Sector])
			}
		}
		if got, want := crc.Sealed(b, 4), keep == 0 || keep == 15; got != want {
			t.Errorf("sectors %04b of the new page: %v", keep, got)
		}
	}
}
