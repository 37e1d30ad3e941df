package wire_test

import (
	"hash/crc32"
	"testing"

	"quill/wire"
)

func TestP7CrcOfTheDocument(t *testing.T) {
	if got := wire.Crc([]byte("123456789")); got != 0xcbf43926 {
		t.Errorf("crc = %x, want cbf43926", got)
	}
}

func TestP7CrcIsThatOfIEEE(t *testing.T) {
	var b []byte
	for i := range 600 {
		if got, want := wire.Crc(b), crc32.ChecksumIEEE(b); got != want {
			t.Fatalf("crc of %d bytes = %x, want %x", len(b), got, want)
		}
		b = append(b, byte(i*7+i>>8))
	}
}

func TestP7NumbersHaveTheGreatestByteFirst(t *testing.T) {
	if got := string(wire.Append([]byte("x"), 0x01020304)); got != "x\x01\x02\x03\x04" {
		t.Errorf("Append = %q", got)
	}
	for _, n := range []uint32{0, 1, 255, 256, 1 << 31, 1<<32 - 1} {
		if got := wire.Number(wire.Append(nil, n)); got != n {
			t.Errorf("Number = %d, want %d", got, n)
		}
	}
}

func TestP12SealsAreAsked(t *testing.T) {
	sealed := wire.Seal([]byte("abc"))
	if body, ok := wire.Unseal(sealed); !ok || string(body) != "abc" {
		t.Errorf("Unseal = %q, %v", body, ok)
	}
	if body, ok := wire.Unseal(wire.Seal(nil)); !ok || len(body) != 0 {
		t.Errorf("Unseal of nothing = %q, %v", body, ok)
	}
	for i := range sealed {
		wrong := append([]byte(nil), sealed...)
		wrong[i] ^= 1
		if _, ok := wire.Unseal(wrong); ok {
			t.Errorf("byte %d is wrong, and the seal is right", i)
		}
		if _, ok := wire.Unseal(sealed[:i]); ok {
			t.Errorf("%d bytes are there, and the seal is right", i)
		}
	}
}
