package larder_test

import (
	"crypto/hmac"
	"crypto/sha256"
	"encoding/hex"
	"hash/crc32"
	"strings"
	"testing"

	"larder/larder"
)

func TestP3HashOfKnownTexts(t *testing.T) {
	for _, c := range []struct{ text, want string }{
		{"", "e3b0c44298fc1c149afbf4c8996fb92427ae41e4649b934ca495991b7852b855"},
		{"abc", "ba7816bf8f01cfea414140de5dae2223b00361a396177a9cb410ff61f20015ad"},
		{"abcdbcdecdefdefgefghfghighijhijkijkljklmklmnlmnomnopnopq", "248d6a61d20638b8e5c026930c3e6039a33ce45964ff2167f6ecedd419db06c1"},
		{strings.Repeat("a", 1000000), "cdc76e5c9914fb9281a1c7e284d73e67f1809a48a497200e046d39ccc7112cd0"},
	} {
		if got := larder.Hash(c.text); got != c.want {
			t.Errorf("Hash(%.20q) = %s, want %s", c.text, got, c.want)
		}
	}
}

// The cases 1, 2, 3, 6 and 7 of RFC 4231.
func TestP3MacOfKnownTexts(t *testing.T) {
	for _, c := range []struct{ key, text, want string }{
		{strings.Repeat("\x0b", 20), "Hi There", "b0344c61d8db38535ca8afceaf0bf12b881dc200c9833da726e9376c2e32cff7"},
		{"Jefe", "what do ya want for nothing?", "5bdcc146bf60754e6a042426089575c75a003f089d2739839dec58b964ec3843"},
		{strings.Repeat("\xaa", 20), strings.Repeat("\xdd", 50), "773ea91e36800e46854db8ebd09181a72959098b3ef8c122d9635514ced565fe"},
		{strings.Repeat("\xaa", 131), "Test Using Larger Than Block-Size Key - Hash Key First", "60e431591ee0b67f0d8a26aacbf5b77f8e0bc6213728c5140546040f0ee37f54"},
		{strings.Repeat("\xaa", 131), "This is a test using a larger than block-size key and a larger than block-size data. The key needs to be hashed before being used by the HMAC algorithm.", "9b09ffa71b942fcb27635fbcd5b0e944bfdc63644f0713938a7f51535c3a35e2"},
		{"", "", "b613679a0814d9ec772f95d778c35fc5ff1697c493715653c6c712144292c5ad"},
	} {
		if got := larder.Mac(c.key, c.text); got != c.want {
			t.Errorf("Mac(%q, %.20q) = %s, want %s", c.key, c.text, got, c.want)
		}
	}
}

func TestP3CrcOfKnownTexts(t *testing.T) {
	for _, c := range []struct {
		text string
		want uint32
	}{{"", 0}, {"a", 3904355907}, {"123456789", 3421780262}, {"\x00", 3523407757}, {"\xff\xff\xff\xff", 4294967295}} {
		if got := larder.Crc(c.text); got != c.want {
			t.Errorf("Crc(%q) = %d, want %d", c.text, got, c.want)
		}
	}
}

// Texts are bytes: ones that are no UTF-8, and noughts, count like all others.
func TestP3MarksOfAnyBytes(t *testing.T) {
	for _, text := range []string{"é", "\xc3", "\xff\xfe\x80", "a\x00", "a\x00\x00", "\n", strings.Repeat("\x80", 64), strings.Repeat("\x00", 64)} {
		sum := sha256.Sum256([]byte(text))
		if got, want := larder.Hash(text), hex.EncodeToString(sum[:]); got != want {
			t.Errorf("Hash(%q) = %s, want %s", text, got, want)
		}
		m := hmac.New(sha256.New, []byte(text))
		m.Write([]byte(text))
		if got, want := larder.Mac(text, text), hex.EncodeToString(m.Sum(nil)); got != want {
			t.Errorf("Mac(%q, itself) = %s, want %s", text, got, want)
		}
		if got, want := larder.Crc(text), crc32.ChecksumIEEE([]byte(text)); got != want {
			t.Errorf("Crc(%q) = %d, want %d", text, got, want)
		}
	}
}
