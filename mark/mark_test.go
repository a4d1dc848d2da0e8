package mark

import (
	"crypto/hmac"
	"crypto/sha256"
	"encoding/hex"
	"hash/crc32"
	"math/rand"
	"testing"
)

func randomText(r *rand.Rand, length int) string {
	b := make([]byte, length)
	r.Read(b)
	return string(b)
}

func libraryTag(key string, text string) [Size]byte {
	m := hmac.New(sha256.New, []byte(key))
	m.Write([]byte(text))
	return [Size]byte(m.Sum(nil))
}

// Every length up to four blocks: all places at which the padding may begin or spill over.
func TestHashAtEveryLength(t *testing.T) {
	r := rand.New(rand.NewSource(3))
	for length := range 4*blockSize + 2 {
		text := randomText(r, length)
		if got, want := Hash(text), sha256.Sum256([]byte(text)); got != want {
			t.Errorf("Hash of %d bytes = %x, want %x", length, got, want)
		}
	}
}

func TestTagAtEveryLengthOfKeyAndText(t *testing.T) {
	r := rand.New(rand.NewSource(4))
	for keyLength := range 2*blockSize + 2 {
		for _, length := range []int{0, 1, 55, 56, 63, 64, 65, 119, 120, 128} {
			key, text := randomText(r, keyLength), randomText(r, length)
			if got, want := Tag(key, text), libraryTag(key, text); got != want {
				t.Errorf("Tag of %d bytes under %d = %x, want %x", length, keyLength, got, want)
			}
		}
	}
}

func TestCheckAtEveryByteAndLength(t *testing.T) {
	r := rand.New(rand.NewSource(5))
	for i := range 256 {
		for _, text := range []string{string([]byte{byte(i)}), randomText(r, i)} {
			if got, want := Check(text), crc32.ChecksumIEEE([]byte(text)); got != want {
				t.Errorf("Check(%q) = %d, want %d", text, got, want)
			}
		}
	}
}

func TestDigitsOfEveryByte(t *testing.T) {
	for i := range 256 {
		var sum [Size]byte
		for place := range sum {
			sum[place] = byte(i + place)
		}
		if got, want := Digits(sum), hex.EncodeToString(sum[:]); got != want {
			t.Errorf("Digits(%v) = %s, want %s", sum, got, want)
		}
	}
}
