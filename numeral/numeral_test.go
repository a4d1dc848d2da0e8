package numeral

import (
	"math"
	"strconv"
	"strings"
	"testing"
)

func TestNumbersWithinTheBounds(t *testing.T) {
	for number := -5; number <= 1200; number++ {
		got, told := Read(strconv.Itoa(number), 0, 1000)
		if want := 0 <= number && number <= 1000; told != want || told && got != number || !told && got != 0 {
			t.Errorf("Read(%d, 0, 1000) = %d, %v", number, got, told)
		}
	}
	if got, told := Read(strconv.Itoa(math.MaxInt), 1, math.MaxInt); got != math.MaxInt || !told {
		t.Errorf("Read of the greatest number = %d, %v", got, told)
	}
}

func TestTextsThatAreNoNumbers(t *testing.T) {
	for _, text := range []string{
		"", " ", "+", "-", "00", "01", "007", "+1", "-0", "+0", " 1", "1 ", "1\n", "1.0", "1e1", "0x1", "1_0", "a", "1a", "a1", "\x00", "١", "1,0",
		"9223372036854775808", "18446744073709551617", strings.Repeat("9", 3000000), strings.Repeat("0", 3000000),
	} {
		if got, told := Read(text, math.MinInt, math.MaxInt); got != 0 || told {
			t.Errorf("Read(%.50q) = %d, %v, want none", text, got, told)
		}
	}
}
