package rules

import (
	"fmt"
	"strings"
	"testing"
	"time"

	"vault/api"
)

const layout = "Mon, 02 Jan 2006 15:04:05 GMT"

// wantDate reads a date by the library, which lets more pass than P3 does: what it read must be written the same way.
func wantDate(text string) (int, bool) {
	at, err := time.Parse(layout, text)
	if err != nil || at.Format(layout) != text || at.Year() < 1970 {
		return 0, false
	}
	return int(at.Unix()), true
}

func checkDate(t *testing.T, text string, want int, wantOK bool) {
	t.Helper()
	if sec, ok := Date(text); sec != want || ok != wantOK {
		t.Errorf("P3: Date(%q) = %d, %v, want %d, %v", text, sec, ok, want, wantOK)
	}
}

func TestDateAndStampOfKnownTimes(t *testing.T) {
	for _, c := range []struct {
		sec  int
		text string
	}{
		{784111777, "Sun, 06 Nov 1994 08:49:37 GMT"},
		{0, "Thu, 01 Jan 1970 00:00:00 GMT"},
		{1, "Thu, 01 Jan 1970 00:00:01 GMT"},
		{59, "Thu, 01 Jan 1970 00:00:59 GMT"},
		{60, "Thu, 01 Jan 1970 00:01:00 GMT"},
		{3599, "Thu, 01 Jan 1970 00:59:59 GMT"},
		{3600, "Thu, 01 Jan 1970 01:00:00 GMT"},
		{86399, "Thu, 01 Jan 1970 23:59:59 GMT"},
		{86400, "Fri, 02 Jan 1970 00:00:00 GMT"},
		{68169599, "Mon, 28 Feb 1972 23:59:59 GMT"},
		{68169600, "Tue, 29 Feb 1972 00:00:00 GMT"},
		{951782400, "Tue, 29 Feb 2000 00:00:00 GMT"},
		{4107542399, "Sun, 28 Feb 2100 23:59:59 GMT"},
		{4107542400, "Mon, 01 Mar 2100 00:00:00 GMT"},
		{api.MaxClock - 1, "Fri, 31 Dec 9999 23:59:58 GMT"},
		{api.MaxClock, "Fri, 31 Dec 9999 23:59:59 GMT"},
	} {
		checkDate(t, c.text, c.sec, true)
		if text := Stamp(c.sec); text != c.text {
			t.Errorf("P3: Stamp(%d) = %q, want %q", c.sec, text, c.text)
		}
	}
}

func TestStampOfNoTime(t *testing.T) {
	for _, sec := range []int{-1, -2, -86400, api.MaxClock + 1, api.MaxClock + 86400, -1 << 63, 1<<63 - 1, -1 << 32, 1 << 62} {
		if text := Stamp(sec); text != "" {
			t.Errorf("P3: Stamp(%d) = %q, want nothing", sec, text)
		}
	}
}

// Every day from 1970 to 9999, each at another second.
func TestEveryDay(t *testing.T) {
	for day := range (api.MaxClock + 1) / 86400 {
		sec := day*86400 + day*7919%86400
		want := string(time.Unix(int64(sec), 0).UTC().AppendFormat(nil, layout))
		if text := Stamp(sec); text != want {
			t.Fatalf("P3: Stamp(%d) = %q, want %q", sec, text, want)
		}
		if back, ok := Date(want); back != sec || !ok {
			t.Fatalf("P3: Date(%q) = %d, %v, want %d", want, back, ok, sec)
		}
	}
}

// Every day that two digits can write, in leap years and others, with each day of the week.
func TestDaysThatAreNotThere(t *testing.T) {
	years := []int{0, 1, 1582, 1600, 1900, 1968, 1969, 1970, 1971, 1972, 1999, 2000, 2023, 2024, 2100, 2200, 2400, 9996, 9999}
	for _, year := range years {
		for _, month := range strings.Fields("Jan Feb Mar Apr May Jun Jul Aug Sep Oct Nov Dec") {
			for day := range 100 {
				for _, weekDay := range strings.Fields("Mon Tue Wed Thu Fri Sat Sun") {
					text := fmt.Sprintf("%s, %02d %s %04d 12:34:56 GMT", weekDay, day, month, year)
					want, wantOK := wantDate(text)
					checkDate(t, text, want, wantOK)
				}
			}
		}
	}
}

func TestHoursMinutesAndSeconds(t *testing.T) {
	for n := range 100 {
		text := fmt.Sprintf("Thu, 01 Jan 1970 %02d:00:00 GMT", n)
		checkDate(t, text, secondsIf(n < 24, n*3600), n < 24)
		text = fmt.Sprintf("Thu, 01 Jan 1970 00:%02d:00 GMT", n)
		checkDate(t, text, secondsIf(n < 60, n*60), n < 60)
		text = fmt.Sprintf("Thu, 01 Jan 1970 00:00:%02d GMT", n)
		checkDate(t, text, secondsIf(n < 60, n), n < 60)
	}
}

func secondsIf(ok bool, sec int) int {
	if ok {
		return sec
	}
	return 0
}

// Each byte of a date, as each byte that there is; and each byte left out or put in.
func TestDatesWithAnotherByte(t *testing.T) {
	for _, right := range []string{"Sun, 06 Nov 1994 08:49:37 GMT", "Tue, 29 Feb 2000 00:00:00 GMT", "Fri, 31 Dec 9999 23:59:59 GMT", "Thu, 01 Jan 1970 00:00:00 GMT"} {
		for i := range len(right) {
			for c := range 256 {
				text := right[:i] + string([]byte{byte(c)}) + right[i+1:]
				want, wantOK := wantDate(text)
				checkDate(t, text, want, wantOK)
				checkDate(t, right[:i]+string([]byte{byte(c)})+right[i:], 0, false)
			}
			checkDate(t, right[:i], 0, false)
			checkDate(t, right[i+1:], 0, false)
			checkDate(t, right[:i]+right[i+1:], 0, false)
		}
	}
}

func TestNoDates(t *testing.T) {
	for _, text := range []string{
		"", " ", "GMT", "Sun", "\x00", "\xff\xfe",
		"Mon, 06 Nov 1994 08:49:37 GMT",
		" Sun, 06 Nov 1994 08:49:37 GMT", "Sun, 06 Nov 1994 08:49:37 GMT ", "Sun, 06 Nov 1994 08:49:37 GMT\r\n",
		"Sun,\t06 Nov 1994 08:49:37 GMT", "Sun,  06 Nov 1994 08:49:37 GMT", "Sun,06 Nov 1994 08:49:37 GMT",
		"Sun, 06 Nov 94 08:49:37 GMT", "Sun, 06 Nov 01994 08:49:37 GMT", "Sun, 6 Nov 1994 08:49:37 GMT", "Sun,  6 Nov 1994 08:49:37 GMT",
		"Sun, -6 Nov 1994 08:49:37 GMT", "Sun, 06 Nov -994 08:49:37 GMT", "Sun, 06 Nov 1994 8:49:37 GMT", "Sun, 06 Nov 1994 +8:49:37 GMT",
		"Sunday, 06-Nov-94 08:49:37 GMT", "Sun Nov  6 08:49:37 1994", "1994-11-06T08:49:37Z", "784111777",
		"sun, 06 Nov 1994 08:49:37 GMT", "SUN, 06 Nov 1994 08:49:37 GMT", "Sun, 06 NOV 1994 08:49:37 GMT", "Sun, 06 Nov 1994 08:49:37 gmt",
		"Sun, 06 Nov 1994 08:49:37 UTC", "Sun, 06 Nov 1994 08:49:37", "Sun, 06 Nov 1994 08:49:37.5 GMT",
		"Sun, 06 ovD 1994 08:49:37 GMT", "unM, 06 Nov 1994 08:49:37 GMT", "Sun, 06 anF 1994 08:49:37 GMT",
		"Sat, 31 Dec 9999 23:59:59 GMT", "Sat, 01 Jan 10000 00:00:00 GMT", "Wed, 31 Dec 1969 23:59:59 GMT",
		"Sun, 06 Nov 1994 08:49:37 GMTSun, 06 Nov 1994 08:49:37 GMT", strings.Repeat("0", 29), strings.Repeat("?", 29),
		"???, 00 ??? 0000 00:00:00 GMT", "Sun, ٦ Nov 1994 08:49:37 GMT", "Sun, 06 Nov 1994 08：49:37 GM",
	} {
		checkDate(t, text, 0, false)
	}
}
