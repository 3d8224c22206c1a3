package rules

import (
	"strconv"
	"strings"

	"vault/api"
)

// In dateForm a 0 stands for any digit and a ? for a letter of a name; all else stands for itself.
const dateForm = "???, 00 ??? 0000 00:00:00 GMT"

// The days of the week begin with that of the first day of 1970, so that a day's place is its number modulo 7.
const (
	weekDays   = "ThuFriSatSunMonTueWed"
	months     = "JanFebMarAprMayJunJulAugSepOctNovDec"
	nameLength = 3
)

const (
	firstYear     = 1970
	minuteSeconds = 60
	hourSeconds   = 60 * minuteSeconds
	daySeconds    = 24 * hourSeconds
)

// Date reads a date (P3).
func Date(text string) (int, bool) {
	if !fitsForm(text) {
		return 0, false
	}
	day, ok := readDay(text[5:7], text[8:11], text[12:16])
	if !ok || text[:3] != nameAt(weekDays, day%7) {
		return 0, false
	}
	second, ok := readClock(text[17:19], text[20:22], text[23:25])
	if !ok {
		return 0, false
	}
	return day*daySeconds + second, true
}

func fitsForm(text string) bool {
	if len(text) != len(dateForm) {
		return false
	}
	for i := range len(text) {
		if !fitsByte(text[i], dateForm[i]) {
			return false
		}
	}
	return true
}

func fitsByte(c, form byte) bool {
	switch form {
	case '?':
		return true
	case '0':
		return c >= '0' && c <= '9'
	}
	return c == form
}

// readDay tells how many days lie between the beginning of 1970 and a day; false if there is no such day.
func readDay(dayText, monthText, yearText string) (int, bool) {
	year, day := readNumber(yearText), readNumber(dayText)
	month, ok := placeOf(months, monthText)
	if !ok || year < firstYear || day < 1 || day > monthDays(year, month) {
		return 0, false
	}
	days := daysAhead(year) + day - 1
	for m := range month {
		days += monthDays(year, m)
	}
	return days, true
}

// readClock tells how many seconds of a day have gone by; false if no day has such a time.
func readClock(hourText, minuteText, secondText string) (int, bool) {
	hour, minute, second := readNumber(hourText), readNumber(minuteText), readNumber(secondText)
	if hour > 23 || minute > 59 || second > 59 {
		return 0, false
	}
	return hour*hourSeconds + minute*minuteSeconds + second, true
}

func readNumber(digits string) int {
	n := 0
	for i := range len(digits) {
		n = n*10 + int(digits[i]-'0')
	}
	return n
}

// Stamp writes a date (P3).
func Stamp(sec int) string {
	if sec < 0 || sec > api.MaxClock {
		return ""
	}
	days, second := sec/daySeconds, sec%daySeconds
	year, month, day := splitDays(days)
	return nameAt(weekDays, days%7) + ", " +
		padded(day, 2) + " " + nameAt(months, month) + " " + padded(year, 4) + " " +
		padded(second/hourSeconds, 2) + ":" +
		padded(second%hourSeconds/minuteSeconds, 2) + ":" +
		padded(second%minuteSeconds, 2) + " GMT"
}

// splitDays tells the year, the month (from 0) and the day (from 1) that begins so many days after 1970 does.
func splitDays(days int) (year, month, day int) {
	// No year has more than 366 days, so this guess is never too late, and few years too early.
	year = firstYear + days/366
	for daysAhead(year+1) <= days {
		year++
	}
	left := days - daysAhead(year)
	for left >= monthDays(year, month) {
		left -= monthDays(year, month)
		month++
	}
	return year, month, left + 1
}

func padded(n, width int) string {
	digits := strconv.Itoa(n)
	return strings.Repeat("0", max(width-len(digits), 0)) + digits
}

// daysAhead tells how many days lie between the beginning of 1970 and that of a year.
func daysAhead(year int) int {
	return 365*(year-firstYear) + leapYearsAhead(year) - leapYearsAhead(firstYear)
}

func leapYearsAhead(year int) int {
	last := year - 1
	return last/4 - last/100 + last/400
}

func isLeapYear(year int) bool {
	return year%4 == 0 && year%100 != 0 || year%400 == 0
}

// monthDays tells how many days a month (from 0) has.
func monthDays(year, month int) int {
	switch month {
	case 1:
		if isLeapYear(year) {
			return 29
		}
		return 28
	case 3, 5, 8, 10:
		return 30
	}
	return 31
}

func nameAt(names string, place int) string {
	return names[place*nameLength : (place+1)*nameLength]
}

// placeOf looks at whole names only: what straddles two of them is none.
func placeOf(names, name string) (int, bool) {
	for place := range len(names) / nameLength {
		if nameAt(names, place) == name {
			return place, true
		}
	}
	return 0, false
}
