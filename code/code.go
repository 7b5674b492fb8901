// Package code: texts and bytes: see DOC.md.
package code

import (
	"strings"

	"signet/api"
	"signet/json"
)

const sixes = "ABCDEFGHIJKLMNOPQRSTUVWXYZabcdefghijklmnopqrstuvwxyz0123456789-_"

// Encode is the base64 of bytes (P3).
func Encode(b string) string {
	var out strings.Builder
	held, count := 0, 0 // bits that are not written yet, and how many
	for i := range len(b) {
		held, count = held<<8|int(b[i]), count+8
		for count >= 6 {
			count -= 6
			out.WriteByte(sixes[held>>count])
			held &= 1<<count - 1
		}
	}
	if count > 0 {
		out.WriteByte(sixes[held<<(6-count)])
	}
	return out.String()
}

// Decode is the bytes of a base64 (P3).
func Decode(s string) (string, api.Errno) {
	var out strings.Builder
	held, count := 0, 0
	for i := range len(s) {
		six := strings.IndexByte(sixes, s[i])
		if six < 0 {
			return "", api.ErrForm
		}
		held, count = held<<6|six, count+6
		if count >= 8 {
			count -= 8
			out.WriteByte(byte(held >> count))
			held &= 1<<count - 1
		}
	}
	// A whole six left over began no byte; bits left over were filled up with noughts.
	if count == 6 || held != 0 {
		return "", api.ErrForm
	}
	return out.String(), api.OK
}

// Form is the one form of JSON (P4).
func Form(s string) (string, api.Errno) {
	v, e := json.Read(s)
	if e != api.OK {
		return "", e
	}
	return v.Form(), api.OK
}
