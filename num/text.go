package num

import "bucketline/api"

const fixedBytes = 4

// PutText are the bytes of a text, with their number ahead of them.
func PutText(s string) string {
	return Put(len(s)) + s
}

func TakeText(s string, most int) (string, string, api.Errno) {
	length, rest, err := Take(s)
	switch {
	case err != api.OK:
		return "", "", err
	case length > most:
		return "", "", api.ErrLong
	case length > len(rest):
		return "", "", api.ErrShort
	}
	return rest[:length], rest[length:], api.OK
}

// Fixed are four bytes, whatever the number.
func Fixed(n uint32) string {
	return string([]byte{byte(n >> 24), byte(n >> 16), byte(n >> 8), byte(n)})
}

func TakeFixed(s string) (uint32, string, api.Errno) {
	if len(s) < fixedBytes {
		return 0, "", api.ErrShort
	}
	n := uint32(0)
	for i := range fixedBytes {
		n = n<<8 | uint32(s[i])
	}
	return n, s[fixedBytes:], api.OK
}
