package message_test

import (
	"reflect"

	"bucketline/api"
	"bucketline/event"
	"bucketline/message"
	"bucketline/num"
	"bucketline/record"
	"bucketline/text"
)

// The reference goes over the fields as they stand in the types, and knows of no kind but by its place here.
func kinds() []reflect.Type {
	return []reflect.Type{
		nil,
		reflect.TypeFor[message.Beat](), reflect.TypeFor[message.Join](), reflect.TypeFor[message.Lease](), reflect.TypeFor[message.View](), reflect.TypeFor[message.Where](),
		reflect.TypeFor[message.Have](), reflect.TypeFor[message.Logs](), reflect.TypeFor[message.Ack](), reflect.TypeFor[message.Ask](), reflect.TypeFor[message.Told](),
		reflect.TypeFor[message.Append](), reflect.TypeFor[message.Read](), reflect.TypeFor[message.Reply](), reflect.TypeFor[message.Result](),
	}
}

// most is how many parts a list of that type may have.
func most(list reflect.Type) int {
	switch list {
	case reflect.TypeFor[[]int]():
		return 6
	case reflect.TypeFor[[]api.Mark]():
		return 30
	case reflect.TypeFor[[]api.Entry]():
		return 8
	case reflect.TypeFor[[]api.Event]():
		return 16
	}
	panic("no such list: " + list.String())
}

// rightPart reads the chapter's words on what is right.
func rightPart(v reflect.Value) bool {
	switch part := v.Interface().(type) {
	case int:
		return 0 <= part && part <= 274877906944
	case string:
		return text.Name(part)
	case api.Batch:
		return event.Fits(part) == api.OK
	case api.Entry:
		return record.Right(part)
	case api.Event:
		return event.Right(part)
	}
	if v.Kind() == reflect.Slice {
		if v.Len() > most(v.Type()) {
			return false
		}
		for i := range v.Len() {
			if !rightPart(v.Index(i)) {
				return false
			}
		}
		return true
	}
	for i := range v.NumField() {
		if !rightPart(v.Field(i)) {
			return false
		}
	}
	return true
}

// putPart reads the chapter's words on bytes, for a part that is right.
func putPart(v reflect.Value) string {
	switch part := v.Interface().(type) {
	case int:
		return num.Put(part)
	case string:
		return num.PutText(part)
	case api.Batch:
		return event.PutBatch(part)
	case api.Entry:
		return record.Put(part)
	case api.Event:
		return event.Put(part)
	}
	out := ""
	if v.Kind() == reflect.Slice {
		out = num.Put(v.Len())
		for i := range v.Len() {
			out += putPart(v.Index(i))
		}
		return out
	}
	for i := range v.NumField() {
		out += putPart(v.Field(i))
	}
	return out
}

// takePart reads M2's words: it fills v, up to the first error.
func takePart(v reflect.Value, s string) (rest string, err api.Errno) {
	switch part := v.Addr().Interface().(type) {
	case *int:
		*part, rest, err = num.Take(s)
		return rest, err
	case *string:
		*part, rest, err = num.TakeText(s, 200)
		return rest, err
	case *api.Batch:
		*part, rest, err = event.TakeBatch(s)
		return rest, err
	case *api.Entry:
		*part, rest, err = record.Take(s)
		return rest, err
	case *api.Event:
		*part, rest, err = event.Take(s)
		return rest, err
	}
	if v.Kind() == reflect.Slice {
		return takeParts(v, s)
	}
	rest = s
	for i := range v.NumField() {
		if rest, err = takePart(v.Field(i), rest); err != api.OK {
			return "", err
		}
	}
	return rest, api.OK
}

func takeParts(v reflect.Value, s string) (rest string, err api.Errno) {
	count, rest, err := num.Take(s)
	if err != api.OK {
		return "", err
	}
	if count > most(v.Type()) {
		return "", api.ErrLong
	}
	for range count {
		part := reflect.New(v.Type().Elem()).Elem()
		if rest, err = takePart(part, rest); err != api.OK {
			return "", err
		}
		v.Set(reflect.Append(v, part))
	}
	return rest, api.OK
}

func take(s string) (message.Message, api.Errno) {
	if s == "" {
		return nil, api.ErrShort
	}
	if s[0] < 1 || s[0] > 14 {
		return nil, api.ErrForm
	}
	v := reflect.New(kinds()[s[0]]).Elem()
	rest, err := takePart(v, s[1:])
	if err != api.OK {
		return nil, err
	}
	if !rightPart(v) || rest != "" {
		return nil, api.ErrForm
	}
	return v.Interface().(message.Message), api.OK
}

// normal has nil for each list of nothing.
func normal(m message.Message) message.Message {
	if m == nil {
		return nil
	}
	v := reflect.New(reflect.TypeOf(m)).Elem()
	v.Set(reflect.ValueOf(m))
	for i := range v.NumField() {
		if f := v.Field(i); f.Kind() == reflect.Slice && f.Len() == 0 {
			f.SetZero()
		}
	}
	return v.Interface().(message.Message)
}

func same(a, b message.Message) bool {
	return reflect.DeepEqual(normal(a), normal(b))
}

// settings calls f with copies of m in which one number of its own (in lists of numbers, of marks, and in an outcome too) is n; what tells which one.
func settings(m message.Message, n int, f func(what string, changed message.Message)) {
	v := reflect.New(reflect.TypeOf(m)).Elem()
	var visit func(what string, part reflect.Value)
	visit = func(what string, part reflect.Value) {
		switch part.Interface().(type) {
		case int:
			was := part.Int()
			part.SetInt(int64(n))
			f(what, v.Interface().(message.Message))
			part.SetInt(was)
			return
		case string, api.Batch, []api.Entry, []api.Event:
			return
		}
		if part.Kind() == reflect.Slice {
			list := reflect.MakeSlice(part.Type(), part.Len(), part.Len())
			reflect.Copy(list, part)
			part.Set(list)
			for i := range part.Len() {
				visit(what+"["+string(rune('0'+i))+"]", part.Index(i))
			}
			return
		}
		for i := range part.NumField() {
			visit(what+"."+part.Type().Field(i).Name, part.Field(i))
		}
	}
	v.Set(reflect.ValueOf(m))
	visit(reflect.TypeOf(m).Name(), v)
}
