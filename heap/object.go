package heap

import "gumshoe/api"

// object is what api tells of one, with its keys in the order in which they were first put, and their values.
type object struct {
	api.Obj
	keys   []string
	values map[string]api.Val
}

func (o *object) get(key string) (api.Val, bool) {
	v, ok := o.values[key]
	return v, ok
}

func (o *object) put(key string, v api.Val) {
	if _, ok := o.values[key]; !ok {
		o.keys = append(o.keys, key)
	}
	o.values[key] = v
}

// listed are keys, each once, in the order in which they came.
type listed struct {
	order []string
	met   map[string]struct{}
}

func (l *listed) add(keys ...string) {
	for _, key := range keys {
		if _, ok := l.met[key]; !ok {
			l.met[key] = struct{}{}
			l.order = append(l.order, key)
		}
	}
}
