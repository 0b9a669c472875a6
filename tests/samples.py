"""Programs of the kind that the document is about; each procedure of them can be shown."""

SAMPLES = {}

SAMPLES["find"] = """proc find(list a, x)
needs sorted a from 0 to len a
gives result >= 0
gives result <= len a
gives all i from 0 to result: a[i] < x
gives all i from result to len a: a[i] >= x
  let lo = 0
  let hi = len a
  let m = 0
  while lo < hi
  keeps lo >= 0
  keeps lo <= hi
  keeps hi <= len a
  keeps all i from 0 to lo: a[i] < x
  keeps all i from hi to len a: a[i] >= x
  falls from lo to hi
    choose m from lo to hi
    if a[m] < x
      lo = m + 1
    else
      hi = m
    end
  end
  return lo
end"""

SAMPLES["greatest"] = """proc greatest(list a)
needs len a > 0
gives result >= 0
gives result < len a
gives below a from 0 to len a, a from result to result + 1
  let k = 1
  let best = 0
  while k < len a
  keeps k >= 1
  keeps k <= len a
  keeps best >= 0
  keeps best < k
  keeps below a from 0 to k, a from best to best + 1
  falls from k to len a
    if a[k] > a[best]
      best = k
    end
    k = k + 1
  end
  return best
end"""

SAMPLES["first"] = """proc first(list a, x)
gives result >= 0
gives result <= len a
gives all i from 0 to result: a[i] != x
gives either result == len a or a[result] == x
  let k = 0
  while k < len a and not a[k] == x
  keeps 0 <= k
  keeps k <= len a
  keeps all i from 0 to k: a[i] != x
  falls from k to len a
    k = k + 1
  end
  return k
end"""

SAMPLES["copy"] = """proc copy(list a, list b)
needs len a <= len b
gives all i from 0 to len a: b[i] == a[i]
gives all i from 0 to len a: a[i] == old a[i]
gives all i from len a to len b: b[i] == old b[i]
  let k = 0
  while k < len a
  keeps k >= 0
  keeps k <= len a
  keeps all i from 0 to k: b[i] == a[i]
  keeps all i from len a to len b: b[i] == old b[i]
  falls from k to len a
    b[k] = a[k]
    k = k + 1
  end
  return k
end"""

SAMPLES["insertion"] = """proc insert(list a, n)
needs n >= 0
needs n < len a
needs sorted a from 0 to n
gives sorted a from 0 to n + 1
gives all i from n + 1 to len a: a[i] == old a[i]
moves a
  let k = n
  let t = 0
  while k > t
  keeps t >= 0
  keeps t <= k
  keeps k <= n
  keeps sorted a from 0 to k
  keeps sorted a from k to n + 1
  keeps below a from 0 to k, a from k + 1 to n + 1
  keeps either t == 0 or t == k
  keeps either t == 0 or a[k - 1] <= a[k]
  keeps all i from n + 1 to len a: a[i] == old a[i]
  falls from t to k
    if a[k - 1] > a[k]
      swap a[k - 1], a[k]
      k = k - 1
    else
      t = k
    end
  end
  return k
end
proc sort(list a)
gives sorted a from 0 to len a
moves a
  let n = 0
  let r = 0
  while n < len a
  keeps n >= 0
  keeps n <= len a
  keeps sorted a from 0 to n
  falls from n to len a
    call r = insert(a, n)
    n = n + 1
  end
  return n
end"""

SAMPLES["down"] = """proc down(n)
needs n >= 0
gives result == 0
falls from 0 to n
  let r = 0
  if n > 0
    call r = down(n - 1)
    return r
  else
    return 0
  end
end"""

SAMPLES["fill"] = """proc fill(list a, p, x)
needs p >= 0
needs p <= len a
gives all i from 0 to p: a[i] == old a[i]
gives all i from p to len a: a[i] == x
gives result == p
  let k = len a
  while k > p
  keeps k >= p
  keeps k <= len a
  keeps all i from 0 to p: a[i] == old a[i]
  keeps all i from k to len a: a[i] == x
  falls from p to k
    k = k - 1
    a[k] = x
  end
  return k
end"""

SAMPLES["part"] = """proc part(list a, lo, hi)
needs 0 <= lo
needs lo < hi
needs hi <= len a
gives lo <= result
gives result < hi
gives below a from lo to result, a from result to hi
gives below a from result to result + 1, a from result to hi
gives all i from 0 to lo: a[i] == old a[i]
gives all i from hi to len a: a[i] == old a[i]
moves a
  let p = a[hi - 1]
  let m = lo
  let k = lo
  while k < hi - 1
  keeps lo <= m
  keeps m <= k
  keeps k < hi
  keeps a[hi - 1] == p
  keeps all i from lo to m: a[i] <= p
  keeps all i from m to k: a[i] >= p
  keeps all i from 0 to lo: a[i] == old a[i]
  keeps all i from hi to len a: a[i] == old a[i]
  falls from k to hi
    if a[k] < p
      swap a[m], a[k]
      m = m + 1
    end
    k = k + 1
  end
  swap a[m], a[hi - 1]
  return m
end"""

SAMPLES["quick"] = """proc part(list a, lo, hi, low, high)
needs 0 <= lo
needs lo < hi
needs hi <= len a
needs all i from lo to hi: a[i] >= low
needs all i from lo to hi: a[i] <= high
gives lo <= result
gives result < hi
gives below a from lo to result, a from result to result + 1
gives below a from result to result + 1, a from result to hi
gives all i from lo to hi: a[i] >= low
gives all i from lo to hi: a[i] <= high
gives all i from 0 to lo: a[i] == old a[i]
gives all i from hi to len a: a[i] == old a[i]
  let p = a[hi - 1]
  let m = lo
  let k = lo
  while k < hi - 1
  keeps lo <= m
  keeps m <= k
  keeps k < hi
  keeps a[hi - 1] == p
  keeps all i from lo to m: a[i] <= p
  keeps all i from m to k: a[i] >= p
  keeps all i from lo to hi: a[i] >= low
  keeps all i from lo to hi: a[i] <= high
  keeps all i from 0 to lo: a[i] == old a[i]
  keeps all i from hi to len a: a[i] == old a[i]
  falls from k to hi
    if a[k] < p
      swap a[m], a[k]
      m = m + 1
    end
    k = k + 1
  end
  swap a[m], a[hi - 1]
  return m
end
proc quick(list a, lo, hi, low, high)
needs 0 <= lo
needs hi <= len a
needs all i from lo to hi: a[i] >= low
needs all i from lo to hi: a[i] <= high
gives sorted a from lo to hi
gives all i from lo to hi: a[i] >= low
gives all i from lo to hi: a[i] <= high
gives all i from 0 to lo: a[i] == old a[i]
gives all i from hi to len a: a[i] == old a[i]
falls from lo to hi
  let m = lo
  let p = 0
  let r = 0
  if lo < hi
    call m = part(a, lo, hi, low, high)
    p = a[m]
    call r = quick(a, lo, m, low, p)
    call r = quick(a, m + 1, hi, p, high)
  end
  return m
end"""

SAMPLES["selection"] = """proc select(list a)
gives sorted a from 0 to len a
moves a
  let n = 0
  let k = 0
  let m = 0
  while n < len a
  keeps n >= 0
  keeps n <= len a
  keeps sorted a from 0 to n
  keeps below a from 0 to n, a from n to len a
  falls from n to len a
    m = n
    k = n + 1
    while k < len a
    keeps k > n
    keeps k <= len a
    keeps m >= n
    keeps m < k
    keeps below a from m to m + 1, a from n to k
    falls from k to len a
      if a[k] < a[m]
        m = k
      end
      k = k + 1
    end
    swap a[n], a[m]
    n = n + 1
  end
  return n
end"""

SAMPLES["pick"] = """proc pick(list p, list a, k)
needs k >= 0
needs k < len p
needs all i from 0 to len p: p[i] >= 0
needs all i from 0 to len p: p[i] < len a
needs all i from 0 to len a: a[i] > 3
gives result >= 5
  let j = p[k]
  check a[j] > 3 and j >= 0
  return a[j] + 1
end"""
