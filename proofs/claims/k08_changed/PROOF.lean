import PyProof.Rows.All
import Wide.All
import OpenK.AllK
import Wide.FinOn
import HandS.ForMost
import HandS.IsInst
import HandS.Evl
import HandS.SetIn
import HandS.Walk
import HandS.Star
import HandS.Zip
import HandS.Style
import HandS.Wide
import HandS.DictComp
import KE.KeyNested
import KE.KDictKeyed
import HandS.TupAny
import HandS.Property
import HandS.Conv
import HandS.TupMul
import HandS.SetFor
import HandS.TryOnly
import PySem.Challenge.RW_swornrun_k08_lists_that_are_changed
set_option Elab.async false
set_option linter.all false
set_option maxRecDepth 100000
set_option maxHeartbeats 4000000
namespace SW
open PySem PySem.Spec PyProof.Rows L2
def topS (i : Nat) : Stmt := PySem.Challenge.pw_swornrun_k08_lists_that_are_changed.main.body.getD i (.Pass ⟨0, 0, 0, 0⟩)
/-- the built-in names stand for what they are -/
structure TxB (mg : PySem.Str → Option Value) : Prop where
  n_len : mg "len" = none
  n_range : mg "range" = none
  n_int : mg "int" = none
  n_abs : mg "abs" = none
  n_isinstance : mg "isinstance" = none
  n_list : mg "list" = none
  n_str : mg "str" = none
  n_bool : mg "bool" = none
  n_tuple : mg "tuple" = none
  n_min : mg "min" = none
  n_max : mg "max" = none
  n_sum : mg "sum" = none
  n_sorted : mg "sorted" = none
  n_any : mg "any" = none
  n_all : mg "all" = none
  n_zip : mg "zip" = none
  n_enumerate : mg "enumerate" = none
  n_reversed : mg "reversed" = none
  n_dict : mg "dict" = none
  n_set : mg "set" = none
  n_repr : mg "repr" = none
  n_ord : mg "ord" = none
/-- a def of the text -/
structure Df (K : PySem.W.Frag) (mg : PySem.Str → Option Value) (x : PySem.Str) (st : Stmt) (ps : List PySem.Str) where
  f : Addr
  fd : FuncData
  F : Fun K x x st f fd
  rb : ∀ us : List Value, us.length = ps.length → bindArgs fd ⟨us, []⟩ = pure (ps.zip us)
  g : mg x = some (.ref f)
theorem Df.b {K : PySem.W.Frag} {mg : PySem.Str → Option Value} {x : PySem.Str} {st : Stmt} {ps : List PySem.Str} (D : Df K mg x st ps) : Binds K D.fd ps [] := .all D.rb
/-- .. of what the head tells -/
def df_mk {x : PySem.Str} {st : Stmt} {ps : List PySem.Str} {K : PySem.W.Frag} {h : Heap} {mg : PySem.Str → Option Value} (X : K.In h) (G : h.Ns mainGlobals mg) {f : Addr} {oc : Value} {od an : Option Addr} {sl : Array (Option Value)} {kV doc pm cd ct : Value}
    (a : PySem.W.nsIn K mainGlobals x = some (some (.ref f))) (l : K.lookup f = some ⟨oc, od, .func (PySem.W.fnOf x x (defArgs st) (defBody st) (defScope st) .none kV doc pm an cd ct), sl⟩) (c : PySem.W.codeIn K cd x = true) (k : PySem.W.keepIn K (.ref f) = true)
    (hb : ∀ (kV doc pm : Value) (an : Option Addr) (cd ct : Value) (us : List Value), us.length = ps.length → bindArgs (PySem.W.fnOf x x (defArgs st) (defBody st) (defScope st) .none kV doc pm an cd ct) ⟨us, []⟩ = pure (ps.zip us)) : Df K mg x st ps :=
  ⟨f, _, fun_mk l c k, hb kV doc pm an cd ct, PySem.W.mg_of X G a⟩
theorem m_of {K : PySem.W.Frag} {h : Heap} {mg : PySem.Str → Option Value} {x : PySem.Str} {v u : Value} (X : K.In h) (G : h.Ns mainGlobals mg) (e : PySem.W.nsIn K mainGlobals x = some (some v)) (q : v = u) : mg x = some u := by
  rw [← q]
  exact PySem.W.mg_of X G e
theorem sqt_mk {K : PySem.W.Frag} {aT : Addr} {od : Option Addr} {its : Array Value} {n : Nat} {sl : Array (Option Value)} {xs : List V} (l : K.lookup aT = some ⟨.type "tuple", od, .seq its n, sl⟩) (hs : its.size ≤ sizeLine) (r : Vals xs its.toList) : ∀ H, SqT K H aT xs :=
  fun H => .inr ⟨_, its, n, l, rfl, rfl, hs, r⟩
theorem same_new {H : Hp} {p : Addr} {o : HO} (h : H p = none) : Same H (upd H p o) := fun b x e => by
  rw [upd_ne (ne_of_none e h)]
  exact e
/-- an object that H does not know has changed -/
theorem same_mut {H H' : Hp} {p : Addr} {o : HO} (s : Same H H') (h : H p = none) : Same H (upd H' p o) := fun b x e => by
  rw [upd_ne (ne_of_none e h)]
  exact s _ _ e
theorem new_of {H H1 : Hp} {p : Addr} {o : HO} (n : H p = none) (h : upd H p o = H1) : Same H H1 ∧ H1 p = some o := by
  subst h
  exact ⟨same_new n, upd_same⟩
/-- all that was tracked is as it was, but what stands at h -/
def But (h : Addr) (H H' : Hp) : Prop := ∀ b o, b ≠ h → H b = some o → H' b = some o
theorem But.refl (h : Addr) (H : Hp) : But h H H := fun _ _ _ e => e
theorem But.trans {h : Addr} {H H1 H2 : Hp} (a : But h H H1) (b : But h H1 H2) : But h H H2 := fun c o n e => b c o n (a c o n e)
theorem Same.but {h : Addr} {H H' : Hp} (a : Same H H') : But h H H' := fun c o _ e => a c o e
/-- the hand at h: the list of draws at d, and a place in it -/
structure Hand (H : Hp) (h d : Addr) (ds : List Int) : Prop where
  at_ : ∃ i : Nat, H h = some (.lst [.ref d, .int (i : Nat)])
  ds_ : H d = some (.lst (ds.map V.int))
  ne : d ≠ h
theorem Hand.same {H H' : Hp} {h d : Addr} {ds : List Int} (a : Hand H h d ds) (s : Same H H') : Hand H' h d ds := by
  obtain ⟨⟨i, h1⟩, h2, h3⟩ := a
  exact ⟨⟨i, s _ _ h1⟩, s _ _ h2, h3⟩
theorem small_sz {n : Nat} (h : n ≤ 1000) : n < sizeLine := Nat.lt_of_le_of_lt h (by decide)
theorem small_sz5 {n : Nat} (h : n ≤ 100000) : n < sizeLine := Nat.lt_of_le_of_lt h (by decide)
theorem ixN_nat {n j : Nat} (h : j < n) : ixN n (j : Int) = some j := by
  unfold ixN
  rw [if_pos (by omega), if_pos (by omega)]
  rfl
theorem hand_ne {H : Hp} {h d p : Addr} {ds : List Int} (hd : Hand H h d ds) (n : H p = none) : p ≠ h := by
  obtain ⟨⟨i, e⟩, _, _⟩ := hd
  exact (ne_of_none e n).symm
theorem hand_ne2 {H : Hp} {h d p : Addr} {ds : List Int} (hd : Hand H h d ds) (n : H p = none) : p ≠ d := (ne_of_none hd.ds_ n).symm
/-- something else than the hand and its draws has changed -/
theorem Hand.upd {H : Hp} {h d p : Addr} {o : HO} {ds : List Int} (a : Hand H h d ds) (h1 : p ≠ h) (h2 : p ≠ d) : Hand (L2.upd H p o) h d ds := by
  obtain ⟨⟨i, e1⟩, e2, e3⟩ := a
  exact ⟨⟨i, (upd_ne h1.symm).trans e1⟩, (upd_ne h2.symm).trans e2, e3⟩
theorem But.new {a : Addr} {H H' : Hp} {p : Addr} {o : HO} (b : But a H H') (n : H p = none) : But a H (L2.upd H' p o) := fun c u hc e => (upd_ne (ne_of_none e n)).trans (b c u hc e)
theorem But.free {a : Addr} {H H' : Hp} {p : Addr} (b : But a H H') (hp : p ≠ a) (n : H' p = none) : H p = none := by
  cases e : H p with
  | none => rfl
  | some u =>
    rw [b p u hp e] at n
    cases n
/-! ### written texts in a row; a text n times -/
def tStrs (ws : List PySem.Str) : TA := fun _ H Q => Q (ws.map V.str) H
theorem pa_strs {X : Cx} {es : List Expr} {ws : List PySem.Str} (h : StrEs es ws) : PA X es (tStrs ws) := by
  induction h with
  | nil => exact pa_nil
  | cons x j p _ ih => exact pa_cons pe_str ih
def rMulS : R2 := fun x y H Q => ∃ (z : PySem.Str) (n : Int), x = .str z ∧ y = .int n ∧ 0 ≤ n ∧ n ≤ 1000 ∧ z.length ≤ 1000 ∧ Q (.str (Txt.mul z n)) H
theorem op_mul_str {X : Cx} : OpR X (binaryOp .Mult) rMulS := by
  intro pins s σ H x y v u Q I rx ry h
  obtain ⟨z, n, rfl, rfl, h0, h1, hz, q⟩ := h
  obtain ⟨t, rfl⟩ := rx
  obtain ⟨t', rfl⟩ := ry
  refine SB.mul ⟨?_, ?_, ?_⟩ fun t' k => ⟨.str _, H, I.tok k, ⟨t', rfl⟩, q⟩
  · rw [Bool.or_eq_false_iff]
    exact ⟨decide_eq_false (by omega), decide_eq_false (by omega)⟩
  · intro hn _ hc
    have hd : (2 ^ 63 - 1 : Int) / 1000 ≤ (2 ^ 63 - 1) / n := by
      have : n * 9223372036854775 ≤ 2 ^ 63 - 1 := by omega
      have h2 : (9223372036854775 : Int) ≤ (2 ^ 63 - 1) / n := Int.le_ediv_of_mul_le (by omega) (by rw [Int.mul_comm]; exact this)
      have h3 : (2 ^ 63 - 1 : Int) / 1000 = 9223372036854775 := by decide
      omega
    have h3 : (2 ^ 63 - 1 : Int) / 1000 = 9223372036854775 := by decide
    omega
  · intro _ _
    have hb : z.length * n.toNat ≤ 1000 * 1000 := Nat.mul_le_mul hz (by omega)
    unfold Builtin.Str.tooLong
    refine decide_eq_false ?_
    have : (1000 * 1000 : Nat) ≤ sizeLine := by decide
    omega
theorem foldl_app {c : Nat} : ∀ (n : Nat) (a : Array Nat), ((List.replicate n #[c]).foldl (· ++ ·) a).toList = a.toList ++ List.replicate n c
  | 0, a => by simp
  | n + 1, a => by
    rw [List.replicate_succ, List.foldl_cons, foldl_app n]
    simp [List.replicate_succ]
theorem mul_one_sign (c : Nat) (n : Int) : (Txt.mul ⟨#[c]⟩ n).cps.toList = List.replicate n.toNat c := by
  unfold Txt.mul
  by_cases h1 : n < 1
  · rw [if_pos h1, show n.toNat = 0 by omega]
    rfl
  · rw [if_neg h1]
    by_cases h2 : (n == 1 || (⟨#[c]⟩ : PySem.Str).length == 0) = true
    · rw [if_pos h2]
      have h3 : n = 1 := by
        rcases Bool.or_eq_true_iff.mp h2 with h | h
        · exact eq_of_beq h
        · exact absurd (eq_of_beq h) (by show ¬ (1 : Nat) = 0; decide)
      subst h3
      rfl
    · rw [if_neg h2]
      show ((List.replicate n.toNat #[c]).foldl (· ++ ·) #[]).toList = _
      rw [foldl_app]
      rfl
theorem join_len1 : ∀ (ys : List PySem.Str), (Str.join "" ys).length = (ys.map (·.length)).sum
  | [] => rfl
  | [x] => by
    show x.length = (x.length :: []).sum
    rw [List.sum_cons]
    rfl
  | x :: y :: r => by
    show (x ++ "" ++ Str.join "" (y :: r)).length = _
    have h := join_len1 (y :: r)
    rw [TL.len_tl] at h ⊢
    rw [TL.tl_append, TL.tl_append, List.length_append, List.length_append, h, List.map_cons, List.sum_cons, TL.len_tl]
    rfl
theorem join_len (ys : List PySem.Str) : (Txt.join "" ys).length = (ys.map (·.length)).sum := by
  rw [TL.join_eq, join_len1]
theorem sum_const {ys : List PySem.Str} {b : Nat} (h : ∀ y ∈ ys, y.length ≤ b) : (ys.map (·.length)).sum ≤ ys.length * b := by
  induction ys with
  | nil => exact Nat.zero_le _
  | cons a r ih =>
    have h1 := h a List.mem_cons_self
    have h2 := ih fun y hy => h y (List.mem_cons_of_mem _ hy)
    rw [List.map_cons, List.sum_cons, List.length_cons, Nat.add_mul]
    omega
theorem str_at {z : PySem.Str} {r : Int} (h0 : 0 ≤ r) (h1 : r < z.length) : ∃ c, atI z.cps.toList r = some c := by
  obtain ⟨j, rfl⟩ : ∃ j : Nat, r = j := ⟨r.toNat, by omega⟩
  have hl : z.cps.toList.length = z.length := rfl
  have hj : j < z.cps.toList.length := by omega
  exact ⟨_, atI_nat (List.getElem?_eq_getElem hj)⟩
theorem strs_at {ws : List PySem.Str} {r : Int} (h0 : 0 ≤ r) (h1 : r < ws.length) : ∃ z, z ∈ ws ∧ atI (ws.map V.str) r = some (.str z) := by
  obtain ⟨j, rfl⟩ : ∃ j : Nat, r = j := ⟨r.toNat, by omega⟩
  have hj : j < ws.length := by omega
  refine ⟨ws[j], List.getElem_mem hj, atI_nat ?_⟩
  rw [List.getElem?_map, List.getElem?_eq_getElem hj]
  rfl
/-- a loop over a text's signs -/
theorem for_str {x : PySem.Str} {g : TG} {tb : TS} {D : Ends} {σ : L2.St} {H : Hp} (Pv : Nat → L2.St → Hp → Prop) (h0 : Pv 0 σ H)
    (hs : ∀ i c σ H, x.cps.toList[i]? = some c → Pv i σ H → g (.str ⟨#[c]⟩) σ H fun σ2 H2 => tb { D with nx := Pv (i + 1), ct := Pv (i + 1), bk := D.nx } σ2 H2) (hd : ∀ σ H, Pv x.cps.toList.length σ H → D.nx σ H) :
    ∃ W : Nat → Nat → L2.St → Hp → Prop, (∃ m, W 0 m σ H) ∧ ∀ i m σ H, W i m σ H →
      ((Its x).stop i H ∧ D.nx σ H) ∨ ((Its x).go i H ∧ ∃ N : L2.St → Hp → Prop, (∀ σ' H', N σ' H' → ∃ m', m' < m ∧ W (i + 1) m' σ' H') ∧ ∀ v H', (Its x).yld i H v H' → g v σ H' fun σ2 H2 => tb { D with nx := N, ct := N, bk := D.nx } σ2 H2) := by
  refine ⟨fun i m σ H => m = x.cps.toList.length - i ∧ i ≤ x.cps.toList.length ∧ Pv i σ H, ⟨x.cps.toList.length, by simp, Nat.zero_le _, h0⟩, ?_⟩
  rintro i m σ H ⟨rfl, hi, p⟩
  by_cases hlt : i < x.cps.toList.length
  · refine .inr ⟨hlt, Pv (i + 1), fun σ' H' p' => ⟨x.cps.toList.length - (i + 1), by omega, rfl, hlt, p'⟩, fun v H' y => ?_⟩
    obtain ⟨e, c, hc, hv⟩ := y
    subst e hv
    exact hs i c σ _ (by rw [Array.getElem?_toList]; exact hc) p
  · have e : i = x.cps.toList.length := by omega
    subst e
    exact .inl ⟨Nat.le_refl _, hd σ H p⟩
abbrev mk (l : List Nat) : PySem.Str := ⟨l.toArray⟩
theorem mk_cp (z : PySem.Str) : mk z.cps.toList = z := rfl
theorem cp_mk (l : List Nat) : (mk l).cps.toList = l := rfl
theorem flat_strs (ws : List PySem.Str) : (ws.map V.str).all flatV = true := by
  induction ws with
  | nil => rfl
  | cons a r ih =>
    rw [List.map_cons, List.all_cons, ih]
    rfl
theorem inV_strs (a : PySem.Str) (ws : List PySem.Str) : inV (.str a) (ws.map V.str) = decide (a ∈ ws) := by
  induction ws with
  | nil => rfl
  | cons b r ih =>
    show ((b == a) || inV (.str a) (r.map V.str)) = _
    rw [ih]
    by_cases e : b = a
    · subst e
      simp
    · rw [beq_eq_false_iff_ne.mpr e]
      by_cases m : a ∈ r
      · simp [m]
      · simp [m, Ne.symm e]
theorem cut2 (z : PySem.Str) (i : Nat) (h : i < z.length) : cutS z (some (i : Int)) (some ((i : Int) + 2)) = mk ((z.cps.toList.drop i).take 2) := by
  have e1 : HT.sIx z.length 0 (some (i : Int)) = i := by
    rw [HT.sIx_nat]
    omega
  have e2 : HT.sIx z.length z.length (some ((i : Int) + 2)) = min (i + 2) z.length := by
    rw [show ((i : Int) + 2) = ((i + 2 : Nat) : Int) by omega, HT.sIx_nat]
  unfold cutS
  rw [e1, e2]
  show mk _ = mk _
  congr 1
  have hl : (z.cps.toList.drop i).length = z.length - i := by
    rw [List.length_drop]
    rfl
  by_cases h2 : i + 2 ≤ z.length
  · rw [show min (i + 2) z.length - i = 2 by omega]
  · rw [Nat.min_eq_right (by omega), List.take_of_length_le (by omega), List.take_of_length_le (by omega)]
theorem cut_nat (z : PySem.Str) (i n : Nat) (h : i + n ≤ z.length) : cutS z (some (i : Int)) (some ((i + n : Nat) : Int)) = mk ((z.cps.toList.drop i).take n) := by
  have e1 : HT.sIx z.length 0 (some (i : Int)) = i := by
    rw [HT.sIx_nat]
    omega
  have e2 : HT.sIx z.length z.length (some ((i + n : Nat) : Int)) = i + n := by
    rw [HT.sIx_nat]
    omega
  unfold cutS
  rw [e1, e2, show i + n - i = n by omega]
theorem str_ne (z : PySem.Str) : (!decide (V.str z = V.str "")) = decide (z.cps.toList ≠ []) := by
  by_cases h : z.cps.toList = []
  · have e : z = "" := by
      rw [← mk_cp z, h]
      rfl
    subst e
    rfl
  · have e : ¬ V.str z = V.str "" := fun e => h (by
      injection e with e
      rw [e]
      rfl)
    rw [decide_eq_false e, decide_eq_true h]
    rfl
theorem le_dec (n m : Nat) : decide ((n : Int) ≤ (m : Int)) = decide (n ≤ m) := decide_eq_decide.mpr Int.ofNat_le
theorem str_dec (x y : PySem.Str) : decide (V.str x = V.str y) = decide (x = y) := decide_eq_decide.mpr ⟨fun h => by injection h, fun h => by rw [h]⟩
theorem sz5 {n : Nat} (h : n ≤ 100000) : n ≤ sizeLine := Nat.le_trans h (by decide)
theorem sz5' {n : Nat} (h : n ≤ 100000) : n < sizeLine := Nat.lt_of_le_of_lt h (by decide)
theorem at_nat {xs : List V} {z : Int} {j : Nat} {v : V} (e : z = (j : Int)) (h : xs[j]? = some v) : atI xs z = some v := at_of e h
end SW

namespace SW
open PySem PySem.Spec PyProof.Rows L2
theorem app_len (x y : PySem.Str) : (x ++ y).length = x.length + y.length := by
  rw [TL.len_tl, TL.tl_append, List.length_append, ← TL.len_tl, ← TL.len_tl]
theorem mul_len (n : Int) : (Txt.mul " " n).length = n.toNat := by
  rw [TL.len_tl]
  show (Txt.mul ⟨#[32]⟩ n).cps.toList.length = _
  rw [mul_one_sign, List.length_replicate]
/-! ### data: what is read stays -/
mutual
theorem dp_same {K : PySem.W.Frag} {H H' : Hp} (s : Same H H') : ∀ (d : PyData) (v : V), Dp K H v d → Dp K H' v d
  | .none, _, h => by
    cases h
    exact .non
  | .bool b, _, h => by
    cases h
    exact .bl b
  | .int i, _, h => by
    cases h
    exact .int i
  | .str x, _, h => by
    cases h
    exact .str x
  | .list ds, _, h => by
    cases h with
    | lst hs ha => exact .lst (s.seq hs) (dpa_same s ds _ ha)
  | .tuple ds, _, h => by
    cases h with
    | tup hs ha =>
      refine .tup ?_ (dpa_same s ds _ ha)
      rcases hs with (hs | ⟨o, hs⟩) | hs
      · exact .inl (.inl (s _ _ hs))
      · exact .inl (.inr ⟨o, s _ _ hs⟩)
      · exact .inr hs
  | .dict _, _, h => by cases h
theorem dpa_same {K : PySem.W.Frag} {H H' : Hp} (s : Same H H') : ∀ (ds : List PyData) (vs : List V), DpAll K H vs ds → DpAll K H' vs ds
  | [], _, h => by
    cases h
    exact .nil
  | d :: ds, _, h => by
    cases h with
    | cons h1 h2 => exact .cons (dp_same s d _ h1) (dpa_same s ds _ h2)
end
theorem sqt_same {K : PySem.W.Frag} {H H' : Hp} (s : Same H H') {a : Addr} {xs : List V} (hs : SqT K H a xs) : SqT K H' a xs := by
  rcases hs with (hs | ⟨o, hs⟩) | hs
  · exact .inl (.inl (s _ _ hs))
  · exact .inl (.inr ⟨o, s _ _ hs⟩)
  · exact .inr hs
theorem _root_.L2.Dp.same {K : PySem.W.Frag} {H H' : Hp} {d : PyData} {v : V} (h : Dp K H v d) (s : Same H H') : Dp K H' v d := dp_same s d v h
mutual
/-- no list within -/
def noL : PyData → Bool
  | .tuple ds => noLs ds
  | .list _ => false
  | .dict _ => false
  | _ => true
def noLs : List PyData → Bool
  | [] => true
  | d :: ds => noL d && noLs ds
end
mutual
theorem dp_but {K : PySem.W.Frag} {H H' : Hp} {h : Addr} {ys : List V} (hl : H h = some (.lst ys)) (s : But h H H') : ∀ (d : PyData) (v : V), noL d = true → Dp K H v d → Dp K H' v d
  | .none, _, _, e => by
    cases e
    exact .non
  | .bool b, _, _, e => by
    cases e
    exact .bl b
  | .int i, _, _, e => by
    cases e
    exact .int i
  | .str x, _, _, e => by
    cases e
    exact .str x
  | .list ds, _, n, _ => by
    unfold noL at n
    cases n
  | .tuple ds, _, n, e => by
    cases e with
    | tup hs ha =>
      refine .tup ?_ (dpa_but hl s ds _ (by unfold noL at n; exact n) ha)
      rcases hs with (hs | ⟨o, hs⟩) | hs
      · refine .inl (.inl (s _ _ (fun e => ?_) hs))
        rw [e, hl] at hs
        cases hs
      · refine .inl (.inr ⟨o, s _ _ (fun e => ?_) hs⟩)
        rw [e, hl] at hs
        cases hs
      · exact .inr hs
  | .dict _, _, _, e => by cases e
theorem dpa_but {K : PySem.W.Frag} {H H' : Hp} {h : Addr} {ys : List V} (hl : H h = some (.lst ys)) (s : But h H H') : ∀ (ds : List PyData) (vs : List V), noLs ds = true → DpAll K H vs ds → DpAll K H' vs ds
  | [], _, _, e => by
    cases e
    exact .nil
  | d :: ds, _, n, e => by
    unfold noLs at n
    rw [Bool.and_eq_true] at n
    cases e with
    | cons h1 h2 => exact .cons (dp_but hl s d _ n.1 h1) (dpa_but hl s ds _ n.2 h2)
end
theorem Hand.dp {K : PySem.W.Frag} {H H' : Hp} {h d0 : Addr} {ds : List Int} (a : Hand H h d0 ds) (s : But h H H') {d : PyData} {v : V} (n : noL d = true) (e : Dp K H v d) : Dp K H' v d := by
  obtain ⟨⟨i, hl⟩, _, _⟩ := a
  exact dp_but hl s d v n e
def isN : PyData → Bool
  | .none => true
  | _ => false
theorem dp_isN {K : PySem.W.Frag} {H : Hp} {d : PyData} {v : V} (h : Dp K H v d) : decide (v = V.non) = isN d := by
  cases h <;> rfl
theorem dp_tup2 {K : PySem.W.Frag} {H : Hp} {t : Addr} {v1 v2 : V} {d1 d2 : PyData} (h : H t = some (.tup [v1, v2])) (h1 : Dp K H v1 d1) (h2 : Dp K H v2 d2) : Dp K H (.ref t) (.tuple [d1, d2]) :=
  .tup (SqT.of h) (.cons h1 (.cons h2 .nil))
theorem dp_tup3 {K : PySem.W.Frag} {H : Hp} {t : Addr} {v1 v2 v3 : V} {d1 d2 d3 : PyData} (h : H t = some (.tup [v1, v2, v3])) (h1 : Dp K H v1 d1) (h2 : Dp K H v2 d2) (h3 : Dp K H v3 d3) : Dp K H (.ref t) (.tuple [d1, d2, d3]) :=
  .tup (SqT.of h) (.cons h1 (.cons h2 (.cons h3 .nil)))
theorem dp_tup4 {K : PySem.W.Frag} {H : Hp} {t : Addr} {v1 v2 v3 v4 : V} {d1 d2 d3 d4 : PyData} (h : H t = some (.tup [v1, v2, v3, v4])) (h1 : Dp K H v1 d1) (h2 : Dp K H v2 d2) (h3 : Dp K H v3 d3) (h4 : Dp K H v4 d4) : Dp K H (.ref t) (.tuple [d1, d2, d3, d4]) :=
  .tup (SqT.of h) (.cons h1 (.cons h2 (.cons h3 (.cons h4 .nil))))
/-! ### lists of texts, compared -/
theorem dpa_strs {K : PySem.W.Frag} {H : Hp} : ∀ ws : List PySem.Str, DpAll K H (ws.map V.str) (ws.map PyData.str)
  | [] => .nil
  | x :: r => .cons (.str x) (dpa_strs r)
theorem dp_strs {K : PySem.W.Frag} {H : Hp} {a : Addr} {ws : List PySem.Str} (h : SqL K H a (ws.map V.str)) : Dp K H (.ref a) (.list (ws.map PyData.str)) := .lst h (dpa_strs ws)
theorem vals_strs : ∀ {ws : List PySem.Str} {us : List Value} {j : Nat} {x : PySem.Str}, Vals (ws.map V.str) us → ws[j]? = some x → ∃ t, us[j]? = some (.str x t)
  | _, _, _, _, r, h => by
    obtain ⟨u, h1, h2⟩ := r.get (x := V.str _) (by rw [List.getElem?_map, h]; rfl)
    obtain ⟨t, rfl⟩ := h2
    exact ⟨t, h1⟩
/-- == of two lists of texts -/
def rEqS (K : PySem.W.Frag) : R2 := fun x y H Q => ∃ (a b : Addr) (ws vs : List PySem.Str), x = .ref a ∧ y = .ref b ∧ SqL K H a (ws.map V.str) ∧ SqL K H b (vs.map V.str) ∧ Q (.bl (decide (ws = vs))) H
theorem all_eq {ws vs : List PySem.Str} (hl : ws.length = vs.length) : ((List.range ws.length).all fun j => decide (ws[j]? = vs[j]?)) = decide (ws = vs) := by
  by_cases h : ws = vs
  · subst h
    rw [decide_eq_true rfl, List.all_eq_true]
    exact fun j _ => decide_eq_true rfl
  · rw [decide_eq_false h]
    refine Bool.eq_false_iff.mpr fun e => h ?_
    rw [List.all_eq_true] at e
    refine List.ext_getElem? fun j => ?_
    by_cases hj : j < ws.length
    · exact of_decide_eq_true (e j (List.mem_range.mpr hj))
    · rw [List.getElem?_eq_none (by omega), List.getElem?_eq_none (by omega)]
theorem op_eqS {X : Cx} (hu : X.A.units < cLine) : OpR X (compareOp .Eq) (rEqS X.K) := by
  intro pins s σ H x y v u Q I rx ry h
  obtain ⟨a, b, ws, vs, rfl, rfl, ha, hb, q⟩ := h
  cases rx
  cases ry
  obtain ⟨its, r1, p1, _⟩ := I.list ha
  obtain ⟨jts, r2, p2, _⟩ := I.list hb
  have l1 := r1.length
  have l2 := r2.length
  rw [List.length_map] at l1 l2
  by_cases hl : ws.length = vs.length
  · refine SeqAt.eq_listAt (e := fun j => decide (ws[j]? = vs[j]?)) p1.isList p2.isList (by simp only [List.size_toArray]; omega) hu (fun j h1 h2 => ?_) ?_
    · simp only [List.size_toArray] at h1 h2
      obtain ⟨t1, e1⟩ := vals_strs (x := ws[j]) r1 (List.getElem?_eq_getElem (by omega))
      obtain ⟨t2, e2⟩ := vals_strs (x := vs[j]) r2 (List.getElem?_eq_getElem (by omega))
      have f1 : its.toArray[j] = .str ws[j] t1 := by
        rw [List.getElem?_eq_getElem h1] at e1
        injection e1 with e1
      have f2 : jts.toArray[j] = .str vs[j] t2 := by
        rw [List.getElem?_eq_getElem h2] at e2
        injection e2 with e2
      rw [f1, f2]
      have e3 : decide (ws[j]? = vs[j]?) = (ws[j] == vs[j]) := by
        rw [List.getElem?_eq_getElem (by omega), List.getElem?_eq_getElem (by omega)]
        by_cases h : ws[j] = vs[j]
        · rw [h]
          simp
        · rw [decide_eq_false (fun e => h (Option.some.inj e)), beq_eq_false_iff_ne.mpr h]
      rw [e3]
      exact SeqAt.EqAt.str_str _ _ _ _
    · have e4 : ((List.range its.toArray.size).all fun j => decide (ws[j]? = vs[j]?)) = decide (ws = vs) := by
        rw [List.size_toArray, ← l1]
        exact all_eq hl
      rw [e4]
      exact ⟨.bl _, H, I, rfl, q⟩
  · refine SeqAt.eq_list_lengthsAt p1.isList p2.isList (by simp only [List.size_toArray]; exact bne_iff_ne.mpr (by omega)) hu ?_
    rw [decide_eq_false (fun e => hl (by rw [e]))] at q
    exact ⟨.bl _, H, I, rfl, q⟩
end SW

namespace SW
open PySem PySem.Spec PyProof.Rows L2
/-! ### a def that is called where no object is being shown -/
structure FnOkG (P : Program) (w : World) (K : PySem.W.Frag) (mg : PySem.Str → Option Value) (base : Heap) (CX : CXT) (k : Nat) (f : Addr) (fd : FuncData) (ps : List PySem.Str) (sp : Sp) : Prop where
  run : ∀ (A : Around) (outer : List Env) (s : Shared) (H : Hp) (args : Args) (us : List Value) (vs : List V) (Q : VK) (E : XK),
    A.guards = some [] → Room k A → Env0 P w K mg base A outer s H → BindsTo s fd args (ps.zip us) → Vals vs us → sp vs H Q E →
    codeAny (model P w) A (.call (.ref f) args) (CR CX outer P w H s Q E) s
theorem Fun.okG {P : Program} {w : World} {K : PySem.W.Frag} {mg : PySem.Str → Option Value} {base : Heap} {x qual : PySem.Str} {st : Stmt} {f : Addr} {fd : FuncData} {N ps : List PySem.Str} {k : Nat} {sp : Sp}
    (F : Fun K x qual st f fd) (S : FnScope N ps (defScope st)) (len : ∀ vs H Q E, sp vs H Q E → vs.length = ps.length)
    (hbody : ∀ (cdv : Value) (A : Around) (outer : List Env) (s : Shared) (H : Hp) (vs : List V) (Q : VK) (E : XK),
      (A.deeper (envOfC qual (defScope st) s.heap.objs.size f cdv)).guards = some [] → Room k (A.deeper (envOfC qual (defScope st) s.heap.objs.size f cdv)) → sp vs H Q E →
      ∃ t, PSs (cxOf CX0 P w K mg base N qual (defScope st) f cdv A outer s H E).nox (defBody st) t ∧ t { nx := fun _ H' => Q .non H', rt := Q } (L2.start N vs) H) :
    FnOkG P w K mg base CX0 (k + 1) f fd ps sp := by
  obtain ⟨oc, od, kV, doc, pm, an, cdv, ct, osl, rfl, lk, hcd⟩ := F.ex
  refine ⟨fun A outer s H args us vs Q E hg hr e0 hb r hsp => ?_⟩
  have hl := len vs H Q E hsp
  have KX := PySem.W.Frag.In.keeps e0.mod.kin fun b o e => (e0.bs b o e).1
  have lim := Heap.NoLimit.keeps e0.mod.nolimit fun b o e => (e0.bs b o e).1
  refine codeAny_call_function hr.depth (KX f _ lk) rfl S.co S.gen rfl (PySem.W.codeRec_of KX hcd) (hb _ _ _ _ (wpAny_newFunctionEnv_cells S.kind (fun y hy => ?_) fun env he s1 i => ?_))
  · obtain ⟨n, v⟩ := y
    rcases S.par n (List.of_mem_zip hy).1 with q | q
    · exact .inl q
    · exact .inr ⟨q, PySem.W.cellsFrom_some _ _ [] (.inl q)⟩
  · subst he
    refine ⟨lim.keeps i.toInCall.keep, codeAny_func ?_⟩
    obtain ⟨t, ht, hq⟩ := hbody cdv A outer s H vs Q E hg (hr.deeper _) hsp
    have I : L2.Inv (cxOf CX0 P w K mg base N qual (defScope st) f cdv A outer s H E) [] (L2.start N vs) H s1 := inv_start S hr.hd e0 hl r i
    refine wpAny_mono ((PSs.nox ht).run [] s1 (L2.start N vs) H _ I hq) (fun fl s' hs => ?_) fun e s' hs => hs
    have fin : ∀ {σ' : L2.St} {H' : Hp} {v : V} {u : Value}, L2.Inv (cxOf CX0 P w K mg base N qual (defScope st) f cdv A outer s H E) [] σ' H' s' → RelV v u → Q v H' → CE outer P w H s Q u s' :=
      fun J rv q => ⟨_, _, J.os, J.bare, J.base, J.hok, rv, q⟩
    cases fl with
    | next =>
      obtain ⟨σ', H', J, q⟩ := hs
      exact fin (v := .non) (u := .none) J rfl q
    | brk =>
      obtain ⟨_, _, _, q⟩ := hs
      exact q.elim
    | cont =>
      obtain ⟨_, _, _, q⟩ := hs
      exact q.elim
    | ret u =>
      obtain ⟨v, σ', H', J, rv, q⟩ := hs
      exact fin J rv q
/-- the law's own call -/
theorem law_callG {P : Program} {w : World} {K : PySem.W.Frag} {mg mb : PySem.Str → Option Value} {k : Nat} {fa a : Addr} {fd : FuncData} {x : PySem.Str} {sp : Sp} {s₁ : Shared} {vs : List Value} {ns : List Int}
    (KX : K.In s₁.heap) (hns : s₁.heap.Ns mainGlobals mg) (hb : s₁.heap.Ns builtinsNs mb) (hbb : ∀ x : PySem.Str, x ≠ Str.ofString "__name__" → mb x = bootBuiltins x) (hlim : s₁.heap.NoLimit) (hg : s₁.gens = #[])
    (ha : s₁.heap.get? a = some { cls := .type "list", data := .seq vs.toArray }) (hi : IntsAre vs ns) (hl : ns.length ≤ sizeLine) (hr : Room k callerA)
    (F : ∀ base : Heap, K.In base → base.Ns mainGlobals mg → FnOkG P w K mg base CX0 k fa fd [x] sp) (hbind : ∀ (s : Shared) (u : Value), BindsTo s fd ⟨[u], []⟩ [(x, u)])
    (hsp : ∀ H, Only H → SqL K H a (ns.map V.int) → sp [.ref a] H (fun v _ => v = .bl true) fun _ _ _ => False) :
    codeAny (model P w) callerA (.call (.ref fa) ⟨[.ref a], []⟩) (fun r s' => r = .ok (.ret (.bool true)) ∧ OldK s₁.heap s'.heap ∧ s'.os = s₁.os ∧ AllBare s'.gens) s₁ := by
  have rv := vals_ints hi
  have lenV := IntsAre.length hi
  have core : ∀ H : Hp, Only H → SqL K H a (ns.map V.int) → HOk P w H s₁.heap → (∀ b, H b ≠ none → b = a) → (H a ≠ none → List.lookup a K = none) →
      codeAny (model P w) callerA (.call (.ref fa) ⟨[.ref a], []⟩) (fun r s' => r = .ok (.ret (.bool true)) ∧ OldK s₁.heap s'.heap ∧ s'.os = s₁.os ∧ AllBare s'.gens) s₁ := by
    intro H hO hS hok hA hK
    have noA : ∀ {b : Addr} {o : Obj}, s₁.heap.get? b = some o → (∀ vs n, o.data ≠ .seq vs n) → H b = none := by
      intro b o e d
      cases hb' : H b with
      | none => rfl
      | some u =>
        have := hA b (by rw [hb']; exact fun z => nomatch z)
        subst this
        rw [ha] at e
        cases e
        exact absurd rfl (d _ _)
    have base_of : ∀ {b : Addr} {o : Obj}, s₁.heap.get? b = some o → H b = none → (hidT s₁.heap H).get? b = some o := fun e n => hidT_get e n
    have nsK : ∀ {b : Addr} {m : PySem.Str → Option Value}, s₁.heap.Ns b m → (hidT s₁.heap H).Ns b m := by
      rintro b m ⟨o, es, ep, e, d, r⟩
      exact ⟨o, es, ep, base_of e (noA e (by intro vs n; rw [d]; exact fun z => nomatch z)), d, r⟩
    have hKb : K.In (hidT s₁.heap H) := by
      intro b o e
      refine base_of (KX b o e) ?_
      cases hb' : H b with
      | none => rfl
      | some u =>
        have := hA b (by rw [hb']; exact fun z => nomatch z)
        subst this
        rw [hK (by rw [hb']; exact fun z => nomatch z)] at e
        cases e
    have hM : Mod K mg (hidT s₁.heap H) := by
      obtain ⟨mc, h1, h2⟩ := hlim
      exact ⟨hKb, nsK hns, ⟨mb, nsK hb, hbb⟩, ⟨mc, nsK h1, h2⟩⟩
    have e0 : Env0 P w K mg (hidT s₁.heap H) callerA [] s₁ H :=
      { frames := rfl, mod := hM, bs := fun b o e => of_hidT e, bsz := Nat.le_of_eq (hidT_size s₁.heap H), funs := trivial, frf := fun b hb => (List.not_mem_nil hb).elim, hok := hok, bare := AllBare.of_eq hg }
    refine codeAny_mono ((F _ hKb (nsK hns)).run callerA [] s₁ H ⟨[.ref a], []⟩ [.ref a] [.ref a] (fun v _ => v = .bl true) (fun _ _ _ => False) rfl hr e0 (hbind s₁ _) (.cons rfl .nil) (hsp H hO hS)) fun r s' h => ?_
    cases r with
    | error e => exact h.elim
    | ok fl =>
      cases fl with
      | next => exact h.elim
      | brk => exact h.elim
      | cont => exact h.elim
      | ret u =>
        obtain ⟨v, H', os, bare, un, hok', r', q⟩ := h
        subst q
        cases r'
        refine ⟨rfl, OldK.of_keep fun b o e => ?_, os, bare⟩
        cases hb' : H b with
        | none => exact un.keep b o e hb' (fun z => List.not_mem_nil z) (fun z => List.not_mem_nil z)
        | some u =>
          rcases hO b with z | ⟨ob, xs, z⟩
          · rw [hb'] at z
            cases z
          · have h1 := un.frzs b _ _ z
            have h2 := hok b _ z
            have h3 := hok' b _ h1
            have h4 := h2.1
            have h5 := h3.1
            rw [e] at h4
            cases h4
            exact h5
  cases hk : List.lookup a K with
  | none =>
    refine core (fun b => if b = a then some (.frz { cls := .type "list", data := .seq vs.toArray } (.lst (ns.map V.int))) else none) (fun b => ?_) (.inl (.inr ⟨_, if_pos rfl⟩)) (fun b u z => ?_) (fun b z => ?_) fun _ => hk
    · by_cases hb : b = a
      · exact .inr ⟨_, _, if_pos hb⟩
      · exact .inl (if_neg hb)
    · by_cases hb : b = a
      · have z' := (if_pos hb).symm.trans z
        cases z'
        subst hb
        exact ⟨ha, by rw [List.length_map]; exact hl, vs, 0, rv, ha⟩
      · have z' := (if_neg hb).symm.trans z
        cases z'
    · by_cases hb : b = a
      · exact hb
      · exact absurd (if_neg hb) z
  | some o =>
    have e := KX a o hk
    rw [ha] at e
    cases e
    refine core (fun _ => none) (fun _ => .inl rfl) (.inr ⟨_, vs.toArray, 0, hk, rfl, rfl, rfl, by rw [List.size_toArray, lenV]; exact hl, rv⟩) (fun b u z => nomatch z) (fun b z => absurd rfl z) fun z => absurd rfl z
theorem walk_ofG {l : PySem.W.OpenLaw} {n k : Nat} {q : Program} {loose : List PySem.Str} {XP : (PySem.Str → Option Value) → Heap → Prop} {YP : World → Heap → Prop} {d : DefRec} {K : Params → PySem.W.Frag} {sp : World → Sp} {x : PySem.Str}
    (hn : l.most = some n) (hn2 : n ≤ sizeLine) (hdf : d.params.defaults = []) (hr : Room k callerA) (hY : ∀ (w : World) (h : Heap), YP w h → (K w.params).In h)
    (F : ∀ (w : World) (mg : PySem.Str → Option Value) (fa : Addr) (h : Heap), (K w.params).In h → h.Ns mainGlobals mg → mg d.name = some (.ref fa) →
      ∃ fd, (∀ (s : Shared) (u : Value), BindsTo s fd ⟨[u], []⟩ [(x, u)]) ∧ ∀ base : Heap, (K w.params).In base → base.Ns mainGlobals mg → FnOkG l.prog w (K w.params) mg base CX0 k fa fd [x] (sp w))
    (hsp : ∀ (w : World) (H : Hp) (a : Addr) (ns : List Int), ns.length ≤ n → Only H → SqL (K w.params) H a (ns.map V.int) → sp w [.ref a] H (fun v _ => v = .bl true) fun _ _ _ => False) :
    PySem.W.WalkO q loose XP YP l.row.toRowW d [] fun f vs => call f vs :=
  Att.attach_call hn hdf fun w s₀ s₁ mg mb fa o pm cd doc a vs ns G Y ho hd hcd hmg hobj hints hlen hg => by
    have KX := hY w s₁.heap Y
    obtain ⟨fd, hb, hF⟩ := F w mg fa s₁.heap KX G.T.g hmg
    exact law_callG KX G.T.g G.T.b G.T.builtins G.T.nolimit hg hobj hints (Nat.le_trans hlen hn2) hr hF hb fun H hO hS => hsp w H a ns hlen hO hS
end SW

namespace SW
open PySem PySem.Spec PyProof.Rows L2
def rLenK (K : PySem.W.Frag) : List V → Hp → VK → Prop := fun xs H Q => ∃ p ys, xs = [.ref p] ∧ (SqL K H p ys ∨ SqT K H p ys) ∧ Q (.int (ys.length : Nat)) H
/-! ### data in lists -/
theorem dpa_snoc {K : PySem.W.Frag} {H : Hp} : ∀ {vs : List V} {ds : List PyData} {v : V} {d : PyData}, DpAll K H vs ds → Dp K H v d → DpAll K H (vs ++ [v]) (ds ++ [d])
  | _, _, _, _, .nil, h => .cons h .nil
  | _, _, _, _, .cons h1 h2, h => .cons h1 (dpa_snoc h2 h)
theorem dpa_len {K : PySem.W.Frag} {H : Hp} : ∀ {vs : List V} {ds : List PyData}, DpAll K H vs ds → vs.length = ds.length
  | _, _, .nil => rfl
  | _, _, .cons _ h => congrArg (· + 1) (dpa_len h)
theorem dpa_get {K : PySem.W.Frag} {H : Hp} : ∀ {vs : List V} {ds : List PyData} {j : Nat} {v : V}, DpAll K H vs ds → vs[j]? = some v → ∃ d, ds[j]? = some d ∧ Dp K H v d
  | _, _, 0, _, .cons h _, e => by
    cases e
    exact ⟨_, rfl, h⟩
  | _, _, j + 1, _, .cons _ h, e => dpa_get (j := j) h e
theorem dpa_get' {K : PySem.W.Frag} {H : Hp} : ∀ {vs : List V} {ds : List PyData} {j : Nat} {d : PyData}, DpAll K H vs ds → ds[j]? = some d → ∃ v, vs[j]? = some v ∧ Dp K H v d
  | _, _, 0, _, .cons h _, e => by
    cases e
    exact ⟨_, rfl, h⟩
  | _, _, j + 1, _, .cons _ h, e => dpa_get' (j := j) h e
theorem dpa_set {K : PySem.W.Frag} {H : Hp} : ∀ {vs : List V} {ds : List PyData} {j : Nat} {v : V} {d : PyData}, DpAll K H vs ds → Dp K H v d → DpAll K H (vs.set j v) (ds.set j d)
  | _, _, _, _, _, .nil, _ => .nil
  | _, _, 0, _, _, .cons _ h, e => .cons e h
  | _, _, j + 1, _, _, .cons h1 h, e => .cons h1 (dpa_set (j := j) h e)
theorem dpa_app {K : PySem.W.Frag} {H : Hp} : ∀ {vs us : List V} {ds es : List PyData}, DpAll K H vs ds → DpAll K H us es → DpAll K H (vs ++ us) (ds ++ es)
  | _, _, _, _, .nil, h => h
  | _, _, _, _, .cons h1 h2, h => .cons h1 (dpa_app h2 h)
theorem dpa_drop {K : PySem.W.Frag} {H : Hp} : ∀ {vs : List V} {ds : List PyData} (n : Nat), DpAll K H vs ds → DpAll K H (vs.drop n) (ds.drop n)
  | _, _, 0, h => h
  | _, _, _ + 1, .nil => .nil
  | _, _, n + 1, .cons _ h => dpa_drop n h
theorem dpa_take {K : PySem.W.Frag} {H : Hp} : ∀ {vs : List V} {ds : List PyData} (n : Nat), DpAll K H vs ds → DpAll K H (vs.take n) (ds.take n)
  | _, _, 0, _ => .nil
  | _, _, _ + 1, .nil => .nil
  | _, _, n + 1, .cons h1 h => .cons h1 (dpa_take n h)
theorem dpa_rev {K : PySem.W.Frag} {H : Hp} : ∀ {vs : List V} {ds : List PyData}, DpAll K H vs ds → DpAll K H vs.reverse ds.reverse
  | _, _, .nil => .nil
  | _, _, .cons h1 h => by
    rw [List.reverse_cons, List.reverse_cons]
    exact dpa_snoc (dpa_rev h) h1
theorem dpa_ints {K : PySem.W.Frag} {H : Hp} : ∀ ns : List Int, DpAll K H (ns.map V.int) (ns.map PyData.int)
  | [] => .nil
  | x :: r => .cons (.int x) (dpa_ints r)
theorem dpa_ints' {K : PySem.W.Frag} {H : Hp} : ∀ {vs : List V} {ns : List Int}, DpAll K H vs (ns.map PyData.int) → vs = ns.map V.int
  | _, [], .nil => rfl
  | _, _ :: _, .cons (.int x) h => congrArg (V.int x :: ·) (dpa_ints' h)
theorem dpa_bls' {K : PySem.W.Frag} {H : Hp} : ∀ {vs : List V} {ns : List Bool}, DpAll K H vs (ns.map PyData.bool) → vs = ns.map V.bl
  | _, [], .nil => rfl
  | _, _ :: _, .cons (.bl x) h => congrArg (V.bl x :: ·) (dpa_bls' h)
theorem int_dec (x y : Int) : decide (V.int x = V.int y) = decide (x = y) := decide_eq_decide.mpr ⟨fun h => by injection h, fun h => by rw [h]⟩
/-! ### parts of lists -/
theorem cutv_from (xs : List V) (n : Nat) : cutV xs (some (n : Int)) none = xs.drop n := by
  unfold cutV
  rw [HT.sIx_nat, HT.sIx_none]
  by_cases h : n ≤ xs.length
  · rw [Nat.min_eq_left h]
    exact List.take_of_length_le (by rw [List.length_drop]; exact Nat.le_refl _)
  · rw [Nat.min_eq_right (by omega), List.drop_eq_nil_of_le (Nat.le_refl _), List.drop_eq_nil_of_le (by omega)]
    exact List.take_nil
theorem cutv_first (xs : List V) (n : Nat) : cutV xs none (some (n : Int)) = xs.take n := by
  unfold cutV
  rw [HT.sIx_nat, HT.sIx_none, List.drop_zero, Nat.sub_zero]
  by_cases h : n ≤ xs.length
  · rw [Nat.min_eq_left h]
  · rw [Nat.min_eq_right (by omega), List.take_of_length_le (Nat.le_refl _), List.take_of_length_le (by omega)]
theorem cutv_part (xs : List V) (n m : Nat) (h : n ≤ m) : cutV xs (some (n : Int)) (some (m : Int)) = (xs.drop n).take (m - n) := by
  unfold cutV
  rw [HT.sIx_nat, HT.sIx_nat]
  by_cases h1 : n ≤ xs.length
  · rw [Nat.min_eq_left h1]
    by_cases h2 : m ≤ xs.length
    · rw [Nat.min_eq_left h2]
    · rw [Nat.min_eq_right (by omega), List.take_of_length_le (by rw [List.length_drop]; exact Nat.le_refl _), List.take_of_length_le (by rw [List.length_drop]; omega)]
  · rw [List.drop_eq_nil_of_le (show xs.length ≤ min n xs.length by omega), List.drop_eq_nil_of_le (show xs.length ≤ n by omega), List.take_nil, List.take_nil]
theorem at_neg1 {xs : List V} {v : V} (h : xs[xs.length - 1]? = some v) : atI xs (-1) = some v := by
  have hl : xs ≠ [] := fun e => by
    rw [e] at h
    cases h
  have e := List.dropLast_concat_getLast hl
  rw [← List.getLast?_eq_getElem?, List.getLast?_eq_getLast hl] at h
  cases h
  conv => lhs; rw [← e]
  exact atI_last _ _
/-! ### a comprehension over any walk, whose items are data without lists -/
theorem lc_data {K : PySem.W.Frag} {J : It} {n : Nat} {G : Hp → Prop} {Y : Nat → Hp → V → Hp → Prop} (w : Walk J n G Y) {g : TG} {te : TE} {vs : List Nat} {σ : L2.St} {H1 : Hp} {D : Addr} {Qd : Hp → Prop} (hD : H1 D = none) (f : Nat → PyData) (hn : n ≤ 100000)
    (hf : ∀ i, i < n → noL (f i) = true) (hG : ∀ H, Same H1 H → G H)
    (hs : ∀ (i : Nat) (x : V) (H H' : Hp) (Q : V → Hp → Prop), i < n → Same H1 H → Y i H x H' → (∀ y H4, Same H H4 → Dp K H4 y (f i) → Q y H4) → g x (wipe σ vs) H' fun σ2 H2 => wipe σ2 vs = wipe σ vs ∧ te σ2 H2 Q)
    (hd : ∀ H ys, Same H1 H → H D = some (.lst ys) → DpAll K H ys ((List.range n).map f) → Qd H) :
    ∃ W : Nat → Nat → Hp → Prop, (∃ m, W 0 m (upd H1 D (.lst []))) ∧ ∀ i m H, W i m H → (J.stop i H ∧ Qd H) ∨ (J.go i H ∧ ∃ Nx : Hp → Prop, (∀ H', Nx H' → ∃ m', m' < m ∧ W (i + 1) m' H') ∧
      ∀ x H', J.yld i H x H' → g x (wipe σ vs) H' fun σ2 H2 => wipe σ2 vs = wipe σ vs ∧ tYes σ2 H2 fun b H3 => if b = true then te σ2 H3 fun y H4 => ∃ acc, H4 D = some (.lst acc) ∧ acc.length < sizeLine ∧ Nx (upd H4 D (.lst (acc ++ [y]))) else Nx H3) := by
  let Pv : Nat → Hp → Prop := fun i H => Same H1 H ∧ ∃ ys, H D = some (.lst ys) ∧ DpAll K H ys ((List.range i).map f)
  refine ⟨fun i m H => m = n - i ∧ i ≤ n ∧ Pv i H, ⟨n, rfl, Nat.zero_le _, same_new hD, [], upd_same, .nil⟩, ?_⟩
  rintro i m H ⟨rfl, hi, s1, ys, e, ha⟩
  by_cases hlt : i < n
  · refine .inr ⟨w.goes i H hlt (hG H s1), Pv (i + 1), fun H' p => ⟨n - (i + 1), by omega, rfl, hlt, p⟩, fun x H' y => ?_⟩
    refine hs i x H H' _ hlt s1 (w.yields i H x H' hlt (hG H s1) y) fun y H4 s4 h4 => ?_
    have e4 : H4 D = some (.lst ys) := s4 _ _ e
    refine ⟨ys, e4, ?_, same_mut (s1.trans s4) hD, ys ++ [y], upd_same, ?_⟩
    · rw [dpa_len ha, List.length_map, List.length_range]
      exact small_sz5 (by omega)
    · rw [List.range_succ, List.map_append]
      have b4 : But D H4 (upd H4 D (.lst (ys ++ [y]))) := fun c o hc eo => (upd_ne hc).trans eo
      refine dpa_snoc (dpa_but e4 b4 _ _ ?_ (dpa_same s4 _ _ ha)) (dp_but e4 b4 _ _ (hf i hlt) h4)
      clear h4 e4 s4 ha
      generalize hr : List.range i = l
      have : ∀ j, j ∈ l → j < n := fun j hj => by
        rw [← hr] at hj
        have := List.mem_range.mp hj
        omega
      clear hr
      induction l with
      | nil => rfl
      | cons a r ih =>
        show (noL (f a) && noLs (r.map f)) = true
        rw [hf a (this a List.mem_cons_self), ih fun j hj => this j (List.mem_cons_of_mem _ hj)]
        rfl
  · have : i = n := by omega
    subst this
    exact .inl ⟨w.stops H (hG H s1), hd H ys s1 e ha⟩
theorem range_map {α β : Type} (xs : List α) (g : α → β) (f : Nat → β) (h : ∀ i x, xs[i]? = some x → f i = g x) : (List.range xs.length).map f = xs.map g := by
  refine List.ext_getElem? fun i => ?_
  rw [List.getElem?_map, List.getElem?_map]
  by_cases hi : i < xs.length
  · rw [List.getElem?_range hi, List.getElem?_eq_getElem hi]
    exact congrArg some (h i _ (List.getElem?_eq_getElem hi))
  · rw [List.getElem?_eq_none (by rw [List.length_range]; omega), List.getElem?_eq_none (by omega)]
    rfl
theorem ints_get {ns : List Int} {j : Nat} {n : Int} (h : ns[j]? = some n) : (ns.map V.int)[j]? = some (.int n) := by
  rw [List.getElem?_map, h]
  rfl
theorem ints_at {ns : List Int} {j : Nat} (h : j < ns.length) : atI (ns.map V.int) (j : Int) = some (.int ns[j]) := atI_nat (ints_get (List.getElem?_eq_getElem h))
end SW

namespace SW
open PySem PySem.Spec PyProof.Rows L2
/-! This text stands for SwTw and SwTg in laws whose program reads no texts (the same names: never both). -/
/-! ### a promise that nobody calls for -/
theorem fn_never {P : Program} {w : World} {K : PySem.W.Frag} {mg : PySem.Str → Option Value} {base : Heap} {k : Nat} {f : Addr} {fd : FuncData} {ps : List PySem.Str} : FnOk P w K mg base CX0 k f fd ps (fun _ _ _ _ => False) :=
  ⟨fun _ _ _ _ h => h.elim, fun _ _ _ _ _ _ _ _ _ _ _ _ _ h => h.elim⟩
theorem fn_or {P : Program} {w : World} {K : PySem.W.Frag} {mg : PySem.Str → Option Value} {base : Heap} {CX : CXT} {k : Nat} {f : Addr} {fd : FuncData} {ps : List PySem.Str} {sp1 sp2 : Sp} (F : FnOk P w K mg base CX k f fd ps sp1) (G : FnOk P w K mg base CX k f fd ps sp2) :
    FnOk P w K mg base CX k f fd ps (fun vs H Q E => sp1 vs H Q E ∨ sp2 vs H Q E) :=
  ⟨fun vs H Q E h => h.elim (F.len vs H Q E) (G.len vs H Q E), fun A outer s H args us vs Q E hr he hb hv h => h.elim (F.run A outer s H args us vs Q E hr he hb hv) (G.run A outer s H args us vs Q E hr he hb hv)⟩
/-! ### data opened -/
theorem dp_str_inv {K : PySem.W.Frag} {H : Hp} {v : V} {x : PySem.Str} (h : Dp K H v (.str x)) : v = .str x := by
  cases h
  rfl
theorem dp_int_inv {K : PySem.W.Frag} {H : Hp} {v : V} {i : Int} (h : Dp K H v (.int i)) : v = .int i := by
  cases h
  rfl
theorem dp_bl_inv {K : PySem.W.Frag} {H : Hp} {v : V} {b : Bool} (h : Dp K H v (.bool b)) : v = .bl b := by
  cases h
  rfl
theorem dp_tup_inv {K : PySem.W.Frag} {H : Hp} {v : V} {ds : List PyData} (h : Dp K H v (.tuple ds)) : ∃ a xs, v = .ref a ∧ SqT K H a xs ∧ DpAll K H xs ds := by
  cases h with
  | tup hs ha => exact ⟨_, _, rfl, hs, ha⟩
theorem dp_inv2 {K : PySem.W.Frag} {H : Hp} {v : V} {d1 d2 : PyData} (h : Dp K H v (.tuple [d1, d2])) : ∃ a v1 v2, v = .ref a ∧ SqT K H a [v1, v2] ∧ Dp K H v1 d1 ∧ Dp K H v2 d2 := by
  obtain ⟨a, xs, e, hs, ha⟩ := dp_tup_inv h
  cases ha with
  | cons h1 ha =>
    cases ha with
    | cons h2 ha =>
      cases ha
      exact ⟨a, _, _, e, hs, h1, h2⟩
theorem dp_inv3 {K : PySem.W.Frag} {H : Hp} {v : V} {d1 d2 d3 : PyData} (h : Dp K H v (.tuple [d1, d2, d3])) : ∃ a v1 v2 v3, v = .ref a ∧ SqT K H a [v1, v2, v3] ∧ Dp K H v1 d1 ∧ Dp K H v2 d2 ∧ Dp K H v3 d3 := by
  obtain ⟨a, xs, e, hs, ha⟩ := dp_tup_inv h
  cases ha with
  | cons h1 ha =>
    cases ha with
    | cons h2 ha =>
      cases ha with
      | cons h3 ha =>
        cases ha
        exact ⟨a, _, _, _, e, hs, h1, h2, h3⟩
theorem dp_inv4 {K : PySem.W.Frag} {H : Hp} {v : V} {d1 d2 d3 d4 : PyData} (h : Dp K H v (.tuple [d1, d2, d3, d4])) : ∃ a v1 v2 v3 v4, v = .ref a ∧ SqT K H a [v1, v2, v3, v4] ∧ Dp K H v1 d1 ∧ Dp K H v2 d2 ∧ Dp K H v3 d3 ∧ Dp K H v4 d4 := by
  obtain ⟨a, xs, e, hs, ha⟩ := dp_tup_inv h
  cases ha with
  | cons h1 ha =>
    cases ha with
    | cons h2 ha =>
      cases ha with
      | cons h3 ha =>
        cases ha with
        | cons h4 ha =>
          cases ha
          exact ⟨a, _, _, _, _, e, hs, h1, h2, h3, h4⟩
theorem int_at {ns : List Int} {r : Int} (h0 : 0 ≤ r) (h1 : r < ns.length) : ∃ z, z ∈ ns ∧ atI (ns.map V.int) r = some (.int z) := by
  obtain ⟨j, rfl⟩ : ∃ j : Nat, r = j := ⟨r.toNat, by omega⟩
  have hj : j < ns.length := by omega
  refine ⟨ns[j], List.getElem_mem hj, atI_nat ?_⟩
  rw [List.getElem?_map, List.getElem?_eq_getElem hj]
  rfl
theorem But.same {h : Addr} {H H1 H2 : Hp} (a : But h H H1) (b : Same H1 H2) : But h H H2 := a.trans (Same.but b)
theorem tup_at {K : PySem.W.Frag} {H : Hp} {xs : List V} {ds : List PyData} {j : Nat} {d : PyData} (ha : DpAll K H xs ds) (e : ds[j]? = some d) : ∃ v, atI xs (j : Int) = some v ∧ Dp K H v d := by
  obtain ⟨v, h1, h2⟩ := dpa_get' ha e
  exact ⟨v, atI_nat h1, h2⟩
end SW

namespace SW
open PySem PySem.Spec PyProof.Rows L2
/-! ### dicts whose keys are tuples within tuples -/
mutual
theorem nest_of {X : Cx} {pins : List (Addr × Obj)} {σ : L2.St} {H : Hp} {s : Shared} (I : Inv X pins σ H s) : ∀ (k : NestedKey) (v : V) (u : Value), Dp X.K H v k.data → RelV v u → NestedIs s.heap k u
  | .none, _, u, h, r => by
    unfold NestedKey.data at h
    cases h
    cases r
    exact .none
  | .num i, _, u, h, r => by
    unfold NestedKey.data at h
    cases h
    obtain ⟨t, rfl⟩ := r
    exact .int i t
  | .text x, _, u, h, r => by
    unfold NestedKey.data at h
    cases h
    obtain ⟨t, rfl⟩ := r
    exact .text x t
  | .tup ks, _, u, h, r => by
    unfold NestedKey.data at h
    cases h with
    | tup hs ha =>
      cases r
      obtain ⟨its, rv, ⟨o, h1, h2, n, h3⟩, _⟩ := I.tuple hs
      exact .tup h1 h2 h3 (nests_of I ks _ _ ha rv)
theorem nests_of {X : Cx} {pins : List (Addr × Obj)} {σ : L2.St} {H : Hp} {s : Shared} (I : Inv X pins σ H s) : ∀ (ks : List NestedKey) (vs : List V) (us : List Value), DpAll X.K H vs (NestedKey.datas ks) → Vals vs us → NestedAll s.heap ks us
  | [], _, us, h, r => by
    unfold NestedKey.datas at h
    cases h
    cases r
    exact .nil
  | k :: ks, _, us, h, r => by
    unfold NestedKey.datas at h
    cases h with
    | cons h1 h2 =>
      cases r with
      | cons r1 r2 => exact .cons (nest_of I k _ _ h1 r1) (nests_of I ks _ _ h2 r2)
end
mutual
theorem noL_nk : ∀ k : NestedKey, noL k.data = true
  | .none => by unfold NestedKey.data; rfl
  | .num _ => by unfold NestedKey.data; rfl
  | .text _ => by unfold NestedKey.data; rfl
  | .tup ks => by
    unfold NestedKey.data
    show noLs (NestedKey.datas ks) = true
    exact noLs_nk ks
theorem noLs_nk : ∀ ks : List NestedKey, noLs (NestedKey.datas ks) = true
  | [] => by unfold NestedKey.datas; rfl
  | k :: ks => by
    unfold NestedKey.datas
    show (noL k.data && noLs (NestedKey.datas ks)) = true
    rw [noL_nk k, noLs_nk ks]
    rfl
end
mutual
theorem dp_tups {K : PySem.W.Frag} {H H' : Hp} (m : ∀ b xs, SqT K H b xs → SqT K H' b xs) : ∀ (d : PyData) (v : V), noL d = true → Dp K H v d → Dp K H' v d
  | .none, _, _, e => by
    cases e
    exact .non
  | .bool b, _, _, e => by
    cases e
    exact .bl b
  | .int i, _, _, e => by
    cases e
    exact .int i
  | .str x, _, _, e => by
    cases e
    exact .str x
  | .list ds, _, n, _ => by
    unfold noL at n
    cases n
  | .tuple ds, _, n, e => by
    cases e with
    | tup hs ha => exact .tup (m _ _ hs) (dpa_tups m ds _ (by unfold noL at n; exact n) ha)
  | .dict _, _, _, e => by cases e
theorem dpa_tups {K : PySem.W.Frag} {H H' : Hp} (m : ∀ b xs, SqT K H b xs → SqT K H' b xs) : ∀ (ds : List PyData) (vs : List V), noLs ds = true → DpAll K H vs ds → DpAll K H' vs ds
  | [], _, _, e => by
    cases e
    exact .nil
  | d :: ds, _, n, e => by
    unfold noLs at n
    rw [Bool.and_eq_true] at n
    cases e with
    | cons h1 h2 => exact .cons (dp_tups m d _ n.1 h1) (dpa_tups m ds _ n.2 h2)
end
def ExO (o : Obj) (a : Addr) : HO := .ext fun h => h.get? a = some o
/-- a pair in the dict, and where its key stands -/
def NPair (K : PySem.W.Frag) (H : Hp) (p : NestedKey × V) (q : NestedKey × Addr × Value) : Prop := p.1 = q.1 ∧ Dp K H (.ref q.2.1) p.1.data ∧ p.1.depth ≤ 8 ∧ RelV p.2 q.2.2
/-- at a stands a dict of these pairs -/
structure DN (P : Program) (w : World) (K : PySem.W.Frag) (H : Hp) (a : Addr) (kvs : List (NestedKey × V)) : Prop where
  sm : (a == sysModules) = false
  ln : kvs.length ≤ sizeLine
  ob : ∃ (o : Obj) (es : Array DictEntry) (ep : Nat) (xs : List (NestedKey × Addr × Value)), H a = some (ExO o a) ∧ o.ExactDict ∧ o.data = .dict es ep ∧ es.toList = xs.map (entryOfKey (nestedKind P w)) ∧ (xs.map (·.1)).Nodup ∧ Paired (NPair K H) kvs xs
theorem npair_mono {K : PySem.W.Frag} {H H' : Hp} (m : ∀ (d : PyData) (v : V), noL d = true → Dp K H v d → Dp K H' v d) : ∀ {kvs : List (NestedKey × V)} {xs : List (NestedKey × Addr × Value)}, Paired (NPair K H) kvs xs → Paired (NPair K H') kvs xs
  | _, _, .nil => .nil
  | _, _, .cons h t => .cons ⟨h.1, m _ _ (noL_nk _) h.2.1, h.2.2.1, h.2.2.2⟩ (npair_mono m t)
theorem DN.same {P : Program} {w : World} {K : PySem.W.Frag} {H H' : Hp} {a : Addr} {kvs : List (NestedKey × V)} (D : DN P w K H a kvs) (s : Same H H') : DN P w K H' a kvs := by
  obtain ⟨o, es, ep, xs, e, h1, h2, h3, h4, r⟩ := D.ob
  exact ⟨D.sm, D.ln, o, es, ep, xs, s _ _ e, h1, h2, h3, h4, npair_mono (fun d v _ h => dp_same s d v h) r⟩
/-- a list elsewhere has changed -/
theorem DN.but {P : Program} {w : World} {K : PySem.W.Frag} {H H' : Hp} {a h : Addr} {ys : List V} {kvs : List (NestedKey × V)} (D : DN P w K H a kvs) (hl : H h = some (.lst ys)) (s : But h H H') : DN P w K H' a kvs := by
  obtain ⟨o, es, ep, xs, e, h1, h2, h3, h4, r⟩ := D.ob
  refine ⟨D.sm, D.ln, o, es, ep, xs, s _ _ (fun q => ?_) e, h1, h2, h3, h4, npair_mono (fun d v n hd => dp_but hl s d v n hd) r⟩
  rw [q, hl] at e
  cases e
theorem npair_is {X : Cx} {pins : List (Addr × Obj)} {σ : L2.St} {H : Hp} {s : Shared} (I : Inv X pins σ H s) : ∀ {kvs : List (NestedKey × V)} {xs : List (NestedKey × Addr × Value)}, Paired (NPair X.K H) kvs xs → ∀ x, x ∈ xs → (nestedKind X.prog X.w).is s.heap x.1 x.2.1
  | _, _, .nil, _, hx => nomatch hx
  | _, _, .cons h t, x, hx => by
    rcases List.mem_cons.mp hx with rfl | hx
    · obtain ⟨e, hd, hp, _⟩ := h
      rw [e] at hd hp
      exact ⟨nest_of I _ _ _ hd rfl, hp⟩
    · exact npair_is I t x hx
theorem dn_of {X : Cx} {pins : List (Addr × Obj)} {σ : L2.St} {H : Hp} {s : Shared} {a : Addr} {kvs : List (NestedKey × V)} (I : Inv X pins σ H s) (D : DN X.prog X.w X.K H a kvs) : ∃ xs, Paired (NPair X.K H) kvs xs ∧ s.heap.DictOfH (nestedKind X.prog X.w) a xs := by
  obtain ⟨o, es, ep, xs, e, h1, h2, h3, h4, r⟩ := D.ob
  obtain ⟨g, _, _⟩ := (show ObjOk X.prog X.w H s.heap a (ExO o a) from I.hok a _ e)
  exact ⟨xs, r, o, es, ep, g, h1, h2, h3, npair_is I r, h4⟩
theorem npair_val {K : PySem.W.Frag} {H : Hp} (k : NestedKey) : ∀ {kvs : List (NestedKey × V)} {xs : List (NestedKey × Addr × Value)}, Paired (NPair K H) kvs xs → RelO (valV kvs k) ((atKey xs k).map (·.2))
  | _, _, .nil => trivial
  | p :: ps, q :: qs, .cons h t => by
    by_cases e : p.1 = k
    · have b : atKey (q :: qs) k = some q.2 := by simp [atKey, List.find?_cons, h.1.symm.trans e]
      rw [valV_pos e, b]
      exact h.2.2.2
    · have e2 : ¬ q.1 = k := fun z => e (h.1.trans z)
      have b : atKey (q :: qs) k = atKey qs k := by simp [atKey, List.find?_cons, e2]
      rw [valV_neg e, b]
      exact npair_val k t
theorem npair_put {K : PySem.W.Frag} {H : Hp} {k : NestedKey} {b : Addr} {y : V} {u : Value} (hd : Dp K H (.ref b) k.data) (hp : k.depth ≤ 8) (ry : RelV y u) {kvs : List (NestedKey × V)} {xs : List (NestedKey × Addr × Value)} (r : Paired (NPair K H) kvs xs) : Paired (NPair K H) (putK kvs k y) (storedH xs k b u) := by
  have e : (kvs.any fun kv => decide (kv.1 = k)) = (atKey xs k).isSome := by
    rw [valV_any, (npair_val k r).isSome_eq, Option.isSome_map]
  unfold putK storedH
  rw [e]
  by_cases hq : (atKey xs k).isSome = true
  · rw [if_pos hq, if_pos hq]
    clear e hq
    induction r with
    | nil => exact .nil
    | @cons p q ps qs h t ih =>
      refine .cons ?_ ih
      obtain ⟨h1, h2, h3, h4⟩ := h
      show NPair K H (if p.1 = k then (p.1, y) else p) (if q.1 = k then (q.1, q.2.1, u) else q)
      by_cases e : p.1 = k
      · rw [if_pos e, if_pos (h1.symm.trans e)]
        exact ⟨h1, h2, h3, ry⟩
      · rw [if_neg e, if_neg (fun z => e (h1.trans z))]
        exact ⟨h1, h2, h3, h4⟩
  · rw [if_neg hq, if_neg hq]
    clear e hq
    induction r with
    | nil => exact .cons ⟨rfl, hd, hp, ry⟩ .nil
    | cons h t ih => exact .cons h ih
theorem paired_len {α β : Type} {R : α → β → Prop} : ∀ {xs : List α} {ys : List β}, Paired R xs ys → xs.length = ys.length
  | _, _, .nil => rfl
  | _, _, .cons _ t => congrArg Nat.succ (paired_len t)
theorem putN_len (c : List (NestedKey × V)) (k : NestedKey) (x : V) : (putK c k x).length ≤ c.length + 1 := by
  unfold putK
  split
  · rw [List.length_map]
    omega
  · rw [List.length_append]
    exact Nat.le_refl _
theorem dp_ext {K : PySem.W.Frag} {H : Hp} {a : Addr} {o : Obj} {u : HO} (e : H a = some (ExO o a)) (d : PyData) (v : V) (n : noL d = true) (h : Dp K H v d) : Dp K (upd H a u) v d :=
  dp_tups (fun b xs hs => by
    have ne : ∀ {z : HO}, H b = some z → z ≠ ExO o a → b ≠ a := fun h1 h2 q => by
      rw [q, e] at h1
      exact h2 (Option.some.inj h1).symm
    rcases hs with (hs | ⟨p, hs⟩) | hs
    · exact .inl (.inl ((upd_ne (ne hs (fun q => nomatch q))).trans hs))
    · exact .inl (.inr ⟨p, (upd_ne (ne hs (fun q => nomatch q))).trans hs⟩)
    · exact .inr hs) d v n h
theorem nk_is {X : Cx} {pins : List (Addr × Obj)} {σ : L2.St} {H : Hp} {s : Shared} (I : Inv X pins σ H s) {k : NestedKey} {b : Addr} (hd : Dp X.K H (.ref b) k.data) (hp : k.depth ≤ 8) : (nestedKind X.prog X.w).is s.heap k b := ⟨nest_of I _ _ _ hd rfl, hp⟩
theorem nk_room1 {X : Cx} (hu : X.A.units + 65 < cLine) : (nestedKind X.prog X.w).room X.A.in1 := by
  show X.A.units + 1 + 8 < cLine
  omega
theorem nk_room {X : Cx} (hu : X.A.units + 65 < cLine) : (nestedKind X.prog X.w).room X.A := by
  show X.A.units + 8 < cLine
  omega
section
variable {X : Cx}
/-- d[k], there -/
def rIxN (P : Program) (w : World) (K : PySem.W.Frag) : R2 := fun x y H Q => ∃ (a b : Addr) (kvs : List (NestedKey × V)) (k : NestedKey) (v : V), x = .ref a ∧ y = .ref b ∧ DN P w K H a kvs ∧ Dp K H (.ref b) k.data ∧ k.depth ≤ 8 ∧ valV kvs k = some v ∧ Q v H
theorem ix_nest (hu : X.A.units + 65 < cLine) : IxR X (rIxN X.prog X.w X.K) := by
  intro value slice pins s σ H x y v u Q I rx ry h hs
  obtain ⟨a, b, kvs, k, r, rfl, rfl, D, hd, hp, hv, q⟩ := h
  cases rx
  cases ry
  obtain ⟨xs, rel, dd⟩ := dn_of I D
  have rv := npair_val k rel
  rw [hv] at rv
  obtain ⟨w', hw, rw'⟩ := RelO.some_of rv
  obtain ⟨p, hp1, hp2⟩ := Option.map_eq_some_iff.mp hw
  refine tail_any dd.typeIs slot_dict_getitem.lookup (wpAny_getItem_heap (nk_room1 hu) (nk_is I hd hp) dd hp1 ?_) hs
  rw [hp2]
  exact ⟨r, H, I.tok _, rw', q⟩
/-- k not in d -/
def rNotN (P : Program) (w : World) (K : PySem.W.Frag) : R2 := fun x y H Q => ∃ (b a : Addr) (kvs : List (NestedKey × V)) (k : NestedKey), x = .ref b ∧ y = .ref a ∧ DN P w K H a kvs ∧ Dp K H (.ref b) k.data ∧ k.depth ≤ 8 ∧ Q (.bl (!(valV kvs k).isSome)) H
theorem op_notN' (hu : X.A.units + 65 < cLine) : OpR X (compareOp .NotIn) (rNotN X.prog X.w X.K) := by
  intro pins s σ H x y v u Q I rx ry h
  obtain ⟨b, a, kvs, k, rfl, rfl, D, hd, hp, q⟩ := h
  cases rx
  cases ry
  obtain ⟨xs, rel, dd⟩ := dn_of I D
  refine wpAny_notIn_heap (nk_room1 hu) (nk_is I hd hp) D.sm dd ?_
  have e := (npair_val k rel).isSome_eq
  rw [Option.isSome_map] at e
  rw [← e]
  exact ⟨.bl _, H, I.tok _, rfl, q⟩
theorem dn_put {pins : List (Addr × Obj)} {σ : L2.St} {H : Hp} {s : Shared} {a b : Addr} {kvs : List (NestedKey × V)} {xs : List (NestedKey × Addr × Value)} {k : NestedKey} {y : V} {u : Value} {h' : Heap} {tk : Nat} (I : Inv X pins σ H s) (D : DN X.prog X.w X.K H a kvs) (rel : Paired (NPair X.K H) kvs xs)
    (hd : Dp X.K H (.ref b) k.data) (hp : k.depth ≤ 8) (ry : RelV y u) (hz : kvs.length < sizeLine) (dd : h'.DictOfH (nestedKind X.prog X.w) a (storedH xs k b u)) (sb : Heap.SameBut a s.heap h') :
    ∃ o', Inv X pins σ (upd H a (ExO o' a)) { s with heap := h', toks := tk } ∧ DN X.prog X.w X.K (upd H a (ExO o' a)) a (putK kvs k y) := by
  obtain ⟨o, es, ep, xs0, e, _⟩ := D.ob
  obtain ⟨o', es', ep', g1, g2, g3, g4, _, g5⟩ := dd
  have mv : ∀ (d : PyData) (v : V), noL d = true → Dp X.K H v d → Dp X.K (upd H a (ExO o' a)) v d := fun d v n hv => dp_ext e d v n hv
  refine ⟨o', d_write I (by rw [e]; exact True.intro) sb ⟨o', g1⟩ ⟨g1, ⟨o', g1⟩, fun h1 h2 k1 k2 => k2 _ k1⟩, D.sm, ?_, o', es', ep', _, upd_same, g2, g3, g4, g5, npair_mono mv (npair_put hd hp ry rel)⟩
  have := putN_len kvs k y
  omega
/-- d[k] = y -/
def rSetN (P : Program) (w : World) (K : PySem.W.Frag) : TSet := fun o i v H Q => ∃ (a b : Addr) (kvs : List (NestedKey × V)) (k : NestedKey), o = .ref a ∧ i = .ref b ∧ DN P w K H a kvs ∧ Dp K H (.ref b) k.data ∧ k.depth ≤ 8 ∧ kvs.length < sizeLine ∧
  ∀ o', DN P w K (upd H a (ExO o' a)) a (putK kvs k v) → Q (upd H a (ExO o' a))
theorem set_nest (hu : X.A.units + 65 < cLine) : PSet X (rSetN X.prog X.w X.K) := by
  intro pins s σ H o i v ov iv u Q I ro ri rv h
  obtain ⟨a, b, kvs, k, rfl, rfl, D, hd, hp, hz, q⟩ := h
  cases ro
  cases ri
  obtain ⟨xs, rel, dd⟩ := dn_of I D
  refine wpAny_setItem_heap (hsz := by rw [← paired_len rel]; omega) (nk_room1 hu) (nk_is I hd hp) dd fun h' dd' sb => ?_
  obtain ⟨o', I', D'⟩ := dn_put I D rel hd hp rv hz dd' sb
  exact ⟨_, I', q o' D'⟩
/-- d[k] = y, in a comprehension -/
theorem dn_comp {pins : List (Addr × Obj)} {σ : L2.St} {H : Hp} {s : Shared} {E : Value → Shared → Prop} {a b : Addr} {kvs : List (NestedKey × V)} {k : NestedKey} {y : V} {u : Value} {Q : Unit → Shared → Prop} (hu : X.A.units + 65 < cLine) (I : Inv X pins σ H s) (D : DN X.prog X.w X.K H a kvs) (hd : Dp X.K H (.ref b) k.data) (hp : k.depth ≤ 8) (rv : RelV y u) (hz : kvs.length < sizeLine)
    (q : ∀ o' s', DN X.prog X.w X.K (upd H a (ExO o' a)) a (putK kvs k y) → Inv X pins σ (upd H a (ExO o' a)) s' → Q () s') : wpAny (model X.prog X.w) X.A (dictSet a (.ref b) u) Q E s := by
  obtain ⟨xs, rel, dd⟩ := dn_of I D
  refine wpAny_dictSet_heap (hsz := by rw [← paired_len rel]; omega) (nk_room hu) (nk_is I hd hp) dd fun h' dd' sb => ?_
  obtain ⟨o', I', D'⟩ := dn_put I D rel hd hp rv hz dd' sb
  exact q o' _ D' I'
end
end SW

namespace SW
open PySem PySem.Spec PyProof.Rows L2
/-! ### {(k, l): v for .. in ..}, keys tuples within tuples -/
/-- what a turn's pair asks, when it is stored -/
def StN (P : Program) (w : World) (K : PySem.W.Frag) (D : Addr) (y z : V) (H : Hp) (Nx : Hp → Prop) : Prop :=
  ∃ (kvs : List (NestedKey × V)) (k : NestedKey) (b : Addr), y = .ref b ∧ DN P w K H D kvs ∧ Dp K H (.ref b) k.data ∧ k.depth ≤ 8 ∧ kvs.length < sizeLine ∧ ∀ o', DN P w K (upd H D (ExO o' D)) D (putK kvs k z) → Nx (upd H D (ExO o' D))
/-- one turn of the walk -/
def TnN (P : Program) (w : World) (K : PySem.W.Frag) (g : TG) (tt : TT) (tk tv : TE) (σ : L2.St) (vs : List Nat) (D : Addr) (Nx : Hp → Prop) (x : V) (H : Hp) : Prop :=
  g x (wipe σ vs) H fun σ2 H2 => wipe σ2 vs = wipe σ vs ∧ tt σ2 H2 fun b H3 => if b = true then tk σ2 H3 fun y H4 => tv σ2 H4 fun z H5 => StN P w K D y z H5 Nx else Nx H3
def tDcN (P : Program) (w : World) (K : PySem.W.Frag) (wi : TI) (g : TG) (tt : TT) (tk tv : TE) (vs : List Nat) : TE := fun σ H Q => wi σ H fun J H1 => ∀ D o, H1 D = none → DN P w K (upd H1 D (ExO o D)) D [] →
  ∃ W : Nat → Nat → Hp → Prop, (∃ m, W 0 m (upd H1 D (ExO o D))) ∧ ∀ i m H, W i m H → (J.stop i H ∧ Q (.ref D) H) ∨ (J.go i H ∧ ∃ Nx : Hp → Prop, (∀ H', Nx H' → ∃ m', m' < m ∧ W (i + 1) m' H') ∧ ∀ x H', J.yld i H x H' → TnN P w K g tt tk tv σ vs D Nx x H')
abbrev eD : Obj := { cls := .type "dict", data := .dict #[] }
theorem dn_empty {P : Program} {w : World} {K : PySem.W.Frag} {H : Hp} (D : Addr) (hs : (D == sysModules) = false) : DN P w K (upd H D (ExO eD D)) D [] :=
  ⟨hs, Nat.zero_le _, eD, #[], 0, [], upd_same, ⟨rfl, rfl, rfl⟩, rfl, rfl, List.nodup_nil, .nil⟩
section
variable {X : Cx}
theorem dcN_core {pins : List (Addr × Obj)} {s : Shared} {σ : L2.St} {H : Hp} {Q : VK} {kx vx tg iter : Expr} {ifs : List Expr} {scope : Scope} {own : List (PySem.Str × Nat)} {pos pos' : Pos} {wi : TI} {g : TG} {tt : TT} {tk tv : TE} {use : Option (Value → Sem Unit)} {Qf : Value → Shared → Prop} (hu : X.A.units + 65 < cLine) (hc : X.calm = true) (hN : X.N.Nodup) (I : Inv X pins σ H s) (hi : PI X tg iter wi) (bk : BlkOk X.N X.env.scope scope own)
    (hg : ∀ s H C cl fp, PG (X.blk s H scope (compEnvC scope cl C X.env) fp) tg g) (ht : ∀ s H C cl fp, PTs (X.blk s H scope (compEnvC scope cl C X.env) fp) ifs tt)
    (hk : ∀ s H C cl fp, PE (X.blk s H scope (compEnvC scope cl C X.env) fp) kx tk) (hv : ∀ s H C cl fp, PE (X.blk s H scope (compEnvC scope cl C X.env) fp) vx tv) (hs : ∀ x, foldedSetIterable iter X.env x = pure x)
    (h : tDcN X.prog X.w X.K wi g tt tk tv (own.map (·.2)) σ H Q)
    (hRR : ∀ D C s' m H', Inv X pins σ H' s' → Q (.ref D) H' → s'.heap.Ns C m → FpOk X pins H' C → compPost (model X.prog X.w) X.A X.xe use Qf (.ref D) C (.ok .next) s') :
    wpAny (model X.prog X.w) X.A (comprehension (.DictComp kx vx [⟨tg, iter, ifs, 0⟩] scope pos) scope X.env pos' newDict false (eval iter X.env) use) Qf X.xe s := by
  have outer : ∀ y, y ∈ scope.names → y.2 = .free → ∃ c, X.env.cells.lookup y.1 = some c := fun y hy e => (bk.free y hy e).elim (fun k => I.ok.has _ (.inl k)) fun k => I.ok.has _ (.inr k)
  refine wpAny_comprehension_free (use := use) rfl hs (closure_ok outer) bk.kind (fun y hy e => by rw [bk.uniq y hy, e]) ?_
  refine thn (hi.run pins s σ H _ I h) fun _ s1 k1 => thn k1 fun _ s2 k2 => ?_
  obtain ⟨it, fp, tn, J, Ha, rfl, Ia, T, sta, fa, q⟩ := k2
  refine wpAny_newObj_type (newEnv_comp ?_)
  have free : Ha s2.heap.objs.size = none := Ia.hok.fresh (Nat.le_refl _)
  have apart : (s2.heap.objs.size == sysModules) = false := beq_eq_false_iff_ne.mpr (Ne.symm (Nat.ne_of_lt Ia.big))
  -- the empty dict
  obtain ⟨W, ⟨m0, w0⟩, turn⟩ := q s2.heap.objs.size eD free (dn_empty _ apart)
  have grow : ∀ b o, s2.heap.get? b = some o → (s2.heap.push eD).get? b = some o := fun b o e => Heap.get?_push_of_some _ e
  have Ib : Inv X pins σ (upd Ha s2.heap.objs.size (ExO eD s2.heap.objs.size)) { s2 with heap := s2.heap.push eD } :=
    Ia.laid (t' := s2.toks) grow (Nat.le_refl _) ⟨Heap.get?_push_size _ rfl, ⟨eD, Heap.get?_push_size _ rfl⟩, fun _ _ a b => b _ a⟩
  have below : ∀ b, b ∈ fp → b < s2.heap.objs.size := fun b hb => (T.obj _ _ sta b hb).elim fun _ e => Heap.lt_size e.1
  have fb : ∀ b, b ∈ fp → FpOk X pins (upd Ha s2.heap.objs.size (ExO eD s2.heap.objs.size)) b ∧ b < (s2.heap.push eD).objs.size := fun b hb => by
    refine ⟨⟨(upd_ne (Nat.ne_of_lt (below b hb))).trans (fa b hb).1, (fa b hb).2⟩, ?_⟩
    rw [Heap.size_push]
    exact Nat.lt_succ_of_lt (below b hb)
  have stb : tn 0 (s2.heap.push eD) := T.keep _ _ _ sta fun b _ o e => grow b o e
  generalize hD : s2.heap.objs.size = D at *
  generalize hHb : upd Ha D (ExO eD D) = Hb at *
  generalize hsb : ({ s2 with heap := s2.heap.push eD } : Shared) = sb at *
  have hpb : sb.heap = s2.heap.push eD := by rw [← hsb]
  rw [← hpb] at fb stb
  have Ic := block_start Ib bk hN fb
  generalize hcl : cellsFrom (sb.heap.objs.size + 1) scope.names (cloFrom X.env.cells scope.names []) = cl at *
  generalize hsc : ({ sb with heap := pushCells (sb.heap.push eD) scope.names } : Shared) = sc at *
  have stc : tn 0 sc.heap := T.keep _ _ _ stb fun b _ o e => by
    rw [← hsc]
    exact pushCells_keeps _ _ _ _ (Heap.get?_push_of_some _ e)
  show codeAny (model X.prog X.w) X.A (.compStart (.DictComp kx vx [⟨tg, iter, ifs, 0⟩] scope pos) 0 (.ref it) (.ref D) (compEnvC scope cl sb.heap.objs.size X.env)) (compPost (model X.prog X.w) X.A X.xe use Qf (.ref D) sb.heap.objs.size) sc
  have rg := hg sb Hb sb.heap.objs.size cl fp
  have rt := ht sb Hb sb.heap.objs.size cl fp
  have rk := hk sb Hb sb.heap.objs.size cl fp
  have rv := hv sb Hb sb.heap.objs.size cl fp
  have place : (compEnvC scope cl sb.heap.objs.size X.env).locals = sb.heap.objs.size := rfl
  generalize compEnvC scope cl sb.heap.objs.size X.env = env at *
  let Y : Cx := X.blk sb Hb scope env fp
  let wv := wipe σ (own.map (·.2))
  have mine : ∀ {τ : L2.St} {G : Hp} {s' : Shared}, Inv Y [] τ G s' → (∀ b, b ∈ fp → G b = none) → ∀ b, b ∈ fp → FpOk Y [] G b := fun {τ G s'} J1 hn b hb =>
    ⟨hn b hb, (J1.ok.exf b hb).1, J1.ok.exfs b hb, .inl hb, fun x c e => (J1.ok.exf b hb).2 x c e, fun p hp => nomatch (show p ∈ ([] : List (Addr × Obj)) from hp)⟩
  have run : codeAny (model X.prog X.w) X.A (.compLoop (.DictComp kx vx [⟨tg, iter, ifs, 0⟩] scope pos) 0 (.ref it) (.ref D) env) (compPost (model X.prog X.w) X.A X.xe use Qf (.ref D) sb.heap.objs.size) sc := by
    refine compLoop_anyD (fun n s' => ∃ i G, Inv Y [] wv G s' ∧ tn i s'.heap ∧ (∀ b, b ∈ fp → G b = none) ∧ W i n G) (fun n s5 hI => ?_) m0 ⟨0, Hb, Ic, stc, fun b hb => (fb b hb).1.1, w0⟩
    obtain ⟨i, G, I5, st5, n5, w5⟩ := hI
    rcases turn i n G w5 with ⟨stop, ready⟩ | ⟨go, Nx, less, step⟩
    · -- the end
      refine thnF (T.done Y rfl rfl rfl hc i [] s5 wv G (fun _ _ => False) I5 (mine I5 n5) st5 stop) fun r s6 k6 => ?_
      obtain ⟨rfl, I6⟩ := k6
      have here : G sb.heap.objs.size = none := place ▸ I6.free
      have back : Inv X pins σ G s6 := Ib.call' (ch := fp) I6.os I6.base I6.hok I6.bare fun b hb => (fb b hb).1.elim fun _ z => ⟨z.2.2.1, z.1, z.2.2.2.1, z.2.2.2.2⟩
      obtain ⟨m, hm, _⟩ := I6.loc
      have hm : s6.heap.Ns env.locals m := hm
      rw [place] at hm
      exact hRR D sb.heap.objs.size s6 m G back ready hm (Ib.fpOk (Nat.le_refl _) here)
    · -- one more
      refine thnF (T.item Y rfl rfl rfl hc i [] s5 wv G (fun _ _ => False) I5 (mine I5 n5) st5 go) fun r s6 k6 => ?_
      obtain ⟨u, rfl, k6⟩ := k6
      refine thnF k6 fun _ s7 k7 => ?_
      obtain ⟨x, G7, I7, r7, y7, st7, n7⟩ := k7
      have hold : Inv Y ([] ++ pinsAt fp s7.heap) wv G7 s7 := I7.pinned (mine I7 n7) (T.obj _ _ st7)
      refine thnF (rg.run _ s7 wv G7 x u _ hold r7 (step x G7 y7)) fun _ s8 k8 => ?_
      obtain ⟨σ8, G8, I8, wipe8, q8⟩ := k8
      refine thnF (rt.run _ s8 σ8 G8 _ I8 q8) fun ok s9 k9 => ?_
      obtain ⟨G9, I9, q9⟩ := k9
      have next : ∀ {s' : Shared} {G' : Hp}, Inv Y ([] ++ pinsAt fp s7.heap) σ8 G' s' → Nx G' → ∃ m, m < n ∧ ∃ i G', Inv Y [] wv G' s' ∧ tn i s'.heap ∧ (∀ b, b ∈ fp → G' b = none) ∧ W i m G' := fun {s' G'} I' nx => by
        obtain ⟨m', hlt, hw⟩ := less G' nx
        have held : ∀ b, b ∈ fp → ∀ o, s7.heap.get? b = some o → s'.heap.get? b = some o ∧ G' b = none := fun b hb o e =>
          (I'.pin (b, o) (List.mem_append_right _ (List.mem_append_right _ (mem_pinsAt hb e)))).elim fun e1 z => ⟨e1, z.1⟩
        refine ⟨m', hlt, i + 1, G', (I'.unpinned (pins := [])).weak (by
          have e := congrArg List.length wipe8
          rw [wipe_length] at e
          exact e.symm) (fun j v e => ?_), T.keep _ _ _ st7 fun b hb o e => (held b hb o e).1, fun b hb => ?_, hw⟩
        · have e : (wipe σ (own.map (·.2)))[j]? = some (some v) := e
          rw [← wipe8] at e
          exact (wipe_some e).1
        · exact (T.obj _ _ st7 b hb).elim fun o e => (held b hb o e.1).2
      cases ok with
      | false =>
        rw [if_neg Bool.false_ne_true] at q9 ⊢
        exact next I9 q9
      | true =>
        rw [if_pos rfl] at q9 ⊢
        refine thnF (rk.run _ s9 σ8 G9 _ I9 q9) fun kv sd kd => ?_
        obtain ⟨y, Gd, Id, rd, qd⟩ := kd
        refine thnF (rv.run _ sd σ8 Gd _ Id qd) fun vv se ke => ?_
        obtain ⟨z, Ge, Ie, re, kvs, k, bb, rfl, Dn, hdk, hdp, hz, nx⟩ := ke
        cases rd
        exact dn_comp (X := Y) hu Ie Dn hdk hdp re hz fun o' sf D' If => next If (nx o' D')
  exact codeAny_compStart_dict run (T.self X.A 0 _ _ _ stc run)
theorem pe_dcN {kx vx tg iter : Expr} {ifs : List Expr} {scope : Scope} {own : List (PySem.Str × Nat)} {pos : Pos} {wi : TI} {g : TG} {tt : TT} {tk tv : TE} (hu : X.A.units + 65 < cLine) (hc : X.calm = true) (hN : X.N.Nodup) (hi : PI X tg iter wi) (bk : BlkOk X.N X.env.scope scope own)
    (hg : ∀ s H C cl fp, PG (X.blk s H scope (compEnvC scope cl C X.env) fp) tg g) (ht : ∀ s H C cl fp, PTs (X.blk s H scope (compEnvC scope cl C X.env) fp) ifs tt)
    (hk : ∀ s H C cl fp, PE (X.blk s H scope (compEnvC scope cl C X.env) fp) kx tk) (hv : ∀ s H C cl fp, PE (X.blk s H scope (compEnvC scope cl C X.env) fp) vx tv) (hs : ∀ x, foldedSetIterable iter X.env x = pure x := by intro _; rfl) :
    PE X (.DictComp kx vx [⟨tg, iter, ifs, 0⟩] scope pos) (tDcN X.prog X.w X.K wi g tt tk tv (own.map (·.2))) := by
  constructor
  intro pins s σ H Q I h
  rw [arm_eval_DictComp]
  refine dcN_core (use := none) hu hc hN I hi bk hg ht hk hv hs h fun D C s' m H' I' q hn f => ?_
  obtain ⟨f0, f1, f2, f3, f4, f5⟩ := f
  exact ⟨m, hn, fun h'' sb => ⟨.ref D, H', I'.turned (t' := s'.toks) (fun b o hb e => (sb.2 b hb).trans e) f0 f1 f3 f4 f5, rfl, q⟩⟩
/-- name = {..} on one line, the name a local -/
theorem ps_setDcN {i : Nat} {y : PySem.Str} {py : Pos} {kx vx tg iter : Expr} {ifs : List Expr} {scope : Scope} {own : List (PySem.Str × Nat)} {pos spos : Pos} {wi : TI} {g : TG} {tt : TT} {tk tv : TE} (hu : X.A.units + 65 < cLine) (hc : X.calm = true) (hN : X.N.Nodup) (hy : X.N[i]? = some y) (hyl : X.env.scope.names.lookup y = some .local)
    (hsw : swapsWith (.DictComp kx vx [⟨tg, iter, ifs, 0⟩] scope pos) (some (.Name y py)) spos.line X.env = pure true) (hi : PI X tg iter wi) (bk : BlkOk X.N X.env.scope scope own)
    (hg : ∀ s H C cl fp, PG (X.blk s H scope (compEnvC scope cl C X.env) fp) tg g) (ht : ∀ s H C cl fp, PTs (X.blk s H scope (compEnvC scope cl C X.env) fp) ifs tt)
    (hk : ∀ s H C cl fp, PE (X.blk s H scope (compEnvC scope cl C X.env) fp) kx tk) (hv : ∀ s H C cl fp, PE (X.blk s H scope (compEnvC scope cl C X.env) fp) vx tv) (hs : ∀ x, foldedSetIterable iter X.env x = pure x := by intro _; rfl) :
    PS X (.Assign [.Name y py] (.DictComp kx vx [⟨tg, iter, ifs, 0⟩] scope pos) spos) (tAsg (tDcN X.prog X.w X.K wi g tt tk tv (own.map (·.2))) (gName i)) := by
  refine ⟨fun pins s σ H D I h => ?_⟩
  rw [exec_Assign_Name_used _ _ _ _ hsw]
  refine wpAny_bind (wpAny_standAt (wpAny_bind ?_))
  show wpAny _ X.A (do let _ ← comprehension (.DictComp kx vx [⟨tg, iter, ifs, 0⟩] scope pos) scope X.env (firstIterPos [⟨tg, iter, ifs, 0⟩] pos) newDict false (eval iter X.env) (some (assign (.Name y py) X.env))) _ _ s
  have h : tDcN X.prog X.w X.K wi g tt tk tv (own.map (·.2)) σ H (fun x H1 => gName i x σ H1 D.nx) := h
  refine wpAny_bind (thn (dcN_core (Qf := fun _ s' => SP X pins D .next s') hu hc hN I hi bk hg ht hk hv hs h fun L C s' m H' I' q hn f => ?_) fun _ s' hq => wpAny_pure (wpAny_pure hq))
  show wpAny _ _ (assign (.Name y py) X.env (.ref L)) _ _ _
  refine wpAny_assign_Name (store_ok2 (v := V.ref L) I' hN hy (.inl hyl) rfl (fun s2 I2 ⟨a, sb, ha⟩ => ?_) (.inr hyl))
  obtain ⟨f0, f1, f2, f3, f4, f5⟩ := f
  have haC : C ≠ a := by
    rcases ha with z | z
    · rw [z]; exact f1
    · exact fun e => f4 y a z e.symm
  refine ⟨m, hn.sameBut sb haC, fun h3 sb3 => ?_⟩
  exact ⟨_, H', I2.turned (t' := s2.toks) (fun b o hb e => (sb3.2 b hb).trans e) f0 f1 f3 f4 f5, q⟩
theorem swD_true {kx vx : Expr} {gs : List Comprehension} {scope : Scope} {pos py : Pos} {y : PySem.Str} {l : Nat} {env : Env} (hk : env.scope.kind = .function) (hy : env.scope.names.lookup y = some .local) (hl : (py.line == pos.line) = true)
    (ha : (scope.names.any fun (n, k) => n == y && (k == .local || k == .cell)) = false) : swapsWith (.DictComp kx vx gs scope pos) (some (.Name y py)) l env = pure true := by
  have ky : env.kindOf y = some .local := hy
  have hb : env.blockKind = .function := by unfold Env.blockKind; rw [hk]; rfl
  unfold swapsWith
  simp only [hb, ky, ha, Expr.pos, hl]
  rfl
end
theorem dcN_it {P : Program} {w : World} {K : PySem.W.Frag} {J : It} {n : Nat} {G : Hp → Prop} {Y : Nat → Hp → V → Hp → Prop} (wk : Walk J n G Y) {g : TG} {tk tv : TE} {vs : List Nat} {σ : L2.St} {H1 : Hp} {D : Addr} {o : Obj} {Qd : Hp → Prop} (Pv : Nat → Hp → Prop) (h0 : Pv 0 (upd H1 D (ExO o D))) (hG : ∀ i H, i ≤ n → Pv i H → G H)
    (hs : ∀ (i : Nat) (x : V) (H H' : Hp), i < n → Pv i H → Y i H x H' → g x (wipe σ vs) H' fun σ2 H2 => wipe σ2 vs = wipe σ vs ∧ tk σ2 H2 fun y H4 => tv σ2 H4 fun z H5 => StN P w K D y z H5 (Pv (i + 1))) (hd : ∀ H, Pv n H → Qd H) :
    ∃ W : Nat → Nat → Hp → Prop, (∃ m, W 0 m (upd H1 D (ExO o D))) ∧ ∀ i m H, W i m H → (J.stop i H ∧ Qd H) ∨ (J.go i H ∧ ∃ Nx : Hp → Prop, (∀ H', Nx H' → ∃ m', m' < m ∧ W (i + 1) m' H') ∧ ∀ x H', J.yld i H x H' → TnN P w K g tYes tk tv σ vs D Nx x H') := by
  refine ⟨fun i m H => m = n - i ∧ i ≤ n ∧ Pv i H, ⟨n, by simp, Nat.zero_le _, h0⟩, ?_⟩
  rintro i m H ⟨rfl, hi, p⟩
  have q := hG i H hi p
  by_cases hlt : i < n
  · exact .inr ⟨wk.goes i H hlt q, Pv (i + 1), fun H' p' => ⟨n - (i + 1), by omega, rfl, hlt, p'⟩, fun x H' y => hs i x H H' hlt p (wk.yields i H x H' hlt q y)⟩
  · have e : i = n := by omega
    subst e
    exact .inl ⟨wk.stops H q, hd H p⟩
end SW

namespace SW
open PySem PySem.Spec PyProof.Rows L2
/-! ### comprehensions by their values -/
theorem lc_vals {J : It} {n : Nat} {G : Hp → Prop} {Y : Nat → Hp → V → Hp → Prop} (w : Walk J n G Y) {g : TG} {te : TE} {vs : List Nat} {σ : L2.St} {H1 : Hp} {D : Addr} {Qd : Hp → Prop} (hD : H1 D = none) (f : Nat → V) (hn : n ≤ 100000) (hG : ∀ H, Same H1 H → G H)
    (hs : ∀ (i : Nat) (x : V) (H H' : Hp) (Q : V → Hp → Prop), i < n → Same H1 H → Y i H x H' → (∀ H4, Same H H4 → Q (f i) H4) → g x (wipe σ vs) H' fun σ2 H2 => wipe σ2 vs = wipe σ vs ∧ te σ2 H2 Q)
    (hd : ∀ H, Same H1 H → H D = some (.lst ((List.range n).map f)) → Qd H) :
    ∃ W : Nat → Nat → Hp → Prop, (∃ m, W 0 m (upd H1 D (.lst []))) ∧ ∀ i m H, W i m H → (J.stop i H ∧ Qd H) ∨ (J.go i H ∧ ∃ Nx : Hp → Prop, (∀ H', Nx H' → ∃ m', m' < m ∧ W (i + 1) m' H') ∧
      ∀ x H', J.yld i H x H' → g x (wipe σ vs) H' fun σ2 H2 => wipe σ2 vs = wipe σ vs ∧ tYes σ2 H2 fun b H3 => if b = true then te σ2 H3 fun y H4 => ∃ acc, H4 D = some (.lst acc) ∧ acc.length < sizeLine ∧ Nx (upd H4 D (.lst (acc ++ [y]))) else Nx H3) := by
  let Pv : Nat → Hp → Prop := fun i H => Same H1 H ∧ H D = some (.lst ((List.range i).map f))
  refine ⟨fun i m H => m = n - i ∧ i ≤ n ∧ Pv i H, ⟨n, rfl, Nat.zero_le _, same_new hD, upd_same⟩, ?_⟩
  rintro i m H ⟨rfl, hi, s1, e⟩
  by_cases hlt : i < n
  · refine .inr ⟨w.goes i H hlt (hG H s1), Pv (i + 1), fun H' p => ⟨n - (i + 1), by omega, rfl, hlt, p⟩, fun x H' y => ?_⟩
    refine hs i x H H' _ hlt s1 (w.yields i H x H' hlt (hG H s1) y) fun H4 s4 => ?_
    refine ⟨_, s4 _ _ e, ?_, same_mut (s1.trans s4) hD, ?_⟩
    · rw [List.length_map, List.length_range]
      exact small_sz5 (by omega)
    · rw [List.range_succ, List.map_append, upd_same]
      rfl
  · have : i = n := by omega
    subst this
    exact .inl ⟨w.stops H (hG H s1), hd H s1 e⟩
/-- over a range, each item drawn from the hand -/
theorem lc_drawn {α : Type} {K : PySem.W.Frag} {lo : Int} {n : Nat} {h d : Addr} {ds : List Int} {g : TG} {te : TE} {vs : List Nat} {σ : L2.St} {H1 : Hp} {D : Addr} {Qd : Hp → Prop} (enc : α → PyData) (R : α → Prop) (hE : ∀ e, R e → noL (enc e) = true) (hn : n ≤ 1000) (hH : Hand H1 h d ds) (hD : H1 D = none)
    (hs : ∀ (i : Nat) (x : V) (H : Hp) (Q : V → Hp → Prop), i < n → But h H1 H → Hand H h d ds → x = .int (lo + i) → (∀ y e H4, But h H H4 → Hand H4 h d ds → R e → Dp K H4 y (enc e) → Q y H4) → g x (wipe σ vs) H fun σ2 H2 => wipe σ2 vs = wipe σ vs ∧ te σ2 H2 Q)
    (hd : ∀ H ys (es : List α), But h H1 H → Hand H h d ds → H D = some (.lst ys) → D ≠ h → D ≠ d → DpAll K H ys (es.map enc) → es.length = n → (∀ e, e ∈ es → R e) → Qd H) :
    ∃ W : Nat → Nat → Hp → Prop, (∃ m, W 0 m (upd H1 D (.lst []))) ∧ ∀ i m H, W i m H → ((Itr lo n).stop i H ∧ Qd H) ∨ ((Itr lo n).go i H ∧ ∃ Nx : Hp → Prop, (∀ H', Nx H' → ∃ m', m' < m ∧ W (i + 1) m' H') ∧
      ∀ x H', (Itr lo n).yld i H x H' → g x (wipe σ vs) H' fun σ2 H2 => wipe σ2 vs = wipe σ vs ∧ tYes σ2 H2 fun b H3 => if b = true then te σ2 H3 fun y H4 => ∃ acc, H4 D = some (.lst acc) ∧ acc.length < sizeLine ∧ Nx (upd H4 D (.lst (acc ++ [y]))) else Nx H3) := by
  have w : Walk (Itr lo n) n (fun _ => True) (YFn fun i => .int (lo + i)) := walk_range
  have hDh := hand_ne hH hD
  have hDd := hand_ne2 hH hD
  let Pv : Nat → Hp → Prop := fun i H => But h H1 H ∧ Hand H h d ds ∧ ∃ (ys : List V) (es : List α), H D = some (.lst ys) ∧ DpAll K H ys (es.map enc) ∧ es.length = i ∧ ∀ e, e ∈ es → R e
  refine ⟨fun i m H => m = n - i ∧ i ≤ n ∧ Pv i H, ⟨n, rfl, Nat.zero_le _, (But.refl h H1).new hD, hH.upd hDh hDd, [], [], upd_same, .nil, rfl, fun _ h => nomatch h⟩, ?_⟩
  rintro i m H ⟨rfl, hi, b1, hh, ys, es, e, ha, hl, hR⟩
  by_cases hlt : i < n
  · refine .inr ⟨w.goes i H hlt trivial, Pv (i + 1), fun H' p => ⟨n - (i + 1), by omega, rfl, hlt, p⟩, fun x H' y => ?_⟩
    obtain ⟨rfl, hx⟩ := w.yields i H x H' hlt trivial y
    refine hs i x _ _ hlt b1 hh hx fun y e4 H4 b4 hh4 hr4 h4 => ?_
    have e5 := b4 _ _ hDh e
    obtain ⟨k, hk⟩ := hh.at_
    have all : ∀ es : List α, (∀ e, e ∈ es → R e) → noLs (es.map enc) = true := fun es => by
      induction es with
      | nil => exact fun _ => rfl
      | cons a r ih =>
        intro hr
        show (noL (enc a) && noLs (r.map enc)) = true
        rw [hE a (hr a List.mem_cons_self), ih fun e he => hr e (List.mem_cons_of_mem _ he)]
        rfl
    have hbut : But D H4 (upd H4 D (.lst (ys ++ [y]))) := fun b o hne e => (upd_ne hne).trans e
    refine ⟨ys, e5, ?_, (b1.trans b4).new hD, hh4.upd hDh hDd, ys ++ [y], es ++ [e4], upd_same, ?_, by rw [List.length_append, hl]; rfl, fun e he => ?_⟩
    · rw [dpa_len ha, List.length_map]
      exact small_sz5 (by omega)
    · rw [List.map_append]
      exact dpa_snoc (dpa_but e5 hbut _ _ (all es hR) (dpa_but hk b4 _ _ (all es hR) ha)) (dp_but e5 hbut _ _ (hE _ hr4) h4)
    · rcases List.mem_append.mp he with he | he
      · exact hR e he
      · rw [List.mem_singleton.mp he]
        exact hr4
  · have : i = n := by omega
    subst this
    exact .inl ⟨w.stops H trivial, hd H ys es b1 hh e hDh hDd ha hl hR⟩
theorem dp_mem {K : PySem.W.Frag} {H : Hp} {xs : List V} {α : Type} {es : List α} {enc : α → PyData} {j : Nat} (ha : DpAll K H xs (es.map enc)) (hj : j < es.length) : ∃ v, xs[j]? = some v ∧ Dp K H v (enc es[j]) :=
  dpa_get' (j := j) ha (by rw [List.getElem?_map, List.getElem?_eq_getElem hj]; rfl)
theorem range_fn {α β : Type} (xs : List α) (g : α → β) : (List.range xs.length).map (fun i => if h : i < xs.length then some (g xs[i]) else none) = xs.map fun x => some (g x) :=
  range_map xs (fun x => some (g x)) _ fun i x h => by
    obtain ⟨h1, h2⟩ := List.getElem?_eq_some_iff.mp h
    rw [dif_pos h1, h2]
end SW

namespace SW
open PySem PySem.Spec PyProof.Rows L2
abbrev s_l_draws : Stmt := topS 12
theorem sc_l_draws : FnScope ["script", "many", "rests", "cell", "draws", "k", "at", "mixed"] ["script", "many"] (defScope s_l_draws) := ⟨rfl, rfl, rfl, by decide +kernel, rfl, by decide +kernel, by decide +kernel⟩

abbrev s_l_take : Stmt := topS 13
theorem sc_l_take : FnScope ["hand", "many", "at", "draws"] ["hand", "many"] (defScope s_l_take) := ⟨rfl, rfl, rfl, by decide +kernel, rfl, by decide +kernel, by decide +kernel⟩

section
variable {P : Program} {w : World} {K : PySem.W.Frag} {mg : PySem.Str → Option Value} {base : Heap}
def spTake : Sp := fun vs H Q _ => ∃ (h d : Addr) (ds : List Int) (m : Int), vs = [.ref h, .int m] ∧ 0 < m ∧ Hand H h d ds ∧ ∀ r H', 0 ≤ r → r < m → But h H H' → Hand H' h d ds → (∀ b, H b = none → H' b = none) → Q (.int r) H'
theorem ok_l_take (T : TxB mg) (D_l_take : Df K mg "_law_take" s_l_take ["hand", "many"]) : FnOk P w K mg base CX0 1 D_l_take.f D_l_take.fd ["hand", "many"] spTake := by
  refine D_l_take.F.ok sc_l_take (fun vs H Q E h => ?_) (fun cdv A outer s H vs Q E hr h => ?_)
  · obtain ⟨a, d, ds, m, rfl, _⟩ := h
    rfl
  · obtain ⟨a, d, ds, m, rfl, hm, ⟨⟨i, e1⟩, e2, e3⟩, q⟩ := h
    refine ⟨_, (pss_cons (ps_set (i := 2) sc_l_take.nd rfl (.inl rfl) (pe_ix ix_list (pv 0) pe_int (fun _ _ => rfl)))
    (pss_cons (ps_asg (pe_op op_add (pv 2) pe_int) (pg_sub (pv 0) pe_int set_list))
    (pss_cons (ps_set (i := 3) sc_l_take.nd rfl (.inl rfl) (pe_ix ix_list (pv 0) pe_int (fun _ _ => rfl)))
    (pss_cons (ps_if (pt_cmpR op_ge (pv 2) (pe_callB call_len_seq (by rfl) T.n_len PySem.boot_len (pa_cons (pv 3) pa_nil)) (nomark _))
    (pss_one (ps_ret pe_int))
    pss_nil)
    (pss_one (ps_ret (pe_op op_mod (pe_op op_fdiv (pe_callTy call_int1 (by rfl) T.n_int (by decide +kernel) (pa_cons (pe_ix ix_list (pv 3) (pv 2) (fun _ _ => rfl)) pa_nil)) pe_int) (pv 1)))))))), ?_⟩
    -- at = hand[1]
    refine ⟨_, rfl, a, _, _, _, rfl, rfl, SqL.of e1, atI_nat (j := 1) rfl, ?_⟩
    -- hand[1] = at + 1
    refine ⟨_, rfl, _, _, rfl, rfl, _, rfl, a, _, 1, 1, rfl, rfl, e1, rfl, ?_⟩
    have b1 : But a H (upd H a (.lst [.ref d, .int ((i + 1 : Nat) : Int)])) := fun b o n e => by
      rw [upd_ne n]
      exact e
    have e1' : upd H a (.lst [.ref d, .int ((i + 1 : Nat) : Int)]) a = some (.lst [.ref d, .int ((i + 1 : Nat) : Int)]) := upd_same
    have e2' : upd H a (.lst [.ref d, .int ((i + 1 : Nat) : Int)]) d = some (.lst (ds.map V.int)) := b1 _ _ e3 e2
    have fin : ∀ r, 0 ≤ r → r < m → Q (.int r) (upd H a (.lst [.ref d, .int ((i + 1 : Nat) : Int)])) := fun r h1 h2 => q r _ h1 h2 b1 ⟨⟨i + 1, e1'⟩, e2', e3⟩ fun b hb => by
      rw [upd_ne (fun e => by rw [e, e1] at hb; cases hb)]
      exact hb
    refine ⟨_, rfl, a, _, _, _, rfl, rfl, SqL.of e1', atI_nat (j := 0) rfl, ?_⟩
    refine ⟨_, rfl, _, rfl, d, _, rfl, .inl (SqL.of e2'), _, _, rfl, rfl, _, rfl, ite2 (fun e => ?_) (fun e => ?_)⟩
    · exact fin 0 (Int.le_refl 0) hm
    · have e4 := of_decide_eq_false (Bool.eq_false_iff.mpr e)
      rw [List.length_map] at e4
      have hi : i < ds.length := by omega
      have g : (ds.map V.int)[i]? = some (.int ds[i]) := by
        rw [List.getElem?_map, List.getElem?_eq_getElem hi]
        rfl
      refine ⟨_, rfl, _, rfl, d, _, _, _, rfl, rfl, SqL.of e2', atI_nat g, .inl ⟨_, rfl, _, _, rfl, rfl, ⟨by decide, by decide⟩, _, rfl, _, _, rfl, rfl, hm, ?_⟩⟩
      exact fin _ (Int.emod_nonneg _ (by omega)) (Int.emod_lt_of_pos _ hm)
def spDraws (K : PySem.W.Frag) : Sp := fun vs H Q _ => ∃ (a : Addr) (ns : List Int) (m : Nat), vs = [.ref a, .int m] ∧ SqL K H a (ns.map V.int) ∧ ns.length ≤ 1000 ∧ m ≤ 5000 ∧ ∀ p (ds : List Int) H', Same H H' → H p = none → H' p = some (.lst (ds.map V.int)) → Q (.ref p) H'
theorem ok_l_draws (T : TxB mg) (D_l_draws : Df K mg "_law_draws" s_l_draws ["script", "many"]) : FnOk P w K mg base CX0 1 D_l_draws.f D_l_draws.fd ["script", "many"] (spDraws K) := by
  refine D_l_draws.F.ok sc_l_draws (fun vs H Q E h => ?_) (fun cdv A outer s H vs Q E hr h => ?_)
  · obtain ⟨a, ns, m, rfl, _⟩ := h
    rfl
  · obtain ⟨a, ns, m, rfl, hS, hn, hm, q⟩ := h
    refine ⟨_, (pss_cons (ps_setLc (i := 2) (own := [("cell", 3)]) (g := gName 3) (by rfl) sc_l_draws.nd rfl rfl (sw_true rfl rfl rfl (by decide +kernel)) (pi_list (pv 0)) (blkOk_by (own := [("cell", 3)]) (N := ["script", "many", "rests", "cell", "draws", "k", "at", "mixed"]) (sc := defScope s_l_draws) (by decide +kernel)) (fun _ _ _ _ _ => pg_name (i := 3) sc_l_draws.nd rfl (Or.inl rfl)) (fun _ _ _ _ _ => pts_nil) (fun _ _ _ _ _ => (pe_callB call_abs (by rfl) T.n_abs (by decide +kernel) (pa_cons (pe_callTy call_int1 (by rfl) T.n_int (by decide +kernel) (pa_cons (pv 3) pa_nil)) pa_nil))))
    (pss_cons (ps_set (i := 4) sc_l_draws.nd rfl (.inl rfl) (pe_lst pa_nil))
    (pss_cons (ps_for PassesOwn.never rfl (pi_range1 (by rfl) T.n_range (pa_cons (pv 1) pa_nil)) (pg_name (i := 5) sc_l_draws.nd rfl (.inl rfl))
    (pss_cons (ps_set (i := 3) sc_l_draws.nd rfl (.inl rfl) (pv 5))
    (Evl.pss_cut (ps_if (pt_cmpR op_gt (pe_callB call_len_seq (by rfl) T.n_len PySem.boot_len (pa_cons (pv 0) pa_nil)) pe_int (nomark _))
    (pss_cons (ps_set (i := 6) sc_l_draws.nd rfl (.inl rfl) (pe_op op_mod (pv 5) (pe_callB call_len_seq (by rfl) T.n_len PySem.boot_len (pa_cons (pv 0) pa_nil))))
    (pss_cons (ps_set (i := 3) sc_l_draws.nd rfl (.inl rfl) (pe_callTy call_int1 (by rfl) T.n_int (by decide +kernel) (pa_cons (pe_ix ix_list (pv 0) (pv 6) (fun _ _ => rfl)) pa_nil)))
    (pss_one (ps_if (PW.pt (pw_and (pt_cmpR op_ge (pv 3) (pe_op op_pow pe_int pe_int) (nomark _)) (pw_and1 (pt_cmpR op_gt (pe_ix ix_list (pv 2) (pv 6) (fun _ _ => rfl)) pe_int (nomark _)))))
    (pss_cons (ps_expr (pe_bm PySem.F.plainAttrs_list PySem.F.slot_list_append PySem.F.type_list_append mt_append (pv 4) (pa_cons (pe_op op_mod (pe_callTy call_int1 (by rfl) T.n_int (by decide +kernel) (pa_cons (pe_ix ix_list (pv 2) (pv 6) (fun _ _ => rfl)) pa_nil)) pe_int) pa_nil)))
    (pss_cons (ps_asg (pe_op op_fdiv (pe_callTy call_int1 (by rfl) T.n_int (by decide +kernel) (pa_cons (pe_ix ix_list (pv 2) (pv 6) (fun _ _ => rfl)) pa_nil)) pe_int) (pg_sub (pv 2) (pv 6) set_list))
    (pss_one ps_continue)))
    pss_nil))))
    pss_nil)
    (pss_cons (ps_set (i := 7) sc_l_draws.nd rfl (.inl rfl) (pe_op op_mod (pe_callTy call_int1 (by rfl) T.n_int (by decide +kernel) (pa_cons (pe_op op_add (pe_op op_add (pe_op op_mul (pv 3) pe_int) (pe_op op_mul (pv 5) pe_int)) pe_int) pa_nil)) pe_int))
    (pss_cons (ps_set (i := 7) sc_l_draws.nd rfl (.inl rfl) (pe_op op_mod (pe_callTy call_int1 (by rfl) T.n_int (by decide +kernel) (pa_cons (pe_op op_add (pe_op op_fdiv (pe_op op_mul (pv 7) (pv 7)) pe_int) (pv 7)) pa_nil)) pe_int))
    (pss_one (ps_expr (pe_bm PySem.F.plainAttrs_list PySem.F.slot_list_append PySem.F.type_list_append mt_append (pv 4) (pa_cons (pe_op op_mod (pe_callTy call_int1 (by rfl) T.n_int (by decide +kernel) (pa_cons (pe_op op_add (pe_op op_fdiv (pe_op op_mul (pv 7) (pv 7)) pe_int) (pe_op op_mul (pv 5) pe_int)) pa_nil)) pe_int) pa_nil)))))))))
    (pss_one (ps_ret (pv 4)))))), ?_⟩
    -- rests = [..]
    refine ⟨.ref a, rfl, a, rfl, ⟨_, hS⟩, fun D hD => ?_⟩
    refine lc_list (K := K) (a := a) (xs := ns.map V.int) (fun i H1 => Same H H1 ∧ ∃ rs : List Int, rs.length = i ∧ H1 D = some (.lst (rs.map V.int))) ⟨same_new hD, [], rfl, upd_same⟩ (fun i H1 _ h => h.1.seq hS) (fun i x H1 hx hP => ?_) (fun H1 hP => ?_)
    · obtain ⟨s1, rs, hl, e1⟩ := hP
      rw [List.getElem?_map] at hx
      cases hni : ns[i]? with
      | none =>
        rw [hni] at hx
        cases hx
      | some n =>
        rw [hni] at hx
        cases hx
        have hlt : i < ns.length := by
          obtain ⟨h1, _⟩ := List.getElem?_eq_some_iff.mp hni
          exact h1
        refine ⟨rfl, ?_⟩
        refine ⟨_, rfl, .inl ⟨n, rfl, n, rfl, _, e1, ?_, same_mut s1 hD, rs ++ [if n < 0 then -n else n], ?_, ?_⟩⟩
        · rw [List.length_map, hl]
          exact small_sz5 (by omega)
        · rw [List.length_append, hl]
          rfl
        · rw [upd_same, List.map_append]
          rfl
    obtain ⟨s1, rs, hl, e1⟩ := hP
    rw [List.length_map] at hl
    -- draws = []
    refine ⟨Nat.zero_le _, fun p np => ?_⟩
    have npH : H p = none := s1.free np
    have npD : D ≠ p := ne_of_none e1 np
    refine ⟨_, rfl, m, rfl, by omega, by omega, ?_⟩
    refine for_range (lo := 0) (n := (m : Int).toNat) (fun i σ H2 => ∃ (y3 y5 y6 y7 : Option V) (rs ds : List Int), σ = [some (.ref a), some (.int m), some (.ref D), y3, some (.ref p), y5, y6, y7] ∧ rs.length = ns.length ∧ ds.length = i ∧ Same H H2 ∧ H2 D = some (.lst (rs.map V.int)) ∧ H2 p = some (.lst (ds.map V.int)))
      ⟨_, _, _, _, rs, [], rfl, hl, rfl, s1.trans (same_new np), (same_new np) _ _ e1, upd_same⟩ (fun i σ H2 hi hP => ?_) (fun σ H2 hP => ?_)
    · obtain ⟨y3, y5, y6, y7, rs, ds, rfl, hl, hd, s2, e2, e3⟩ := hP
      have hA : SqL K H2 a (ns.map V.int) := s2.seq hS
      -- cell = k
      refine ⟨_, rfl, ?_⟩
      refine ⟨fun σ' H' => ∃ (c : Int) (y6 : Option V), σ' = [some (.ref a), some (.int m), some (.ref D), some (.int c), some (.ref p), some (.int (0 + i)), y6, y7] ∧ H' = H2, ?_, ?_⟩
      · refine ⟨_, rfl, a, _, rfl, .inl hA, _, _, rfl, rfl, _, rfl, ite2 (fun e => ?_) (fun e => ?_)⟩
        · have e4 := of_decide_eq_true e
          rw [List.length_map] at e4
          have hpos : 0 < ns.length := by omega
          refine ⟨_, rfl, _, rfl, a, _, rfl, .inl hA, _, _, rfl, rfl, by rw [List.length_map]; omega, ?_⟩
          rw [List.length_map]
          have hk0 : 0 ≤ ((0 : Int) + i) % (ns.length : Int) := Int.emod_nonneg _ (by omega)
          have hk1 : ((0 : Int) + i) % (ns.length : Int) < ns.length := Int.emod_lt_of_pos _ (by omega)
          dsimp only
          generalize ((0 : Int) + i) % (ns.length : Int) = k at hk0 hk1
          obtain ⟨j, rfl⟩ : ∃ j : Nat, k = j := ⟨k.toNat, by omega⟩
          have hj : j < ns.length := by omega
          have g : (ns.map V.int)[j]? = some (.int ns[j]) := by
            rw [List.getElem?_map, List.getElem?_eq_getElem hj]
            rfl
          have hj2 : j < rs.length := by omega
          have g2 : (rs.map V.int)[j]? = some (.int rs[j]) := by
            rw [List.getElem?_map, List.getElem?_eq_getElem hj2]
            rfl
          refine ⟨_, rfl, _, rfl, a, _, _, _, rfl, rfl, hA, atI_nat g, .inl ⟨_, rfl, ?_⟩⟩
          refine ⟨_, rfl, _, _, rfl, rfl, ⟨by decide, by decide, by decide⟩, _, _, rfl, rfl, _, rfl, ite2 (fun e => ?_) (fun e => ?_)⟩
          · refine ⟨_, rfl, _, rfl, D, _, _, _, rfl, rfl, SqL.of e2, atI_nat g2, _, _, rfl, rfl, _, rfl, ite2 (fun e => ?_) (fun e => ?_)⟩
            · -- draws.append(rests[at] % ..)
              refine ⟨_, rfl, .inl ⟨rfl, _, SqL.of e3⟩, _, rfl, _, rfl, D, _, _, _, rfl, rfl, SqL.of e2, atI_nat g2, .inl ⟨_, rfl, _, _, rfl, rfl, (by show (0 : Int) < _; decide), p, _, _, rfl, rfl, e3, ?_, ?_⟩⟩
              · rw [List.length_map]
                exact small_sz5 (by omega)
              have e2' : (upd H2 p (.lst (ds.map V.int ++ [.int (rs[j] % 1000003)]))) D = some (.lst (rs.map V.int)) := by
                rw [upd_ne npD]
                exact e2
              refine ⟨_, rfl, _, rfl, D, _, _, _, rfl, rfl, SqL.of e2', atI_nat g2, .inl ⟨_, rfl, _, _, rfl, rfl, ⟨by decide, by decide⟩, _, rfl, _, rfl, D, _, _, j, rfl, rfl, e2', ?_, ?_⟩⟩
              · rw [List.length_map]
                exact ixN_nat (by omega)
              refine ⟨_, _, _, _, rs.set j (rs[j] / 1000003), ds ++ [rs[j] % 1000003], rfl, by rw [List.length_set, hl], by rw [List.length_append, hd]; rfl, same_mut (same_mut s2 npH) hD, ?_, ?_⟩
              · rw [upd_same, List.map_set]
              · rw [upd_ne npD.symm, upd_same, List.map_append]
                rfl
            · exact ⟨_, _, rfl, rfl⟩
          · exact iteF ⟨_, _, rfl, rfl⟩
        · exact ⟨_, _, rfl, rfl⟩
      · intro σ' H' hN
        obtain ⟨c, y6, rfl, rfl⟩ := hN
        refine ⟨_, rfl, _, _, rfl, rfl, .inr ⟨by decide, by decide⟩, _, rfl, _, _, rfl, rfl, .inr ⟨by decide, by decide⟩, _, _, rfl, rfl, _, _, rfl, rfl, .inl ⟨_, rfl, _, _, rfl, rfl, (by show (0 : Int) < _; decide), ?_⟩⟩
        have m0 : 0 ≤ (c * 48271 + (0 + (i : Int)) * 69621 + 11) % 2147483647 := Int.emod_nonneg _ (by decide)
        have m1 : (c * 48271 + (0 + (i : Int)) * 69621 + 11) % 2147483647 < 2147483647 := Int.emod_lt_of_pos _ (by decide)
        dsimp only
        generalize (c * 48271 + (0 + (i : Int)) * 69621 + 11) % 2147483647 = x at m0 m1
        refine ⟨_, rfl, _, rfl, _, _, rfl, rfl, .inl ⟨by omega, by omega⟩, _, _, rfl, rfl, ⟨by decide, by decide⟩, _, rfl, _, _, rfl, rfl, .inl ⟨_, rfl, _, _, rfl, rfl, (by show (0 : Int) < _; decide), ?_⟩⟩
        have m2 : 0 ≤ (x * x / 4096 + x) % 2147483629 := Int.emod_nonneg _ (by decide)
        have m3 : (x * x / 4096 + x) % 2147483629 < 2147483629 := Int.emod_lt_of_pos _ (by decide)
        dsimp only
        generalize (x * x / 4096 + x) % 2147483629 = y at m2 m3
        refine ⟨_, rfl, .inl ⟨rfl, _, SqL.of e3⟩, _, rfl, _, rfl, _, _, rfl, rfl, .inl ⟨by omega, by omega⟩, _, _, rfl, rfl, ⟨by decide, by decide⟩, _, rfl, _, _, rfl, rfl, .inr ⟨by decide, by decide⟩, _, _, rfl, rfl, .inl ⟨_, rfl, _, _, rfl, rfl, (by show (0 : Int) < _; decide), p, _, _, rfl, rfl, e3, ?_, ?_⟩⟩
        · rw [List.length_map]
          exact small_sz5 (by omega)
        refine ⟨_, _, _, _, rs, ds ++ [(y * y / 4096 + (0 + (i : Int)) * 7919) % 2147483629], rfl, hl, by rw [List.length_append, hd]; rfl, same_mut s2 npH, ?_, ?_⟩
        · rw [upd_ne npD]
          exact e2
        · rw [upd_same, List.map_append]
          rfl
    · obtain ⟨y3, y5, y6, y7, rs, ds, rfl, hl, hd, s2, e2, e3⟩ := hP
      exact ⟨_, rfl, q p ds H2 s2 npH e3⟩
end
end SW

namespace SW
open PySem PySem.Spec PyProof.Rows L2
/-! ### t + u and t[a:b] of tuples, whatever object comes of it -/
section
variable {X : Cx}
def rCatB (K : PySem.W.Frag) : R2 := fun x y H Q => ∃ a b xs ys, x = .ref a ∧ y = .ref b ∧ SqT K H a xs ∧ SqT K H b ys ∧ xs.length + ys.length ≤ sizeLine ∧ ∀ p H', Same H H' → SqT K H' p (xs ++ ys) → Q (.ref p) H'
theorem op_catB : OpR X (binaryOp .Add) (rCatB X.K) := by
  intro pins s σ H x y v u Q I rx ry h
  obtain ⟨a, b, xs, ys, h1, h2, h3, h4, h5, q⟩ := h
  refine op_catA pins s σ H x y v u Q I rx ry ⟨a, b, xs, ys, h1, h2, h3, h4, h5, fun e => ?_, fun _ e => ?_, fun _ _ p np => ?_⟩
  · subst e
    exact q b H (Same.refl _) h4
  · subst e
    refine q a H (Same.refl _) ?_
    rw [List.append_nil]
    exact h3
  · exact q p _ (same_new np) (SqT.of upd_same)
def rSlB (K : PySem.W.Frag) : V → Option Int → Option Int → Hp → VK → Prop := fun x lo hi H Q => ∃ a xs, x = .ref a ∧ SqT K H a xs ∧ ∀ p H', Same H H' → SqT K H' p (cutV xs lo hi) → Q (.ref p) H'
theorem sl_tupB : SlR X (rSlB X.K) := by
  intro pins s σ H x v vl vu lo hi sl Q I rx hs pl pu h
  obtain ⟨a, xs, h1, h2, q⟩ := h
  refine sl_tupA pins s σ H x v vl vu lo hi sl Q I rx hs pl pu ⟨a, xs, h1, h2, fun e => ?_, fun _ p np => ?_⟩
  · refine q a H (Same.refl _) ?_
    unfold cutV
    rw [e.1, e.2, List.drop_zero, Nat.sub_zero, List.take_length]
    exact h2
  · exact q p _ (same_new np) (SqT.of upd_same)
end
theorem cut_m1 (xs : List V) (v : V) : cutV (xs ++ [v]) none (some (-1)) = xs := by
  unfold cutV
  have e : HT.sIx (xs ++ [v]).length (xs ++ [v]).length (some (-1)) = xs.length := by
    show (if (-1 : Int) < 0 then ((-1 : Int) + ((xs ++ [v]).length : Int)).toNat else min (-1 : Int).toNat (xs ++ [v]).length) = _
    rw [if_pos (by decide), List.length_append]
    show ((-1 : Int) + ((xs.length + 1 : Nat) : Int)).toNat = _
    omega
  rw [e, HT.sIx_none, List.drop_zero, Nat.sub_zero, List.take_left]
theorem dpa_split {K : PySem.W.Frag} {H : Hp} : ∀ {ds es : List PyData} {xs : List V}, DpAll K H xs (ds ++ es) → ∃ ys zs, xs = ys ++ zs ∧ DpAll K H ys ds ∧ DpAll K H zs es
  | [], _, xs, h => ⟨[], xs, rfl, .nil, h⟩
  | d :: ds, es, _, .cons h1 h2 => by
    obtain ⟨ys, zs, e, h3, h4⟩ := dpa_split h2
    exact ⟨_ :: ys, zs, by rw [e]; rfl, .cons h1 h3, h4⟩
end SW

namespace SW
open PySem PySem.Spec PyProof.Rows L2
section
variable {X : Cx}
/-- name = {..} on one line, the name a local, the keys texts or ints -/
theorem ps_setDc {i : Nat} {y : PySem.Str} {py : Pos} {kx vx tg iter : Expr} {ifs : List Expr} {scope : Scope} {own : List (PySem.Str × Nat)} {pos spos : Pos} {wi : TI} {g : TG} {tt : TT} {tk tv : TE} (hc : X.calm = true) (hN : X.N.Nodup) (hy : X.N[i]? = some y) (hyl : X.env.scope.names.lookup y = some .local)
    (hsw : swapsWith (.DictComp kx vx [⟨tg, iter, ifs, 0⟩] scope pos) (some (.Name y py)) spos.line X.env = pure true) (hi : PI X tg iter wi) (bk : BlkOk X.N X.env.scope scope own)
    (hg : ∀ s H C cl fp, PG (X.blk s H scope (compEnvC scope cl C X.env) fp) tg g) (ht : ∀ s H C cl fp, PTs (X.blk s H scope (compEnvC scope cl C X.env) fp) ifs tt)
    (hk : ∀ s H C cl fp, PE (X.blk s H scope (compEnvC scope cl C X.env) fp) kx tk) (hv : ∀ s H C cl fp, PE (X.blk s H scope (compEnvC scope cl C X.env) fp) vx tv) (hs : ∀ x, foldedSetIterable iter X.env x = pure x := by intro _; rfl) :
    PS X (.Assign [.Name y py] (.DictComp kx vx [⟨tg, iter, ifs, 0⟩] scope pos) spos) (tAsg (tDc wi g tt tk tv (own.map (·.2))) (gName i)) := by
  refine ⟨fun pins s σ H D I h => ?_⟩
  rw [exec_Assign_Name_used _ _ _ _ hsw]
  refine wpAny_bind (wpAny_standAt (wpAny_bind ?_))
  show wpAny _ X.A (do let _ ← comprehension (.DictComp kx vx [⟨tg, iter, ifs, 0⟩] scope pos) scope X.env (firstIterPos [⟨tg, iter, ifs, 0⟩] pos) newDict false (eval iter X.env) (some (assign (.Name y py) X.env))) _ _ s
  have h : tDc wi g tt tk tv (own.map (·.2)) σ H (fun x H1 => gName i x σ H1 D.nx) := h
  refine wpAny_bind (thn (dc_core (Qf := fun _ s' => SP X pins D .next s') hc hN I hi bk hg ht hk hv hs h fun L C s' m H' I' q hn f => ?_) fun _ s' hq => wpAny_pure (wpAny_pure hq))
  show wpAny _ _ (assign (.Name y py) X.env (.ref L)) _ _ _
  refine wpAny_assign_Name (store_ok2 (v := V.ref L) I' hN hy (.inl hyl) rfl (fun s2 I2 ⟨a, sb, ha⟩ => ?_) (.inr hyl))
  obtain ⟨f0, f1, f2, f3, f4, f5⟩ := f
  have haC : C ≠ a := by
    rcases ha with z | z
    · rw [z]; exact f1
    · exact fun e => f4 y a z e.symm
  refine ⟨m, hn.sameBut sb haC, fun h3 sb3 => ?_⟩
  exact ⟨_, H', I2.turned (t' := s2.toks) (fun b o hb e => (sb3.2 b hb).trans e) f0 f1 f3 f4 f5, q⟩
end
end SW

namespace SW
open PySem PySem.Spec PyProof.Rows L2
/-! a != b of lists of texts -/
def rNeS (K : PySem.W.Frag) : R2 := fun x y H Q => ∃ (a b : Addr) (ws vs : List PySem.Str), x = .ref a ∧ y = .ref b ∧ SqL K H a (ws.map V.str) ∧ SqL K H b (vs.map V.str) ∧ Q (.bl (!decide (ws = vs))) H
theorem op_neS {X : Cx} (hu : X.A.units < cLine) : OpR X (compareOp .NotEq) (rNeS X.K) := by
  intro pins s σ H x y v u Q I rx ry h
  obtain ⟨a, b, ws, vs, rfl, rfl, ha, hb, q⟩ := h
  cases rx
  cases ry
  obtain ⟨its, r1, p1, _⟩ := I.list ha
  obtain ⟨jts, r2, p2, _⟩ := I.list hb
  have l1 := r1.length
  have l2 := r2.length
  rw [List.length_map] at l1 l2
  by_cases hl : ws.length = vs.length
  · refine SeqAt.RcNeAt.lists (e := fun j => decide (ws[j]? = vs[j]?)) p1.isList p2.isList (by simp only [List.size_toArray]; omega) hu (fun j h1 h2 => ?_) _ _ _ _ ?_
    · simp only [List.size_toArray] at h1 h2
      obtain ⟨t1, e1⟩ := vals_strs (x := ws[j]) r1 (List.getElem?_eq_getElem (by omega))
      obtain ⟨t2, e2⟩ := vals_strs (x := vs[j]) r2 (List.getElem?_eq_getElem (by omega))
      have f1 : its.toArray[j] = .str ws[j] t1 := by
        rw [List.getElem?_eq_getElem h1] at e1
        injection e1 with e1
      have f2 : jts.toArray[j] = .str vs[j] t2 := by
        rw [List.getElem?_eq_getElem h2] at e2
        injection e2 with e2
      rw [f1, f2]
      have e3 : decide (ws[j]? = vs[j]?) = (ws[j] == vs[j]) := by
        rw [List.getElem?_eq_getElem (by omega), List.getElem?_eq_getElem (by omega)]
        by_cases h : ws[j] = vs[j]
        · rw [h]
          simp
        · rw [decide_eq_false (fun e => h (Option.some.inj e)), beq_eq_false_iff_ne.mpr h]
      rw [e3]
      exact SeqAt.EqAt.str_str _ _ _ _
    · have e4 : ((List.range its.toArray.size).all fun j => decide (ws[j]? = vs[j]?)) = decide (ws = vs) := by
        rw [List.size_toArray, ← l1]
        exact all_eq hl
      rw [e4]
      exact ⟨.bl _, H, I, rfl, q⟩
  · refine SeqAt.RcNeAt.lists_lengths p1.isList p2.isList (by simp only [List.size_toArray]; exact bne_iff_ne.mpr (by omega)) hu _ _ _ _ ?_
    rw [decide_eq_false (fun e => hl (by rw [e]))] at q
    exact ⟨.bl _, H, I, rfl, q⟩
end SW

namespace SW
open PySem PySem.Spec PyProof.Rows L2
abbrev s_statements_in : Stmt := topS 6
theorem sc_statements_in : FnScope ["block", "found", "statement", "inner"] ["block"] (defScope s_statements_in) := ⟨rfl, rfl, rfl, by decide +kernel, rfl, by decide +kernel, by decide +kernel⟩

abbrev s_blocks_of : Stmt := topS 7
theorem sc_blocks_of : FnScope ["statement"] ["statement"] (defScope s_blocks_of) := ⟨rfl, rfl, rfl, by decide +kernel, rfl, by decide +kernel, by decide +kernel⟩

/-! ### statements, by how deep they may lie -/
inductive Ar | ls (x : PySem.Str) | pl (h : PySem.Str) (ds : List PyData)
def Ar.enc : Ar → PyData
  | .ls x => .tuple [.str "list", .str x]
  | .pl h ds => .tuple (.str h :: ds)
def Ar.ok : Ar → Prop
  | .ls _ => True
  | .pl h ds => h ≠ "list" ∧ noLs ds = true
inductive Sf (B : Type)
  | lst (k : PySem.Str) (r : Int) (x : PySem.Str) (ds : List PyData)
  | cal (r : Int) (y f : PySem.Str) (as : List Ar)
  | oth (k : PySem.Str) (r : Int) (ds : List PyData)
  | iff (r : Int) (c : PyData) (a b : List B)
  | whl (r : Int) (c : PyData) (ks : List PyData) (f : PyData) (b : List B)
def Sf.kind {B : Type} : Sf B → PySem.Str
  | .lst k .. => k
  | .cal .. => "call"
  | .oth k .. => k
  | .iff .. => "if"
  | .whl .. => "while"
def Sf.rest {B : Type} (e : B → PyData) : Sf B → List PyData
  | .lst k r x ds => .int r :: .str x :: ds
  | .cal r y f as => [.int r, .str y, .str f, .tuple (as.map Ar.enc)]
  | .oth k r ds => .int r :: ds
  | .iff r c a b => [.int r, c, .tuple (a.map e), .tuple (b.map e)]
  | .whl r c ks f b => [.int r, c, .tuple ks, f, .tuple (b.map e)]
def Sf.enc {B : Type} (e : B → PyData) (s : Sf B) : PyData := .tuple (.str s.kind :: s.rest e)
def oddK : List PySem.Str := ["put", "swap", "call", "if", "while"]
def Sf.ok {B : Type} (p : B → Prop) : Sf B → Prop
  | .lst k r x ds => (k = "put" ∨ k = "swap") ∧ noLs ds = true
  | .cal r y f as => ∀ a, a ∈ as → a.ok
  | .oth k r ds => k ∉ oddK ∧ noLs ds = true
  | .iff r c a b => noL c = true ∧ (∀ s, s ∈ a → p s) ∧ ∀ s, s ∈ b → p s
  | .whl r c ks f b => noL c = true ∧ noLs ks = true ∧ noL f = true ∧ ∀ s, s ∈ b → p s
def Sf.subs {B : Type} : Sf B → List (List B)
  | .iff r c a b => [a, b]
  | .whl r c ks f b => [b]
  | _ => []
def BD : Nat → Type
  | 0 => Empty
  | n + 1 => Sf (BD n)
def encD : (n : Nat) → BD n → PyData
  | 0, s => nomatch s
  | n + 1, s => Sf.enc (encD n) s
def okD : (n : Nat) → BD n → Prop
  | 0, s => nomatch s
  | n + 1, s => Sf.ok (okD n) s
/-- a statement of any depth -/
structure An where
  n : Nat
  s : Sf (BD n)
def An.enc (a : An) : PyData := Sf.enc (encD a.n) a.s
def An.ok (a : An) : Prop := Sf.ok (okD a.n) a.s
def flatD : (n : Nat) → BD n → List An
  | 0, s => nomatch s
  | n + 1, s => ⟨n, s⟩ :: ((Sf.subs (B := BD n) s).map fun b => (b.map (flatD n)).flatten).flatten
def flatB (n : Nat) (b : List (BD n)) : List An := (b.map (flatD n)).flatten
def blkE (n : Nat) (b : List (BD n)) : PyData := .tuple (b.map (encD n))
theorem noL_ar {a : Ar} (h : a.ok) : noL a.enc = true := by
  cases a with
  | ls x => rfl
  | pl z ds => exact h.2
theorem noLs_of {l : List PyData} (h : ∀ d, d ∈ l → noL d = true) : noLs l = true := by
  induction l with
  | nil => rfl
  | cons d r ih =>
    show (noL d && noLs r) = true
    rw [h d List.mem_cons_self, ih fun e he => h e (List.mem_cons_of_mem _ he)]
    rfl
theorem noLs_mapof {α : Type} {f : α → PyData} {l : List α} (h : ∀ a, a ∈ l → noL (f a) = true) : noLs (l.map f) = true := noLs_of fun d hd => by
  obtain ⟨a, ha, rfl⟩ := List.mem_map.mp hd
  exact h a ha
theorem noL_sf {B : Type} {e : B → PyData} {p : B → Prop} (hp : ∀ b, p b → noL (e b) = true) {s : Sf B} (h : s.ok p) : noL (s.enc e) = true := by
  have q : ∀ {b : List B}, (∀ s, s ∈ b → p s) → noL (.tuple (b.map e)) = true := fun hb => noLs_mapof fun a ha => hp a (hb a ha)
  cases s with
  | lst k r x ds => exact h.2
  | cal r y f as =>
    show (noL (.tuple (as.map Ar.enc)) && true) = true
    rw [show noL (.tuple (as.map Ar.enc)) = true from noLs_mapof fun a ha => noL_ar (h a ha)]
    rfl
  | oth k r ds => exact h.2
  | iff r c a b =>
    show (noL c && (noL (.tuple (a.map e)) && (noL (.tuple (b.map e)) && true))) = true
    rw [h.1, q h.2.1, q h.2.2]
    rfl
  | whl r c ks f b =>
    show (noL c && (noLs ks && (noL f && (noL (.tuple (b.map e)) && true)))) = true
    rw [h.1, h.2.1, h.2.2.1, q h.2.2.2]
    rfl
theorem noL_D : ∀ (n : Nat) (s : BD n), okD n s → noL (encD n s) = true
  | 0, s, _ => nomatch s
  | n + 1, s, h => noL_sf (noL_D n) (s := s) h
theorem noL_blk {n : Nat} {b : List (BD n)} (h : ∀ s, s ∈ b → okD n s) : noL (blkE n b) = true := noLs_mapof fun s hs => noL_D n s (h s hs)
theorem An.noL {a : An} (h : a.ok) : SW.noL a.enc = true := noL_sf (noL_D a.n) h
theorem ok_subs {n : Nat} {s : Sf (BD n)} (h : s.ok (okD n)) : ∀ b, b ∈ s.subs → ∀ t, t ∈ b → okD n t := by
  cases s with
  | lst k r x ds => exact fun b hb => (List.not_mem_nil hb).elim
  | cal r y f as => exact fun b hb => (List.not_mem_nil hb).elim
  | oth k r ds => exact fun b hb => (List.not_mem_nil hb).elim
  | iff r c a b =>
    intro b' hb
    simp only [Sf.subs, List.mem_cons, List.not_mem_nil, or_false] at hb
    rcases hb with rfl | rfl
    · exact h.2.1
    · exact h.2.2
  | whl r c ks f b =>
    intro b' hb
    rw [List.mem_singleton.mp hb]
    exact h.2.2.2
theorem flat_ok : ∀ (n : Nat) (s : BD n), okD n s → ∀ a, a ∈ flatD n s → a.ok
  | 0, s, _ => nomatch s
  | n + 1, s, h => fun a ha => by
    rcases List.mem_cons.mp ha with rfl | ha
    · exact h
    · obtain ⟨l, hl, ha⟩ := List.mem_flatten.mp ha
      obtain ⟨b, hb, rfl⟩ := List.mem_map.mp hl
      obtain ⟨l2, hl2, ha⟩ := List.mem_flatten.mp ha
      obtain ⟨t, ht, rfl⟩ := List.mem_map.mp hl2
      exact flat_ok n t (ok_subs h b hb t ht) a ha
theorem flatB_ok {n : Nat} {b : List (BD n)} (h : ∀ s, s ∈ b → okD n s) : ∀ a, a ∈ flatB n b → a.ok := fun a ha => by
  obtain ⟨l, hl, ha⟩ := List.mem_flatten.mp ha
  obtain ⟨s, hs, rfl⟩ := List.mem_map.mp hl
  exact flat_ok n s (h s hs) a ha
theorem flatB_nil (n : Nat) : flatB n [] = [] := rfl
theorem flatB_snoc (n : Nat) (b : List (BD n)) (s : BD n) : flatB n (b ++ [s]) = flatB n b ++ flatD n s := by
  unfold flatB
  rw [List.map_append, List.flatten_append]
  show _ ++ (flatD n s ++ []) = _
  rw [List.append_nil]
theorem flatD_succ (n : Nat) (s : Sf (BD n)) : flatD (n + 1) s = ⟨n, s⟩ :: (s.subs.map (flatB n)).flatten := rfl
end SW

namespace SW
open PySem PySem.Spec PyProof.Rows L2
theorem kind_if {B : Type} {p : B → Prop} {s : Sf B} (h : s.ok p) : (∃ r c a b, s = .iff r c a b) ∨ (¬ s.kind = "if" ∧ ((∃ r c ks f b, s = .whl r c ks f b) ∨ (¬ s.kind = "while" ∧ s.subs = []))) := by
  cases s with
  | lst k r x ds =>
    refine .inr ⟨?_, .inr ⟨?_, rfl⟩⟩
    · show ¬ k = "if"
      rcases h.1 with rfl | rfl <;> decide +kernel
    · show ¬ k = "while"
      rcases h.1 with rfl | rfl <;> decide +kernel
  | cal r y f as => exact .inr ⟨by show ¬ ("call" : PySem.Str) = "if"; decide +kernel, .inr ⟨by show ¬ ("call" : PySem.Str) = "while"; decide +kernel, rfl⟩⟩
  | oth k r ds =>
    refine .inr ⟨fun e => h.1 ?_, .inr ⟨fun e => h.1 ?_, rfl⟩⟩
    · have e : k = "if" := e
      rw [e]
      decide +kernel
    · have e : k = "while" := e
      rw [e]
      decide +kernel
  | iff r c a b => exact .inl ⟨r, c, a, b, rfl⟩
  | whl r c ks f b => exact .inr ⟨by show ¬ ("while" : PySem.Str) = "if"; decide +kernel, .inl ⟨r, c, ks, f, b, rfl⟩⟩
theorem dpa2 {K : PySem.W.Frag} {H : Hp} {xs : List V} {d1 d2 : PyData} (h : DpAll K H xs [d1, d2]) : ∃ v1 v2, xs = [v1, v2] ∧ Dp K H v1 d1 ∧ Dp K H v2 d2 := by
  cases h with
  | cons h1 h => cases h with
    | cons h2 h =>
      cases h
      exact ⟨_, _, rfl, h1, h2⟩
theorem dpa4 {K : PySem.W.Frag} {H : Hp} {xs : List V} {d1 d2 d3 d4 : PyData} (h : DpAll K H xs [d1, d2, d3, d4]) : ∃ v1 v2 v3 v4, xs = [v1, v2, v3, v4] ∧ Dp K H v1 d1 ∧ Dp K H v2 d2 ∧ Dp K H v3 d3 ∧ Dp K H v4 d4 := by
  cases h with
  | cons h1 h => cases h with
    | cons h2 h =>
      obtain ⟨v3, v4, rfl, h3, h4⟩ := dpa2 h
      exact ⟨_, _, _, _, rfl, h1, h2, h3, h4⟩
theorem dpa5 {K : PySem.W.Frag} {H : Hp} {xs : List V} {d1 d2 d3 d4 d5 : PyData} (h : DpAll K H xs [d1, d2, d3, d4, d5]) : ∃ v1 v2 v3 v4 v5, xs = [v1, v2, v3, v4, v5] ∧ Dp K H v1 d1 ∧ Dp K H v2 d2 ∧ Dp K H v3 d3 ∧ Dp K H v4 d4 ∧ Dp K H v5 d5 := by
  cases h with
  | cons h1 h => cases h with
    | cons h2 h => cases h with
      | cons h3 h => cases h with
        | cons h4 h => cases h with
          | cons h5 h =>
            cases h
            exact ⟨_, _, _, _, _, rfl, h1, h2, h3, h4, h5⟩
theorem sf_inv {K : PySem.W.Frag} {H : Hp} {B : Type} {e : B → PyData} {s : Sf B} {v : V} (h : Dp K H v (s.enc e)) : ∃ t us, v = .ref t ∧ SqT K H t (.str s.kind :: us) ∧ DpAll K H us (s.rest e) := by
  obtain ⟨t, us, rfl, ht, ha⟩ := dp_tup_inv h
  cases ha with
  | cons h1 h2 =>
    cases dp_str_inv h1
    exact ⟨t, _, rfl, ht, h2⟩
section
variable {P : Program} {w : World} {K : PySem.W.Frag} {mg : PySem.Str → Option Value} {base : Heap}
def spBlk (K : PySem.W.Frag) : Sp := fun vs H Q _ => ∃ (v : V) (n : Nat) (s : Sf (BD n)), vs = [v] ∧ Dp K H v (s.enc (encD n)) ∧ s.ok (okD n) ∧ ∀ (F : Addr) (us : List V) (H' : Hp), Same H H' → H F = none → H' F = some (.lst us) → DpAll K H' us (s.subs.map (blkE n)) → Q (.ref F) H'
theorem ok_blocks_of (T : TxB mg) (D_blocks_of : Df K mg "_blocks_of" s_blocks_of ["statement"]) : FnOk P w K mg base CX0 1 D_blocks_of.f D_blocks_of.fd ["statement"] (spBlk K) := by
  refine D_blocks_of.F.ok sc_blocks_of (fun vs H Q E h => ?_) (fun cdv A outer s H vs Q E hr h => ?_)
  · obtain ⟨v, n, s, rfl, _⟩ := h
    rfl
  · obtain ⟨v, n, st, rfl, hd, hok, q⟩ := h
    refine ⟨_, (pss_cons (ps_if (pt_cmpR op_eq (pe_ix ix_tup (pv 0) pe_int (fun _ _ => rfl)) pe_str (nomark _))
    (pss_one (ps_ret (pe_lst (pa_cons (pe_ix ix_tup (pv 0) pe_int (fun _ _ => rfl)) (pa_cons (pe_ix ix_tup (pv 0) pe_int (fun _ _ => rfl)) pa_nil)))))
    pss_nil)
    (pss_cons (ps_if (pt_cmpR op_eq (pe_ix ix_tup (pv 0) pe_int (fun _ _ => rfl)) pe_str (nomark _))
    (pss_one (ps_ret (pe_lst (pa_cons (pe_ix ix_tup (pv 0) pe_int (fun _ _ => rfl)) pa_nil))))
    pss_nil)
    (pss_one (ps_ret (pe_lst pa_nil))))), ?_⟩
    obtain ⟨t, us, rfl, ht, ha⟩ := sf_inv hd
    refine ⟨_, rfl, t, _, _, _, rfl, rfl, ht, atI_nat (j := 0) rfl, rfl, _, rfl, ?_⟩
    rw [str_dec]
    rcases kind_if hok with ⟨r, c, a, b, rfl⟩ | ⟨h1, h2⟩
    · obtain ⟨v1, v2, v3, v4, rfl, d1, d2, d3, d4⟩ := dpa4 ha
      refine iteT ?_
      refine ⟨_, rfl, t, _, _, _, rfl, rfl, ht, atI_nat (j := 3) rfl, _, rfl, t, _, _, _, rfl, rfl, ht, atI_nat (j := 4) rfl, by show 2 ≤ sizeLine; decide, fun F nF => ?_⟩
      generalize hG : upd H F _ = G
      obtain ⟨s1, e1⟩ := new_of nF hG
      exact q F _ G s1 nF e1 (.cons (d3.same s1) (.cons (d4.same s1) .nil))
    · rw [decide_eq_false h1]
      refine iteF ?_
      refine ⟨_, rfl, t, _, _, _, rfl, rfl, ht, atI_nat (j := 0) rfl, rfl, _, rfl, ?_⟩
      rw [str_dec]
      rcases h2 with ⟨r, c, ks, f, b, rfl⟩ | ⟨h2, h3⟩
      · obtain ⟨v1, v2, v3, v4, v5, rfl, d1, d2, d3, d4, d5⟩ := dpa5 ha
        refine iteT ?_
        refine ⟨_, rfl, t, _, _, _, rfl, rfl, ht, atI_nat (j := 5) rfl, by show 1 ≤ sizeLine; decide, fun F nF => ?_⟩
        generalize hG : upd H F _ = G
        obtain ⟨s1, e1⟩ := new_of nF hG
        exact q F _ G s1 nF e1 (.cons (d5.same s1) .nil)
      · rw [decide_eq_false h2]
        refine iteF ⟨Nat.zero_le _, fun F nF => ?_⟩
        generalize hG : upd H F _ = G
        obtain ⟨s1, e1⟩ := new_of nF hG
        rw [h3] at q
        exact q F _ G s1 nF e1 .nil
def spStm (K : PySem.W.Frag) (m : Nat) : Sp := fun vs H Q _ => ∃ (v : V) (b : List (BD m)), vs = [v] ∧ Dp K H v (blkE m b) ∧ (∀ s, s ∈ b → okD m s) ∧ (flatB m b).length ≤ 5000 ∧ ∀ (F : Addr) (us : List V) (H' : Hp), Same H H' → H F = none → H' F = some (.lst us) → DpAll K H' us ((flatB m b).map An.enc) → Q (.ref F) H'
theorem flatB_take {m : Nat} {b : List (BD m)} {i : Nat} (hi : i < b.length) : flatB m (b.take (i + 1)) = flatB m (b.take i) ++ flatD m b[i] := by
  rw [List.take_succ_eq_append_getElem hi, flatB_snoc]
theorem flatB_le {m : Nat} {b : List (BD m)} {i : Nat} : (flatB m (b.take i)).length ≤ (flatB m b).length := by
  have e : flatB m b = flatB m (b.take i) ++ flatB m (b.drop i) := by
    unfold flatB
    rw [← List.flatten_append, ← List.map_append, List.take_append_drop]
  rw [e, List.length_append]
  omega
theorem flatD_le {m : Nat} {b : List (BD m)} {s : BD m} (h : s ∈ b) : (flatD m s).length ≤ (flatB m b).length := by
  obtain ⟨i, hi, rfl⟩ := List.getElem_of_mem h
  have h1 := flatB_le (b := b) (i := i + 1)
  rw [flatB_take hi, List.length_append] at h1
  omega
theorem flatN_le {n : Nat} {l : List (List (BD n))} {b : List (BD n)} (h : b ∈ l) : (flatB n b).length ≤ ((l.map (flatB n)).flatten).length := by
  induction l with
  | nil => exact (List.not_mem_nil h).elim
  | cons a r ih =>
    rw [List.map_cons, List.flatten_cons, List.length_append]
    rcases List.mem_cons.mp h with rfl | h
    · omega
    · have := ih h
      omega
theorem ok_statements_in (T : TxB mg) (D_statements_in : Df K mg "statements_in" s_statements_in ["block"]) (D_blocks_of : Df K mg "_blocks_of" s_blocks_of ["statement"]) : ∀ m, FnOk P w K mg base CX0 (m + 2) D_statements_in.f D_statements_in.fd ["block"] (spStm K m)
  | 0 => by
    have G_blocks_of := ok_blocks_of (P := P) (w := w) (K := K) (base := base) T D_blocks_of
    have G_statements_in : FnOk P w K mg base CX0 1 D_statements_in.f D_statements_in.fd ["block"] (fun _ _ _ _ => False) := fn_never
    refine D_statements_in.F.ok sc_statements_in (fun vs H Q E h => ?_) (fun cdv A outer s H vs Q E hr h => ?_)
    · obtain ⟨v, b, rfl, _⟩ := h
      rfl
    · obtain ⟨v, b, rfl, hd, hok, hl, q⟩ := h
      refine ⟨_, (pss_cons (ps_set (i := 1) sc_statements_in.nd rfl (.inl rfl) (pe_lst pa_nil))
    (pss_cons (ps_for PassesOwn.never rfl (pi_tup (pv 0)) (pg_name (i := 2) sc_statements_in.nd rfl (.inl rfl))
    (pss_cons (ps_expr (pe_bm PySem.F.plainAttrs_list PySem.F.slot_list_append PySem.F.type_list_append mt_append (pv 1) (pa_cons (pv 2) pa_nil)))
    (pss_one (ps_for PassesOwn.never rfl (pi_list (pe_call G_blocks_of (hr.mono (by omega)) (by rfl) D_blocks_of.g D_blocks_of.F.kp D_blocks_of.b .nil pass0 (pa_cons (pv 2) pa_nil))) (pg_name (i := 3) sc_statements_in.nd rfl (.inl rfl))
    (pss_one (ps_expr (pe_bm PySem.F.plainAttrs_list PySem.F.slot_list_extend PySem.F.type_list_extend mt_extend (pv 1) (pa_cons (pe_call G_statements_in (hr.mono (by omega)) (by rfl) D_statements_in.g D_statements_in.F.kp D_statements_in.b .nil pass0 (pa_cons (pv 3) pa_nil)) pa_nil))))))))
    (pss_one (ps_ret (pv 1))))), ?_⟩
      obtain rfl : b = [] := by
        cases b with
        | nil => rfl
        | cons s r => exact nomatch s
      obtain ⟨t, us, rfl, ht, ha⟩ := dp_tup_inv hd
      cases ha
      refine ⟨Nat.zero_le _, fun F nF => ?_⟩
      generalize hG : upd H F _ = G
      obtain ⟨s1, e1⟩ := new_of nF hG
      refine ⟨_, rfl, t, rfl, ⟨_, sqt_same s1 ht⟩, ?_⟩
      exact for_tup (K := K) (a := t) (xs := []) (fun _ σ J => J = G ∧ ∃ y2 y3 : Option V, σ = [some (.ref t), some (.ref F), y2, y3]) ⟨rfl, _, _, rfl⟩ (fun _ _ J _ hP => by
        obtain ⟨rfl, _⟩ := hP
        exact sqt_same s1 ht) (fun i x σ J hx _ => by cases hx) (fun σ J hP => by
        obtain ⟨rfl, y2, y3, rfl⟩ := hP
        exact ⟨_, rfl, q F [] J s1 nF e1 .nil⟩)
  | n + 1 => by
    have G_blocks_of := ok_blocks_of (P := P) (w := w) (K := K) (base := base) T D_blocks_of
    have G_statements_in := ok_statements_in T D_statements_in D_blocks_of n
    refine D_statements_in.F.ok sc_statements_in (fun vs H Q E h => ?_) (fun cdv A outer s H vs Q E hr h => ?_)
    · obtain ⟨v, b, rfl, _⟩ := h
      rfl
    · obtain ⟨v, b, rfl, hd, hok, hl, q⟩ := h
      refine ⟨_, (pss_cons (ps_set (i := 1) sc_statements_in.nd rfl (.inl rfl) (pe_lst pa_nil))
    (pss_cons (ps_for PassesOwn.never rfl (pi_tup (pv 0)) (pg_name (i := 2) sc_statements_in.nd rfl (.inl rfl))
    (pss_cons (ps_expr (pe_bm PySem.F.plainAttrs_list PySem.F.slot_list_append PySem.F.type_list_append mt_append (pv 1) (pa_cons (pv 2) pa_nil)))
    (pss_one (ps_for PassesOwn.never rfl (pi_list (pe_call G_blocks_of (hr.mono (by omega)) (by rfl) D_blocks_of.g D_blocks_of.F.kp D_blocks_of.b .nil pass0 (pa_cons (pv 2) pa_nil))) (pg_name (i := 3) sc_statements_in.nd rfl (.inl rfl))
    (pss_one (ps_expr (pe_bm PySem.F.plainAttrs_list PySem.F.slot_list_extend PySem.F.type_list_extend mt_extend (pv 1) (pa_cons (pe_call G_statements_in (hr.mono (by omega)) (by rfl) D_statements_in.g D_statements_in.F.kp D_statements_in.b .nil pass0 (pa_cons (pv 3) pa_nil)) pa_nil))))))))
    (pss_one (ps_ret (pv 1))))), ?_⟩
      obtain ⟨t, us, rfl, ht, ha⟩ := dp_tup_inv hd
      refine ⟨Nat.zero_le _, fun F nF => ?_⟩
      generalize hG : upd H F _ = G
      obtain ⟨s1, e1⟩ := new_of nF hG
      have hul : us.length = b.length := by rw [dpa_len ha, List.length_map]
      have hle : ∀ {i : Nat} {xs : List V} {J : Hp}, DpAll K J xs ((flatB (n + 1) (b.take i)).map An.enc) → xs.length ≤ 5000 := fun h => by
        rw [dpa_len h, List.length_map]
        exact Nat.le_trans flatB_le hl
      have hnl : ∀ {l : List An}, (∀ a, a ∈ l → a ∈ flatB (n + 1) b) → noLs (l.map An.enc) = true := fun h => noLs_mapof fun a ha => An.noL (flatB_ok hok a (h a ha))
      have hfs : ∀ {i : Nat} {a : An}, a ∈ flatB (n + 1) (b.take i) → a ∈ flatB (n + 1) b := fun {i a} h => by
        have e : flatB (n + 1) b = flatB (n + 1) (b.take i) ++ flatB (n + 1) (b.drop i) := by
          unfold flatB
          rw [← List.flatten_append, ← List.map_append, List.take_append_drop]
        rw [e]
        exact List.mem_append_left _ h
      refine ⟨_, rfl, t, rfl, ⟨_, sqt_same s1 ht⟩, ?_⟩
      refine for_tup (K := K) (a := t) (xs := us) (fun i σ J => Same H J ∧ ∃ (y2 y3 : Option V) (xs : List V), σ = [some (.ref t), some (.ref F), y2, y3] ∧ J F = some (.lst xs) ∧ DpAll K J xs ((flatB (n + 1) (b.take i)).map An.enc)) ⟨s1, _, _, [], rfl, e1, .nil⟩ (fun i σ J _ hP => sqt_same hP.1 ht) (fun i v σ J hv hP => ?_) (fun σ J hP => ?_)
      · obtain ⟨sJ, y2, y3, xs, rfl, eF, dF⟩ := hP
        have hi : i < b.length := by
          rw [← hul]
          exact (List.getElem?_eq_some_iff.mp hv).1
        obtain ⟨v', g1, dv⟩ := dp_mem ha hi
        rw [hv] at g1
        cases g1
        have hok1 := hok _ (List.getElem_mem hi)
        have htk := flatB_take (m := n + 1) hi
        have hxl := hle dF
        generalize b[i] = st at dv hok1 htk
        have hsub : ∀ a, a ∈ flatD (n + 1) st → a ∈ flatB (n + 1) b := fun a h => hfs (i := i + 1) (by
          rw [htk]
          exact List.mem_append_right _ h)
        have hsl : (flatB (n + 1) (b.take i)).length + (flatD (n + 1) st).length ≤ 5000 := by
          rw [← List.length_append, ← htk]
          exact Nat.le_trans flatB_le hl
        rw [show flatD (n + 1) st = ⟨n, st⟩ :: ((Sf.subs (B := BD n) st).map (flatB n)).flatten from flatD_succ n st] at htk hsub hsl
        have hxl2 : xs.length = (flatB (n + 1) (b.take i)).length := by rw [dpa_len dF, List.length_map]
        have dF2 : DpAll K J (xs ++ [v]) ((flatB (n + 1) (b.take i) ++ [(⟨n, st⟩ : An)]).map An.enc) := by
          rw [List.map_append]
          exact dpa_snoc dF (dv.same sJ)
        have hmem2 : ∀ a, a ∈ flatB (n + 1) (b.take i) ++ [(⟨n, st⟩ : An)] → a ∈ flatB (n + 1) b := fun a h => by
          rcases List.mem_append.mp h with h | h
          · exact hfs h
          · rw [List.mem_singleton.mp h]
            exact hsub _ List.mem_cons_self
        refine ⟨_, rfl, .inl ⟨rfl, _, SqL.of eF⟩, _, rfl, F, xs, v, rfl, rfl, eF, small_sz5 (by omega), ?_⟩
        have dF3 := dpa_but eF (fun b o hb e => (upd_ne (o := .lst (xs ++ [v])) hb).trans e) _ _ (hnl hmem2) dF2
        have sJ2 := same_mut (o := .lst (xs ++ [v])) sJ nF
        have eF2 : (upd J F (.lst (xs ++ [v]))) F = some (.lst (xs ++ [v])) := upd_same
        generalize upd J F (.lst (xs ++ [v])) = J2 at dF3 sJ2 eF2
        refine ⟨_, rfl, v, n, st, rfl, dv.same sJ2, hok1, fun B us2 G3 s3 nB eB dB => ⟨B, rfl, ⟨_, SqL.of eB⟩, ?_⟩⟩
        have sG3 := sJ2.trans s3
        have hu2 : us2.length = (Sf.subs (B := BD n) st).length := by rw [dpa_len dB, List.length_map]
        refine for_list (K := K) (a := B) (xs := us2) (fun j σ J => Same H J ∧ But F G3 J ∧ ∃ (y3 : Option V) (xs : List V), σ = [some (.ref t), some (.ref F), some v, y3] ∧ J F = some (.lst xs) ∧ DpAll K J xs ((flatB (n + 1) (b.take i) ++ ((⟨n, st⟩ : An) :: (((Sf.subs (B := BD n) st).take j).map (flatB n)).flatten)).map An.enc)) ⟨sG3, fun _ _ _ e => e, _, _, rfl, s3 _ _ eF2, dpa_same s3 _ _ dF3⟩ (fun j σ J _ hP => SqL.of (hP.2.1 _ _ (fun e => by
          rw [e, eF2] at nB
          cases nB) eB)) (fun j v2 σ J hv2 hP => ?_) (fun σ J hP => ?_)
        · obtain ⟨sJ3, eB3, y3, xs3, rfl, eF3, dF3⟩ := hP
          have hj : j < (Sf.subs (B := BD n) st).length := by
            rw [← hu2]
            exact (List.getElem?_eq_some_iff.mp hv2).1
          obtain ⟨v', g1, dv2⟩ := dp_mem dB hj
          rw [hv2] at g1
          cases g1
          have hbm := List.getElem_mem hj
          have htk2 : ((Sf.subs (B := BD n) st).take (j + 1)).map (flatB n) = ((Sf.subs (B := BD n) st).take j).map (flatB n) ++ [flatB n (Sf.subs (B := BD n) st)[j]] := by
            rw [List.take_succ_eq_append_getElem hj, List.map_append]
            rfl
          have hbl := flatN_le hbm
          rw [List.length_cons] at hsl
          have hpre : ∀ {a : An}, a ∈ (((Sf.subs (B := BD n) st).take j).map (flatB n)).flatten → a ∈ ((Sf.subs (B := BD n) st).map (flatB n)).flatten := fun h => by
            obtain ⟨l, hl, ha⟩ := List.mem_flatten.mp h
            obtain ⟨b', hb', rfl⟩ := List.mem_map.mp hl
            exact List.mem_flatten.mpr ⟨_, List.mem_map.mpr ⟨b', List.mem_of_mem_take hb', rfl⟩, ha⟩
          have hin : ∀ {a : An}, a ∈ flatB n (Sf.subs (B := BD n) st)[j] → a ∈ ((Sf.subs (B := BD n) st).map (flatB n)).flatten := fun h => List.mem_flatten.mpr ⟨_, List.mem_map.mpr ⟨_, hbm, rfl⟩, h⟩
          have hlen3 : xs3.length + (flatB n (Sf.subs (B := BD n) st)[j]).length ≤ 5000 := by
            have e1 : ((Sf.subs (B := BD n) st).map (flatB n)).flatten = (((Sf.subs (B := BD n) st).take j).map (flatB n)).flatten ++ (((Sf.subs (B := BD n) st).drop j).map (flatB n)).flatten := by
              rw [← List.flatten_append, ← List.map_append, List.take_append_drop]
            have e2 : (Sf.subs (B := BD n) st).drop j = (Sf.subs (B := BD n) st)[j] :: (Sf.subs (B := BD n) st).drop (j + 1) := List.drop_eq_getElem_cons hj
            rw [e1, e2, List.map_cons, List.flatten_cons, List.length_append, List.length_append] at hsl
            rw [dpa_len dF3, List.length_map, List.length_append, List.length_cons]
            omega
          have hokb := ok_subs (n := n) (s := st) hok1 _ hbm
          generalize (Sf.subs (B := BD n) st)[j] = bj at dv2 hbl htk2 hin hlen3 hokb hbm
          refine ⟨_, rfl, .inl ⟨rfl, _, SqL.of eF3⟩, _, rfl, v2, bj, rfl, dp_but (s3 _ _ eF2) eB3 _ _ (noL_blk hokb) dv2, hokb, by omega, fun Z zs G4 s4 nZ eZ dZ => ⟨F, Z, xs3, zs, rfl, rfl, s4 _ _ eF3, eZ, ?_, ?_⟩⟩
          · have hzl : zs.length = (flatB n bj).length := by rw [dpa_len dZ, List.length_map]
            exact Nat.le_of_lt (small_sz5 (by omega))
          · have d4 : DpAll K G4 (xs3 ++ zs) ((flatB (n + 1) (b.take i) ++ ((⟨n, st⟩ : An) :: (((Sf.subs (B := BD n) st).take (j + 1)).map (flatB n)).flatten)).map An.enc) := by
              rw [htk2, List.flatten_append, show flatB (n + 1) (b.take i) ++ ((⟨n, st⟩ : An) :: ((((Sf.subs (B := BD n) st).take j).map (flatB n)).flatten ++ [flatB n bj].flatten)) = (flatB (n + 1) (b.take i) ++ ((⟨n, st⟩ : An) :: (((Sf.subs (B := BD n) st).take j).map (flatB n)).flatten)) ++ flatB n bj by
                rw [List.append_assoc]
                show _ ++ (_ :: (_ ++ (flatB n bj ++ []))) = _
                rw [List.append_nil]
                rfl, List.map_append]
              exact dpa_app (dpa_same s4 _ _ dF3) dZ
            have hn4 : noLs ((flatB (n + 1) (b.take i) ++ ((⟨n, st⟩ : An) :: (((Sf.subs (B := BD n) st).take (j + 1)).map (flatB n)).flatten)).map An.enc) = true := hnl fun a ha => by
              rcases List.mem_append.mp ha with ha | ha
              · exact hfs ha
              · rcases List.mem_cons.mp ha with rfl | ha
                · exact hsub _ List.mem_cons_self
                · refine hsub _ (List.mem_cons_of_mem _ ?_)
                  rw [htk2, List.flatten_append] at ha
                  rcases List.mem_append.mp ha with ha | ha
                  · exact hpre ha
                  · exact hin (by simpa using ha)
            exact ⟨same_mut (sJ3.trans s4) nF, fun b' o hb e => (upd_ne hb).trans (s4 _ _ (eB3 _ _ hb e)), _, _, rfl, upd_same, dpa_but (s4 _ _ eF3) (fun b' o hb e => (upd_ne hb).trans e) _ _ hn4 d4⟩
        · obtain ⟨sJ3, _, y3, xs3, rfl, eF3, dF3⟩ := hP
          rw [List.take_of_length_le (l := Sf.subs (B := BD n) st) (by omega), ← htk] at dF3
          exact ⟨sJ3, _, _, xs3, rfl, eF3, dF3⟩
      · obtain ⟨sJ, y2, y3, xs, rfl, eF, dF⟩ := hP
        rw [List.take_of_length_le (by omega)] at dF
        exact ⟨_, rfl, q F xs J sJ nF eF dF⟩
end
end SW

namespace SW
open PySem PySem.Spec PyProof.Rows L2
abbrev s_Procedure : Stmt := inClass (topS 2) 0
theorem sc_Procedure : FnScope ["self", "row", "name", "parameters", "needs", "gives", "moves", "falls", "lets", "body"] ["self", "row", "name", "parameters", "needs", "gives", "moves", "falls", "lets", "body"] (defScope s_Procedure) := ⟨rfl, rfl, rfl, by decide +kernel, rfl, by decide +kernel, by decide +kernel⟩
abbrev s_list_names : Stmt := inClass (topS 2) 2
theorem sc_list_names : FnScope ["self", "name", "is_list"] ["self"] (defScope s_list_names) := ⟨rfl, rfl, rfl, by decide +kernel, rfl, by decide +kernel, by decide +kernel⟩
abbrev s_Program : Stmt := inClass (topS 3) 0
theorem sc_Program : FnScope ["self", "procedures"] ["self", "procedures"] (defScope s_Program) := ⟨rfl, rfl, rfl, by decide +kernel, rfl, by decide +kernel, by decide +kernel⟩
abbrev s_called : Stmt := inClass (topS 3) 2
theorem sc_called : FnScope ["self", "name", "procedure"] ["self", "name"] (defScope s_called) := ⟨rfl, rfl, rfl, by decide +kernel, rfl, by decide +kernel, by decide +kernel⟩
structure TxQ (K : PySem.W.Frag) (mg : PySem.Str → Option Value) (CP CG p g : Addr) : Prop extends TxB mg where
  cp : Cls K CP
  a0 : NoAttr K CP "row"
  a1 : NoAttr K CP "name"
  a2 : NoAttr K CP "parameters"
  a3 : NoAttr K CP "needs"
  a4 : NoAttr K CP "gives"
  a5 : NoAttr K CP "moves"
  a6 : NoAttr K CP "falls"
  a7 : NoAttr K CP "lets"
  a8 : NoAttr K CP "body"
  pr : PropOf K CP "list_names" p g
  mg_Procedure : mg "Procedure" = some (.ref CP)
  cl : Cls K CG
  b0 : NoAttr K CG "procedures"
  mg_Program : mg "Program" = some (.ref CG)
def prF (v0 v1 v2 v3 v4 v5 v6 v7 v8 : V) : List (PySem.Str × V) := (putF "body" v8 (putF "lets" v7 (putF "falls" v6 (putF "moves" v5 (putF "gives" v4 (putF "needs" v3 (putF "parameters" v2 (putF "name" v1 (putF "row" v0 [])))))))))
theorem prF_1 (v0 v1 v2 v3 v4 v5 v6 v7 v8 : V) : (prF v0 v1 v2 v3 v4 v5 v6 v7 v8).lookup ("name" : PySem.Str) = some v1 := by
  unfold prF
  simp only [lookup_putF]
  rw [if_neg (by decide +kernel), if_neg (by decide +kernel), if_neg (by decide +kernel), if_neg (by decide +kernel), if_neg (by decide +kernel), if_neg (by decide +kernel), if_neg (by decide +kernel), if_pos trivial]
theorem prF_2 (v0 v1 v2 v3 v4 v5 v6 v7 v8 : V) : (prF v0 v1 v2 v3 v4 v5 v6 v7 v8).lookup ("parameters" : PySem.Str) = some v2 := by
  unfold prF
  simp only [lookup_putF]
  rw [if_neg (by decide +kernel), if_neg (by decide +kernel), if_neg (by decide +kernel), if_neg (by decide +kernel), if_neg (by decide +kernel), if_neg (by decide +kernel), if_pos trivial]
theorem prF_8 (v0 v1 v2 v3 v4 v5 v6 v7 v8 : V) : (prF v0 v1 v2 v3 v4 v5 v6 v7 v8).lookup ("body" : PySem.Str) = some v8 := by
  unfold prF
  simp only [lookup_putF]
  rw [if_pos trivial]
theorem putF_len (f : PySem.Str) (v : V) : ∀ fs : List (PySem.Str × V), (putF f v fs).length ≤ fs.length + 1
  | [] => Nat.le_refl _
  | (g, u) :: r => by
    show (if g = f then (g, v) :: r else (g, u) :: putF f v r).length ≤ _
    by_cases e : g = f
    · rw [if_pos e]
      exact Nat.le_succ _
    · rw [if_neg e]
      exact Nat.succ_le_succ (putF_len f v r)
theorem pl_len {f : PySem.Str} {v : V} {fs : List (PySem.Str × V)} {n : Nat} (h : fs.length ≤ n) : (putF f v fs).length ≤ n + 1 := Nat.le_trans (putF_len f v fs) (Nat.succ_le_succ h)
theorem dp_bool_inv {K : PySem.W.Frag} {H : Hp} {v : V} {b : Bool} (h : Dp K H v (.bool b)) : v = .bl b := by
  cases h
  rfl
section
variable {P : Program} {w : World} {K : PySem.W.Frag} {mg : PySem.Str → Option Value} {base : Heap} {CP CG pp gg : Addr}
def spProcedure (CP : Addr) : Sp := fun vs H Q _ => ∃ (p dx : Addr) (v0 v1 v2 v3 v4 v5 v6 v7 v8 : V), vs = [.ref p, v0, v1, v2, v3, v4, v5, v6, v7, v8] ∧ H p = some (.ins CP dx []) ∧ ∀ H', (∀ b o, b ≠ p → H b = some o → H' b = some o) → H' p = some (.ins CP dx (prF v0 v1 v2 v3 v4 v5 v6 v7 v8)) → Q .non H'
theorem ok_Procedure {f : Addr} {fd : FuncData} (F : Fun K "__init__" "Procedure.__init__" s_Procedure f fd) (T : TxQ K mg CP CG pp gg) : FnOk P w K mg base CX0 1 f fd ["self", "row", "name", "parameters", "needs", "gives", "moves", "falls", "lets", "body"] (spProcedure CP) := by
  refine F.ok sc_Procedure (fun vs H Q E h => ?_) (fun cdv A outer s H vs Q E hr h => ?_)
  · obtain ⟨p, dx, v0, v1, v2, v3, v4, v5, v6, v7, v8, rfl, _⟩ := h
    rfl
  · obtain ⟨p, dx, v0, v1, v2, v3, v4, v5, v6, v7, v8, rfl, hp, q⟩ := h
    refine ⟨_, (pss_cons (ps_fld (pv 0) (pv 1) rfl)
      (pss_cons (ps_fld (pv 0) (pv 2) rfl)
      (pss_cons (ps_fld (pv 0) (pv 3) rfl)
      (pss_cons (ps_fld (pv 0) (pv 4) rfl)
      (pss_cons (ps_fld (pv 0) (pv 5) rfl)
      (pss_cons (ps_fld (pv 0) (pv 6) rfl)
      (pss_cons (ps_fld (pv 0) (pv 7) rfl)
      (pss_cons (ps_fld (pv 0) (pv 8) rfl)
      (pss_one (ps_fld (pv 0) (pv 9) rfl)))))))))), ?_⟩
    have c0 : ([] : List (PySem.Str × V)).length ≤ 0 := Nat.le_refl _
    have k0 : ∀ b y, b ≠ p → H b = some y → H b = some y := fun b y _ e => e
    refine ⟨_, rfl, _, rfl, p, CP, dx, _, rfl, hp, T.cp, T.a0, Nat.lt_of_le_of_lt (c0) (by decide), ?_⟩
    have k1 : ∀ b y, b ≠ p → H b = some y → upd H p (.ins CP dx (putF "row" v0 [])) b = some y := fun b y hb e => (upd_ne hb).trans (k0 b y hb e)
    have e1 : upd H p (.ins CP dx (putF "row" v0 [])) p = some (.ins CP dx (putF "row" v0 [])) := upd_same
    generalize upd H p (.ins CP dx (putF "row" v0 [])) = G1 at k1 e1
    refine ⟨_, rfl, _, rfl, p, CP, dx, _, rfl, e1, T.cp, T.a1, Nat.lt_of_le_of_lt (pl_len c0) (by decide), ?_⟩
    have k2 : ∀ b y, b ≠ p → H b = some y → upd G1 p (.ins CP dx (putF "name" v1 (putF "row" v0 []))) b = some y := fun b y hb e => (upd_ne hb).trans (k1 b y hb e)
    have e2 : upd G1 p (.ins CP dx (putF "name" v1 (putF "row" v0 []))) p = some (.ins CP dx (putF "name" v1 (putF "row" v0 []))) := upd_same
    generalize upd G1 p (.ins CP dx (putF "name" v1 (putF "row" v0 []))) = G2 at k2 e2
    refine ⟨_, rfl, _, rfl, p, CP, dx, _, rfl, e2, T.cp, T.a2, Nat.lt_of_le_of_lt (pl_len (pl_len c0)) (by decide), ?_⟩
    have k3 : ∀ b y, b ≠ p → H b = some y → upd G2 p (.ins CP dx (putF "parameters" v2 (putF "name" v1 (putF "row" v0 [])))) b = some y := fun b y hb e => (upd_ne hb).trans (k2 b y hb e)
    have e3 : upd G2 p (.ins CP dx (putF "parameters" v2 (putF "name" v1 (putF "row" v0 [])))) p = some (.ins CP dx (putF "parameters" v2 (putF "name" v1 (putF "row" v0 [])))) := upd_same
    generalize upd G2 p (.ins CP dx (putF "parameters" v2 (putF "name" v1 (putF "row" v0 [])))) = G3 at k3 e3
    refine ⟨_, rfl, _, rfl, p, CP, dx, _, rfl, e3, T.cp, T.a3, Nat.lt_of_le_of_lt (pl_len (pl_len (pl_len c0))) (by decide), ?_⟩
    have k4 : ∀ b y, b ≠ p → H b = some y → upd G3 p (.ins CP dx (putF "needs" v3 (putF "parameters" v2 (putF "name" v1 (putF "row" v0 []))))) b = some y := fun b y hb e => (upd_ne hb).trans (k3 b y hb e)
    have e4 : upd G3 p (.ins CP dx (putF "needs" v3 (putF "parameters" v2 (putF "name" v1 (putF "row" v0 []))))) p = some (.ins CP dx (putF "needs" v3 (putF "parameters" v2 (putF "name" v1 (putF "row" v0 []))))) := upd_same
    generalize upd G3 p (.ins CP dx (putF "needs" v3 (putF "parameters" v2 (putF "name" v1 (putF "row" v0 []))))) = G4 at k4 e4
    refine ⟨_, rfl, _, rfl, p, CP, dx, _, rfl, e4, T.cp, T.a4, Nat.lt_of_le_of_lt (pl_len (pl_len (pl_len (pl_len c0)))) (by decide), ?_⟩
    have k5 : ∀ b y, b ≠ p → H b = some y → upd G4 p (.ins CP dx (putF "gives" v4 (putF "needs" v3 (putF "parameters" v2 (putF "name" v1 (putF "row" v0 [])))))) b = some y := fun b y hb e => (upd_ne hb).trans (k4 b y hb e)
    have e5 : upd G4 p (.ins CP dx (putF "gives" v4 (putF "needs" v3 (putF "parameters" v2 (putF "name" v1 (putF "row" v0 [])))))) p = some (.ins CP dx (putF "gives" v4 (putF "needs" v3 (putF "parameters" v2 (putF "name" v1 (putF "row" v0 [])))))) := upd_same
    generalize upd G4 p (.ins CP dx (putF "gives" v4 (putF "needs" v3 (putF "parameters" v2 (putF "name" v1 (putF "row" v0 [])))))) = G5 at k5 e5
    refine ⟨_, rfl, _, rfl, p, CP, dx, _, rfl, e5, T.cp, T.a5, Nat.lt_of_le_of_lt (pl_len (pl_len (pl_len (pl_len (pl_len c0))))) (by decide), ?_⟩
    have k6 : ∀ b y, b ≠ p → H b = some y → upd G5 p (.ins CP dx (putF "moves" v5 (putF "gives" v4 (putF "needs" v3 (putF "parameters" v2 (putF "name" v1 (putF "row" v0 []))))))) b = some y := fun b y hb e => (upd_ne hb).trans (k5 b y hb e)
    have e6 : upd G5 p (.ins CP dx (putF "moves" v5 (putF "gives" v4 (putF "needs" v3 (putF "parameters" v2 (putF "name" v1 (putF "row" v0 []))))))) p = some (.ins CP dx (putF "moves" v5 (putF "gives" v4 (putF "needs" v3 (putF "parameters" v2 (putF "name" v1 (putF "row" v0 []))))))) := upd_same
    generalize upd G5 p (.ins CP dx (putF "moves" v5 (putF "gives" v4 (putF "needs" v3 (putF "parameters" v2 (putF "name" v1 (putF "row" v0 []))))))) = G6 at k6 e6
    refine ⟨_, rfl, _, rfl, p, CP, dx, _, rfl, e6, T.cp, T.a6, Nat.lt_of_le_of_lt (pl_len (pl_len (pl_len (pl_len (pl_len (pl_len c0)))))) (by decide), ?_⟩
    have k7 : ∀ b y, b ≠ p → H b = some y → upd G6 p (.ins CP dx (putF "falls" v6 (putF "moves" v5 (putF "gives" v4 (putF "needs" v3 (putF "parameters" v2 (putF "name" v1 (putF "row" v0 [])))))))) b = some y := fun b y hb e => (upd_ne hb).trans (k6 b y hb e)
    have e7 : upd G6 p (.ins CP dx (putF "falls" v6 (putF "moves" v5 (putF "gives" v4 (putF "needs" v3 (putF "parameters" v2 (putF "name" v1 (putF "row" v0 [])))))))) p = some (.ins CP dx (putF "falls" v6 (putF "moves" v5 (putF "gives" v4 (putF "needs" v3 (putF "parameters" v2 (putF "name" v1 (putF "row" v0 [])))))))) := upd_same
    generalize upd G6 p (.ins CP dx (putF "falls" v6 (putF "moves" v5 (putF "gives" v4 (putF "needs" v3 (putF "parameters" v2 (putF "name" v1 (putF "row" v0 [])))))))) = G7 at k7 e7
    refine ⟨_, rfl, _, rfl, p, CP, dx, _, rfl, e7, T.cp, T.a7, Nat.lt_of_le_of_lt (pl_len (pl_len (pl_len (pl_len (pl_len (pl_len (pl_len c0))))))) (by decide), ?_⟩
    have k8 : ∀ b y, b ≠ p → H b = some y → upd G7 p (.ins CP dx (putF "lets" v7 (putF "falls" v6 (putF "moves" v5 (putF "gives" v4 (putF "needs" v3 (putF "parameters" v2 (putF "name" v1 (putF "row" v0 []))))))))) b = some y := fun b y hb e => (upd_ne hb).trans (k7 b y hb e)
    have e8 : upd G7 p (.ins CP dx (putF "lets" v7 (putF "falls" v6 (putF "moves" v5 (putF "gives" v4 (putF "needs" v3 (putF "parameters" v2 (putF "name" v1 (putF "row" v0 []))))))))) p = some (.ins CP dx (putF "lets" v7 (putF "falls" v6 (putF "moves" v5 (putF "gives" v4 (putF "needs" v3 (putF "parameters" v2 (putF "name" v1 (putF "row" v0 []))))))))) := upd_same
    generalize upd G7 p (.ins CP dx (putF "lets" v7 (putF "falls" v6 (putF "moves" v5 (putF "gives" v4 (putF "needs" v3 (putF "parameters" v2 (putF "name" v1 (putF "row" v0 []))))))))) = G8 at k8 e8
    refine ⟨_, rfl, _, rfl, p, CP, dx, _, rfl, e8, T.cp, T.a8, Nat.lt_of_le_of_lt (pl_len (pl_len (pl_len (pl_len (pl_len (pl_len (pl_len (pl_len c0)))))))) (by decide), ?_⟩
    have k9 : ∀ b y, b ≠ p → H b = some y → upd G8 p (.ins CP dx (putF "body" v8 (putF "lets" v7 (putF "falls" v6 (putF "moves" v5 (putF "gives" v4 (putF "needs" v3 (putF "parameters" v2 (putF "name" v1 (putF "row" v0 [])))))))))) b = some y := fun b y hb e => (upd_ne hb).trans (k8 b y hb e)
    have e9 : upd G8 p (.ins CP dx (putF "body" v8 (putF "lets" v7 (putF "falls" v6 (putF "moves" v5 (putF "gives" v4 (putF "needs" v3 (putF "parameters" v2 (putF "name" v1 (putF "row" v0 [])))))))))) p = some (.ins CP dx (putF "body" v8 (putF "lets" v7 (putF "falls" v6 (putF "moves" v5 (putF "gives" v4 (putF "needs" v3 (putF "parameters" v2 (putF "name" v1 (putF "row" v0 [])))))))))) := upd_same
    generalize upd G8 p (.ins CP dx (putF "body" v8 (putF "lets" v7 (putF "falls" v6 (putF "moves" v5 (putF "gives" v4 (putF "needs" v3 (putF "parameters" v2 (putF "name" v1 (putF "row" v0 [])))))))))) = G9 at k9 e9
    exact q G9 k9 e9
def spList (K : PySem.W.Frag) (CP : Addr) : Sp := fun vs H Q _ => ∃ (p dx : Addr) (v0 v1 v2 v3 v4 v5 v6 v7 v8 : V) (ps : List (PySem.Str × Bool)), vs = [.ref p] ∧ H p = some (.ins CP dx (prF v0 v1 v2 v3 v4 v5 v6 v7 v8)) ∧ Dp K H v2 (.tuple (ps.map fun x => .tuple [.str x.1, .bool x.2])) ∧ ps.length ≤ 100 ∧ ∀ (F : Addr) (H' : Hp), Same H H' → H F = none → H' F = some (.lst (((ps.filter fun x => x.2).map Prod.fst).map V.str)) → Q (.ref F) H'
theorem ok_list_names {f : Addr} {fd : FuncData} (F : Fun K "list_names" "Procedure.list_names" s_list_names f fd) (T : TxQ K mg CP CG pp gg) : FnOk P w K mg base CX0 1 f fd ["self"] (spList K CP) := by
  refine F.ok sc_list_names (fun vs H Q E h => ?_) (fun cdv A outer s H vs Q E hr h => ?_)
  · obtain ⟨p, dx, v0, v1, v2, v3, v4, v5, v6, v7, v8, ps, rfl, _⟩ := h
    rfl
  · obtain ⟨p, dx, v0, v1, v2, v3, v4, v5, v6, v7, v8, ps, rfl, hp, hd, hl, q⟩ := h
    refine ⟨_, pss_one (ps_ret (pe_lc (own := [("name", 1), ("is_list", 2)]) (g := gTup K 2 (gCons (gName 1) (gCons (gName 2) gNil))) (by rfl) sc_list_names.nd (pi_tup (pe_fld (pv 0) rfl)) (blkOk_by (own := [("name", 1), ("is_list", 2)]) (N := ["self", "name", "is_list"]) (sc := defScope s_list_names) (by decide +kernel)) (fun _ _ _ _ _ => pg_tup rfl (pgs_cons (pg_name (i := 1) sc_list_names.nd rfl (Or.inl rfl)) (pgs_cons (pg_name (i := 2) sc_list_names.nd rfl (Or.inl rfl)) pgs_nil))) (fun _ _ _ _ _ => pts_one (pt_val (pv 2))) (fun _ _ _ _ _ => pv 1))), ?_⟩
    obtain ⟨t, us, rfl, ht, ha⟩ := dp_tup_inv hd
    have hul : us.length = ps.length := by rw [dpa_len ha, List.length_map]
    refine ⟨_, rfl, p, CP, dx, _, _, rfl, hp, T.cp, T.a2, prF_2 _ _ _ _ _ _ _ _ _, t, rfl, ⟨_, ht⟩, fun F nF => ?_⟩
    refine lc_tup (K := K) (a := t) (xs := us) (fun i G => Same H G ∧ G F = some (.lst ((((ps.take i).filter fun x => x.2).map Prod.fst).map V.str))) ⟨same_new nF, upd_same⟩ (fun i G _ hP => sqt_same hP.1 ht) (fun i v G hv hP => ?_) (fun G hP => ?_)
    · obtain ⟨sG, eF⟩ := hP
      have hi : i < ps.length := by
        rw [← hul]
        exact (List.getElem?_eq_some_iff.mp hv).1
      obtain ⟨v', g1, d1⟩ := dp_mem ha hi
      rw [hv] at g1
      cases g1
      obtain ⟨t2, w1, w2, rfl, ht2, d2, d3⟩ := dp_inv2 (d1.same sG)
      cases dp_str_inv d2
      cases dp_bool_inv d3
      have hll : ((((ps.take i).filter fun x => x.2).map Prod.fst).map V.str).length ≤ 100 := by
        rw [List.length_map, List.length_map]
        refine Nat.le_trans (List.length_filter_le _ _) ?_
        rw [List.length_take]
        omega
      refine ⟨t2, _, rfl, ht2, rfl, _, _, rfl, _, _, rfl, rfl, rfl, _, rfl, _, rfl, ite2 (fun e => ?_) (fun e => ?_)⟩
      · refine ⟨_, rfl, _, eF, small_sz5 (by omega), same_mut sG nF, ?_⟩
        rw [upd_same, List.take_succ_eq_append_getElem hi, List.filter_append, List.filter_cons, if_pos e, List.map_append, List.map_append]
        rfl
      · refine ⟨sG, ?_⟩
        rw [List.take_succ_eq_append_getElem hi, List.filter_append, List.filter_cons, if_neg e]
        show G F = some (.lst (((_ ++ []).map Prod.fst).map V.str))
        rw [List.append_nil]
        exact eF
    · obtain ⟨sG, eF⟩ := hP
      rw [List.take_of_length_le (by omega)] at eF
      exact q F G sG nF eF

end
end SW

namespace SW
open PySem PySem.Spec PyProof.Rows L2
abbrev s_changed_by_call : Stmt := topS 10
theorem sc_changed_by_call : FnScope ["program", "call", "changed", "procedure", "names", "argument", "parameter"] ["program", "call", "changed"] (defScope s_changed_by_call) := ⟨rfl, rfl, rfl, by decide +kernel, rfl, by decide +kernel, by decide +kernel⟩

abbrev s_changed_by : Stmt := topS 9
theorem sc_changed_by : FnScope ["program", "procedure", "block", "changed", "names", "statement", "name"] ["program", "procedure", "block", "changed"] (defScope s_changed_by) := ⟨rfl, rfl, rfl, by decide +kernel, rfl, by decide +kernel, by decide +kernel⟩

theorem walk_zipT {K : PySem.W.Frag} {a b : Addr} {xs ys : List V} {n : Nat} (hn : n = min xs.length ys.length) : Walk (RZ.ItzT K a b) n (fun H => SqT K H a xs ∧ SqT K H b ys) (YPair (fun i => xs[i]?) (fun i => ys[i]?)) := by
  subst hn
  refine ⟨fun i _ hi q => ?_, fun _ q => ⟨xs, ys, q.1, q.2, by omega⟩, fun i H v H' _ q y => ?_⟩
  · have h1 : i < xs.length := by omega
    have h2 : i < ys.length := by omega
    exact ⟨xs, ys, xs[i], ys[i], q.1, q.2, by simp [h1], by simp [h2]⟩
  · obtain ⟨T, x, z, h1, h2, h3, h4, h5⟩ := y
    exact ⟨T, x, z, h1, h2, h3, h4 xs q.1, h5 ys q.2⟩
/-! ### procedures -/
def psE (ps : List (PySem.Str × Bool)) : PyData := .tuple (ps.map fun x => .tuple [.str x.1, .bool x.2])
structure Pc (m : Nat) where
  p : Addr
  nm : PySem.Str
  ps : List (PySem.Str × Bool)
  body : List (BD m)
/-- what every procedure keeps -/
structure Pc.ok {m : Nat} (c : Pc m) : Prop where
  ps : c.ps.length ≤ 100
  body : ∀ s, s ∈ c.body → okD m s
  flat : (flatB m c.body).length ≤ 900
structure PcAt (K : PySem.W.Frag) (CP : Addr) (H : Hp) {m : Nat} (c : Pc m) : Prop where
  ex : ∃ (dx : Addr) (v0 v2 v3 v4 v5 v6 v7 v8 : V), H c.p = some (.ins CP dx (prF v0 (.str c.nm) v2 v3 v4 v5 v6 v7 v8)) ∧ Dp K H v2 (psE c.ps) ∧ Dp K H v8 (blkE m c.body)
theorem PcAt.same {K : PySem.W.Frag} {CP : Addr} {H H' : Hp} {m : Nat} {c : Pc m} (h : PcAt K CP H c) (s : Same H H') : PcAt K CP H' c := by
  obtain ⟨dx, v0, v2, v3, v4, v5, v6, v7, v8, h1, h2, h3⟩ := h.ex
  exact ⟨dx, v0, v2, v3, v4, v5, v6, v7, v8, s _ _ h1, h2.same s, h3.same s⟩
structure PgAt (K : PySem.W.Frag) (CP CG : Addr) (H : Hp) (pg : Addr) {m : Nat} (cs : List (Pc m)) : Prop where
  ex : ∃ (dx t : Addr), H pg = some (.ins CG dx [("procedures", .ref t)]) ∧ SqT K H t (cs.map fun c => .ref c.p)
  at_ : ∀ c, c ∈ cs → PcAt K CP H c
theorem PgAt.same {K : PySem.W.Frag} {CP CG : Addr} {H H' : Hp} {pg : Addr} {m : Nat} {cs : List (Pc m)} (h : PgAt K CP CG H pg cs) (s : Same H H') : PgAt K CP CG H' pg cs := by
  obtain ⟨dx, t, h1, h2⟩ := h.ex
  exact ⟨⟨dx, t, s _ _ h1, sqt_same s h2⟩, fun c hc => (h.at_ c hc).same s⟩
def fnd {m : Nat} (cs : List (Pc m)) (x : PySem.Str) : Option (Pc m) := cs.find? fun c => decide (c.nm = x)
theorem fnd_mem {m : Nat} {cs : List (Pc m)} {x : PySem.Str} {c : Pc m} (h : fnd cs x = some c) : c ∈ cs ∧ c.nm = x := by
  have h : cs.find? (fun c => decide (c.nm = x)) = some c := h
  have h2 := List.find?_some h
  exact ⟨List.mem_of_find?_eq_some h, of_decide_eq_true h2⟩
def callN (ps : List (PySem.Str × Bool)) (ns : List PySem.Str) (as : List Ar) : List PySem.Str := (as.zip ps).filterMap fun z => match z.1 with
  | .ls x => if z.2.1 ∈ ns then some x else none
  | .pl _ _ => none
def chN {m : Nat} (cs : List (Pc m)) (ch : PySem.Str → List PySem.Str) (f : PySem.Str) (as : List Ar) : List PySem.Str := match fnd cs f with
  | some c => callN c.ps (ch f) as
  | none => []
def toN {m : Nat} (cs : List (Pc m)) (ch : PySem.Str → List PySem.Str) (a : An) : List PySem.Str := match a.s with
  | .lst _ _ x _ => [x]
  | .cal _ _ f as => chN cs ch f as
  | _ => []
/-- what is changed by then, as a dict of lists -/
structure ChAt (H : Hp) (cd : Addr) {m : Nat} (cs : List (Pc m)) (ch : PySem.Str → List PySem.Str) : Prop where
  ex : ∃ kvs : List (Key × V), H cd = some (.dK kvs) ∧ kvs.length ≤ 100 ∧ ∀ c, c ∈ cs → ∃ l, valV kvs (.inr c.nm) = some (.ref l) ∧ H l = some (.lst ((ch c.nm).map V.str))
theorem ChAt.same {H H' : Hp} {cd : Addr} {m : Nat} {cs : List (Pc m)} {ch : PySem.Str → List PySem.Str} (h : ChAt H cd cs ch) (s : Same H H') : ChAt H' cd cs ch := by
  obtain ⟨kvs, h1, h2, h3⟩ := h.ex
  exact ⟨kvs, s _ _ h1, h2, fun c hc => by
    obtain ⟨l, e1, e2⟩ := h3 c hc
    exact ⟨l, e1, s _ _ e2⟩⟩
section
variable {P : Program} {w : World} {K : PySem.W.Frag} {mg : PySem.Str → Option Value} {base : Heap} {CP CG pp gg : Addr}
def spProgram (CG : Addr) (K : PySem.W.Frag) : Sp := fun vs H Q _ => ∃ (p dx b : Addr) (xs : List V), vs = [.ref p, .ref b] ∧ H p = some (.ins CG dx []) ∧ SqT K H b xs ∧ ∀ H', (∀ b o, b ≠ p → H b = some o → H' b = some o) → H' p = some (.ins CG dx [("procedures", .ref b)]) → Q .non H'
def spCalled (K : PySem.W.Frag) (CP CG : Addr) : Sp := fun vs H Q _ => ∃ (pg : Addr) (m : Nat) (cs : List (Pc m)) (x : PySem.Str), vs = [.ref pg, .str x] ∧ PgAt K CP CG H pg cs ∧ (∀ c, fnd cs x = some c → Q (.ref c.p) H) ∧ (fnd cs x = none → Q .non H)
theorem ok_called {f : Addr} {fd : FuncData} (F : Fun K "called" "Program.called" s_called f fd) (T : TxQ K mg CP CG pp gg) : FnOk P w K mg base CX0 1 f fd ["self", "name"] (spCalled K CP CG) := by
  refine F.ok sc_called (fun vs H Q E h => ?_) (fun cdv A outer s H vs Q E hr h => ?_)
  · obtain ⟨pg, m, cs, x, rfl, _⟩ := h
    rfl
  · obtain ⟨pg, m, cs, x, rfl, hg, q1, q2⟩ := h
    refine ⟨_, pss_cons (ps_for PassesOwn.never rfl (pi_tup (pe_fld (pv 0) rfl)) (pg_name (i := 2) sc_called.nd rfl (.inl rfl)) (pss_one (ps_if (pt_cmpR op_eq (pe_fld (pv 2) rfl) (pv 1) (nomark _)) (pss_one (ps_ret (pv 2))) pss_nil))) (pss_one (ps_ret pe_non)), ?_⟩
    obtain ⟨dx, t, h1, h2⟩ := hg.ex
    refine ⟨_, rfl, pg, CG, dx, _, _, rfl, h1, T.cl, T.b0, rfl, t, rfl, ⟨_, h2⟩, ?_⟩
    refine for_tup (K := K) (a := t) (xs := cs.map fun c => .ref c.p) (fun i σ G => G = H ∧ (∃ y2 : Option V, σ = [some (.ref pg), some (.str x), y2]) ∧ fnd cs x = fnd (cs.drop i) x) ⟨rfl, ⟨_, rfl⟩, rfl⟩ (fun i σ G _ hP => by
      obtain ⟨rfl, _⟩ := hP
      exact h2) (fun i v σ G hv hP => ?_) (fun σ G hP => ?_)
    · obtain ⟨rfl, ⟨y2, rfl⟩, hf⟩ := hP
      rw [List.getElem?_map] at hv
      obtain ⟨c, hc, rfl⟩ := Option.map_eq_some_iff.mp hv
      obtain ⟨hi, hci⟩ := List.getElem?_eq_some_iff.mp hc
      obtain ⟨dx', v0, v2, v3, v4, v5, v6, v7, v8, hp, _⟩ := (hg.at_ c (List.mem_of_getElem? hc)).ex
      refine ⟨_, rfl, c.p, CP, dx', _, _, rfl, hp, T.cp, T.a1, prF_1 _ _ _ _ _ _ _ _ _, _, rfl, rfl, _, rfl, ?_⟩
      rw [str_dec]
      have e : cs.drop i = c :: cs.drop (i + 1) := by
        rw [List.drop_eq_getElem_cons hi, hci]
      have hf2 : fnd cs x = if c.nm = x then some c else fnd (cs.drop (i + 1)) x := by
        rw [hf, e]
        unfold fnd
        rw [List.find?_cons]
        by_cases h : c.nm = x
        · rw [decide_eq_true h, if_pos h]
        · rw [decide_eq_false h, if_neg h]
      refine ite2 (fun e => ?_) (fun e => ?_)
      · rw [if_pos (of_decide_eq_true e)] at hf2
        exact ⟨_, rfl, q1 c hf2⟩
      · rw [if_neg (of_decide_eq_false (Bool.eq_false_iff.mpr e))] at hf2
        exact ⟨rfl, ⟨_, rfl⟩, hf2⟩
    · obtain ⟨rfl, ⟨y2, rfl⟩, hf⟩ := hP
      refine q2 ?_
      rw [hf, List.drop_eq_nil_of_le (by rw [List.length_map]; exact Nat.le_refl _)]
      rfl
end
end SW

namespace SW
open PySem PySem.Spec PyProof.Rows L2
structure CkM (K : PySem.W.Frag) (C : Addr) (x q : PySem.Str) (s : Stmt) (ps : List PySem.Str) where
  f : Addr
  fd : FuncData
  F : Fun K x q s f fd
  b : Binds K fd ps []
  M : Meth K C x f
structure CkG (K : PySem.W.Frag) (g : Addr) where
  fd : FuncData
  F : Fun K "list_names" "Procedure.list_names" s_list_names g fd
  b : Binds K fd ["self"] []
section
variable {P : Program} {w : World} {K : PySem.W.Frag} {mg : PySem.Str → Option Value} {base : Heap} {CP CG pp gg : Addr}
theorem ok_Program {f : Addr} {fd : FuncData} (F : Fun K "__init__" "Program.__init__" s_Program f fd) (T : TxQ K mg CP CG pp gg) : FnOk P w K mg base CX0 1 f fd ["self", "procedures"] (spProgram CG K) := by
  refine F.ok sc_Program (fun vs H Q E h => ?_) (fun cdv A outer s H vs Q E hr h => ?_)
  · obtain ⟨p, dx, b, xs, rfl, _⟩ := h
    rfl
  · obtain ⟨p, dx, b, xs, rfl, hp, hb, q⟩ := h
    refine ⟨_, pss_one (ps_fld (pv 0) (pe_callTy call_tuple_of (by rfl) T.n_tuple (by decide +kernel) (pa_cons (pv 1) pa_nil)) rfl), ?_⟩
    refine ⟨_, rfl, b, xs, rfl, .inr ⟨hb, ?_⟩⟩
    refine ⟨_, rfl, p, CG, dx, _, rfl, hp, T.cl, T.b0, (by show 0 < 1000; decide), ?_⟩
    exact q _ (fun b y hb e => (upd_ne hb).trans e) upd_same
/-- what a call changes -/
def spByCall (K : PySem.W.Frag) (CP CG : Addr) : Sp := fun vs H Q _ => ∃ (pg cd : Addr) (m : Nat) (cs : List (Pc m)) (ch : PySem.Str → List PySem.Str) (v : V) (n : Nat) (r : Int) (y f : PySem.Str) (as : List Ar), vs = [.ref pg, v, .ref cd] ∧ PgAt K CP CG H pg cs ∧ (∀ c, c ∈ cs → c.ok) ∧ ChAt H cd cs ch ∧ Dp K H v (Sf.enc (encD n) (.cal r y f as)) ∧ (∀ a, a ∈ as → a.ok) ∧ ∀ (F : Addr) (H' : Hp), Same H H' → H F = none → H' F = some (.lst ((chN cs ch f as).map V.str)) → Q (.ref F) H'
theorem ok_by_call (T : TxQ K mg CP CG pp gg) (c_called : CkM K CG "called" "Program.called" s_called ["self", "name"]) (D_changed_by_call : Df K mg "_changed_by_call" s_changed_by_call ["program", "call", "changed"]) : FnOk P w K mg base CX0 3 D_changed_by_call.f D_changed_by_call.fd ["program", "call", "changed"] (spByCall K CP CG) := by
  have m_called := c_called.M
  have G_called := ok_called (P := P) (w := w) (base := base) c_called.F T
  have b_called := c_called.b
  refine D_changed_by_call.F.ok sc_changed_by_call (fun vs H Q E h => ?_) (fun cdv A outer s H vs Q E hr h => ?_)
  · obtain ⟨pg, cd, m, cs, ch, v, n, r, y, f, as, rfl, _⟩ := h
    rfl
  · obtain ⟨pg, cd, m, cs, ch, v, n, r, y, f, as, rfl, hg, hok, hch, hd, hao, q⟩ := h
    refine ⟨_, (pss_cons (ps_set (i := 3) sc_changed_by_call.nd rfl (.inl rfl) (pe_meth (pv 0) T.cl m_called G_called (hr.mono (by decide)) b_called .nil pass0 (pa_cons (pe_ix ix_tup (pv 1) pe_int (fun _ _ => rfl)) pa_nil)))
    (pss_cons (ps_if (pt_cmpR op_isN (pv 3) pe_non (nomark _))
    (pss_one (ps_ret (pe_lst pa_nil)))
    pss_nil)
    (pss_cons (ps_set (i := 4) sc_changed_by_call.nd rfl (.inr rfl) (pe_dget (hu_of hr) (pv 2) (pe_fld (pv 3) rfl) (fun _ _ => rfl)))
    (pss_one (ps_ret (pe_lc (own := [("argument", 5), ("parameter", 6)]) (g := gTup K 2 (gCons (gName 5) (gCons (gName 6) gNil))) (by rfl) sc_changed_by_call.nd (RZ.pi_zipA (by rfl) T.n_zip (pa_cons (pe_ix ix_tup (pv 1) pe_int (fun _ _ => rfl)) (pa_cons (pe_fld (pv 3) rfl) pa_nil))) (blkOk_by (own := [("argument", 5), ("parameter", 6)]) (N := ["program", "call", "changed", "procedure", "names", "argument", "parameter"]) (sc := defScope s_changed_by_call) (by decide +kernel)) (fun _ _ _ _ _ => pg_tup rfl (pgs_cons (pg_name (i := 5) sc_changed_by_call.nd rfl (Or.inl rfl)) (pgs_cons (pg_name (i := 6) sc_changed_by_call.nd rfl (Or.inl rfl)) pgs_nil))) (fun _ _ _ _ _ => pts_one (PW.pt (pw_and (pt_cmpR op_eq (pe_ix (show IxR _ (rIxT K) from ix_tup) (pv 5) pe_int (fun _ _ => rfl)) pe_str (nomark _)) (pw_and1 (pt_cmpR (show OpR _ (compareOp .In) (rIn K false) from op_in_seq) (pe_ix (show IxR _ (rIxT K) from ix_tup) (pv 6) pe_int (fun _ _ => rfl)) (pv 4) (by rfl)))))) (fun _ _ _ _ _ => (pe_ix (show IxR _ (rIxT K) from ix_tup) (pv 5) pe_int (fun _ _ => rfl))))))))), ?_⟩
    obtain ⟨t, us, rfl, ht, ha⟩ := sf_inv hd
    obtain ⟨v1, v2, v3, v4, rfl, d1, d2, d3, d4⟩ := dpa4 ha
    cases dp_str_inv d3
    obtain ⟨dx, tg, hpg, htg⟩ := hg.ex
    refine ⟨_, rfl, pg, dx, _, rfl, hpg, rfl, _, rfl, t, _, _, _, rfl, rfl, ht, atI_nat (j := 3) rfl, pg, m, cs, f, rfl, hg, fun c hc => ?_, fun hc => ?_⟩
    · obtain ⟨hm, rfl⟩ := fnd_mem hc
      obtain ⟨dx', w0, w2, w3, w4, w5, w6, w7, w8, hp, dp, _⟩ := (hg.at_ c hm).ex
      obtain ⟨kvs, e1, e2, e3⟩ := hch.ex
      obtain ⟨l, k1, k2⟩ := e3 c hm
      refine ⟨_, rfl, rfl, _, rfl, iteF ?_⟩
      refine ⟨_, rfl, _, rfl, c.p, CP, dx', _, _, rfl, hp, T.cp, T.a1, prF_1 _ _ _ _ _ _ _ _ _, cd, .ref l, rfl, k1 ▸ DGet.k (k := .inr c.nm) e1, ?_⟩
      obtain ⟨ta, ys, rfl, hta, dya⟩ := dp_tup_inv d4
      obtain ⟨tp, zs, rfl, htp, dzp⟩ := dp_tup_inv dp
      refine ⟨_, rfl, t, _, _, _, rfl, rfl, ht, atI_nat (j := 4) rfl, _, rfl, c.p, CP, dx', _, _, rfl, hp, T.cp, T.a2, prF_2 _ _ _ _ _ _ _ _ _, ta, tp, ys, zs, rfl, .inr ⟨hta, htp, fun F nF => ?_⟩⟩
      have hN : chN cs ch c.nm as = callN c.ps (ch c.nm) as := by
        unfold chN
        rw [hc]
      rw [hN] at q
      have hyl : ys.length = as.length := by rw [dpa_len dya, List.length_map]
      have hzl : zs.length = c.ps.length := by rw [dpa_len dzp, List.length_map]
      have hcl := (hok c hm).ps
      refine lc_it (walk_zipT (K := K) (a := ta) (b := tp) (xs := ys) (ys := zs) rfl) (fun i G => Same H G ∧ G F = some (.lst ((callN (c.ps.take i) (ch c.nm) (as.take i)).map V.str))) ⟨same_new nF, upd_same⟩ (fun i G _ hP => ⟨sqt_same hP.1 hta, sqt_same hP.1 htp⟩) (fun i v G G' hi hP hY => ?_) (fun G hP => ?_)
      · obtain ⟨sG, eF⟩ := hP
        obtain ⟨Z, x1, x2, rfl, nZ, rfl, g1, g2⟩ := hY
        have g1 : ys[i]? = some x1 := g1
        have g2 : zs[i]? = some x2 := g2
        have hia : i < as.length := by omega
        have hip : i < c.ps.length := by omega
        obtain ⟨v', g1', da⟩ := dp_mem dya hia
        rw [g1] at g1'
        cases g1'
        obtain ⟨v', g2', db⟩ := dp_mem dzp hip
        rw [g2] at g2'
        cases g2'
        have s2 := same_new (o := .tup [x1, x2]) nZ
        have eZ : (upd G Z (.tup [x1, x2])) Z = some (.tup [x1, x2]) := upd_same
        have hao1 := hao _ (List.getElem_mem hia)
        have htk : callN (c.ps.take (i + 1)) (ch c.nm) (as.take (i + 1)) = callN (c.ps.take i) (ch c.nm) (as.take i) ++ callN [c.ps[i]] (ch c.nm) [as[i]] := by
          unfold callN
          rw [List.take_succ_eq_append_getElem hia, List.take_succ_eq_append_getElem hip, List.zip_append (by rw [List.length_take, List.length_take]; omega), List.filterMap_append]
        have hle : (callN (c.ps.take i) (ch c.nm) (as.take i)).length ≤ 100 := by
          refine Nat.le_trans (List.length_filterMap_le _ _) ?_
          rw [List.length_zip, List.length_take, List.length_take]
          omega
        generalize upd G Z (.tup [x1, x2]) = G2 at s2 eZ
        generalize as[i] = a at da hao1 htk
        generalize c.ps[i] = b at db htk
        obtain ⟨tb, b1, b2, rfl, htb, f1, f2⟩ := dp_inv2 (db.same (sG.trans s2))
        cases dp_str_inv f1
        have sG2 := sG.trans s2
        have da2 := da.same sG2
        have k2' := sG2 _ _ k2
        have eF2 := s2 _ _ eF
        have all : ((ch c.nm).map V.str).all flatV = true := List.all_eq_true.mpr fun v hv => by
          obtain ⟨z, _, rfl⟩ := List.mem_map.mp hv
          rfl
        cases a with
        | ls x =>
          obtain ⟨t2, w1, w2, rfl, ht2, m1, m2⟩ := dp_inv2 da2
          cases dp_str_inv m1
          cases dp_str_inv m2
          have hc1 : callN [b] (ch c.nm) [.ls x] = if b.1 ∈ ch c.nm then [x] else [] := by
            unfold callN
            by_cases h : b.1 ∈ ch c.nm <;> simp [h]
          refine ⟨Z, _, rfl, SqT.of eZ, rfl, _, _, rfl, _, _, rfl, rfl, rfl, _, rfl, t2, _, _, _, rfl, rfl, ht2, atI_nat (j := 0) rfl, rfl, _, rfl, iteT ?_⟩
          refine ⟨_, rfl, tb, _, _, _, rfl, rfl, htb, atI_nat (j := 0) rfl, _, rfl, l, _, rfl, .inl (SqL.of k2'), rfl, all, _, rfl, ?_⟩
          show if inV (.str b.1) ((ch c.nm).map V.str) = true then _ else _
          rw [inV_strs]
          refine ite2 (fun e => ?_) (fun e => ?_)
          · refine ⟨_, rfl, t2, _, _, _, rfl, rfl, ht2, atI_nat (j := 1) rfl, _, eF2, small_sz5 (by rw [List.length_map]; omega), same_mut sG2 nF, ?_⟩
            rw [upd_same, htk, hc1, if_pos (of_decide_eq_true e), List.map_append]
            rfl
          · refine ⟨sG2, ?_⟩
            rw [htk, hc1, if_neg (of_decide_eq_false (Bool.eq_false_iff.mpr e)), List.append_nil]
            exact eF2
        | pl h ds =>
          obtain ⟨t2, ws, rfl, ht2, m1⟩ := dp_tup_inv da2
          cases m1 with
          | cons m1 m2 =>
          cases dp_str_inv m1
          refine ⟨Z, _, rfl, SqT.of eZ, rfl, _, _, rfl, _, _, rfl, rfl, rfl, _, rfl, t2, _, _, _, rfl, rfl, ht2, atI_nat (j := 0) rfl, rfl, _, rfl, ?_⟩
          rw [str_dec, decide_eq_false hao1.1]
          refine iteF ⟨sG2, ?_⟩
          rw [htk, show callN [b] (ch c.nm) [.pl h ds] = [] from rfl, List.append_nil]
          exact eF2
      · obtain ⟨sG, eF⟩ := hP
        have e9 : callN (c.ps.take (min ys.length zs.length)) (ch c.nm) (as.take (min ys.length zs.length)) = callN c.ps (ch c.nm) as := by
          have e : (as.take (min ys.length zs.length)).zip (c.ps.take (min ys.length zs.length)) = as.zip c.ps := by
            show List.zipWith Prod.mk _ _ = List.zipWith Prod.mk _ _
            rw [← List.take_zipWith, List.take_of_length_le (by rw [List.length_zipWith]; omega)]
          unfold callN
          rw [e]
        rw [e9] at eF
        exact q F G sG nF eF
    · refine ⟨_, rfl, rfl, _, rfl, iteT ⟨Nat.zero_le _, fun F nF => ?_⟩⟩
      have hN : chN cs ch f as = [] := by
        unfold chN
        rw [hc]
      rw [hN] at q
      generalize hG : upd H F _ = G
      obtain ⟨s1, e1⟩ := new_of nF hG
      exact q F G s1 nF e1
end
end SW

namespace SW
open PySem PySem.Spec PyProof.Rows L2
def namesN {m n : Nat} (cs : List (Pc m)) (ch : PySem.Str → List PySem.Str) (b : List (BD n)) : List PySem.Str := ((flatB n b).map (toN cs ch)).flatten
def byN {m n : Nat} (cs : List (Pc m)) (ch : PySem.Str → List PySem.Str) (ps : List (PySem.Str × Bool)) (b : List (BD n)) : List PySem.Str := ((ps.filter fun x => x.2).map Prod.fst).filter fun x => decide (x ∈ namesN cs ch b)
theorem chN_len {m : Nat} {cs : List (Pc m)} {ch : PySem.Str → List PySem.Str} (hok : ∀ c, c ∈ cs → c.ok) (f : PySem.Str) (as : List Ar) : (chN cs ch f as).length ≤ 100 := by
  unfold chN
  cases h : fnd cs f with
  | none => exact Nat.zero_le _
  | some c =>
    refine Nat.le_trans (List.length_filterMap_le _ _) ?_
    rw [List.length_zip]
    have := (hok c (fnd_mem h).1).ps
    omega
theorem toN_len {m : Nat} {cs : List (Pc m)} {ch : PySem.Str → List PySem.Str} (hok : ∀ c, c ∈ cs → c.ok) (a : An) : (toN cs ch a).length ≤ 100 := by
  obtain ⟨n, s⟩ := a
  cases s with
  | cal r y f as => exact chN_len hok f as
  | lst k r x ds => show 1 ≤ 100; decide
  | oth k r ds => exact Nat.zero_le _
  | iff r c a b => exact Nat.zero_le _
  | whl r c ks f b => exact Nat.zero_le _
theorem fl_len {α β : Type} {f : α → List β} {k : Nat} {l : List α} (h : ∀ a, (f a).length ≤ k) : ((l.map f).flatten).length ≤ k * l.length := by
  induction l with
  | nil => exact Nat.zero_le _
  | cons a r ih =>
    rw [List.map_cons, List.flatten_cons, List.length_append, List.length_cons, Nat.mul_succ]
    have := h a
    omega
theorem fn_upto8 {P : Program} {w : World} {K : PySem.W.Frag} {mg : PySem.Str → Option Value} {base : Heap} {k N : Nat} {f : Addr} {fd : FuncData} {ps : List PySem.Str} {sp : Nat → Sp} (F : ∀ n, n < N → FnOk P w K mg base CX0 k f fd ps (sp n)) : FnOk P w K mg base CX0 k f fd ps (fun vs H Q E => ∃ n, n < N ∧ sp n vs H Q E) :=
  ⟨fun vs H Q E ⟨n, hn, q⟩ => (F n hn).len vs H Q E q, fun A outer s H args us vs Q E hr he hb hv ⟨n, hn, hs⟩ => (F n hn).run A outer s H args us vs Q E hr he hb hv hs⟩
section
variable {P : Program} {w : World} {K : PySem.W.Frag} {mg : PySem.Str → Option Value} {base : Heap} {CP CG pp gg : Addr}
def spBy (K : PySem.W.Frag) (CP CG : Addr) : Sp := fun vs H Q _ => ∃ (pg cd : Addr) (m : Nat) (cs : List (Pc m)) (ch : PySem.Str → List PySem.Str) (c : Pc m) (v : V) (n : Nat) (b : List (BD n)), vs = [.ref pg, .ref c.p, v, .ref cd] ∧ PgAt K CP CG H pg cs ∧ (∀ c, c ∈ cs → c.ok) ∧ c ∈ cs ∧ ChAt H cd cs ch ∧ n < 8 ∧ Dp K H v (blkE n b) ∧ (∀ s, s ∈ b → okD n s) ∧ (flatB n b).length ≤ 900 ∧ ∀ (F : Addr) (H' : Hp), Same H H' → H F = none → H' F = some (.lst ((byN cs ch c.ps b).map V.str)) → Q (.ref F) H'
theorem ok_changed_by (T : TxQ K mg CP CG pp gg) (c_called : CkM K CG "called" "Program.called" s_called ["self", "name"]) (c_list : CkG K gg) (D_changed_by : Df K mg "_changed_by" s_changed_by ["program", "procedure", "block", "changed"]) (D_statements_in : Df K mg "statements_in" s_statements_in ["block"]) (D_blocks_of : Df K mg "_blocks_of" s_blocks_of ["statement"]) (D_changed_by_call : Df K mg "_changed_by_call" s_changed_by_call ["program", "call", "changed"]) : FnOk P w K mg base CX0 10 D_changed_by.f D_changed_by.fd ["program", "procedure", "block", "changed"] (spBy K CP CG) := by
  have G_list_names := ok_list_names (P := P) (w := w) (base := base) c_list.F T
  have b_list_names := c_list.b
  have G_changed_by_call := ok_by_call (P := P) (w := w) (base := base) T c_called D_changed_by_call
  have G_statements_in : FnOk P w K mg base CX0 9 D_statements_in.f D_statements_in.fd ["block"] (fun vs H Q E => ∃ n, n < 8 ∧ spStm K n vs H Q E) := fn_upto8 fun n hn => (ok_statements_in (P := P) (w := w) (base := base) T.toTxB D_statements_in D_blocks_of n).mono (by omega)
  refine D_changed_by.F.ok sc_changed_by (fun vs H Q E h => ?_) (fun cdv A outer s H vs Q E hr h => ?_)
  · obtain ⟨pg, cd, m, cs, ch, c, v, n, b, rfl, _⟩ := h
    rfl
  · obtain ⟨pg, cd, m, cs, ch, c, v, n, b, rfl, hg, hok, hc, hch, hn, hd, hb, hl, q⟩ := h
    refine ⟨_, (pss_cons (ps_set (i := 4) sc_changed_by.nd rfl (.inr rfl) (pe_lst pa_nil))
    (pss_cons (ps_for PassesOwn.never rfl (pi_list (pe_call G_statements_in (hr.mono (by decide)) (by rfl) D_statements_in.g D_statements_in.F.kp D_statements_in.b .nil pass0 (pa_cons (pv 2) pa_nil))) (pg_name (i := 5) sc_changed_by.nd rfl (.inl rfl))
    (pss_one (ps_if (pt_cmpR op_in_seq (pe_ix ix_tup (pv 5) pe_int (fun _ _ => rfl)) (pe_tup (pa_cons pe_str (pa_cons pe_str pa_nil))) (by rfl))
    (pss_one (ps_expr (pe_bm PySem.F.plainAttrs_list PySem.F.slot_list_append PySem.F.type_list_append mt_append (pv 4) (pa_cons (pe_ix ix_tup (pv 5) pe_int (fun _ _ => rfl)) pa_nil))))
    (pss_one (ps_if (pt_cmpR op_eq (pe_ix ix_tup (pv 5) pe_int (fun _ _ => rfl)) pe_str (nomark _))
    (pss_one (ps_expr (pe_bm PySem.F.plainAttrs_list PySem.F.slot_list_extend PySem.F.type_list_extend mt_extend (pv 4) (pa_cons (pe_call G_changed_by_call (hr.mono (by decide)) (by rfl) D_changed_by_call.g D_changed_by_call.F.kp D_changed_by_call.b .nil pass0 (pa_cons (pv 0) (pa_cons (pv 5) (pa_cons (pv 3) pa_nil)))) pa_nil))))
    pss_nil)))))
    (pss_one (ps_ret (pe_lc (own := [("name", 6)]) (g := gName 6) (by rfl) sc_changed_by.nd (pi_list (pe_prop (pv 1) T.cp T.pr G_list_names (hr.mono (by decide)) b_list_names .nil pass0 rfl)) (blkOk_by (own := [("name", 6)]) (N := ["program", "procedure", "block", "changed", "names", "statement", "name"]) (sc := defScope s_changed_by) (by decide +kernel)) (fun _ _ _ _ _ => pg_name (i := 6) sc_changed_by.nd rfl (Or.inl rfl)) (fun _ _ _ _ _ => pts_one (pt_cmpR (show OpR _ (compareOp .In) (rIn K false) from op_in_seq) (pv 6) (pv 4) (by rfl))) (fun _ _ _ _ _ => (pv 6))))))), ?_⟩
    refine ⟨Nat.zero_le _, fun N nN => ?_⟩
    generalize hG : upd H N _ = G
    obtain ⟨s1, e1⟩ := new_of nN hG
    refine ⟨_, rfl, n, hn, v, b, rfl, hd.same s1, hb, by omega, fun B us H2 s2 nB eB dB => ⟨B, rfl, ⟨_, SqL.of eB⟩, ?_⟩⟩
    have hul : us.length = (flatB n b).length := by rw [dpa_len dB, List.length_map]
    have s12 := s1.trans s2
    refine for_list (K := K) (a := B) (xs := us) (fun i σ J => Same H J ∧ But N H2 J ∧ (∃ y5 : Option V, σ = [some (.ref pg), some (.ref c.p), some v, some (.ref cd), some (.ref N), y5, none]) ∧ J N = some (.lst (((((flatB n b).take i).map (toN cs ch)).flatten).map V.str))) ⟨s12, fun _ _ _ e => e, ⟨_, rfl⟩, s2 _ _ e1⟩ (fun i σ J _ hP => SqL.of (hP.2.1 _ _ (fun e => by
      rw [e, e1] at nB
      cases nB) eB)) (fun i x σ J hx hP => ?_) (fun σ J hP => ?_)
    · obtain ⟨sJ, bJ, ⟨y5, rfl⟩, eN⟩ := hP
      have hi : i < (flatB n b).length := by
        rw [← hul]
        exact (List.getElem?_eq_some_iff.mp hx).1
      obtain ⟨v', g1, dv⟩ := dp_mem dB hi
      rw [hx] at g1
      cases g1
      have htk : ((((flatB n b).take (i + 1)).map (toN cs ch)).flatten) = ((((flatB n b).take i).map (toN cs ch)).flatten) ++ toN cs ch (flatB n b)[i] := by
        rw [List.take_succ_eq_append_getElem hi, List.map_append, List.flatten_append]
        show _ ++ (toN cs ch (flatB n b)[i] ++ []) = _
        rw [List.append_nil]
      have hao := flatB_ok hb _ (List.getElem_mem hi)
      have hle : ((((flatB n b).take i).map (toN cs ch)).flatten).length ≤ 90000 := by
        refine Nat.le_trans (fl_len (toN_len hok)) ?_
        rw [List.length_take]
        omega
      generalize (flatB n b)[i] = an at dv htk hao
      obtain ⟨d, s0⟩ := an
      have dvJ : Dp K J x (Sf.enc (encD d) s0) := dp_but (s2 _ _ e1) bJ _ _ (An.noL hao) dv
      have hao : s0.ok (okD d) := hao
      obtain ⟨t, ws, rfl, ht, ha⟩ := sf_inv dvJ
      have two : ∀ (J2 : Hp) (p : Addr), J2 p = some (.tup [.str "put", .str "swap"]) → SqT K J2 p (([("put" : PySem.Str), "swap"]).map V.str) := fun J2 p h => SqT.of h
      refine ⟨_, rfl, t, _, _, _, rfl, rfl, ht, atI_nat (j := 0) rfl, by show 2 ≤ sizeLine; decide, fun p np => ?_⟩
      generalize hG : upd J p _ = J2
      obtain ⟨s3, e3⟩ := new_of np hG
      refine ⟨p, _, rfl, .inr (two J2 p e3), rfl, flat_strs _, _, rfl, ?_⟩
      show if inV (.str s0.kind) (([("put" : PySem.Str), "swap"]).map V.str) = true then _ else _
      rw [inV_strs]
      have sJ2 := sJ.trans s3
      have bJ2 : But N H2 J2 := fun b' o hb' e => s3 _ _ (bJ _ _ hb' e)
      have eN2 := s3 _ _ eN
      cases s0 with
      | lst k r y ds =>
        have hk : decide ((Sf.lst (B := BD d) k r y ds).kind ∈ [("put" : PySem.Str), "swap"]) = true := decide_eq_true (by
          show k ∈ [("put" : PySem.Str), "swap"]
          rcases hao.1 with rfl | rfl <;> decide +kernel)
        rw [hk]
        refine iteT ?_
        cases ha with
        | cons m1 ha => cases ha with
          | cons m2 ha =>
          cases dp_str_inv m2
          refine ⟨_, rfl, .inl ⟨rfl, _, SqL.of eN2⟩, _, rfl, t, _, _, _, rfl, rfl, sqt_same s3 ht, atI_nat (j := 2) rfl, N, _, _, rfl, rfl, eN2, small_sz5 (by rw [List.length_map]; omega), ?_⟩
          refine ⟨same_mut sJ2 nN, fun b' o hb' e => (upd_ne hb').trans (bJ2 _ _ hb' e), ⟨_, rfl⟩, ?_⟩
          rw [upd_same, htk, List.map_append]
          rfl
      | cal r y f as =>
        have hk : decide ((Sf.cal (B := BD d) r y f as).kind ∈ [("put" : PySem.Str), "swap"]) = false := decide_eq_false (by
          show ¬ ("call" : PySem.Str) ∈ [("put" : PySem.Str), "swap"]
          decide +kernel)
        rw [hk]
        refine iteF ⟨_, rfl, t, _, _, _, rfl, rfl, sqt_same s3 ht, atI_nat (j := 0) rfl, rfl, _, rfl, iteT ?_⟩
        have zl := chN_len (ch := ch) hok f as
        refine ⟨_, rfl, .inl ⟨rfl, _, SqL.of eN2⟩, _, rfl, _, rfl, _, rfl, pg, cd, m, cs, ch, .ref t, d, r, y, f, as, rfl, hg.same sJ2, hok, hch.same sJ2, dvJ.same s3, hao, fun Z J3 s4 nZ eZ => ?_⟩
        refine ⟨N, Z, _, _, rfl, rfl, s4 _ _ eN2, eZ, Nat.le_of_lt (small_sz5 (by rw [List.length_map, List.length_map]; omega)), ?_⟩
        refine ⟨same_mut (sJ2.trans s4) nN, fun b' o hb' e => (upd_ne hb').trans (s4 _ _ (bJ2 _ _ hb' e)), ⟨_, rfl⟩, ?_⟩
        rw [upd_same, htk, List.map_append]
        rfl
      | oth k r ds =>
        have hk : decide ((Sf.oth (B := BD d) k r ds).kind ∈ [("put" : PySem.Str), "swap"]) = false := decide_eq_false (fun h => hao.1 (by
          have h : k ∈ [("put" : PySem.Str), "swap"] := h
          unfold oddK
          simp only [List.mem_cons, List.not_mem_nil, or_false] at h ⊢
          rcases h with h | h
          · exact .inl h
          · exact .inr (.inl h)))
        rw [hk]
        refine iteF ⟨_, rfl, t, _, _, _, rfl, rfl, sqt_same s3 ht, atI_nat (j := 0) rfl, rfl, _, rfl, ?_⟩
        rw [str_dec, decide_eq_false (fun h => hao.1 (by
          have h : k = "call" := h
          rw [h]
          decide +kernel))]
        refine iteF ⟨sJ2, bJ2, ⟨_, rfl⟩, ?_⟩
        rw [htk]
        show J2 N = some (.lst ((_ ++ []).map V.str))
        rw [List.append_nil]
        exact eN2
      | iff r c' a b' =>
        have hk : decide ((Sf.iff r c' a b').kind ∈ [("put" : PySem.Str), "swap"]) = false := decide_eq_false (by
          show ¬ ("if" : PySem.Str) ∈ [("put" : PySem.Str), "swap"]
          decide +kernel)
        rw [hk]
        refine iteF ⟨_, rfl, t, _, _, _, rfl, rfl, sqt_same s3 ht, atI_nat (j := 0) rfl, rfl, _, rfl, ?_⟩
        rw [str_dec, decide_eq_false (p := (Sf.iff (B := BD d) r c' a b').kind = "call") (by show ¬ ("if" : PySem.Str) = "call"; decide +kernel)]
        refine iteF ⟨sJ2, bJ2, ⟨_, rfl⟩, ?_⟩
        rw [htk]
        show J2 N = some (.lst ((_ ++ []).map V.str))
        rw [List.append_nil]
        exact eN2
      | whl r c' ks f' b' =>
        have hk : decide ((Sf.whl r c' ks f' b').kind ∈ [("put" : PySem.Str), "swap"]) = false := decide_eq_false (by
          show ¬ ("while" : PySem.Str) ∈ [("put" : PySem.Str), "swap"]
          decide +kernel)
        rw [hk]
        refine iteF ⟨_, rfl, t, _, _, _, rfl, rfl, sqt_same s3 ht, atI_nat (j := 0) rfl, rfl, _, rfl, ?_⟩
        rw [str_dec, decide_eq_false (p := (Sf.whl (B := BD d) r c' ks f' b').kind = "call") (by show ¬ ("while" : PySem.Str) = "call"; decide +kernel)]
        refine iteF ⟨sJ2, bJ2, ⟨_, rfl⟩, ?_⟩
        rw [htk]
        show J2 N = some (.lst ((_ ++ []).map V.str))
        rw [List.append_nil]
        exact eN2
    · obtain ⟨sJ, bJ, ⟨y5, rfl⟩, eN⟩ := hP
      rw [List.take_of_length_le (by omega)] at eN
      obtain ⟨dx', v0, v2, v3, v4, v5, v6, v7, v8, hp, dp, _⟩ := (hg.at_ c hc).ex
      refine ⟨_, rfl, c.p, dx', _, rfl, sJ _ _ hp, c.p, dx', v0, .str c.nm, v2, v3, v4, v5, v6, v7, v8, c.ps, rfl, sJ _ _ hp, dp.same sJ, (hok c hc).ps, fun L J2 s3 nL eL => ?_⟩
      have s3J := sJ.trans s3
      refine ⟨L, rfl, ⟨_, SqL.of eL⟩, fun F nF => ?_⟩
      have hll : ((c.ps.filter fun x => x.2).map Prod.fst).length ≤ 100 := by
        rw [List.length_map]
        exact Nat.le_trans (List.length_filter_le _ _) (hok c hc).ps
      refine lc_list (K := K) (a := L) (xs := ((c.ps.filter fun x => x.2).map Prod.fst).map V.str) (fun i J3 => Same J2 J3 ∧ J3 F = some (.lst (((((c.ps.filter fun x => x.2).map Prod.fst).take i).filter fun x => decide (x ∈ namesN cs ch b)).map V.str))) ⟨same_new nF, upd_same⟩ (fun i J3 _ hP => SqL.of (hP.1 _ _ eL)) (fun i x J3 hx hP => ?_) (fun J3 hP => ?_)
      · obtain ⟨s4, eF⟩ := hP
        rw [List.getElem?_map] at hx
        obtain ⟨z, hz, rfl⟩ := Option.map_eq_some_iff.mp hx
        obtain ⟨hi, hz'⟩ := List.getElem?_eq_some_iff.mp hz
        have htk : ((c.ps.filter fun x => x.2).map Prod.fst).take (i + 1) = ((c.ps.filter fun x => x.2).map Prod.fst).take i ++ [z] := by
          rw [List.take_succ_eq_append_getElem hi, hz']
        have hsz : ((((((c.ps.filter fun x => x.2).map Prod.fst).take i).filter fun x => decide (x ∈ namesN cs ch b)).map V.str)).length ≤ 100 := by
          rw [List.length_map]
          refine Nat.le_trans (List.length_filter_le _ _) ?_
          rw [List.length_take]
          omega
        refine ⟨rfl, _, rfl, _, rfl, N, _, rfl, .inl (SqL.of ((s3.trans s4) _ _ eN)), rfl, flat_strs _, _, rfl, ?_⟩
        show if inV (.str z) ((namesN cs ch b).map V.str) = true then _ else _
        rw [inV_strs]
        refine ite2 (fun e => ?_) (fun e => ?_)
        · refine ⟨_, rfl, _, eF, small_sz5 (by omega), same_mut s4 nF, ?_⟩
          rw [upd_same, htk, List.filter_append, List.filter_cons, if_pos e, List.map_append]
          rfl
        · refine ⟨s4, ?_⟩
          rw [htk, List.filter_append, List.filter_cons, if_neg e]
          show J3 F = some (.lst ((_ ++ []).map V.str))
          rw [List.append_nil]
          exact eF
      · obtain ⟨s4, eF⟩ := hP
        rw [List.take_of_length_le (by rw [List.length_map (f := V.str)]; exact Nat.le_refl _)] at eF
        exact q F J3 (s3J.trans s4) ((s3J).free nF) eF
end
end SW

namespace SW
open PySem PySem.Spec PyProof.Rows L2
/-! ### what is changed, turn by turn -/
def lnm (ps : List (PySem.Str × Bool)) : List PySem.Str := (ps.filter fun x => x.2).map Prod.fst
theorem mem_callN {ps : List (PySem.Str × Bool)} {ns : List PySem.Str} {as : List Ar} {x : PySem.Str} : x ∈ callN ps ns as ↔ ∃ q, (Ar.ls x, q) ∈ as.zip ps ∧ q.1 ∈ ns := by
  unfold callN
  rw [List.mem_filterMap]
  constructor
  · rintro ⟨⟨a, q⟩, h1, h2⟩
    cases a with
    | pl h ds => cases h2
    | ls y =>
      have h2 : (if q.1 ∈ ns then some y else none) = some x := h2
      by_cases hq : q.1 ∈ ns
      · rw [if_pos hq] at h2
        cases h2
        exact ⟨q, h1, hq⟩
      · rw [if_neg hq] at h2
        cases h2
  · rintro ⟨q, h1, h2⟩
    exact ⟨_, h1, if_pos h2⟩
section
variable {m : Nat} {cs : List (Pc m)} {ch ch' : PySem.Str → List PySem.Str}
abbrev Le (ch ch' : PySem.Str → List PySem.Str) : Prop := ∀ f x, x ∈ ch f → x ∈ ch' f
theorem chN_mono (h : Le ch ch') {f : PySem.Str} {as : List Ar} {x : PySem.Str} (hx : x ∈ chN cs ch f as) : x ∈ chN cs ch' f as := by
  unfold chN at hx ⊢
  cases hf : fnd cs f with
  | none =>
    rw [hf] at hx
    exact (List.not_mem_nil hx).elim
  | some c =>
    rw [hf] at hx
    obtain ⟨q, h1, h2⟩ := mem_callN.mp hx
    exact mem_callN.mpr ⟨q, h1, h f _ h2⟩
theorem toN_mono (h : Le ch ch') {a : An} {x : PySem.Str} (hx : x ∈ toN cs ch a) : x ∈ toN cs ch' a := by
  obtain ⟨n, s⟩ := a
  cases s with
  | cal r y f as => exact chN_mono h hx
  | lst k r y ds => exact hx
  | oth k r ds => exact hx
  | iff r c a b => exact hx
  | whl r c ks f b => exact hx
theorem namesN_mono (h : Le ch ch') {n : Nat} {b : List (BD n)} {x : PySem.Str} (hx : x ∈ namesN cs ch b) : x ∈ namesN cs ch' b := by
  obtain ⟨l, hl, hx⟩ := List.mem_flatten.mp hx
  obtain ⟨a, ha, rfl⟩ := List.mem_map.mp hl
  exact List.mem_flatten.mpr ⟨_, List.mem_map.mpr ⟨a, ha, rfl⟩, toN_mono h hx⟩
theorem mem_byN {n : Nat} {b : List (BD n)} {ps : List (PySem.Str × Bool)} {x : PySem.Str} : x ∈ byN cs ch ps b ↔ x ∈ lnm ps ∧ x ∈ namesN cs ch b := by
  unfold byN lnm
  rw [List.mem_filter, decide_eq_true_iff]
theorem byN_mono (h : Le ch ch') {n : Nat} {b : List (BD n)} {ps : List (PySem.Str × Bool)} {x : PySem.Str} (hx : x ∈ byN cs ch ps b) : x ∈ byN cs ch' ps b := by
  rw [mem_byN] at hx ⊢
  exact ⟨hx.1, namesN_mono h hx.2⟩
def stp (cs : List (Pc m)) (ch : PySem.Str → List PySem.Str) (c : Pc m) : PySem.Str → List PySem.Str := fun x => if x = c.nm then byN cs ch c.ps c.body else ch x
def pas (cs : List (Pc m)) (ch : PySem.Str → List PySem.Str) : PySem.Str → List PySem.Str := cs.foldl (stp cs) ch
def itN (cs : List (Pc m)) : Nat → PySem.Str → List PySem.Str
  | 0 => fun _ => []
  | i + 1 => pas cs (itN cs i)
structure Gd (cs : List (Pc m)) (ch : PySem.Str → List PySem.Str) : Prop where
  sub : ∀ c, c ∈ cs → ∀ x, x ∈ ch c.nm → x ∈ byN cs ch c.ps c.body
  flt : ∀ c, c ∈ cs → ∃ p : PySem.Str → Bool, ch c.nm = (lnm c.ps).filter p
theorem Gd.zero : Gd cs (fun _ => []) := ⟨fun _ _ _ h => (List.not_mem_nil h).elim, fun c _ => ⟨fun _ => false, (List.filter_eq_nil_iff.mpr fun _ _ h => by cases h).symm⟩⟩
theorem stp_le (g : Gd cs ch) {c : Pc m} (hc : c ∈ cs) : Le ch (stp cs ch c) := fun f x hx => by
  unfold stp
  by_cases e : f = c.nm
  · rw [if_pos e]
    rw [e] at hx
    exact g.sub c hc x hx
  · rw [if_neg e]
    exact hx
abbrev Apart (cs : List (Pc m)) : Prop := ∀ c d, c ∈ cs → d ∈ cs → c.nm = d.nm → c = d
theorem stp_gd (ap : Apart cs) (g : Gd cs ch) {c : Pc m} (hc : c ∈ cs) : Gd cs (stp cs ch c) := by
  have le := stp_le g hc
  refine ⟨fun d hd x hx => ?_, fun d hd => ?_⟩
  · refine byN_mono le ?_
    unfold stp at hx
    by_cases e : d.nm = c.nm
    · rw [if_pos e] at hx
      rw [ap d c hd hc e]
      exact hx
    · rw [if_neg e] at hx
      exact g.sub d hd x hx
  · unfold stp
    by_cases e : d.nm = c.nm
    · rw [if_pos e, ap d c hd hc e]
      exact ⟨_, rfl⟩
    · rw [if_neg e]
      exact g.flt d hd
theorem filt_len {l : List PySem.Str} {p p' : PySem.Str → Bool} (h : ∀ x, x ∈ l → p x = true → p' x = true) : (l.filter p).length ≤ (l.filter p').length ∧ ((l.filter p').length ≤ (l.filter p).length → l.filter p = l.filter p') := by
  induction l with
  | nil => exact ⟨Nat.le_refl _, fun _ => rfl⟩
  | cons a r ih =>
    obtain ⟨i1, i2⟩ := ih fun x hx => h x (List.mem_cons_of_mem _ hx)
    rw [List.filter_cons, List.filter_cons]
    by_cases e : p a = true
    · rw [if_pos e, if_pos (h a List.mem_cons_self e), List.length_cons, List.length_cons]
      exact ⟨by omega, fun q => by rw [i2 (by omega)]⟩
    · rw [if_neg e]
      by_cases e2 : p' a = true
      · rw [if_pos e2, List.length_cons]
        exact ⟨by omega, fun q => absurd q (by omega)⟩
      · rw [if_neg e2]
        exact ⟨i1, i2⟩
theorem stp_len (g : Gd cs ch) {c : Pc m} (hc : c ∈ cs) : (ch c.nm).length ≤ (byN cs ch c.ps c.body).length ∧ (byN cs ch c.ps c.body ≠ ch c.nm → (ch c.nm).length < (byN cs ch c.ps c.body).length) := by
  obtain ⟨p, hp⟩ := g.flt c hc
  have hs := g.sub c hc
  rw [hp] at hs ⊢
  have e : byN cs ch c.ps c.body = (lnm c.ps).filter fun x => decide (x ∈ namesN cs ch c.body) := rfl
  rw [e] at hs ⊢
  obtain ⟨h1, h2⟩ := filt_len (l := lnm c.ps) (p := p) (p' := fun x => decide (x ∈ namesN cs ch c.body)) fun x hx hpx => (List.mem_filter.mp (hs x (List.mem_filter.mpr ⟨hx, hpx⟩))).2
  refine ⟨h1, fun hne => ?_⟩
  refine Nat.lt_of_not_le fun hle => hne ?_
  exact (h2 hle).symm
def msr (cs : List (Pc m)) (ch : PySem.Str → List PySem.Str) : Nat := (cs.map fun c => (ch c.nm).length).sum
theorem sum_le {α : Type} {l : List α} {f g : α → Nat} (h : ∀ a, a ∈ l → f a ≤ g a) : (l.map f).sum ≤ (l.map g).sum := by
  induction l with
  | nil => exact Nat.le_refl _
  | cons a r ih =>
    rw [List.map_cons, List.map_cons, List.sum_cons, List.sum_cons]
    have := h a List.mem_cons_self
    have := ih fun b hb => h b (List.mem_cons_of_mem _ hb)
    omega
theorem sum_lt {α : Type} {l : List α} {f g : α → Nat} (h : ∀ a, a ∈ l → f a ≤ g a) {a : α} (ha : a ∈ l) (hs : f a < g a) : (l.map f).sum < (l.map g).sum := by
  induction l with
  | nil => exact (List.not_mem_nil ha).elim
  | cons b r ih =>
    rw [List.map_cons, List.map_cons, List.sum_cons, List.sum_cons]
    have h1 := h b List.mem_cons_self
    have h2 := sum_le (l := r) fun b hb => h b (List.mem_cons_of_mem _ hb)
    rcases List.mem_cons.mp ha with rfl | ha
    · omega
    · have := ih (fun b hb => h b (List.mem_cons_of_mem _ hb)) ha
      omega
theorem stp_each (ap : Apart cs) (g : Gd cs ch) {c : Pc m} (hc : c ∈ cs) : ∀ d, d ∈ cs → (ch d.nm).length ≤ (stp cs ch c d.nm).length := fun d hd => by
  unfold stp
  by_cases e : d.nm = c.nm
  · rw [if_pos e, e]
    exact (stp_len g hc).1
  · rw [if_neg e]
    exact Nat.le_refl _
theorem stp_msr (ap : Apart cs) (g : Gd cs ch) {c : Pc m} (hc : c ∈ cs) : msr cs ch ≤ msr cs (stp cs ch c) ∧ (byN cs ch c.ps c.body ≠ ch c.nm → msr cs ch < msr cs (stp cs ch c)) := by
  refine ⟨sum_le (stp_each ap g hc), fun hne => sum_lt (stp_each ap g hc) hc ?_⟩
  unfold stp
  rw [if_pos rfl]
  exact (stp_len g hc).2 hne
theorem stp_same {c : Pc m} (h : byN cs ch c.ps c.body = ch c.nm) : stp cs ch c = ch := by
  funext x
  unfold stp
  by_cases e : x = c.nm
  · rw [if_pos e, h, e]
  · rw [if_neg e]
theorem msr_le (g : Gd cs ch) : msr cs ch ≤ (cs.map fun c => (lnm c.ps).length).sum := sum_le fun c hc => by
  obtain ⟨p, hp⟩ := g.flt c hc
  rw [hp]
  exact List.length_filter_le _ _
end
end SW

namespace SW
open PySem PySem.Spec PyProof.Rows L2
abbrev s_all_changed : Stmt := topS 8
theorem sc_all_changed : FnScope ["program", "changed", "procedure", "growing", "name", "found"] ["program"] (defScope s_all_changed) := ⟨rfl, rfl, rfl, by decide +kernel, rfl, by decide +kernel, by decide +kernel⟩

theorem putK_keys {kvs : List (Key × V)} {k : Key} {v : V} (h : (valV kvs k).isSome = true) : (putK kvs k v).map Prod.fst = kvs.map Prod.fst := by
  unfold putK
  rw [valV_any, if_pos h, List.map_map]
  refine List.map_congr_left fun z _ => ?_
  show (if z.1 = k then (z.1, v) else z).1 = z.1
  split <;> rfl
theorem valV_no {kvs : List (Key × V)} {k : Key} (h : k ∉ kvs.map Prod.fst) : valV kvs k = none := by
  unfold valV
  rw [List.find?_eq_none.mpr fun z hz e => h (List.mem_map.mpr ⟨z, hz, of_decide_eq_true e⟩)]
  rfl
theorem valV_yes {kvs : List (Key × V)} {k : Key} (h : k ∈ kvs.map Prod.fst) : (valV kvs k).isSome = true := by
  rw [← valV_any]
  obtain ⟨z, hz, e⟩ := List.mem_map.mp h
  exact List.any_eq_true.mpr ⟨z, hz, decide_eq_true e⟩
structure ChK (H : Hp) (cd : Addr) {m : Nat} (cs : List (Pc m)) (ch : PySem.Str → List PySem.Str) : Prop where
  ex : ∃ kvs : List (Key × V), H cd = some (.dK kvs) ∧ kvs.map Prod.fst = cs.map (fun c => (.inr c.nm : Key)) ∧ ∀ c, c ∈ cs → ∃ l, valV kvs (.inr c.nm) = some (.ref l) ∧ H l = some (.lst ((ch c.nm).map V.str))
theorem ChK.same {H H' : Hp} {cd : Addr} {m : Nat} {cs : List (Pc m)} {ch : PySem.Str → List PySem.Str} (h : ChK H cd cs ch) (s : Same H H') : ChK H' cd cs ch := by
  obtain ⟨kvs, h1, h2, h3⟩ := h.ex
  exact ⟨kvs, s _ _ h1, h2, fun c hc => by
    obtain ⟨l, e1, e2⟩ := h3 c hc
    exact ⟨l, e1, s _ _ e2⟩⟩
theorem ChK.len {H : Hp} {cd : Addr} {m : Nat} {cs : List (Pc m)} {ch : PySem.Str → List PySem.Str} {kvs : List (Key × V)} (h : kvs.map Prod.fst = cs.map (fun c => (.inr c.nm : Key))) : kvs.length = cs.length := by
  have := congrArg List.length h
  rwa [List.length_map, List.length_map] at this
theorem ChK.at_ {H : Hp} {cd : Addr} {m : Nat} {cs : List (Pc m)} {ch : PySem.Str → List PySem.Str} (h : ChK H cd cs ch) (hl : cs.length ≤ 100) : ChAt H cd cs ch := by
  obtain ⟨kvs, h1, h2, h3⟩ := h.ex
  exact ⟨kvs, h1, by rw [ChK.len (H := H) (cd := cd) (ch := ch) h2]; exact hl, h3⟩
theorem ChK.put {H : Hp} {cd F : Addr} {m : Nat} {cs : List (Pc m)} {ch : PySem.Str → List PySem.Str} {kvs : List (Key × V)} {c : Pc m} (h1 : H cd = some (.dK kvs)) (h2 : kvs.map Prod.fst = cs.map (fun c => (.inr c.nm : Key))) (h3 : ∀ c, c ∈ cs → ∃ l, valV kvs (.inr c.nm) = some (.ref l) ∧ H l = some (.lst ((ch c.nm).map V.str))) (hc : c ∈ cs) (hF : H F = some (.lst ((byN cs ch c.ps c.body).map V.str))) :
    ChK (upd H cd (.dK (putK kvs (.inr c.nm) (.ref F)))) cd cs (stp cs ch c) := by
  have ne : ∀ {l : Addr} {xs : List V}, H l = some (.lst xs) → l ≠ cd := fun e1 e2 => by
    rw [e2, h1] at e1
    cases e1
  refine ⟨_, upd_same, ?_, fun d hd => ?_⟩
  · obtain ⟨l, e1, _⟩ := h3 c hc
    rw [putK_keys (by rw [e1]; rfl), h2]
  · rw [valV_put]
    unfold stp
    by_cases e : d.nm = c.nm
    · rw [if_pos e, if_pos (by rw [e])]
      exact ⟨F, rfl, by rw [upd_ne (ne hF)]; exact hF⟩
    · rw [if_neg e, if_neg (fun h => e (Sum.inr.inj h))]
      obtain ⟨l, e1, e2⟩ := h3 d hd
      exact ⟨l, e1, by rw [upd_ne (ne e2)]; exact e2⟩
section
variable {P : Program} {w : World} {K : PySem.W.Frag} {mg : PySem.Str → Option Value} {base : Heap} {CP CG pp gg : Addr}
def spAll (K : PySem.W.Frag) (CP CG : Addr) : Sp := fun vs H Q _ => ∃ (pg : Addr) (m : Nat) (cs : List (Pc m)), vs = [.ref pg] ∧ PgAt K CP CG H pg cs ∧ (∀ c, c ∈ cs → c.ok) ∧ (cs.map fun c => c.nm).Nodup ∧ cs.length ≤ 100 ∧ m < 8 ∧ ∀ (cd : Addr) (i : Nat) (H' : Hp), Same H H' → H cd = none → i ≤ (cs.map fun c => (lnm c.ps).length).sum → pas cs (itN cs i) = itN cs i → ChK H' cd cs (itN cs i) → Q (.ref cd) H'
theorem apart_of {m : Nat} {cs : List (Pc m)} (h : (cs.map fun c => c.nm).Nodup) : Apart cs := by
  unfold Apart
  induction cs with
  | nil => exact fun c d hc => (List.not_mem_nil hc).elim
  | cons a r ih =>
    rw [List.map_cons] at h
    obtain ⟨h1, h2⟩ := List.nodup_cons.mp h
    intro c d hc hd e
    rcases List.mem_cons.mp hc with hc | hc
    · rcases List.mem_cons.mp hd with hd | hd
      · rw [hc, hd]
      · exact absurd (List.mem_map.mpr ⟨d, hd, by rw [← e, hc]⟩) h1
    · rcases List.mem_cons.mp hd with hd | hd
      · exact absurd (List.mem_map.mpr ⟨c, hc, by rw [e, hd]⟩) h1
      · exact ih h2 c d hc hd e
theorem fnd_of {m : Nat} {cs : List (Pc m)} (ap : Apart cs) {c : Pc m} (hc : c ∈ cs) : fnd cs c.nm = some c := by
  cases h : fnd cs c.nm with
  | none =>
    have h : cs.find? (fun d => decide (d.nm = c.nm)) = none := h
    have := List.find?_eq_none.mp h c hc
    exact absurd (decide_eq_true rfl) this
  | some d =>
    obtain ⟨h1, h2⟩ := fnd_mem h
    rw [ap d c h1 hc h2]
theorem ok_all_changed (T : TxQ K mg CP CG pp gg) (c_called : CkM K CG "called" "Program.called" s_called ["self", "name"]) (c_list : CkG K gg) (D_all_changed : Df K mg "_all_changed" s_all_changed ["program"]) (D_changed_by : Df K mg "_changed_by" s_changed_by ["program", "procedure", "block", "changed"]) (D_statements_in : Df K mg "statements_in" s_statements_in ["block"]) (D_blocks_of : Df K mg "_blocks_of" s_blocks_of ["statement"]) (D_changed_by_call : Df K mg "_changed_by_call" s_changed_by_call ["program", "call", "changed"]) : FnOk P w K mg base CX0 11 D_all_changed.f D_all_changed.fd ["program"] (spAll K CP CG) := by
  have m_called := c_called.M
  have G_called := ok_called (P := P) (w := w) (base := base) c_called.F T
  have b_called := c_called.b
  have G_changed_by := ok_changed_by (P := P) (w := w) (base := base) T c_called c_list D_changed_by D_statements_in D_blocks_of D_changed_by_call
  refine D_all_changed.F.ok sc_all_changed (fun vs H Q E h => ?_) (fun cdv A outer s H vs Q E hr h => ?_)
  · obtain ⟨pg, m, cs, rfl, _⟩ := h
    rfl
  · obtain ⟨pg, m, cs, rfl, hg, hok, hnd, hcl, hm, q⟩ := h
    refine ⟨_, (pss_cons (ps_setDc (i := 1) (own := [("procedure", 2)]) (g := gName 2) (by rfl) sc_all_changed.nd rfl rfl (swD_true rfl rfl rfl (by decide +kernel)) (pi_tup (pe_fld (pv 0) rfl)) (blkOk_by (own := [("procedure", 2)]) (N := ["program", "changed", "procedure", "growing", "name", "found"]) (sc := defScope s_all_changed) (by decide +kernel)) (fun _ _ _ _ _ => pg_name (i := 2) sc_all_changed.nd rfl (Or.inl rfl)) (fun _ _ _ _ _ => pts_nil) (fun _ _ _ _ _ => (show PE _ _ (tFld K (tVar 2) "name") from pe_fld (pv 2) rfl)) (fun _ _ _ _ _ => (pe_lst pa_nil)))
    (pss_cons (ps_set (i := 3) sc_all_changed.nd rfl (.inl rfl) pe_bl)
    (pss_cons (ps_while PassesOwn.never (pt_val (pv 3))
    (pss_cons (ps_set (i := 3) sc_all_changed.nd rfl (.inl rfl) pe_bl)
    (pss_one (ps_for PassesOwn.never rfl (pi_list (pe_callTy (call_list_dK (by rfl)) (by rfl) T.n_list (by decide +kernel) (pa_cons (pv 1) pa_nil))) (pg_name (i := 4) sc_all_changed.nd rfl (.inl rfl))
    (pss_cons (ps_set (i := 2) sc_all_changed.nd rfl (.inl rfl) (pe_meth (pv 0) T.cl m_called G_called (hr.mono (by decide)) b_called .nil pass0 (pa_cons (pv 4) pa_nil)))
    (pss_cons (ps_set (i := 5) sc_all_changed.nd rfl (.inl rfl) (pe_call G_changed_by (hr.mono (by decide)) (by rfl) D_changed_by.g D_changed_by.F.kp D_changed_by.b .nil pass0 (pa_cons (pv 0) (pa_cons (pv 2) (pa_cons (pe_fld (pv 2) rfl) (pa_cons (pv 1) pa_nil))))))
    (pss_one (ps_if (pt_cmpR (op_neS hr.units0) (pv 5) (pe_dget (hu_of hr) (pv 1) (pv 4) (fun _ _ => rfl)) (nomark _))
    (pss_cons (ps_dput (hu_of hr) (pv 1) (pv 4) (pv 5) rfl)
    (pss_one (ps_set (i := 3) sc_all_changed.nd rfl (.inl rfl) pe_bl)))
    pss_nil))))))))
    (pss_one (ps_ret (pv 1)))))), ?_⟩
    have ap := apart_of hnd
    obtain ⟨dx, t, hpg, htg⟩ := hg.ex
    refine ⟨_, rfl, pg, CG, dx, _, _, rfl, hpg, T.cl, T.b0, rfl, t, rfl, ⟨_, htg⟩, fun cd ncd => ?_⟩
    refine dc_tup (K := K) (a := t) (xs := cs.map fun c => .ref c.p) (fun i G => Same H G ∧ ∃ kvs : List (Key × V), G cd = some (.dK kvs) ∧ kvs.map Prod.fst = (cs.take i).map (fun c => (.inr c.nm : Key)) ∧ ∀ c, c ∈ cs.take i → ∃ l, valV kvs (.inr c.nm) = some (.ref l) ∧ G l = some (.lst [])) ⟨same_new ncd, [], upd_same, rfl, fun c h => (List.not_mem_nil h).elim⟩ (fun i G _ hP => sqt_same hP.1 htg) (fun i v G hv hP => ?_) (fun G hP => ?_)
    · obtain ⟨sG, kvs, e1, e2, e3⟩ := hP
      rw [List.getElem?_map] at hv
      obtain ⟨c, hc, rfl⟩ := Option.map_eq_some_iff.mp hv
      obtain ⟨hi, hci⟩ := List.getElem?_eq_some_iff.mp hc
      obtain ⟨dx', v0, v2, v3, v4, v5, v6, v7, v8, hp, _⟩ := ((hg.same sG).at_ c (List.mem_of_getElem? hc)).ex
      refine ⟨rfl, _, rfl, c.p, CP, dx', _, _, rfl, hp, T.cp, T.a1, prF_1 _ _ _ _ _ _ _ _ _, Nat.zero_le _, fun l nl => ?_⟩
      have htk : cs.take (i + 1) = cs.take i ++ [c] := by rw [List.take_succ_eq_append_getElem hi, hci]
      have hkl : kvs.length ≤ 100 := by
        have := congrArg List.length e2
        rw [List.length_map, List.length_map, List.length_take] at this
        omega
      have hno : (.inr c.nm : Key) ∉ kvs.map Prod.fst := fun h => by
        rw [e2] at h
        obtain ⟨d, hd, e⟩ := List.mem_map.mp h
        have hn2 := hnd
        rw [show cs = cs.take i ++ c :: cs.drop (i + 1) by rw [← hci, List.getElem_cons_drop, List.take_append_drop], List.map_append] at hn2
        exact (List.nodup_append.mp hn2).2.2 _ (List.mem_map.mpr ⟨d, hd, rfl⟩) _ (List.mem_map.mpr ⟨c, List.mem_cons_self, rfl⟩) (Sum.inr.inj e)
      have hv0 := valV_no hno
      generalize hK : upd G l _ = G2
      obtain ⟨s2, el⟩ := new_of nl hK
      refine ⟨kvs, .inr c.nm, rfl, s2 _ _ e1, small_sz5 (by omega), same_mut (sG.trans s2) ncd, putK kvs (.inr c.nm) (.ref l), upd_same, ?_, fun d hd => ?_⟩
      · rw [putK_new _ hv0, List.map_append, e2, htk, List.map_append]
        rfl
      · have ne : ∀ {l : Addr} {xs : List V}, G2 l = some (.lst xs) → l ≠ cd := fun e e2 => by
          rw [e2, s2 _ _ e1] at e
          cases e
        rw [valV_put]
        by_cases e : d.nm = c.nm
        · rw [if_pos (by rw [e])]
          exact ⟨l, rfl, by rw [upd_ne (ne el)]; exact el⟩
        · rw [if_neg (fun h => e (Sum.inr.inj h))]
          rw [htk] at hd
          rcases List.mem_append.mp hd with hd | hd
          · obtain ⟨l', f1, f2⟩ := e3 d hd
            exact ⟨l', f1, by rw [upd_ne (ne (s2 _ _ f2))]; exact s2 _ _ f2⟩
          · exact absurd (by rw [List.mem_singleton.mp hd]) e
    · obtain ⟨sG, kvs, e1, e2, e3⟩ := hP
      rw [List.take_of_length_le (by rw [List.length_map]; exact Nat.le_refl _)] at e2 e3
      have k0 : ChK G cd cs (itN cs 0) := ⟨kvs, e1, e2, e3⟩
      clear e1 e2 e3
      generalize hB : (cs.map fun c => (lnm c.ps).length).sum = B at q
      refine ⟨fun mes σ G => ∃ (y2 y4 y5 : Option V) (g : Bool) (i : Nat), σ = [some (.ref pg), some (.ref cd), y2, some (.bl g), y4, y5] ∧ Same H G ∧ ChK G cd cs (itN cs i) ∧ Gd cs (itN cs i) ∧ i ≤ msr cs (itN cs i) ∧ (g = false → pas cs (itN cs i) = itN cs i) ∧ mes = (if g = true then 1 + (B - msr cs (itN cs i)) else 0), ⟨_, _, _, _, true, 0, rfl, sG, k0, Gd.zero, Nat.zero_le _, (fun h => by cases h), rfl⟩, ?_⟩
      rintro mes σ G1 ⟨y2, y4, y5, g, i, rfl, sG1, k1, gd, him, hst, rfl⟩
      have hml := msr_le gd
      rw [hB] at hml
      refine ⟨_, rfl, _, rfl, ?_⟩
      cases g with
      | false => exact iteF ⟨_, rfl, q cd i G1 sG1 ncd (Nat.le_trans him hml) (hst rfl) k1⟩
      | true =>
      refine iteT ⟨fun σ' G' => ∃ (y2 y4 y5 : Option V) (g : Bool) (i' : Nat), σ' = [some (.ref pg), some (.ref cd), y2, some (.bl g), y4, y5] ∧ Same H G' ∧ ChK G' cd cs (itN cs i') ∧ Gd cs (itN cs i') ∧ i' ≤ msr cs (itN cs i') ∧ (g = false → pas cs (itN cs i') = itN cs i') ∧ (if g = true then 1 + (B - msr cs (itN cs i')) else 0) < 1 + (B - msr cs (itN cs i)), fun σ' G' ⟨y2, y4, y5, g, i', h1, h2, h3, h4, h5, h6, h7⟩ => ⟨_, h7, y2, y4, y5, g, i', h1, h2, h3, h4, h5, h6, rfl⟩, ?_⟩
      obtain ⟨kvs, e1, e2, e3⟩ := k1.ex
      refine ⟨_, rfl, cd, kvs, rfl, e1, fun LN nLN => ?_⟩
      have hns : (kvs.map fun kv => kV kv.1) = cs.map fun c => V.str c.nm := by
        have := congrArg (List.map kV) e2
        rw [List.map_map, List.map_map] at this
        exact this
      rw [hns]
      generalize hK : upd G1 LN _ = G2
      obtain ⟨s2, eLN⟩ := new_of nLN hK
      refine ⟨LN, rfl, ⟨_, SqL.of eLN⟩, ?_⟩
      have nLc : LN ≠ cd := fun e => by
        rw [e, e1] at nLN
        cases nLN
      generalize hch : itN cs i = ch at k1 gd him hst hml e3
      refine for_list (K := K) (a := LN) (xs := cs.map fun c => V.str c.nm) (fun j σ J => Same H J ∧ But cd G2 J ∧ ∃ (y2 y4 y5 : Option V) (g : Bool), σ = [some (.ref pg), some (.ref cd), y2, some (.bl g), y4, y5] ∧ ChK J cd cs ((cs.take j).foldl (stp cs) ch) ∧ Gd cs ((cs.take j).foldl (stp cs) ch) ∧ (g = true → msr cs ch < msr cs ((cs.take j).foldl (stp cs) ch)) ∧ msr cs ch ≤ msr cs ((cs.take j).foldl (stp cs) ch) ∧ (g = false → (cs.take j).foldl (stp cs) ch = ch)) ⟨sG1.trans s2, fun _ _ _ e => e, _, _, _, false, rfl, k1.same s2, gd, (fun h => by cases h), Nat.le_refl _, fun _ => rfl⟩ (fun j σ J _ hP => SqL.of (hP.2.1 _ _ nLc eLN)) (fun j v σ J hv hP => ?_) (fun σ J hP => ?_)
      · obtain ⟨sJ, bJ, y2, y4, y5, g, rfl, kJ, gJ, m1, m2, m3⟩ := hP
        rw [List.getElem?_map] at hv
        obtain ⟨c, hc, rfl⟩ := Option.map_eq_some_iff.mp hv
        obtain ⟨hj, hcj⟩ := List.getElem?_eq_some_iff.mp hc
        have hcm := List.mem_of_getElem? hc
        have hgJ := hg.same sJ
        have hfo : (cs.take (j + 1)).foldl (stp cs) ch = stp cs ((cs.take j).foldl (stp cs) ch) c := by
          rw [List.take_succ_eq_append_getElem hj, hcj, List.foldl_append]
          rfl
        generalize hcj2 : (cs.take j).foldl (stp cs) ch = chj at kJ gJ m1 m2 m3 hfo
        refine ⟨_, rfl, pg, dx, _, rfl, sJ _ _ hpg, rfl, _, rfl, pg, m, cs, c.nm, rfl, hgJ, fun c' hc' => ?_, fun hn => by rw [fnd_of ap hcm] at hn; cases hn⟩
        rw [fnd_of ap hcm] at hc'
        cases hc'
        obtain ⟨dx', v0, v2, v3, v4, v5, v6, v7, v8, hp, _, db⟩ := (hgJ.at_ c hcm).ex
        refine ⟨_, rfl, _, rfl, _, rfl, c.p, CP, dx', _, _, rfl, hp, T.cp, T.a8, prF_8 _ _ _ _ _ _ _ _ _, _, rfl, pg, cd, m, cs, chj, c, v8, m, c.body, rfl, hgJ, hok, hcm, kJ.at_ hcl, hm, db, (hok c hcm).body, (hok c hcm).flat, fun F J2 s3 nF eF => ?_⟩
        obtain ⟨kvs2, f1, f2, f3⟩ := (kJ.same s3).ex
        obtain ⟨l, l1, l2⟩ := f3 c hcm
        have sJ2 := sJ.trans s3
        refine ⟨_, rfl, _, rfl, _, rfl, cd, .ref l, rfl, l1 ▸ DGet.k (k := .inr c.nm) f1, F, l, _, _, rfl, rfl, SqL.of eF, SqL.of l2, _, rfl, ?_⟩
        by_cases he : byN cs chj c.ps c.body = chj c.nm
        · rw [decide_eq_true he]
          have hs := stp_same he
          rw [← hfo] at hs
          refine iteF ⟨sJ2, fun b' o hb' e => s3 _ _ (bJ _ _ hb' e), _, _, _, g, rfl, ?_⟩
          rw [hs]
          exact ⟨kJ.same s3, gJ, m1, m2, m3⟩
        · rw [decide_eq_false he]
          have hs := (stp_msr ap gJ hcm).2 he
          refine iteT ⟨_, rfl, _, rfl, _, rfl, cd, _, rfl, DPut.k (k := .inr c.nm) f1 (small_sz5 (by rw [ChK.len (H := J2) (cd := cd) (ch := chj) f2]; omega)), ?_⟩
          refine ⟨same_mut sJ2 ncd, fun b' o hb' e => (upd_ne hb').trans (s3 _ _ (bJ _ _ hb' e)), _, _, _, true, rfl, ?_⟩
          rw [hfo]
          exact ⟨ChK.put f1 f2 f3 hcm eF, stp_gd ap gJ hcm, fun _ => by omega, by omega, fun h => by cases h⟩
      · obtain ⟨sJ, bJ, y2, y4, y5, g, rfl, kJ, gJ, m1, m2, m3⟩ := hP
        rw [List.take_of_length_le (by rw [List.length_map]; exact Nat.le_refl _)] at kJ gJ m1 m2 m3
        have hp : cs.foldl (stp cs) ch = pas cs ch := rfl
        rw [hp] at kJ gJ m1 m2 m3
        have hmx := msr_le gJ
        rw [hB] at hmx
        cases g with
        | false =>
          have e := m3 rfl
          rw [e] at kJ gJ
          refine ⟨_, _, _, false, i, rfl, sJ, ?_⟩
          rw [hch]
          exact ⟨kJ, gJ, him, fun _ => e, by show 0 < _; omega⟩
        | true =>
          have h1 := m1 rfl
          refine ⟨_, _, _, true, i + 1, rfl, sJ, ?_⟩
          rw [show itN cs (i + 1) = pas cs ch by rw [← hch]; rfl]
          refine ⟨kJ, gJ, by omega, fun h => (by cases h), ?_⟩
          rw [if_pos rfl]
          omega
end
end SW

namespace SW
open PySem PySem.Spec PyProof.Rows L2
abbrev s_changed_in : Stmt := topS 5
theorem sc_changed_in : FnScope ["program", "procedure", "block"] ["program", "procedure", "block"] (defScope s_changed_in) := ⟨rfl, rfl, rfl, by decide +kernel, rfl, by decide +kernel, by decide +kernel⟩

abbrev s_changed_lists : Stmt := topS 4
theorem sc_changed_lists : FnScope ["program", "procedure"] ["program", "procedure"] (defScope s_changed_lists) := ⟨rfl, rfl, rfl, by decide +kernel, rfl, by decide +kernel, by decide +kernel⟩

theorem it_stable {m : Nat} {cs : List (Pc m)} {i : Nat} (h : pas cs (itN cs i) = itN cs i) : ∀ k, itN cs (i + k) = itN cs i
  | 0 => rfl
  | k + 1 => by
    show pas cs (itN cs (i + k)) = _
    rw [it_stable h k, h]
theorem it_20 {m : Nat} {cs : List (Pc m)} {i : Nat} (h : pas cs (itN cs i) = itN cs i) (hi : i ≤ 20) : itN cs i = itN cs 20 := by
  have := it_stable h (20 - i)
  rw [show i + (20 - i) = 20 by omega] at this
  exact this.symm
/-- a program as the law makes it -/
structure PgOk {m : Nat} (cs : List (Pc m)) : Prop where
  ok : ∀ c, c ∈ cs → c.ok
  nd : (cs.map fun c => c.nm).Nodup
  len : cs.length ≤ 100
  m : m < 8
  tot : (cs.map fun c => (lnm c.ps).length).sum ≤ 20
section
variable {P : Program} {w : World} {K : PySem.W.Frag} {mg : PySem.Str → Option Value} {base : Heap} {CP CG pp gg : Addr}
def spIn (K : PySem.W.Frag) (CP CG : Addr) : Sp := fun vs H Q _ => ∃ (pg : Addr) (m : Nat) (cs : List (Pc m)) (c : Pc m) (v : V) (n : Nat) (b : List (BD n)), vs = [.ref pg, .ref c.p, v] ∧ PgAt K CP CG H pg cs ∧ PgOk cs ∧ c ∈ cs ∧ n < 8 ∧ Dp K H v (blkE n b) ∧ (∀ s, s ∈ b → okD n s) ∧ (flatB n b).length ≤ 900 ∧ ∀ (F : Addr) (H' : Hp), Same H H' → H F = none → H' F = some (.lst ((byN cs (itN cs 20) c.ps b).map V.str)) → Q (.ref F) H'
theorem ok_changed_in (T : TxQ K mg CP CG pp gg) (c_called : CkM K CG "called" "Program.called" s_called ["self", "name"]) (c_list : CkG K gg) (D_changed_in : Df K mg "changed_in" s_changed_in ["program", "procedure", "block"]) (D_all_changed : Df K mg "_all_changed" s_all_changed ["program"]) (D_changed_by : Df K mg "_changed_by" s_changed_by ["program", "procedure", "block", "changed"]) (D_statements_in : Df K mg "statements_in" s_statements_in ["block"]) (D_blocks_of : Df K mg "_blocks_of" s_blocks_of ["statement"]) (D_changed_by_call : Df K mg "_changed_by_call" s_changed_by_call ["program", "call", "changed"]) : FnOk P w K mg base CX0 12 D_changed_in.f D_changed_in.fd ["program", "procedure", "block"] (spIn K CP CG) := by
  have G_changed_by := ok_changed_by (P := P) (w := w) (base := base) T c_called c_list D_changed_by D_statements_in D_blocks_of D_changed_by_call
  have G_all_changed := ok_all_changed (P := P) (w := w) (base := base) T c_called c_list D_all_changed D_changed_by D_statements_in D_blocks_of D_changed_by_call
  refine D_changed_in.F.ok sc_changed_in (fun vs H Q E h => ?_) (fun cdv A outer s H vs Q E hr h => ?_)
  · obtain ⟨pg, m, cs, c, v, n, b, rfl, _⟩ := h
    rfl
  · obtain ⟨pg, m, cs, c, v, n, b, rfl, hg, po, hc, hn, hd, hb, hl, q⟩ := h
    refine ⟨_, (pss_one (ps_ret (pe_call G_changed_by (hr.mono (by decide)) (by rfl) D_changed_by.g D_changed_by.F.kp D_changed_by.b .nil pass0 (pa_cons (pv 0) (pa_cons (pv 1) (pa_cons (pv 2) (pa_cons (pe_call G_all_changed (hr.mono (by decide)) (by rfl) D_all_changed.g D_all_changed.F.kp D_all_changed.b .nil pass0 (pa_cons (pv 0) pa_nil)) pa_nil))))))), ?_⟩
    refine ⟨_, rfl, _, rfl, _, rfl, _, rfl, pg, m, cs, rfl, hg, po.ok, po.nd, po.len, po.m, fun cd i H1 s1 ncd hi hst k1 => ?_⟩
    have hi := Nat.le_trans hi po.tot
    rw [it_20 hst hi] at k1
    refine ⟨pg, cd, m, cs, itN cs 20, c, v, n, b, rfl, hg.same s1, po.ok, hc, k1.at_ po.len, hn, hd.same s1, hb, hl, fun F H2 s2 nF eF => ?_⟩
    exact q F H2 (s1.trans s2) (s1.free nF) eF
def spLists8 (K : PySem.W.Frag) (CP CG : Addr) : Sp := fun vs H Q _ => ∃ (pg : Addr) (m : Nat) (cs : List (Pc m)) (c : Pc m), vs = [.ref pg, .ref c.p] ∧ PgAt K CP CG H pg cs ∧ PgOk cs ∧ c ∈ cs ∧ ∀ (F : Addr) (H' : Hp), Same H H' → H F = none → H' F = some (.lst ((byN cs (itN cs 20) c.ps c.body).map V.str)) → Q (.ref F) H'
theorem ok_changed_lists (T : TxQ K mg CP CG pp gg) (c_called : CkM K CG "called" "Program.called" s_called ["self", "name"]) (c_list : CkG K gg) (D_changed_lists : Df K mg "changed_lists" s_changed_lists ["program", "procedure"]) (D_changed_in : Df K mg "changed_in" s_changed_in ["program", "procedure", "block"]) (D_all_changed : Df K mg "_all_changed" s_all_changed ["program"]) (D_changed_by : Df K mg "_changed_by" s_changed_by ["program", "procedure", "block", "changed"]) (D_statements_in : Df K mg "statements_in" s_statements_in ["block"]) (D_blocks_of : Df K mg "_blocks_of" s_blocks_of ["statement"]) (D_changed_by_call : Df K mg "_changed_by_call" s_changed_by_call ["program", "call", "changed"]) : FnOk P w K mg base CX0 13 D_changed_lists.f D_changed_lists.fd ["program", "procedure"] (spLists8 K CP CG) := by
  have G_changed_in := ok_changed_in (P := P) (w := w) (base := base) T c_called c_list D_changed_in D_all_changed D_changed_by D_statements_in D_blocks_of D_changed_by_call
  refine D_changed_lists.F.ok sc_changed_lists (fun vs H Q E h => ?_) (fun cdv A outer s H vs Q E hr h => ?_)
  · obtain ⟨pg, m, cs, c, rfl, _⟩ := h
    rfl
  · obtain ⟨pg, m, cs, c, rfl, hg, po, hc, q⟩ := h
    refine ⟨_, (pss_one (ps_ret (pe_call G_changed_in (hr.mono (by decide)) (by rfl) D_changed_in.g D_changed_in.F.kp D_changed_in.b .nil pass0 (pa_cons (pv 0) (pa_cons (pv 1) (pa_cons (pe_fld (pv 1) rfl) pa_nil)))))), ?_⟩
    obtain ⟨dx', v0, v2, v3, v4, v5, v6, v7, v8, hp, _, db⟩ := (hg.at_ c hc).ex
    have hcok := po.ok c hc
    exact ⟨_, rfl, _, rfl, _, rfl, c.p, CP, dx', _, _, rfl, hp, T.cp, T.a8, prF_8 _ _ _ _ _ _ _ _ _, pg, m, cs, c, v8, m, c.body, rfl, hg, po, hc, po.m, db, hcok.body, hcok.flat, q⟩
end
end SW

namespace SW
open PySem PySem.Spec PyProof.Rows L2
/-! ### the law's own turns, by places -/
def nmAt (ps : List (PySem.Str × Bool)) (i : Nat) : PySem.Str := (ps.getD i ("", false)).1
def Fits (as : List Ar) (ps : List (PySem.Str × Bool)) : Prop := as.length = ps.length ∧ ∀ (i : Nat) (q : PySem.Str × Bool), ps[i]? = some q → q.2 = true → ∃ x, as[i]? = some (.ls x)
def AnOk {m : Nat} (cs : List (Pc m)) (ps : List (PySem.Str × Bool)) (a : An) : Prop := match a.s with
  | .lst _ _ x _ => (x, true) ∈ ps
  | .cal _ _ f as => (∃ d, d ∈ cs ∧ d.nm = f ∧ Fits as d.ps) ∧ ∀ x, Ar.ls x ∈ as → (x, true) ∈ ps
  | _ => True
structure LwOk {m : Nat} (cs : List (Pc m)) : Prop where
  nd : (cs.map fun c => c.nm).Nodup
  pn : ∀ c, c ∈ cs → (c.ps.map Prod.fst).Nodup
  an : ∀ c, c ∈ cs → ∀ a, a ∈ flatB m c.body → AnOk cs c.ps a
def callL (P : List Nat) (as : List Ar) : List PySem.Str := (List.range as.length).filterMap fun i => if i ∈ P then (match as[i]? with | some (.ls x) => some x | _ => none) else none
def tchA (pos : PySem.Str → List Nat) (a : An) : List PySem.Str := match a.s with
  | .lst _ _ x _ => [x]
  | .cal _ _ f as => callL (pos f) as
  | _ => []
def tchB (pos : PySem.Str → List Nat) (n : Nat) (b : List (BD n)) : List PySem.Str := ((flatB n b).map (tchA pos)).flatten
def posOf (ps : List (PySem.Str × Bool)) (t : List PySem.Str) : List Nat := (List.range ps.length).filter fun i => decide (nmAt ps i ∈ t)
section
variable {m : Nat} {cs : List (Pc m)} {pos : PySem.Str → List Nat} {ch : PySem.Str → List PySem.Str}
/-- the two tell the same -/
structure Rel (cs : List (Pc m)) (pos : PySem.Str → List Nat) (ch : PySem.Str → List PySem.Str) : Prop where
  nm : ∀ c, c ∈ cs → ch c.nm = (pos c.nm).map (nmAt c.ps)
  lt : ∀ c, c ∈ cs → ∀ i, i ∈ pos c.nm → ∃ q, c.ps[i]? = some q ∧ q.2 = true
theorem nmAt_of {ps : List (PySem.Str × Bool)} {i : Nat} {q : PySem.Str × Bool} (h : ps[i]? = some q) : nmAt ps i = q.1 := by
  unfold nmAt
  rw [List.getD_eq_getElem?_getD, h]
  rfl
theorem fst_inj {ps : List (PySem.Str × Bool)} (h : (ps.map Prod.fst).Nodup) : ∀ {i j : Nat} {p q : PySem.Str × Bool}, ps[i]? = some p → ps[j]? = some q → p.1 = q.1 → i = j := by
  induction ps with
  | nil => intro i j p q h1; cases h1
  | cons a r ih =>
    rw [List.map_cons] at h
    obtain ⟨h1, h2⟩ := List.nodup_cons.mp h
    intro i j p q hp hq e
    cases i with
    | zero =>
      cases j with
      | zero => rfl
      | succ j =>
        cases hp
        exact absurd (List.mem_map.mpr ⟨q, List.mem_of_getElem? (show r[j]? = some q from hq), e.symm⟩) h1
    | succ i =>
      cases j with
      | zero =>
        cases hq
        exact absurd (List.mem_map.mpr ⟨p, List.mem_of_getElem? (show r[i]? = some p from hp), e⟩) h1
      | succ j => rw [ih h2 (show r[i]? = some p from hp) (show r[j]? = some q from hq) e]
theorem mem_callL {P : List Nat} {as : List Ar} {x : PySem.Str} : x ∈ callL P as ↔ ∃ i, i ∈ P ∧ as[i]? = some (.ls x) := by
  unfold callL
  rw [List.mem_filterMap]
  constructor
  · rintro ⟨i, hi, h⟩
    by_cases hp : i ∈ P
    · rw [if_pos hp] at h
      cases ha : as[i]? with
      | none => rw [ha] at h; cases h
      | some a =>
        rw [ha] at h
        cases a with
        | ls y =>
          cases h
          exact ⟨i, hp, ha⟩
        | pl z ds => cases h
    · rw [if_neg hp] at h
      cases h
  · rintro ⟨i, hp, ha⟩
    refine ⟨i, List.mem_range.mpr (List.getElem?_eq_some_iff.mp ha).1, ?_⟩
    rw [if_pos hp, ha]
theorem call_same (w : LwOk cs) (r : Rel cs pos ch) {d : Pc m} (hd : d ∈ cs) {as : List Ar} (hf : Fits as d.ps) {x : PySem.Str} : x ∈ callL (pos d.nm) as ↔ x ∈ chN cs ch d.nm as := by
  have e : chN cs ch d.nm as = callN d.ps (ch d.nm) as := by
    unfold chN
    rw [fnd_of (apart_of w.nd) hd]
  rw [e, mem_callL, mem_callN, r.nm d hd]
  constructor
  · rintro ⟨i, hp, ha⟩
    obtain ⟨q, hq, _⟩ := r.lt d hd i hp
    refine ⟨q, ?_, List.mem_map.mpr ⟨i, hp, nmAt_of hq⟩⟩
    refine List.mem_of_getElem? (i := i) ?_
    rw [List.getElem?_zip_eq_some]
    exact ⟨ha, hq⟩
  · rintro ⟨q, hz, hq⟩
    obtain ⟨i, hi⟩ := List.getElem?_of_mem hz
    rw [List.getElem?_zip_eq_some] at hi
    obtain ⟨j, hj, e⟩ := List.mem_map.mp hq
    obtain ⟨q', hq', _⟩ := r.lt d hd j hj
    rw [nmAt_of hq'] at e
    have := fst_inj (w.pn d hd) hq' hi.2 e
    exact ⟨i, this ▸ hj, hi.1⟩
theorem tchA_same (w : LwOk cs) (r : Rel cs pos ch) {ps : List (PySem.Str × Bool)} {a : An} (h : AnOk cs ps a) {x : PySem.Str} : x ∈ tchA pos a ↔ x ∈ toN cs ch a := by
  obtain ⟨n, s⟩ := a
  cases s with
  | cal r' y f as =>
    obtain ⟨⟨d, hd, rfl, hf⟩, _⟩ := h
    exact call_same w r hd hf
  | lst k r' y ds => exact Iff.rfl
  | oth k r' ds => exact Iff.rfl
  | iff r' c a b => exact Iff.rfl
  | whl r' c ks f b => exact Iff.rfl
theorem tchB_same (w : LwOk cs) (r : Rel cs pos ch) {ps : List (PySem.Str × Bool)} {n : Nat} {b : List (BD n)} (h : ∀ a, a ∈ flatB n b → AnOk cs ps a) {x : PySem.Str} : x ∈ tchB pos n b ↔ x ∈ namesN cs ch b := by
  unfold tchB namesN
  rw [List.mem_flatten, List.mem_flatten]
  constructor
  · rintro ⟨l, hl, hx⟩
    obtain ⟨a, ha, rfl⟩ := List.mem_map.mp hl
    exact ⟨_, List.mem_map.mpr ⟨a, ha, rfl⟩, (tchA_same w r (h a ha)).mp hx⟩
  · rintro ⟨l, hl, hx⟩
    obtain ⟨a, ha, rfl⟩ := List.mem_map.mp hl
    exact ⟨_, List.mem_map.mpr ⟨a, ha, rfl⟩, (tchA_same w r (h a ha)).mpr hx⟩
/-- only lists are touched -/
theorem tch_list (w : LwOk cs) {ps : List (PySem.Str × Bool)} (hn : (ps.map Prod.fst).Nodup) {n : Nat} {b : List (BD n)} (h : ∀ a, a ∈ flatB n b → AnOk cs ps a) {i : Nat} {q : PySem.Str × Bool} (hq : ps[i]? = some q) (hx : q.1 ∈ tchB pos n b) : q.2 = true := by
  unfold tchB at hx
  obtain ⟨l, hl, hx⟩ := List.mem_flatten.mp hx
  obtain ⟨a, ha, rfl⟩ := List.mem_map.mp hl
  have key : ∀ x, x = q.1 → (x, true) ∈ ps → q.2 = true := fun x e hm => by
    obtain ⟨j, hj⟩ := List.getElem?_of_mem hm
    have := fst_inj hn hj hq e
    rw [this, hq] at hj
    cases hj
    rfl
  have hok := h a ha
  obtain ⟨n', s⟩ := a
  cases s with
  | cal r' y f as =>
    obtain ⟨i', _, h2⟩ := mem_callL.mp hx
    exact key _ rfl (hok.2 _ (List.mem_of_getElem? h2))
  | lst k r' y ds =>
    have hx : q.1 ∈ [y] := hx
    exact key y (List.mem_singleton.mp hx).symm hok
  | oth k r' ds => exact (List.not_mem_nil hx).elim
  | iff r' c a b => exact (List.not_mem_nil hx).elim
  | whl r' c ks f b => exact (List.not_mem_nil hx).elim
theorem pos_filter (ps : List (PySem.Str × Bool)) (t : List PySem.Str) : (posOf ps t).map (nmAt ps) = (ps.filter fun q => decide (q.1 ∈ t)).map Prod.fst := by
  have h : ∀ k, k ≤ ps.length → (((List.range k).filter fun i => decide (nmAt ps i ∈ t)).map (nmAt ps)) = ((ps.take k).filter fun q => decide (q.1 ∈ t)).map Prod.fst := by
    intro k
    induction k with
    | zero => intro _; rfl
    | succ k ih =>
      intro hk
      have e : nmAt ps k = ps[k].1 := nmAt_of (List.getElem?_eq_getElem (by omega))
      rw [List.range_succ, List.filter_append, List.map_append, ih (by omega), List.take_succ_eq_append_getElem (by omega), List.filter_append, List.map_append, List.filter_cons, List.filter_cons, e]
      by_cases h : ps[k].1 ∈ t
      · rw [decide_eq_true h, if_pos rfl, if_pos rfl, List.map_cons, List.map_cons, e]
        rfl
      · rw [decide_eq_false h, if_neg Bool.false_ne_true, if_neg Bool.false_ne_true]
        rfl
  have := h ps.length (Nat.le_refl _)
  rw [List.take_length] at this
  exact this
theorem by_same (w : LwOk cs) (r : Rel cs pos ch) {ps : List (PySem.Str × Bool)} (hn : (ps.map Prod.fst).Nodup) {n : Nat} {b : List (BD n)} (h : ∀ a, a ∈ flatB n b → AnOk cs ps a) : byN cs ch ps b = (posOf ps (tchB pos n b)).map (nmAt ps) := by
  rw [pos_filter]
  unfold byN
  have e1 : (ps.filter fun q => decide (q.1 ∈ tchB pos n b)) = (ps.filter fun q => q.2).filter fun q => decide (q.1 ∈ tchB pos n b) := by
    rw [List.filter_filter]
    refine List.filter_congr fun q hq => ?_
    by_cases hx : q.1 ∈ tchB pos n b
    · obtain ⟨i, hi⟩ := List.getElem?_of_mem hq
      rw [decide_eq_true hx, tch_list w hn h hi hx]
      rfl
    · rw [decide_eq_false hx]
      rfl
  rw [e1, List.filter_map]
  refine congrArg _ (List.filter_congr fun q hq => ?_)
  exact decide_eq_decide.mpr (tchB_same w r h).symm
def stpL (cs : List (Pc m)) (pos : PySem.Str → List Nat) (c : Pc m) : PySem.Str → List Nat := fun x => if x = c.nm then posOf c.ps (tchB pos m c.body) else pos x
theorem rel_step (w : LwOk cs) (r : Rel cs pos ch) {c : Pc m} (hc : c ∈ cs) : Rel cs (stpL cs pos c) (stp cs ch c) := by
  refine ⟨fun d hd => ?_, fun d hd i hi => ?_⟩
  · unfold stpL stp
    by_cases e : d.nm = c.nm
    · rw [if_pos e, if_pos e, apart_of w.nd d c hd hc e]
      exact by_same w r (w.pn c hc) (w.an c hc)
    · rw [if_neg e, if_neg e]
      exact r.nm d hd
  · unfold stpL at hi
    by_cases e : d.nm = c.nm
    · rw [if_pos e, ← apart_of w.nd d c hd hc e] at hi
      obtain ⟨h1, h2⟩ := List.mem_filter.mp hi
      have h1 := List.mem_range.mp h1
      have hq := List.getElem?_eq_getElem h1
      refine ⟨_, hq, tch_list (pos := pos) w (w.pn d hd) (w.an d hd) hq ?_⟩
      rw [nmAt_of hq] at h2
      exact of_decide_eq_true h2
    · rw [if_neg e] at hi
      exact r.lt d hd i hi
def itL (cs : List (Pc m)) : Nat → PySem.Str → List Nat
  | 0 => fun _ => []
  | i + 1 => cs.foldl (stpL cs) (itL cs i)
theorem rel_fold (w : LwOk cs) : ∀ (l : List (Pc m)), (∀ c, c ∈ l → c ∈ cs) → ∀ {pos : PySem.Str → List Nat} {ch : PySem.Str → List PySem.Str}, Rel cs pos ch → Rel cs (l.foldl (stpL cs) pos) (l.foldl (stp cs) ch)
  | [], _, _, _, r => r
  | c :: l, h, _, _, r => rel_fold w l (fun d hd => h d (List.mem_cons_of_mem _ hd)) (rel_step w r (h c List.mem_cons_self))
theorem rel_it (w : LwOk cs) : ∀ i, Rel cs (itL cs i) (itN cs i)
  | 0 => ⟨fun _ _ => rfl, fun _ _ _ h => (List.not_mem_nil h).elim⟩
  | i + 1 => rel_fold w cs (fun _ h => h) (rel_it w i)
end
end SW

namespace SW
open PySem PySem.Spec PyProof.Rows L2
abbrev s_l_touched : Stmt := topS 28
theorem sc_l_touched : FnScope ["block", "changes", "found", "statement", "kind", "at"] ["block", "changes"] (defScope s_l_touched) := ⟨rfl, rfl, rfl, by decide +kernel, rfl, by decide +kernel, by decide +kernel⟩

/-- the law's dict of places -/
structure PosK (H : Hp) (cd : Addr) {m : Nat} (cs : List (Pc m)) (pos : PySem.Str → List Nat) : Prop where
  ex : ∃ kvs : List (Key × V), H cd = some (.dK kvs) ∧ kvs.map Prod.fst = cs.map (fun c => (.inr c.nm : Key)) ∧ ∀ c, c ∈ cs → ∃ l, valV kvs (.inr c.nm) = some (.ref l) ∧ H l = some (.lst ((pos c.nm).map fun i => V.int (i : Nat)))
theorem PosK.same {H H' : Hp} {cd : Addr} {m : Nat} {cs : List (Pc m)} {pos : PySem.Str → List Nat} (h : PosK H cd cs pos) (s : Same H H') : PosK H' cd cs pos := by
  obtain ⟨kvs, h1, h2, h3⟩ := h.ex
  exact ⟨kvs, s _ _ h1, h2, fun c hc => by
    obtain ⟨l, e1, e2⟩ := h3 c hc
    exact ⟨l, e1, s _ _ e2⟩⟩
def CalOk {m : Nat} (cs : List (Pc m)) (pos : PySem.Str → List Nat) (a : An) : Prop := match a.s with
  | .cal _ _ f as => as.length ≤ 100 ∧ (∃ d, d ∈ cs ∧ d.nm = f) ∧ ∀ i, i ∈ pos f → i < as.length → ∃ x, as[i]? = some (.ls x)
  | _ => True
theorem inV_nats (i : Nat) (l : List Nat) : inV (.int (i : Nat)) (l.map fun i => V.int (i : Nat)) = decide (i ∈ l) := by
  induction l with
  | nil => rfl
  | cons b r ih =>
    show (eqV (.int (b : Nat)) (.int (i : Nat)) || inV (.int (i : Nat)) (r.map fun i => V.int (i : Nat))) = _
    rw [ih]
    show (decide ((b : Int) = (i : Int)) || _) = _
    by_cases e : b = i
    · subst e
      simp
    · rw [decide_eq_false (fun h => e (by omega))]
      by_cases m : i ∈ r
      · simp [m]
      · simp [m, Ne.symm e]
theorem flat_nats (l : List Nat) : (l.map fun i => V.int (i : Nat)).all flatV = true := List.all_eq_true.mpr fun v hv => by
  obtain ⟨z, _, rfl⟩ := List.mem_map.mp hv
  rfl
def callP (P : List Nat) (as : List Ar) (k : Nat) : List PySem.Str := (List.range k).filterMap fun i => if i ∈ P then (match as[i]? with | some (.ls x) => some x | _ => none) else none
theorem callP_len {P : List Nat} {as : List Ar} {k : Nat} : (callP P as k).length ≤ k := by
  refine Nat.le_trans (List.length_filterMap_le _ _) ?_
  rw [List.length_range]
  exact Nat.le_refl _
theorem callP_yes {P : List Nat} {as : List Ar} {k : Nat} {x : PySem.Str} (h : k ∈ P) (hx : as[k]? = some (.ls x)) : callP P as (k + 1) = callP P as k ++ [x] := by
  unfold callP
  rw [List.range_succ, List.filterMap_append]
  have e : (if k ∈ P then (match as[k]? with | some (.ls x) => some x | _ => none) else none) = some x := by rw [if_pos h, hx]
  rw [List.filterMap_cons, e]
  rfl
theorem callP_no {P : List Nat} {as : List Ar} {k : Nat} (h : ¬ k ∈ P) : callP P as (k + 1) = callP P as k := by
  unfold callP
  rw [List.range_succ, List.filterMap_append, List.filterMap_cons]
  have e : (if k ∈ P then (match as[k]? with | some (.ls x) => some x | _ => none) else none) = none := by rw [if_neg h]
  rw [e]
  simp
def tchS (pos : PySem.Str → List Nat) (n : Nat) (s : BD n) : List PySem.Str := ((flatD n s).map (tchA pos)).flatten
theorem tchD_eq {pos : PySem.Str → List Nat} {n : Nat} {s : Sf (BD n)} : tchS pos (n + 1) s = tchA pos ⟨n, s⟩ ++ (s.subs.map (tchB pos n)).flatten := by
  unfold tchS
  rw [flatD_succ, List.map_cons, List.flatten_cons]
  congr 1
  generalize s.subs = l
  induction l with
  | nil => rfl
  | cons a r ih =>
    rw [List.map_cons, List.flatten_cons, List.map_append, List.flatten_append, ih]
    rfl
theorem tchB_take {pos : PySem.Str → List Nat} {n : Nat} {b : List (BD n)} {i : Nat} (hi : i < b.length) : tchB pos n (b.take (i + 1)) = tchB pos n (b.take i) ++ tchS pos n b[i] := by
  unfold tchB tchS
  rw [flatB_take hi, List.map_append, List.flatten_append]
theorem tchA_len {m : Nat} {cs : List (Pc m)} {pos : PySem.Str → List Nat} {a : An} (h : CalOk cs pos a) : (tchA pos a).length ≤ 100 := by
  obtain ⟨n, s⟩ := a
  cases s with
  | cal r y f as =>
    refine Nat.le_trans (List.length_filterMap_le _ _) ?_
    rw [List.length_range]
    exact h.1
  | lst k r x ds => show 1 ≤ 100; decide
  | oth k r ds => exact Nat.zero_le _
  | iff r c a b => exact Nat.zero_le _
  | whl r c ks f b => exact Nat.zero_le _
theorem fl_len' {α β : Type} {f : α → List β} {k : Nat} {l : List α} (h : ∀ a, a ∈ l → (f a).length ≤ k) : ((l.map f).flatten).length ≤ k * l.length := by
  induction l with
  | nil => exact Nat.zero_le _
  | cons a r ih =>
    rw [List.map_cons, List.flatten_cons, List.length_append, List.length_cons, Nat.mul_succ]
    have := h a List.mem_cons_self
    have := ih fun b hb => h b (List.mem_cons_of_mem _ hb)
    omega
theorem tchB_len {m : Nat} {cs : List (Pc m)} {pos : PySem.Str → List Nat} {n : Nat} {b : List (BD n)} (h : ∀ a, a ∈ flatB n b → CalOk cs pos a) : (tchB pos n b).length ≤ 100 * (flatB n b).length := fl_len' fun a ha => tchA_len (h a ha)
section
variable {P : Program} {w : World} {K : PySem.W.Frag} {mg : PySem.Str → Option Value} {base : Heap}
def spTch (K : PySem.W.Frag) (n : Nat) : Sp := fun vs H Q _ => ∃ (v : V) (cd : Addr) (m : Nat) (cs : List (Pc m)) (pos : PySem.Str → List Nat) (b : List (BD n)), vs = [v, .ref cd] ∧ Dp K H v (blkE n b) ∧ (∀ s, s ∈ b → okD n s) ∧ PosK H cd cs pos ∧ (∀ a, a ∈ flatB n b → CalOk cs pos a) ∧ (flatB n b).length ≤ 900 ∧ ∀ (F : Addr) (H' : Hp), Same H H' → H F = none → H' F = some (.lst ((tchB pos n b).map V.str)) → Q (.ref F) H'
theorem flat_sub {n : Nat} {s : Sf (BD n)} {b : List (BD n)} (h : b ∈ s.subs) : ∀ a, a ∈ flatB n b → a ∈ flatD (n + 1) s := fun a ha => by
  rw [flatD_succ]
  exact List.mem_cons_of_mem _ (List.mem_flatten.mpr ⟨_, List.mem_map.mpr ⟨b, h, rfl⟩, ha⟩)
theorem ok_l_touched (T : TxB mg) (D_l_touched : Df K mg "_law_touched" s_l_touched ["block", "changes"]) : ∀ n, FnOk P w K mg base CX0 (n + 1) D_l_touched.f D_l_touched.fd ["block", "changes"] (spTch K n)
  | 0 => by
    have G_l_touched : FnOk P w K mg base CX0 0 D_l_touched.f D_l_touched.fd ["block", "changes"] (fun _ _ _ _ => False) := fn_never
    refine D_l_touched.F.ok sc_l_touched (fun vs H Q E h => ?_) (fun cdv A outer s H vs Q E hr h => ?_)
    · obtain ⟨v, cd, m, cs, pos, b, rfl, _⟩ := h
      rfl
    · obtain ⟨v, cd, m, cs, pos, b, rfl, hd, hok, hp, hc, hl, q⟩ := h
      refine ⟨_, (pss_cons (ps_set (i := 2) sc_l_touched.nd rfl (.inl rfl) (pe_lst pa_nil))
    (pss_cons (ps_for PassesOwn.never rfl (pi_tup (pv 0)) (pg_name (i := 3) sc_l_touched.nd rfl (.inl rfl))
    (pss_cons (ps_set (i := 4) sc_l_touched.nd rfl (.inl rfl) (pe_ix ix_tup (pv 3) pe_int (fun _ _ => rfl)))
    (pss_cons (ps_if (PW.pt (pw_or (pt_cmpR op_eq (pv 4) pe_str (nomark _)) (pw_or1 (pt_cmpR op_eq (pv 4) pe_str (nomark _)))))
    (pss_one (ps_expr (pe_bm PySem.F.plainAttrs_list PySem.F.slot_list_append PySem.F.type_list_append mt_append (pv 2) (pa_cons (pe_ix ix_tup (pv 3) pe_int (fun _ _ => rfl)) pa_nil))))
    pss_nil)
    (pss_cons (ps_if (pt_cmpR op_eq (pv 4) pe_str (nomark _))
    (pss_one (ps_for PassesOwn.never rfl (pi_range1 (by rfl) T.n_range (pa_cons (pe_callB call_len_seq (by rfl) T.n_len PySem.boot_len (pa_cons (pe_ix ix_tup (pv 3) pe_int (fun _ _ => rfl)) pa_nil)) pa_nil)) (pg_name (i := 5) sc_l_touched.nd rfl (.inl rfl))
    (pss_one (ps_if (pt_cmpR op_in_seq (pv 5) (pe_dget (hu_of hr) (pv 1) (pe_ix ix_tup (pv 3) pe_int (fun _ _ => rfl)) (fun _ _ => rfl)) (by rfl))
    (pss_one (ps_expr (pe_bm PySem.F.plainAttrs_list PySem.F.slot_list_append PySem.F.type_list_append mt_append (pv 2) (pa_cons (pe_ix ix_tup (pe_ix ix_tup (pe_ix ix_tup (pv 3) pe_int (fun _ _ => rfl)) (pv 5) (fun _ _ => rfl)) pe_int (fun _ _ => rfl)) pa_nil))))
    pss_nil))))
    pss_nil)
    (pss_cons (ps_if (pt_cmpR op_eq (pv 4) pe_str (nomark _))
    (pss_one (ps_set (i := 2) sc_l_touched.nd rfl (.inl rfl) (pe_op op_cat (pe_op op_cat (pv 2) (pe_call G_l_touched (hr.mono (by omega)) (by rfl) D_l_touched.g D_l_touched.F.kp D_l_touched.b .nil pass0 (pa_cons (pe_ix ix_tup (pv 3) pe_int (fun _ _ => rfl)) (pa_cons (pv 1) pa_nil)))) (pe_call G_l_touched (hr.mono (by omega)) (by rfl) D_l_touched.g D_l_touched.F.kp D_l_touched.b .nil pass0 (pa_cons (pe_ix ix_tup (pv 3) pe_int (fun _ _ => rfl)) (pa_cons (pv 1) pa_nil))))))
    pss_nil)
    (pss_one (ps_if (pt_cmpR op_eq (pv 4) pe_str (nomark _))
    (pss_one (ps_set (i := 2) sc_l_touched.nd rfl (.inl rfl) (pe_op op_cat (pv 2) (pe_call G_l_touched (hr.mono (by omega)) (by rfl) D_l_touched.g D_l_touched.F.kp D_l_touched.b .nil pass0 (pa_cons (pe_ix ix_tup (pv 3) pe_int (fun _ _ => rfl)) (pa_cons (pv 1) pa_nil))))))
    pss_nil)))))))
    (pss_one (ps_ret (pv 2))))), ?_⟩
      obtain rfl : b = [] := by
        cases b with
        | nil => rfl
        | cons s r => exact nomatch s
      obtain ⟨t, us, rfl, ht, ha⟩ := dp_tup_inv hd
      cases ha
      refine ⟨Nat.zero_le _, fun F nF => ?_⟩
      generalize hG : upd H F _ = G
      obtain ⟨s1, e1⟩ := new_of nF hG
      refine ⟨_, rfl, t, rfl, ⟨_, sqt_same s1 ht⟩, ?_⟩
      exact for_tup (K := K) (a := t) (xs := []) (fun _ σ J => J = G ∧ ∃ y3 y4 y5 : Option V, σ = [some (.ref t), some (.ref cd), some (.ref F), y3, y4, y5]) ⟨rfl, _, _, _, rfl⟩ (fun _ _ J _ hP => by
        obtain ⟨rfl, _⟩ := hP
        exact sqt_same s1 ht) (fun i x σ J hx _ => by cases hx) (fun σ J hP => by
        obtain ⟨rfl, y3, y4, y5, rfl⟩ := hP
        exact ⟨_, rfl, q F J s1 nF e1⟩)
  | n + 1 => by
    have G_l_touched := ok_l_touched T D_l_touched n
    refine D_l_touched.F.ok sc_l_touched (fun vs H Q E h => ?_) (fun cdv A outer s H vs Q E hr h => ?_)
    · obtain ⟨v, cd, m, cs, pos, b, rfl, _⟩ := h
      rfl
    · obtain ⟨v, cd, m, cs, pos, b, rfl, hd, hok, hp, hc, hl, q⟩ := h
      refine ⟨_, (pss_cons (ps_set (i := 2) sc_l_touched.nd rfl (.inl rfl) (pe_lst pa_nil))
    (pss_cons (ps_for PassesOwn.never rfl (pi_tup (pv 0)) (pg_name (i := 3) sc_l_touched.nd rfl (.inl rfl))
    (pss_cons (ps_set (i := 4) sc_l_touched.nd rfl (.inl rfl) (pe_ix ix_tup (pv 3) pe_int (fun _ _ => rfl)))
    (pss_cons (ps_if (PW.pt (pw_or (pt_cmpR op_eq (pv 4) pe_str (nomark _)) (pw_or1 (pt_cmpR op_eq (pv 4) pe_str (nomark _)))))
    (pss_one (ps_expr (pe_bm PySem.F.plainAttrs_list PySem.F.slot_list_append PySem.F.type_list_append mt_append (pv 2) (pa_cons (pe_ix ix_tup (pv 3) pe_int (fun _ _ => rfl)) pa_nil))))
    pss_nil)
    (pss_cons (ps_if (pt_cmpR op_eq (pv 4) pe_str (nomark _))
    (pss_one (ps_for PassesOwn.never rfl (pi_range1 (by rfl) T.n_range (pa_cons (pe_callB call_len_seq (by rfl) T.n_len PySem.boot_len (pa_cons (pe_ix ix_tup (pv 3) pe_int (fun _ _ => rfl)) pa_nil)) pa_nil)) (pg_name (i := 5) sc_l_touched.nd rfl (.inl rfl))
    (pss_one (ps_if (pt_cmpR op_in_seq (pv 5) (pe_dget (hu_of hr) (pv 1) (pe_ix ix_tup (pv 3) pe_int (fun _ _ => rfl)) (fun _ _ => rfl)) (by rfl))
    (pss_one (ps_expr (pe_bm PySem.F.plainAttrs_list PySem.F.slot_list_append PySem.F.type_list_append mt_append (pv 2) (pa_cons (pe_ix ix_tup (pe_ix ix_tup (pe_ix ix_tup (pv 3) pe_int (fun _ _ => rfl)) (pv 5) (fun _ _ => rfl)) pe_int (fun _ _ => rfl)) pa_nil))))
    pss_nil))))
    pss_nil)
    (pss_cons (ps_if (pt_cmpR op_eq (pv 4) pe_str (nomark _))
    (pss_one (ps_set (i := 2) sc_l_touched.nd rfl (.inl rfl) (pe_op op_cat (pe_op op_cat (pv 2) (pe_call G_l_touched (hr.mono (by omega)) (by rfl) D_l_touched.g D_l_touched.F.kp D_l_touched.b .nil pass0 (pa_cons (pe_ix ix_tup (pv 3) pe_int (fun _ _ => rfl)) (pa_cons (pv 1) pa_nil)))) (pe_call G_l_touched (hr.mono (by omega)) (by rfl) D_l_touched.g D_l_touched.F.kp D_l_touched.b .nil pass0 (pa_cons (pe_ix ix_tup (pv 3) pe_int (fun _ _ => rfl)) (pa_cons (pv 1) pa_nil))))))
    pss_nil)
    (pss_one (ps_if (pt_cmpR op_eq (pv 4) pe_str (nomark _))
    (pss_one (ps_set (i := 2) sc_l_touched.nd rfl (.inl rfl) (pe_op op_cat (pv 2) (pe_call G_l_touched (hr.mono (by omega)) (by rfl) D_l_touched.g D_l_touched.F.kp D_l_touched.b .nil pass0 (pa_cons (pe_ix ix_tup (pv 3) pe_int (fun _ _ => rfl)) (pa_cons (pv 1) pa_nil))))))
    pss_nil)))))))
    (pss_one (ps_ret (pv 2))))), ?_⟩
      obtain ⟨t0, us, rfl, ht0, ha0⟩ := dp_tup_inv hd
      refine ⟨Nat.zero_le _, fun F0 nF0 => ?_⟩
      generalize hG : upd H F0 _ = G
      obtain ⟨s1, e1⟩ := new_of nF0 hG
      have hul : us.length = b.length := by rw [dpa_len ha0, List.length_map]
      refine ⟨_, rfl, t0, rfl, ⟨_, sqt_same s1 ht0⟩, ?_⟩
      refine for_tup (K := K) (a := t0) (xs := us) (fun i σ J => Same H J ∧ ∃ (F : Addr) (y3 y4 y5 : Option V), σ = [some (.ref t0), some (.ref cd), some (.ref F), y3, y4, y5] ∧ H F = none ∧ J F = some (.lst ((tchB pos (n + 1) (b.take i)).map V.str))) ⟨s1, F0, _, _, _, rfl, nF0, e1⟩ (fun i σ J _ hP => sqt_same hP.1 ht0) (fun i x σ J hx hP => ?_) (fun σ J hP => ?_)
      · obtain ⟨sJ, F, y3, y4, y5, rfl, nF, eF⟩ := hP
        have hi : i < b.length := by
          rw [← hul]
          exact (List.getElem?_eq_some_iff.mp hx).1
        obtain ⟨v', g1, dv⟩ := dp_mem ha0 hi
        rw [hx] at g1
        cases g1
        have hok1 := hok _ (List.getElem_mem hi)
        have htk := tchB_take (pos := pos) (n := n + 1) hi
        have hfk := flatB_take (m := n + 1) hi
        have hcd : ∀ a, a ∈ flatD (n + 1) b[i] → CalOk cs pos a := fun a ha => hc a (by
          have e := flatB_le (b := b) (i := i + 1)
          unfold flatB
          exact List.mem_flatten.mpr ⟨_, List.mem_map.mpr ⟨_, List.getElem_mem hi, rfl⟩, ha⟩)
        have hl1 : (flatB (n + 1) (b.take i)).length + (flatD (n + 1) b[i]).length ≤ 900 := by
          rw [← List.length_append, ← hfk]
          exact Nat.le_trans flatB_le hl
        have hcp : ∀ a, a ∈ flatB (n + 1) (b.take i) → CalOk cs pos a := fun a ha => hc a (by
          have e : flatB (n + 1) b = flatB (n + 1) (b.take i) ++ flatB (n + 1) (b.drop i) := by
            unfold flatB
            rw [← List.flatten_append, ← List.map_append, List.take_append_drop]
          rw [e]
          exact List.mem_append_left _ ha)
        have hle := tchB_len hcp
        clear hfk
        generalize b[i] = st at dv hok1 htk hcd hl1
        obtain ⟨st, rfl⟩ : ∃ s' : Sf (BD n), s' = st := ⟨st, rfl⟩
        obtain ⟨t, ws, rfl, ht, ha⟩ := sf_inv (B := BD n) (s := st) dv
        have htJ := sqt_same sJ ht
        have hok1 : Sf.ok (okD n) st := hok1
        have hsubs := fun b' hb' a ha => hcd a (flat_sub (s := st) (b := b') hb' a ha)
        have hsl : ∀ b', b' ∈ st.subs → (flatB n b').length ≤ 900 := fun b' hb' => by
          have h1 := flatN_le hb'
          rw [show flatD (n + 1) st = ⟨n, st⟩ :: ((Sf.subs (B := BD n) st).map (flatB n)).flatten from flatD_succ n st, List.length_cons] at hl1
          omega
        have hsok := ok_subs (n := n) (s := st) hok1
        rw [tchD_eq] at htk
        cases st with
        | lst k r y ds =>
          have htk : tchB pos (n + 1) (b.take (i + 1)) = tchB pos (n + 1) (b.take i) ++ [y] := htk
          replace htJ : SqT K J t (.str k :: ws) := htJ
          cases ha with
          | cons m1 ha =>
          cases ha with
          | cons m2 ha =>
          cases dp_str_inv m2
          refine ⟨_, rfl, t, _, _, _, rfl, rfl, htJ, atI_nat (j := 0) rfl, ?_⟩
          rcases hok1.1 with rfl | rfl
          · refine ⟨_, rfl, rfl, _, rfl, ?_⟩
            rw [str_dec, decide_eq_true rfl]
            refine iteT (iteT ?_)
            refine ⟨_, rfl, .inl ⟨rfl, _, SqL.of eF⟩, _, rfl, t, _, _, _, rfl, rfl, htJ, atI_nat (j := 2) rfl, F, _, _, rfl, rfl, eF, small_sz5 (by rw [List.length_map]; omega), ?_⟩
            refine ⟨_, rfl, rfl, _, rfl, ?_⟩
            rw [str_dec, decide_eq_false (by decide +kernel)]
            refine iteF ⟨_, rfl, rfl, _, rfl, ?_⟩
            rw [str_dec, decide_eq_false (by decide +kernel)]
            refine iteF ⟨_, rfl, rfl, _, rfl, ?_⟩
            rw [str_dec, decide_eq_false (by decide +kernel)]
            refine iteF ?_
            refine ⟨same_mut sJ nF, F, _, _, _, rfl, nF, ?_⟩
            rw [upd_same, htk, List.map_append]
            rfl
          · refine ⟨_, rfl, rfl, _, rfl, ?_⟩
            rw [str_dec, decide_eq_false (by decide +kernel)]
            refine iteF ⟨_, rfl, rfl, _, rfl, ?_⟩
            rw [str_dec, decide_eq_true rfl]
            refine iteT ?_
            refine ⟨_, rfl, .inl ⟨rfl, _, SqL.of eF⟩, _, rfl, t, _, _, _, rfl, rfl, htJ, atI_nat (j := 2) rfl, F, _, _, rfl, rfl, eF, small_sz5 (by rw [List.length_map]; omega), ?_⟩
            refine ⟨_, rfl, rfl, _, rfl, ?_⟩
            rw [str_dec, decide_eq_false (by decide +kernel)]
            refine iteF ⟨_, rfl, rfl, _, rfl, ?_⟩
            rw [str_dec, decide_eq_false (by decide +kernel)]
            refine iteF ⟨_, rfl, rfl, _, rfl, ?_⟩
            rw [str_dec, decide_eq_false (by decide +kernel)]
            refine iteF ?_
            refine ⟨same_mut sJ nF, F, _, _, _, rfl, nF, ?_⟩
            rw [upd_same, htk, List.map_append]
            rfl
        | oth k r ds =>
          have htk : tchB pos (n + 1) (b.take (i + 1)) = tchB pos (n + 1) (b.take i) := by
            rw [htk]
            exact List.append_nil _
          replace htJ : SqT K J t (.str k :: ws) := htJ
          have hne : ∀ z, z ∈ oddK → ¬ k = z := fun z hz e => hok1.1 (e ▸ hz)
          refine ⟨_, rfl, t, _, _, _, rfl, rfl, htJ, atI_nat (j := 0) rfl, ?_⟩
          refine ⟨_, rfl, rfl, _, rfl, ?_⟩
          rw [str_dec, decide_eq_false (hne _ (by decide +kernel))]
          refine iteF ⟨_, rfl, rfl, _, rfl, ?_⟩
          rw [str_dec, decide_eq_false (hne _ (by decide +kernel))]
          refine iteF ⟨_, rfl, rfl, _, rfl, ?_⟩
          rw [str_dec, decide_eq_false (hne _ (by decide +kernel))]
          refine iteF ⟨_, rfl, rfl, _, rfl, ?_⟩
          rw [str_dec, decide_eq_false (hne _ (by decide +kernel))]
          refine iteF ⟨_, rfl, rfl, _, rfl, ?_⟩
          rw [str_dec, decide_eq_false (hne _ (by decide +kernel))]
          refine iteF ⟨sJ, F, _, _, _, rfl, nF, ?_⟩
          rw [htk]
          exact eF
        | cal r y f as =>
          have htk : tchB pos (n + 1) (b.take (i + 1)) = tchB pos (n + 1) (b.take i) ++ callL (pos f) as := by
            rw [htk]
            show _ ++ (callL (pos f) as ++ []) = _
            rw [List.append_nil]
          replace htJ : SqT K J t (.str "call" :: ws) := htJ
          obtain ⟨hal, ⟨d, hdm, rfl⟩, hpos⟩ : as.length ≤ 100 ∧ (∃ d, d ∈ cs ∧ d.nm = f) ∧ ∀ i, i ∈ pos f → i < as.length → ∃ x, as[i]? = some (.ls x) := hcd ⟨n, .cal r y f as⟩ (by
            rw [flatD_succ]
            exact List.mem_cons_self)
          obtain ⟨v1, v2, v3, v4, rfl, d1, d2, d3, d4⟩ := dpa4 ha
          cases dp_str_inv d3
          obtain ⟨ta, ys, rfl, hta, dya⟩ := dp_tup_inv d4
          have hyl : ys.length = as.length := by rw [dpa_len dya, List.length_map]
          refine ⟨_, rfl, t, _, _, _, rfl, rfl, htJ, atI_nat (j := 0) rfl, ?_⟩
          refine ⟨_, rfl, rfl, _, rfl, ?_⟩
          rw [str_dec, decide_eq_false (by decide +kernel)]
          refine iteF ⟨_, rfl, rfl, _, rfl, ?_⟩
          rw [str_dec, decide_eq_false (by decide +kernel)]
          refine iteF ⟨_, rfl, rfl, _, rfl, ?_⟩
          rw [str_dec, decide_eq_true rfl]
          refine iteT ⟨_, rfl, t, _, _, _, rfl, rfl, htJ, atI_nat (j := 4) rfl, ta, _, rfl, .inr (sqt_same sJ hta), _, rfl, by omega, by omega, ?_⟩
          refine for_range (lo := 0) (n := ((ys.length : Nat) : Int).toNat) (fun k σ J2 => Same H J2 ∧ ∃ y5 : Option V, σ = [some (.ref t0), some (.ref cd), some (.ref F), some (.ref t), some (.str "call"), y5] ∧ J2 F = some (.lst ((tchB pos (n + 1) (b.take i) ++ callP (pos d.nm) as k).map V.str))) ⟨sJ, _, rfl, by
            show J F = some (.lst ((_ ++ []).map V.str))
            rw [List.append_nil]
            exact eF⟩ (fun k σ J2 hk hP => ?_) (fun σ J2 hP => ?_)
          · obtain ⟨sJ2, y5, rfl, eF2⟩ := hP
            have hka : k < as.length := by omega
            obtain ⟨x, gx, dx⟩ := dp_mem dya hka
            obtain ⟨kvs, k1, k2, k3⟩ := (hp.same sJ2).ex
            obtain ⟨l, l1, l2⟩ := k3 d hdm
            have hcl := callP_len (P := pos d.nm) (as := as) (k := k)
            refine ⟨_, rfl, _, rfl, _, rfl, t, _, _, _, rfl, rfl, sqt_same sJ2 ht, atI_nat (j := 3) rfl, cd, .ref l, rfl, l1 ▸ DGet.k (k := .inr d.nm) k1, l, _, rfl, .inl (SqL.of l2), rfl, flat_nats _, _, rfl, ?_⟩
            show if inV (.int (0 + (k : Nat))) ((pos d.nm).map fun i => V.int (i : Nat)) = true then _ else _
            rw [Int.zero_add, inV_nats]
            refine ite2 (fun e => ?_) (fun e => ?_)
            · have hkp := of_decide_eq_true e
              obtain ⟨z, hz⟩ := hpos k hkp hka
              have e3 := List.getElem?_eq_getElem hka
              rw [hz] at e3
              rw [← Option.some.inj e3] at dx
              obtain ⟨t2, w1, w2, rfl, ht2, m1, m2⟩ := dp_inv2 dx
              cases dp_str_inv m2
              refine ⟨_, rfl, .inl ⟨rfl, _, SqL.of eF2⟩, _, rfl, t, _, _, _, rfl, rfl, sqt_same sJ2 ht, atI_nat (j := 4) rfl, _, rfl, ta, _, _, _, rfl, rfl, sqt_same sJ2 hta, atI_nat gx, t2, _, _, _, rfl, rfl, sqt_same sJ2 ht2, atI_nat (j := 1) rfl, F, _, _, rfl, rfl, eF2, small_sz5 (by rw [List.length_map, List.length_append]; omega), ?_⟩
              refine ⟨same_mut sJ2 nF, _, rfl, ?_⟩
              rw [upd_same, callP_yes hkp hz, ← List.append_assoc, List.map_append (l₂ := [z])]
              rfl
            · refine ⟨sJ2, _, rfl, ?_⟩
              rw [callP_no (of_decide_eq_false (Bool.eq_false_iff.mpr e))]
              exact eF2
          · obtain ⟨sJ2, y5, rfl, eF2⟩ := hP
            rw [show ((ys.length : Nat) : Int).toNat = as.length by omega] at eF2
            refine ⟨_, rfl, rfl, _, rfl, ?_⟩
            rw [str_dec, decide_eq_false (by decide +kernel)]
            refine iteF ⟨_, rfl, rfl, _, rfl, ?_⟩
            rw [str_dec, decide_eq_false (by decide +kernel)]
            refine iteF ⟨sJ2, F, _, _, _, rfl, nF, ?_⟩
            rw [htk]
            exact eF2
        | iff r c a b' =>
          have htk : tchB pos (n + 1) (b.take (i + 1)) = tchB pos (n + 1) (b.take i) ++ tchB pos n a ++ tchB pos n b' := by
            rw [htk, List.append_assoc]
            show _ ++ ([] ++ (tchB pos n a ++ (tchB pos n b' ++ []))) = _
            rw [List.nil_append, List.append_nil]
          replace htJ : SqT K J t (.str "if" :: ws) := htJ
          obtain ⟨v1, v2, v3, v4, rfl, d1, d2, d3, d4⟩ := dpa4 ha
          have ma : a ∈ (Sf.iff r c a b').subs := List.mem_cons_self
          have mb : b' ∈ (Sf.iff r c a b').subs := List.mem_cons_of_mem _ List.mem_cons_self
          have la := hsl a ma
          have lb := hsl b' mb
          have za := tchB_len (hsubs a ma)
          have zb := tchB_len (hsubs b' mb)
          have hl2 : (flatB n a).length + (flatB n b').length < (flatD (n + 1) (Sf.iff r c a b')).length := by
            rw [flatD_succ]
            show _ < (_ :: (flatB n a ++ (flatB n b' ++ []))).length
            rw [List.length_cons, List.length_append, List.append_nil]
            omega
          refine ⟨_, rfl, t, _, _, _, rfl, rfl, htJ, atI_nat (j := 0) rfl, ?_⟩
          refine ⟨_, rfl, rfl, _, rfl, ?_⟩
          rw [str_dec, decide_eq_false (by decide +kernel)]
          refine iteF ⟨_, rfl, rfl, _, rfl, ?_⟩
          rw [str_dec, decide_eq_false (by decide +kernel)]
          refine iteF ⟨_, rfl, rfl, _, rfl, ?_⟩
          rw [str_dec, decide_eq_false (by decide +kernel)]
          refine iteF ⟨_, rfl, rfl, _, rfl, ?_⟩
          rw [str_dec, decide_eq_true rfl]
          refine iteT ⟨_, rfl, _, rfl, t, _, _, _, rfl, rfl, htJ, atI_nat (j := 3) rfl, _, rfl, v3, cd, m, cs, pos, a, rfl, d3.same sJ, hsok a ma, hp.same sJ, hsubs a ma, la, fun F1 J1 s1 nF1 eF1 => ?_⟩
          have sJ1 := sJ.trans s1
          refine ⟨F, F1, _, _, rfl, rfl, s1 _ _ eF, eF1, sz5 (by rw [List.length_map, List.length_map]; omega), fun F2 nF2 => ?_⟩
          generalize hG2 : upd J1 F2 _ = J2
          obtain ⟨s2, eF2⟩ := new_of nF2 hG2
          have sJ2 := sJ1.trans s2
          refine ⟨_, rfl, t, _, _, _, rfl, rfl, sqt_same sJ2 ht, atI_nat (j := 4) rfl, _, rfl, v4, cd, m, cs, pos, b', rfl, d4.same sJ2, hsok b' mb, hp.same sJ2, hsubs b' mb, lb, fun F3 J3 s3 nF3 eF3 => ?_⟩
          refine ⟨F2, F3, _, _, rfl, rfl, s3 _ _ eF2, eF3, sz5 (by rw [List.length_append, List.length_map, List.length_map, List.length_map]; omega), fun F4 nF4 => ?_⟩
          have sJ3 := sJ2.trans s3
          generalize hG4 : upd J3 F4 _ = J4
          obtain ⟨s4, eF4⟩ := new_of nF4 hG4
          refine ⟨_, rfl, rfl, _, rfl, ?_⟩
          rw [str_dec, decide_eq_false (by decide +kernel)]
          refine iteF ⟨sJ3.trans s4, F4, _, _, _, rfl, sJ3.free nF4, ?_⟩
          rw [htk, List.map_append, List.map_append]
          exact eF4
        | whl r c ks f b' =>
          have htk : tchB pos (n + 1) (b.take (i + 1)) = tchB pos (n + 1) (b.take i) ++ tchB pos n b' := by
            rw [htk]
            show _ ++ ([] ++ (tchB pos n b' ++ [])) = _
            rw [List.nil_append, List.append_nil]
          replace htJ : SqT K J t (.str "while" :: ws) := htJ
          obtain ⟨v1, v2, v3, v4, v5, rfl, d1, d2, d3, d4, d5⟩ := dpa5 ha
          have mb : b' ∈ (Sf.whl r c ks f b').subs := List.mem_cons_self
          have lb := hsl b' mb
          have zb := tchB_len (hsubs b' mb)
          have hl2 : (flatB n b').length < (flatD (n + 1) (Sf.whl r c ks f b')).length := by
            rw [flatD_succ]
            show _ < (_ :: (flatB n b' ++ [])).length
            rw [List.length_cons, List.append_nil]
            omega
          refine ⟨_, rfl, t, _, _, _, rfl, rfl, htJ, atI_nat (j := 0) rfl, ?_⟩
          refine ⟨_, rfl, rfl, _, rfl, ?_⟩
          rw [str_dec, decide_eq_false (by decide +kernel)]
          refine iteF ⟨_, rfl, rfl, _, rfl, ?_⟩
          rw [str_dec, decide_eq_false (by decide +kernel)]
          refine iteF ⟨_, rfl, rfl, _, rfl, ?_⟩
          rw [str_dec, decide_eq_false (by decide +kernel)]
          refine iteF ⟨_, rfl, rfl, _, rfl, ?_⟩
          rw [str_dec, decide_eq_false (by decide +kernel)]
          refine iteF ⟨_, rfl, rfl, _, rfl, ?_⟩
          rw [str_dec, decide_eq_true rfl]
          refine iteT ⟨_, rfl, _, rfl, t, _, _, _, rfl, rfl, htJ, atI_nat (j := 5) rfl, _, rfl, v5, cd, m, cs, pos, b', rfl, d5.same sJ, hsok b' mb, hp.same sJ, hsubs b' mb, lb, fun F1 J1 s1 nF1 eF1 => ?_⟩
          have sJ1 := sJ.trans s1
          refine ⟨F, F1, _, _, rfl, rfl, s1 _ _ eF, eF1, sz5 (by rw [List.length_map, List.length_map]; omega), fun F2 nF2 => ?_⟩
          generalize hG2 : upd J1 F2 _ = J2
          obtain ⟨s2, eF2⟩ := new_of nF2 hG2
          refine ⟨sJ1.trans s2, F2, _, _, _, rfl, sJ1.free nF2, ?_⟩
          rw [htk, List.map_append]
          exact eF2
      · obtain ⟨sJ, F, y3, y4, y5, rfl, nF, eF⟩ := hP
        rw [List.take_of_length_le (by omega)] at eF
        exact ⟨_, rfl, q F J sJ nF eF⟩
end
end SW

namespace SW
open PySem PySem.Spec PyProof.Rows L2
abbrev s_l_changes : Stmt := topS 29
theorem sc_l_changes : FnScope ["parts", "changes", "one", "step", "touched", "at"] ["parts"] (defScope s_l_changes) := ⟨rfl, rfl, rfl, by decide +kernel, rfl, by decide +kernel, by decide +kernel⟩

abbrev s_l_is_list : Stmt := topS 31
theorem sc_l_is_list : FnScope ["found", "expected"] ["found", "expected"] (defScope s_l_is_list) := ⟨rfl, rfl, rfl, by decide +kernel, rfl, by decide +kernel, by decide +kernel⟩

/-- a procedure's row, as the law has it -/
structure PtAt (K : PySem.W.Frag) (H : Hp) (v : V) {m : Nat} (c : Pc m) : Prop where
  ex : ∃ (t : Addr) (v0 v2 v3 v4 v5 v6 v7 v8 : V), v = .ref t ∧ SqT K H t [v0, .str c.nm, v2, v3, v4, v5, v6, v7, v8] ∧ Dp K H v2 (psE c.ps) ∧ Dp K H v8 (blkE m c.body)
theorem PtAt.same {K : PySem.W.Frag} {H H' : Hp} {v : V} {m : Nat} {c : Pc m} (h : PtAt K H v c) (s : Same H H') : PtAt K H' v c := by
  obtain ⟨t, v0, v2, v3, v4, v5, v6, v7, v8, e, h1, h2, h3⟩ := h.ex
  exact ⟨t, v0, v2, v3, v4, v5, v6, v7, v8, e, sqt_same s h1, h2.same s, h3.same s⟩
structure PtsAt (K : PySem.W.Frag) (H : Hp) (xs : List V) {m : Nat} (cs : List (Pc m)) : Prop where
  len : xs.length = cs.length
  at_ : ∀ (i : Nat) (v : V) (c : Pc m), xs[i]? = some v → cs[i]? = some c → PtAt K H v c
theorem PtsAt.same {K : PySem.W.Frag} {H H' : Hp} {xs : List V} {m : Nat} {cs : List (Pc m)} (h : PtsAt K H xs cs) (s : Same H H') : PtsAt K H' xs cs := ⟨h.len, fun i v c h1 h2 => (h.at_ i v c h1 h2).same s⟩
theorem cal_ok {m : Nat} {cs : List (Pc m)} {pos : PySem.Str → List Nat} {ch : PySem.Str → List PySem.Str} (r : Rel cs pos ch) (hok : ∀ c, c ∈ cs → c.ok) {ps : List (PySem.Str × Bool)} {a : An} (h : AnOk cs ps a) : CalOk cs pos a := by
  obtain ⟨n, s⟩ := a
  cases s with
  | cal r' y f as =>
    obtain ⟨⟨d, hd, rfl, hf⟩, _⟩ := h
    refine ⟨by rw [hf.1]; exact (hok d hd).ps, ⟨d, hd, rfl⟩, fun i hi hl => ?_⟩
    obtain ⟨q, hq, ht⟩ := r.lt d hd i hi
    exact hf.2 i q hq ht
  | lst k r' y ds => trivial
  | oth k r' ds => trivial
  | iff r' c a b => trivial
  | whl r' c ks f b => trivial
theorem PosK.put {H : Hp} {cd F : Addr} {m : Nat} {cs : List (Pc m)} {pos : PySem.Str → List Nat} {kvs : List (Key × V)} {c : Pc m} (h1 : H cd = some (.dK kvs)) (h2 : kvs.map Prod.fst = cs.map (fun c => (.inr c.nm : Key))) (h3 : ∀ c, c ∈ cs → ∃ l, valV kvs (.inr c.nm) = some (.ref l) ∧ H l = some (.lst ((pos c.nm).map fun i => V.int (i : Nat)))) (hc : c ∈ cs) (hF : H F = some (.lst ((posOf c.ps (tchB pos m c.body)).map fun i => V.int (i : Nat)))) :
    PosK (upd H cd (.dK (putK kvs (.inr c.nm) (.ref F)))) cd cs (stpL cs pos c) := by
  have ne : ∀ {l : Addr} {xs : List V}, H l = some (.lst xs) → l ≠ cd := fun e1 e2 => by
    rw [e2, h1] at e1
    cases e1
  refine ⟨_, upd_same, ?_, fun d hd => ?_⟩
  · obtain ⟨l, e1, _⟩ := h3 c hc
    rw [putK_keys (by rw [e1]; rfl), h2]
  · rw [valV_put]
    unfold stpL
    by_cases e : d.nm = c.nm
    · rw [if_pos e, if_pos (by rw [e])]
      exact ⟨F, rfl, by rw [upd_ne (ne hF)]; exact hF⟩
    · rw [if_neg e, if_neg (fun h => e (Sum.inr.inj h))]
      obtain ⟨l, e1, e2⟩ := h3 d hd
      exact ⟨l, e1, by rw [upd_ne (ne e2)]; exact e2⟩
theorem keys_len {kvs : List (Key × V)} {m : Nat} {cs : List (Pc m)} (h : kvs.map Prod.fst = cs.map (fun c => (.inr c.nm : Key))) : kvs.length = cs.length := by
  have := congrArg List.length h
  rwa [List.length_map, List.length_map] at this
def posN (ps : List (PySem.Str × Bool)) (t : List PySem.Str) (k : Nat) : List Nat := (List.range k).filter fun i => decide (nmAt ps i ∈ t)
theorem posN_len {ps : List (PySem.Str × Bool)} {t : List PySem.Str} {k : Nat} : (posN ps t k).length ≤ k := by
  refine Nat.le_trans (List.length_filter_le _ _) ?_
  rw [List.length_range]
  exact Nat.le_refl _
theorem posN_yes {ps : List (PySem.Str × Bool)} {t : List PySem.Str} {k : Nat} (h : nmAt ps k ∈ t) : posN ps t (k + 1) = posN ps t k ++ [k] := by
  unfold posN
  rw [List.range_succ, List.filter_append, List.filter_cons, if_pos (decide_eq_true h)]
  rfl
theorem posN_no {ps : List (PySem.Str × Bool)} {t : List PySem.Str} {k : Nat} (h : ¬ nmAt ps k ∈ t) : posN ps t (k + 1) = posN ps t k := by
  unfold posN
  rw [List.range_succ, List.filter_append, List.filter_cons, if_neg (by rw [decide_eq_false h]; exact Bool.false_ne_true)]
  exact List.append_nil _
section
variable {P : Program} {w : World} {K : PySem.W.Frag} {mg : PySem.Str → Option Value} {base : Heap}
theorem ok_l_is_list (T : TxB mg) (D_l_is_list : Df K mg "_law_is_list" s_l_is_list ["found", "expected"]) : FnOk P w K mg base CX0 1 D_l_is_list.f D_l_is_list.fd ["found", "expected"] (fun vs H Q _ => ∃ (a b : Addr) (ws us : List PySem.Str), vs = [.ref a, .ref b] ∧ H a = some (.lst (ws.map V.str)) ∧ H b = some (.lst (us.map V.str)) ∧ Q (.bl (decide (ws = us))) H) := by
  refine D_l_is_list.F.ok sc_l_is_list (fun vs H Q E h => ?_) (fun cdv A outer s H vs Q E hr h => ?_)
  · obtain ⟨a, b, ws, us, rfl, _⟩ := h
    rfl
  · obtain ⟨a, b, ws, us, rfl, h1, h2, q⟩ := h
    refine ⟨_, (pss_one (ps_ret (pe_and (pe_callB call_isi (by rfl) T.n_isinstance (by decide +kernel) (pa_cons (pv 0) (pa_cons (pe_bltn (v := .ty "list") (u := .type "list") (by rfl) T.n_list (by decide +kernel) rfl) pa_nil))) (pe_one (pe_cmpR (op_eqS hr.units0) (pv 0) (pv 1) (nomark _)))))), ?_⟩
    exact ⟨_, rfl, .ref a, .ty "list", .type "list", .type "list", true, rfl, .ty _, .base (.lst h1), kit_ty (by decide +kernel), true, rfl, iteT ⟨_, rfl, _, rfl, a, b, ws, us, rfl, rfl, SqL.of h1, SqL.of h2, q⟩⟩
def spChg (K : PySem.W.Frag) : Sp := fun vs H Q _ => ∃ (L : Addr) (xs : List V) (m : Nat) (cs : List (Pc m)), vs = [.ref L] ∧ H L = some (.lst xs) ∧ PtsAt K H xs cs ∧ (∀ c, c ∈ cs → c.ok) ∧ LwOk cs ∧ cs.length ≤ 100 ∧ m < 8 ∧ ∀ (cd : Addr) (H' : Hp), Same H H' → H cd = none → PosK H' cd cs (itL cs 20) → Q (.ref cd) H'
theorem ok_l_changes (T : TxB mg) (D_l_changes : Df K mg "_law_changes" s_l_changes ["parts"]) (D_l_touched : Df K mg "_law_touched" s_l_touched ["block", "changes"]) : FnOk P w K mg base CX0 10 D_l_changes.f D_l_changes.fd ["parts"] (spChg K) := by
  have G_l_touched : FnOk P w K mg base CX0 9 D_l_touched.f D_l_touched.fd ["block", "changes"] (fun vs H Q E => ∃ n, n < 8 ∧ spTch K n vs H Q E) := fn_upto8 fun n hn => (ok_l_touched (P := P) (w := w) (base := base) T D_l_touched n).mono (by omega)
  refine D_l_changes.F.ok sc_l_changes (fun vs H Q E h => ?_) (fun cdv A outer s H vs Q E hr h => ?_)
  · obtain ⟨L, xs, m, cs, rfl, _⟩ := h
    rfl
  · obtain ⟨L, xs, m, cs, rfl, hL, hp, hok, lw, hcl, hm, q⟩ := h
    refine ⟨_, (pss_cons (ps_set (i := 1) sc_l_changes.nd rfl (.inl rfl) pe_dnewK)
    (pss_cons (ps_for PassesOwn.never rfl (pi_list (pv 0)) (pg_name (i := 2) sc_l_changes.nd rfl (.inr rfl))
    (pss_one (ps_dput (hu_of hr) (pv 1) (pe_ix ix_tup (pv 2) pe_int (fun _ _ => rfl)) (pe_lst pa_nil) rfl)))
    (pss_cons (ps_for PassesOwn.never rfl (pi_range1 (by rfl) T.n_range (pa_cons pe_int pa_nil)) (pg_name (i := 3) sc_l_changes.nd rfl (.inl rfl))
    (pss_one (ps_for PassesOwn.never rfl (pi_list (pv 0)) (pg_name (i := 2) sc_l_changes.nd rfl (.inr rfl))
    (pss_cons (ps_set (i := 4) sc_l_changes.nd rfl (.inr rfl) (pe_call G_l_touched (hr.mono (by decide)) (by rfl) D_l_touched.g D_l_touched.F.kp D_l_touched.b .nil pass0 (pa_cons (pe_ix ix_tup (pv 2) pe_int (fun _ _ => rfl)) (pa_cons (pv 1) pa_nil))))
    (pss_one (ps_dput (hu_of hr) (pv 1) (pe_ix ix_tup (pv 2) pe_int (fun _ _ => rfl)) (pe_lc (own := [("at", 5)]) (g := gName 5) (by rfl) sc_l_changes.nd (pi_range1 (by rfl) T.n_range (pa_cons (pe_callB call_len_seq (by rfl) T.n_len PySem.boot_len (pa_cons (pe_ix ix_tup (pv 2) pe_int (fun _ _ => rfl)) pa_nil)) pa_nil)) (blkOk_by (own := [("at", 5)]) (N := ["parts", "changes", "one", "step", "touched", "at"]) (sc := defScope s_l_changes) (by decide +kernel)) (fun _ _ _ _ _ => pg_name (i := 5) sc_l_changes.nd rfl (Or.inl rfl)) (fun _ _ _ _ _ => pts_one (pt_cmpR (show OpR _ (compareOp .In) (rIn K false) from op_in_seq) (pe_ix (show IxR _ (rIxT K) from ix_tup) (pe_ix (show IxR _ (rIxT K) from ix_tup) (pe_ix (show IxR _ (rIxT K) from ix_tup) (pv 2) pe_int (fun _ _ => rfl)) (pv 5) (fun _ _ => rfl)) pe_int (fun _ _ => rfl)) (pv 4) (by rfl))) (fun _ _ _ _ _ => (pv 5))) rfl))))))
    (pss_one (ps_ret (pv 1)))))), ?_⟩
    have hnd := lw.nd
    refine fun cd ncd => ?_
    generalize hG : upd H cd _ = G
    obtain ⟨s1, e1⟩ := new_of ncd hG
    refine ⟨_, rfl, L, rfl, ⟨_, SqL.of (s1 _ _ hL)⟩, ?_⟩
    refine for_list (K := K) (a := L) (xs := xs) (fun i σ G => Same H G ∧ (∃ y2 y3 y4 y5 : Option V, σ = [some (.ref L), some (.ref cd), y2, y3, y4, y5]) ∧ ∃ kvs : List (Key × V), G cd = some (.dK kvs) ∧ kvs.map Prod.fst = (cs.take i).map (fun c => (.inr c.nm : Key)) ∧ ∀ c, c ∈ cs.take i → ∃ l, valV kvs (.inr c.nm) = some (.ref l) ∧ G l = some (.lst [])) ⟨s1, ⟨_, _, _, _, rfl⟩, [], e1, rfl, fun c h => (List.not_mem_nil h).elim⟩ (fun i σ G _ hP => SqL.of (hP.1 _ _ hL)) (fun i v σ G hv hP => ?_) (fun σ G hP => ?_)
    · obtain ⟨sG, ⟨y2, y3, y4, y5, rfl⟩, kvs, e1, e2, e3⟩ := hP
      have hi : i < cs.length := by
        rw [← hp.len]
        exact (List.getElem?_eq_some_iff.mp hv).1
      have hc := List.getElem?_eq_getElem hi
      obtain ⟨t, v0, v2, v3, v4, v5, v6, v7, v8, rfl, ht, d2, d8⟩ := ((hp.same sG).at_ i v _ hv hc).ex
      have htk : cs.take (i + 1) = cs.take i ++ [cs[i]] := List.take_succ_eq_append_getElem hi
      have hdr : cs = cs.take i ++ cs[i] :: cs.drop (i + 1) := by rw [List.getElem_cons_drop, List.take_append_drop]
      generalize cs[i] = c at ht d2 d8 htk hdr
      have hkl : kvs.length ≤ 100 := by
        have := congrArg List.length e2
        rw [List.length_map, List.length_map, List.length_take] at this
        omega
      have hno : (.inr c.nm : Key) ∉ kvs.map Prod.fst := fun h => by
        rw [e2] at h
        obtain ⟨d, hd, e⟩ := List.mem_map.mp h
        have hn2 := hnd
        rw [hdr, List.map_append] at hn2
        exact (List.nodup_append.mp hn2).2.2 _ (List.mem_map.mpr ⟨d, hd, rfl⟩) _ (List.mem_map.mpr ⟨c, List.mem_cons_self, rfl⟩) (Sum.inr.inj e)
      have hv0 := valV_no hno
      refine ⟨Nat.zero_le _, fun l nl => ?_⟩
      generalize hK : upd G l _ = G2
      obtain ⟨s2, el⟩ := new_of nl hK
      refine ⟨_, rfl, _, rfl, t, _, _, _, rfl, rfl, sqt_same s2 ht, atI_nat (j := 1) rfl, cd, _, rfl, DPut.k (k := .inr c.nm) (s2 _ _ e1) (small_sz5 (by omega)), ?_⟩
      refine ⟨same_mut (sG.trans s2) ncd, ⟨_, _, _, _, rfl⟩, putK kvs (.inr c.nm) (.ref l), upd_same, ?_, fun d hd => ?_⟩
      · rw [putK_new _ hv0, List.map_append, e2, htk, List.map_append]
        rfl
      · have ne : ∀ {l : Addr} {xs : List V}, G2 l = some (.lst xs) → l ≠ cd := fun e e2 => by
          rw [e2, s2 _ _ e1] at e
          cases e
        rw [valV_put]
        by_cases e : d.nm = c.nm
        · rw [if_pos (by rw [e])]
          exact ⟨l, rfl, by rw [upd_ne (ne el)]; exact el⟩
        · rw [if_neg (fun h => e (Sum.inr.inj h))]
          rw [htk] at hd
          rcases List.mem_append.mp hd with hd | hd
          · obtain ⟨l', f1, f2⟩ := e3 d hd
            exact ⟨l', f1, by rw [upd_ne (ne (s2 _ _ f2))]; exact s2 _ _ f2⟩
          · exact absurd (by rw [List.mem_singleton.mp hd]) e
    · obtain ⟨sG, ⟨y2, y3, y4, y5, rfl⟩, kvs, e1, e2, e3⟩ := hP
      rw [List.take_of_length_le (by rw [hp.len]; exact Nat.le_refl _)] at e2 e3
      have k0 : PosK G cd cs (itL cs 0) := ⟨kvs, e1, e2, e3⟩
      clear e1 e2 e3
      refine ⟨_, rfl, by decide, by decide, ?_⟩
      refine for_range (lo := 0) (n := 20) (fun i σ J => Same H J ∧ (∃ y2 y3 y4 y5 : Option V, σ = [some (.ref L), some (.ref cd), y2, y3, y4, y5]) ∧ PosK J cd cs (itL cs i)) ⟨sG, ⟨_, _, _, _, rfl⟩, k0⟩ (fun i σ J hi hP => ?_) (fun σ J hP => ?_)
      · obtain ⟨sJ, ⟨y2, y3, y4, y5, rfl⟩, kJ⟩ := hP
        refine ⟨_, rfl, L, rfl, ⟨_, SqL.of (sJ _ _ hL)⟩, ?_⟩
        refine for_list (K := K) (a := L) (xs := xs) (fun j σ J => Same H J ∧ (∃ y2 y3 y4 y5 : Option V, σ = [some (.ref L), some (.ref cd), y2, y3, y4, y5]) ∧ PosK J cd cs ((cs.take j).foldl (stpL cs) (itL cs i))) ⟨sJ, ⟨_, _, _, _, rfl⟩, kJ⟩ (fun j σ J _ hP => SqL.of (hP.1 _ _ hL)) (fun j v σ J hv hP => ?_) (fun σ J hP => ?_)
        · obtain ⟨sJ, ⟨y2, y3, y4, y5, rfl⟩, kJ⟩ := hP
          have hj : j < cs.length := by
            rw [← hp.len]
            exact (List.getElem?_eq_some_iff.mp hv).1
          have hc := List.getElem?_eq_getElem hj
          have hcm := List.getElem_mem hj
          obtain ⟨t, v0, v2, v3, v4, v5, v6, v7, v8, rfl, ht, d2, d8⟩ := ((hp.same sJ).at_ j v _ hv hc).ex
          have rl := rel_fold lw (cs.take j) (fun c hc => List.mem_of_mem_take hc) (rel_it lw i)
          have hfo : (cs.take (j + 1)).foldl (stpL cs) (itL cs i) = stpL cs ((cs.take j).foldl (stpL cs) (itL cs i)) cs[j] := by
            rw [List.take_succ_eq_append_getElem hj, List.foldl_append]
            rfl
          generalize (cs.take j).foldl (stpL cs) (itL cs i) = pos at kJ rl hfo
          generalize cs[j] = c at ht d2 d8 hcm hfo
          have hcok := hok c hcm
          refine ⟨_, rfl, t, _, _, _, rfl, rfl, ht, atI_nat (j := 8) rfl, _, rfl, m, hm, v8, cd, m, cs, pos, c.body, rfl, d8, hcok.body, kJ, fun a ha => cal_ok rl hok (lw.an c hcm a ha), hcok.flat, fun B J2 s2 nB eB => ?_⟩
          obtain ⟨tp, zs, rfl, htp, dzp⟩ := dp_tup_inv d2
          have hzl : zs.length = c.ps.length := by rw [dpa_len dzp, List.length_map]
          have hpl := hcok.ps
          have ht2 := sqt_same s2 ht
          have htp2 := sqt_same s2 htp
          refine ⟨_, rfl, t, _, _, _, rfl, rfl, ht2, atI_nat (j := 2) rfl, tp, _, rfl, .inr htp2, _, rfl, by omega, by omega, fun F nF => ?_⟩
          refine lc_range (lo := 0) (n := ((zs.length : Nat) : Int).toNat) (fun k G => Same J2 G ∧ G F = some (.lst ((posN c.ps (tchB pos m c.body) k).map fun i => V.int (i : Nat)))) ⟨same_new nF, upd_same⟩ (fun k G hk hP => ?_) (fun G hP => ?_)
          · obtain ⟨s3, eF⟩ := hP
            have hkl : k < c.ps.length := by omega
            obtain ⟨x, gx, dx⟩ := dp_mem dzp hkl
            have hnm : nmAt c.ps k = c.ps[k].1 := nmAt_of (List.getElem?_eq_getElem hkl)
            obtain ⟨t2, w1, w2, rfl, ht2', m1, m2⟩ := dp_inv2 dx
            cases dp_str_inv m1
            have hle := posN_len (ps := c.ps) (t := tchB pos m c.body) (k := k)
            refine ⟨rfl, _, rfl, t, _, _, _, rfl, rfl, sqt_same s3 ht2, atI_nat (j := 2) rfl, _, rfl, tp, _, _, _, rfl, rfl, sqt_same s3 htp2, at_nat (Int.zero_add _) gx, t2, _, _, _, rfl, rfl, sqt_same (s2.trans s3) ht2', atI_nat (j := 0) rfl, _, rfl, B, _, rfl, .inl (SqL.of (s3 _ _ eB)), rfl, flat_strs _, _, rfl, ?_⟩
            show if inV (.str c.ps[k].1) ((tchB pos m c.body).map V.str) = true then _ else _
            rw [inV_strs, ← hnm]
            refine ite2 (fun e => ?_) (fun e => ?_)
            · refine ⟨_, rfl, _, eF, small_sz5 (by rw [List.length_map]; omega), same_mut s3 nF, ?_⟩
              rw [upd_same, posN_yes (of_decide_eq_true e), List.map_append, Int.zero_add]
              rfl
            · refine ⟨s3, ?_⟩
              rw [posN_no (of_decide_eq_false (Bool.eq_false_iff.mpr e))]
              exact eF
          · obtain ⟨s3, eF⟩ := hP
            rw [show ((zs.length : Nat) : Int).toNat = c.ps.length by omega] at eF
            have s23 := s2.trans s3
            obtain ⟨kvs, k1, k2, k3⟩ := (kJ.same s23).ex
            refine ⟨_, rfl, _, rfl, t, _, _, _, rfl, rfl, sqt_same s3 ht2, atI_nat (j := 1) rfl, cd, _, rfl, DPut.k (k := .inr c.nm) k1 (small_sz5 (by rw [keys_len k2]; omega)), ?_⟩
            refine ⟨same_mut (sJ.trans s23) ncd, ⟨_, _, _, _, rfl⟩, ?_⟩
            rw [hfo]
            exact PosK.put k1 k2 k3 hcm eF
        · obtain ⟨sJ, y, kJ⟩ := hP
          rw [List.take_of_length_le (by rw [hp.len]; exact Nat.le_refl _)] at kJ
          exact ⟨sJ, y, kJ⟩
      · obtain ⟨sJ, ⟨y2, y3, y4, y5, rfl⟩, kJ⟩ := hP
        exact ⟨_, rfl, q cd J sJ ncd kJ⟩
end
end SW

namespace SW
open PySem PySem.Spec PyProof.Rows L2
abbrev s_l_blocks : Stmt := topS 30
theorem sc_l_blocks : FnScope ["block", "found", "statement"] ["block"] (defScope s_l_blocks) := ⟨rfl, rfl, rfl, by decide +kernel, rfl, by decide +kernel, by decide +kernel⟩

/-- the blocks in a block, itself first -/
structure Bk where
  n : Nat
  b : List (BD n)
def Bk.enc (k : Bk) : PyData := blkE k.n k.b
def blks : (n : Nat) → List (BD n) → List Bk
  | 0, b => [⟨0, b⟩]
  | n + 1, b => ⟨n + 1, b⟩ :: (b.map fun s => ((Sf.subs (B := BD n) s).map (blks n)).flatten).flatten
def subB (n : Nat) (s : BD (n + 1)) : List Bk := ((Sf.subs (B := BD n) s).map (blks n)).flatten
theorem blks_succ (n : Nat) (b : List (BD (n + 1))) : blks (n + 1) b = ⟨n + 1, b⟩ :: (b.map (subB n)).flatten := rfl
theorem blks_all {p : An → Prop} : ∀ (n : Nat) (b : List (BD n)), (∀ s, s ∈ b → okD n s) → (∀ a, a ∈ flatB n b → p a) → ∀ k, k ∈ blks n b → k.n ≤ n ∧ (∀ s, s ∈ k.b → okD k.n s) ∧ (∀ a, a ∈ flatB k.n k.b → p a) ∧ (flatB k.n k.b).length ≤ (flatB n b).length
  | 0, b, h1, h2 => fun k hk => by
    rw [List.mem_singleton.mp hk]
    exact ⟨Nat.le_refl _, h1, h2, Nat.le_refl _⟩
  | n + 1, b, h1, h2 => fun k hk => by
    rcases List.mem_cons.mp hk with rfl | hk
    · exact ⟨Nat.le_refl _, h1, h2, Nat.le_refl _⟩
    · obtain ⟨l, hl, hk⟩ := List.mem_flatten.mp hk
      obtain ⟨s, hs, rfl⟩ := List.mem_map.mp hl
      obtain ⟨l2, hl2, hk⟩ := List.mem_flatten.mp hk
      obtain ⟨b2, hb2, rfl⟩ := List.mem_map.mp hl2
      have e : ∀ a, a ∈ flatB n b2 → a ∈ flatB (n + 1) b := fun a ha => List.mem_flatten.mpr ⟨_, List.mem_map.mpr ⟨s, hs, rfl⟩, flat_sub (s := s) hb2 a ha⟩
      obtain ⟨q1, q2, q3, q4⟩ := blks_all n b2 (ok_subs (s := s) (h1 s hs) b2 hb2) (fun a ha => h2 a (e a ha)) k hk
      refine ⟨by omega, q2, q3, Nat.le_trans q4 ?_⟩
      have z1 := flatN_le hb2
      have z2 := flatD_le (m := n + 1) hs
      rw [show flatD (n + 1) s = ⟨n, s⟩ :: ((Sf.subs (B := BD n) s).map (flatB n)).flatten from flatD_succ n s, List.length_cons] at z2
      omega
theorem bk_noL {n : Nat} {b : List (BD n)} (h : ∀ s, s ∈ b → okD n s) : ∀ k, k ∈ blks n b → noL k.enc = true := fun k hk => noL_blk (blks_all (p := fun _ => True) n b h (fun _ _ => trivial) k hk).2.1
/-- the number of blocks -/
theorem blks_len : ∀ (n : Nat) (b : List (BD n)), (blks n b).length ≤ 1 + 2 * (flatB n b).length
  | 0, b => by show 1 ≤ _; omega
  | n + 1, b => by
    have key : ∀ l : List (BD (n + 1)), ((l.map (subB n)).flatten).length ≤ 2 * (flatB (n + 1) l).length := fun l => by
      induction l with
      | nil => exact Nat.zero_le _
      | cons s r ih =>
        have e : flatB (n + 1) (s :: r) = flatD (n + 1) s ++ flatB (n + 1) r := rfl
        rw [List.map_cons, List.flatten_cons, List.length_append, e, List.length_append]
        have h1 : (subB n s).length ≤ 2 * (flatD (n + 1) s).length := by
          obtain ⟨s, rfl⟩ : ∃ s' : Sf (BD n), s' = s := ⟨s, rfl⟩
          rw [show flatD (n + 1) s = ⟨n, s⟩ :: (s.subs.map (flatB n)).flatten from flatD_succ n s, List.length_cons]
          cases s with
          | lst k r x ds => exact Nat.zero_le _
          | cal r y f as => exact Nat.zero_le _
          | oth k r ds => exact Nat.zero_le _
          | iff r c a b =>
            show (blks n a ++ (blks n b ++ [])).length ≤ 2 * ((flatB n a ++ (flatB n b ++ [])).length + 1)
            have := blks_len n a
            have := blks_len n b
            rw [List.length_append, List.append_nil, List.length_append, List.append_nil]
            omega
          | whl r c ks f b =>
            show (blks n b ++ []).length ≤ 2 * ((flatB n b ++ []).length + 1)
            have := blks_len n b
            rw [List.append_nil, List.append_nil]
            omega
        omega
    rw [blks_succ, List.length_cons]
    have := key b
    omega
section
variable {P : Program} {w : World} {K : PySem.W.Frag} {mg : PySem.Str → Option Value} {base : Heap}
def spBks (K : PySem.W.Frag) (n : Nat) : Sp := fun vs H Q _ => ∃ (v : V) (b : List (BD n)), vs = [v] ∧ Dp K H v (blkE n b) ∧ (∀ s, s ∈ b → okD n s) ∧ (flatB n b).length ≤ 900 ∧ ∀ (F : Addr) (us : List V) (H' : Hp), Same H H' → H F = none → H' F = some (.lst us) → DpAll K H' us ((blks n b).map Bk.enc) → Q (.ref F) H'
theorem ok_l_blocks (T : TxB mg) (D_l_blocks : Df K mg "_law_blocks" s_l_blocks ["block"]) : ∀ n, FnOk P w K mg base CX0 (n + 1) D_l_blocks.f D_l_blocks.fd ["block"] (spBks K n)
  | 0 => by
    have G_l_blocks : FnOk P w K mg base CX0 0 D_l_blocks.f D_l_blocks.fd ["block"] (fun _ _ _ _ => False) := fn_never
    refine D_l_blocks.F.ok sc_l_blocks (fun vs H Q E h => ?_) (fun cdv A outer s H vs Q E hr h => ?_)
    · obtain ⟨v, b, rfl, _⟩ := h
      rfl
    · obtain ⟨v, b, rfl, hd, hok, hl, q⟩ := h
      refine ⟨_, (pss_cons (ps_set (i := 1) sc_l_blocks.nd rfl (.inl rfl) (pe_lst (pa_cons (pv 0) pa_nil)))
    (pss_cons (ps_for PassesOwn.never rfl (pi_tup (pv 0)) (pg_name (i := 2) sc_l_blocks.nd rfl (.inl rfl))
    (pss_cons (ps_if (pt_cmpR op_eq (pe_ix ix_tup (pv 2) pe_int (fun _ _ => rfl)) pe_str (nomark _))
    (pss_one (ps_set (i := 1) sc_l_blocks.nd rfl (.inl rfl) (pe_op op_cat (pe_op op_cat (pv 1) (pe_call G_l_blocks (hr.mono (by omega)) (by rfl) D_l_blocks.g D_l_blocks.F.kp D_l_blocks.b .nil pass0 (pa_cons (pe_ix ix_tup (pv 2) pe_int (fun _ _ => rfl)) pa_nil))) (pe_call G_l_blocks (hr.mono (by omega)) (by rfl) D_l_blocks.g D_l_blocks.F.kp D_l_blocks.b .nil pass0 (pa_cons (pe_ix ix_tup (pv 2) pe_int (fun _ _ => rfl)) pa_nil)))))
    pss_nil)
    (pss_one (ps_if (pt_cmpR op_eq (pe_ix ix_tup (pv 2) pe_int (fun _ _ => rfl)) pe_str (nomark _))
    (pss_one (ps_set (i := 1) sc_l_blocks.nd rfl (.inl rfl) (pe_op op_cat (pv 1) (pe_call G_l_blocks (hr.mono (by omega)) (by rfl) D_l_blocks.g D_l_blocks.F.kp D_l_blocks.b .nil pass0 (pa_cons (pe_ix ix_tup (pv 2) pe_int (fun _ _ => rfl)) pa_nil)))))
    pss_nil))))
    (pss_one (ps_ret (pv 1))))), ?_⟩
      obtain rfl : b = [] := by
        cases b with
        | nil => rfl
        | cons s r => exact nomatch s
      obtain ⟨t, us, rfl, ht, ha⟩ := dp_tup_inv hd
      cases ha
      refine ⟨_, rfl, by show 1 ≤ sizeLine; decide, fun F nF => ?_⟩
      generalize hG : upd H F _ = G
      obtain ⟨s1, e1⟩ := new_of nF hG
      refine ⟨_, rfl, t, rfl, ⟨_, sqt_same s1 ht⟩, ?_⟩
      exact for_tup (K := K) (a := t) (xs := []) (fun _ σ J => J = G ∧ ∃ y2 : Option V, σ = [some (.ref t), some (.ref F), y2]) ⟨rfl, _, rfl⟩ (fun _ _ J _ hP => by
        obtain ⟨rfl, _⟩ := hP
        exact sqt_same s1 ht) (fun i x σ J hx _ => by cases hx) (fun σ J hP => by
        obtain ⟨rfl, y2, rfl⟩ := hP
        exact ⟨_, rfl, q F _ J s1 nF e1 (.cons (hd.same s1) .nil)⟩)
  | n + 1 => by
    have G_l_blocks := ok_l_blocks T D_l_blocks n
    refine D_l_blocks.F.ok sc_l_blocks (fun vs H Q E h => ?_) (fun cdv A outer s H vs Q E hr h => ?_)
    · obtain ⟨v, b, rfl, _⟩ := h
      rfl
    · obtain ⟨v, b, rfl, hd, hok, hl, q⟩ := h
      refine ⟨_, (pss_cons (ps_set (i := 1) sc_l_blocks.nd rfl (.inl rfl) (pe_lst (pa_cons (pv 0) pa_nil)))
    (pss_cons (ps_for PassesOwn.never rfl (pi_tup (pv 0)) (pg_name (i := 2) sc_l_blocks.nd rfl (.inl rfl))
    (pss_cons (ps_if (pt_cmpR op_eq (pe_ix ix_tup (pv 2) pe_int (fun _ _ => rfl)) pe_str (nomark _))
    (pss_one (ps_set (i := 1) sc_l_blocks.nd rfl (.inl rfl) (pe_op op_cat (pe_op op_cat (pv 1) (pe_call G_l_blocks (hr.mono (by omega)) (by rfl) D_l_blocks.g D_l_blocks.F.kp D_l_blocks.b .nil pass0 (pa_cons (pe_ix ix_tup (pv 2) pe_int (fun _ _ => rfl)) pa_nil))) (pe_call G_l_blocks (hr.mono (by omega)) (by rfl) D_l_blocks.g D_l_blocks.F.kp D_l_blocks.b .nil pass0 (pa_cons (pe_ix ix_tup (pv 2) pe_int (fun _ _ => rfl)) pa_nil)))))
    pss_nil)
    (pss_one (ps_if (pt_cmpR op_eq (pe_ix ix_tup (pv 2) pe_int (fun _ _ => rfl)) pe_str (nomark _))
    (pss_one (ps_set (i := 1) sc_l_blocks.nd rfl (.inl rfl) (pe_op op_cat (pv 1) (pe_call G_l_blocks (hr.mono (by omega)) (by rfl) D_l_blocks.g D_l_blocks.F.kp D_l_blocks.b .nil pass0 (pa_cons (pe_ix ix_tup (pv 2) pe_int (fun _ _ => rfl)) pa_nil)))))
    pss_nil))))
    (pss_one (ps_ret (pv 1))))), ?_⟩
      obtain ⟨t0, us, rfl, ht0, ha0⟩ := dp_tup_inv hd
      refine ⟨_, rfl, by show 1 ≤ sizeLine; decide, fun F0 nF0 => ?_⟩
      generalize hG : upd H F0 _ = G
      obtain ⟨s1, e1⟩ := new_of nF0 hG
      have hul : us.length = b.length := by rw [dpa_len ha0, List.length_map]
      have hbl := blks_len (n + 1) b
      refine ⟨_, rfl, t0, rfl, ⟨_, sqt_same s1 ht0⟩, ?_⟩
      refine for_tup (K := K) (a := t0) (xs := us) (fun i σ J => Same H J ∧ ∃ (F : Addr) (y2 : Option V) (xs : List V), σ = [some (.ref t0), some (.ref F), y2] ∧ H F = none ∧ J F = some (.lst xs) ∧ DpAll K J xs (((⟨n + 1, b⟩ : Bk) :: ((b.take i).map (subB n)).flatten).map Bk.enc)) ⟨s1, F0, _, _, rfl, nF0, e1, .cons (hd.same s1) .nil⟩ (fun i σ J _ hP => sqt_same hP.1 ht0) (fun i x σ J hx hP => ?_) (fun σ J hP => ?_)
      · obtain ⟨sJ, F, y2, xs, rfl, nF, eF, dF⟩ := hP
        have hi : i < b.length := by
          rw [← hul]
          exact (List.getElem?_eq_some_iff.mp hx).1
        obtain ⟨v', g1, dv⟩ := dp_mem ha0 hi
        rw [hx] at g1
        cases g1
        have hok1 := hok _ (List.getElem_mem hi)
        have htk : ((b.take (i + 1)).map (subB n)).flatten = ((b.take i).map (subB n)).flatten ++ subB n b[i] := by
          rw [List.take_succ_eq_append_getElem hi, List.map_append, List.flatten_append]
          show _ ++ (subB n b[i] ++ []) = _
          rw [List.append_nil]
        have hxl : xs.length + (subB n b[i]).length ≤ 2000 := by
          have e : ((b.map (subB n)).flatten) = ((b.take (i + 1)).map (subB n)).flatten ++ ((b.drop (i + 1)).map (subB n)).flatten := by
            rw [← List.flatten_append, ← List.map_append, List.take_append_drop]
          rw [blks_succ, e, htk, List.length_cons, List.length_append, List.length_append] at hbl
          rw [dpa_len dF, List.length_map, List.length_cons]
          omega
        have hfl := flatD_le (m := n + 1) (List.getElem_mem hi)
        generalize b[i] = st at dv hok1 htk hxl hfl
        obtain ⟨st, rfl⟩ : ∃ s' : Sf (BD n), s' = st := ⟨st, rfl⟩
        obtain ⟨t, ws, rfl, ht, ha⟩ := sf_inv (B := BD n) (s := st) dv
        have htJ := sqt_same sJ ht
        have hok1 : Sf.ok (okD n) st := hok1
        have hsl : ∀ b', b' ∈ st.subs → (flatB n b').length ≤ 900 := fun b' hb' => by
          have h1 := flatN_le hb'
          rw [show flatD (n + 1) st = ⟨n, st⟩ :: ((Sf.subs (B := BD n) st).map (flatB n)).flatten from flatD_succ n st, List.length_cons] at hfl
          omega
        have hsok := ok_subs (n := n) (s := st) hok1
        refine ⟨_, rfl, t, _, _, _, rfl, rfl, htJ, atI_nat (j := 0) rfl, rfl, _, rfl, ?_⟩
        rw [str_dec]
        rcases kind_if hok1 with ⟨r, c, a, b', rfl⟩ | ⟨h1, h2⟩
        · obtain ⟨v1, v2, v3, v4, rfl, d1, d2, d3, d4⟩ := dpa4 ha
          have ma : a ∈ (Sf.iff r c a b').subs := List.mem_cons_self
          have mb : b' ∈ (Sf.iff r c a b').subs := List.mem_cons_of_mem _ List.mem_cons_self
          have e9 : subB n (Sf.iff r c a b') = blks n a ++ blks n b' := by
            show blks n a ++ (blks n b' ++ []) = _
            rw [List.append_nil]
          rw [e9, List.length_append] at hxl
          refine iteT ⟨_, rfl, _, rfl, t, _, _, _, rfl, rfl, htJ, atI_nat (j := 3) rfl, v3, a, rfl, d3.same sJ, hsok a ma, hsl a ma, fun F1 u1 J1 s1 nF1 eF1 g1 => ?_⟩
          have l1 : u1.length = (blks n a).length := by rw [dpa_len g1, List.length_map]
          have sJ1 := sJ.trans s1
          refine ⟨F, F1, _, _, rfl, rfl, s1 _ _ eF, eF1, sz5 (by omega), fun F2 nF2 => ?_⟩
          generalize hG2 : upd J1 F2 _ = J2
          obtain ⟨s2, eF2⟩ := new_of nF2 hG2
          have sJ2 := sJ1.trans s2
          refine ⟨_, rfl, t, _, _, _, rfl, rfl, sqt_same sJ2 ht, atI_nat (j := 4) rfl, v4, b', rfl, d4.same sJ2, hsok b' mb, hsl b' mb, fun F3 u3 J3 s3 nF3 eF3 g3 => ?_⟩
          have l3 : u3.length = (blks n b').length := by rw [dpa_len g3, List.length_map]
          refine ⟨F2, F3, _, _, rfl, rfl, s3 _ _ eF2, eF3, sz5 (by rw [List.length_append]; omega), fun F4 nF4 => ?_⟩
          have sJ3 := sJ2.trans s3
          generalize hG4 : upd J3 F4 _ = J4
          obtain ⟨s4, eF4⟩ := new_of nF4 hG4
          refine ⟨_, rfl, t, _, _, _, rfl, rfl, sqt_same (sJ3.trans s4) ht, atI_nat (j := 0) rfl, rfl, _, rfl, ?_⟩
          rw [str_dec, decide_eq_false (by show ¬ ("if" : PySem.Str) = "while"; decide +kernel)]
          refine iteF ⟨sJ3.trans s4, F4, _, _, rfl, sJ3.free nF4, eF4, ?_⟩
          rw [htk, e9, ← List.append_assoc, ← List.cons_append, ← List.cons_append, List.map_append, List.map_append]
          exact dpa_app (dpa_app (dpa_same ((s1.trans s2).trans (s3.trans s4)) _ _ dF) (dpa_same ((s2.trans s3).trans s4) _ _ g1)) (dpa_same s4 _ _ g3)
        · rw [decide_eq_false h1]
          refine iteF ⟨_, rfl, t, _, _, _, rfl, rfl, htJ, atI_nat (j := 0) rfl, rfl, _, rfl, ?_⟩
          rw [str_dec]
          rcases h2 with ⟨r, c, ks, f, b', rfl⟩ | ⟨h2, h3⟩
          · obtain ⟨v1, v2, v3, v4, v5, rfl, d1, d2, d3, d4, d5⟩ := dpa5 ha
            have mb : b' ∈ (Sf.whl r c ks f b').subs := List.mem_cons_self
            have e9 : subB n (Sf.whl r c ks f b') = blks n b' := by
              show blks n b' ++ [] = _
              rw [List.append_nil]
            rw [e9] at hxl
            refine iteT ⟨_, rfl, _, rfl, t, _, _, _, rfl, rfl, htJ, atI_nat (j := 5) rfl, v5, b', rfl, d5.same sJ, hsok b' mb, hsl b' mb, fun F1 u1 J1 s1 nF1 eF1 g1 => ?_⟩
            have l1 : u1.length = (blks n b').length := by rw [dpa_len g1, List.length_map]
            have sJ1 := sJ.trans s1
            refine ⟨F, F1, _, _, rfl, rfl, s1 _ _ eF, eF1, sz5 (by omega), fun F2 nF2 => ?_⟩
            generalize hG2 : upd J1 F2 _ = J2
            obtain ⟨s2, eF2⟩ := new_of nF2 hG2
            refine ⟨sJ1.trans s2, F2, _, _, rfl, sJ1.free nF2, eF2, ?_⟩
            rw [htk, e9, ← List.cons_append, List.map_append]
            exact dpa_app (dpa_same (s1.trans s2) _ _ dF) (dpa_same s2 _ _ g1)
          · rw [decide_eq_false h2]
            refine iteF ⟨sJ, F, _, xs, rfl, nF, eF, ?_⟩
            have e9 : subB n st = [] := by
              unfold subB
              rw [h3]
              rfl
            rw [htk, e9, List.append_nil]
            exact dF
      · obtain ⟨sJ, F, y2, xs, rfl, nF, eF, dF⟩ := hP
        rw [List.take_of_length_le (by omega)] at dF
        exact ⟨_, rfl, q F xs J sJ nF eF dF⟩
end
end SW

namespace SW
open PySem PySem.Spec PyProof.Rows L2
/-! ### tuple * 0, tuple * 1; list.remove of a text; list[::-1] -/
theorem tuple_mul0 (l : Addr) (items : Array Value) (n : Nat) (dd : Option Addr) (sl : Array (Option Value)) (u : Tok) (hne : items.isEmpty = false) :
    Meets (Builtin.«tuple.__mul__» ⟨[.ref l, .int 0 u], []⟩) (fun _ R s => s.heap.get? l = some { cls := .type "tuple", dict := dd, data := .seq items n, slots := sl } ∧
      R (.ok (.ret (Value.ref s.heap.objs.size))) { s with heap := s.heap.push { cls := Value.type "tuple", data := Data.seq #[] }, toks := s.toks }) :=
  .of_wp fun prog w A R s h => by
    obtain ⟨hp, g, d, tk, os⟩ := s
    obtain ⟨hl, h⟩ := h
    have f1 := AutoSeq1.idx_int
    have c0 : (decide ((0 : Int) < -(2 ^ 63)) || decide ((0 : Int) ≥ 2 ^ 63)) = false := by decide
    have c1 : (items.isEmpty || (0 : Int) == 1) = false := by
      rw [hne]
      rfl
    wp_walk using wpAny_loadPart' hl
    repeat (first
      | (refine wpAny_ite_false (decide_eq_false (by rw [c0]; exact Bool.false_ne_true)) ?_; wp_walk using wpAny_loadPart' hl)
      | (refine wpAny_ite_false (decide_eq_false (by rw [c1]; exact Bool.false_ne_true)) ?_; wp_walk using wpAny_loadPart' hl)
      | (refine wpAny_ite_true (decide_eq_true (by rfl)) ?_; wp_walk using wpAny_loadPart' hl))
    exact ⟨_, rfl, h⟩
theorem tuple_mul1 (l : Addr) (items : Array Value) (n : Nat) (dd : Option Addr) (sl : Array (Option Value)) (u : Tok) (hne : items.isEmpty = false) :
    Meets (Builtin.«tuple.__mul__» ⟨[.ref l, .int 1 u], []⟩) (fun _ R s => s.heap.get? l = some { cls := .type "tuple", dict := dd, data := .seq items n, slots := sl } ∧
      R (.ok (.ret (Value.ref l))) s) :=
  .of_wp fun prog w A R s h => by
    obtain ⟨hp, g, d, tk, os⟩ := s
    obtain ⟨hl, h⟩ := h
    have f1 := AutoSeq1.idx_int
    have c0 : (decide ((1 : Int) < -(2 ^ 63)) || decide ((1 : Int) ≥ 2 ^ 63)) = false := by decide
    have c1 : (items.isEmpty || (1 : Int) == 1) = true := by
      rw [hne]
      rfl
    wp_walk using wpAny_loadPart' hl
    repeat (first
      | (refine wpAny_ite_false (decide_eq_false (by rw [c0]; exact Bool.false_ne_true)) ?_; wp_walk using wpAny_loadPart' hl)
      | (refine wpAny_ite_true (decide_eq_true (by rw [c1])) ?_; wp_walk using wpAny_loadPart' hl))
    exact ⟨_, rfl, h⟩
def rRep01 (K : PySem.W.Frag) : R2 := fun x y H Q => ∃ (l : Addr) (k : Int) (xs : List V), x = .ref l ∧ y = .int k ∧ SqT K H l xs ∧ xs ≠ [] ∧ (k = 0 ∨ k = 1) ∧ ∀ (p : Addr) (ys : List V) (H' : Hp), Same H H' → SqT K H' p ys → (ys = [] ∨ ys = xs) → Q (.ref p) H'
section
variable {X : Cx}
theorem op_rep01 : OpR X (binaryOp .Mult) (rRep01 X.K) := by
  intro pins s σ H x y v u Q I rx ry h
  obtain ⟨l, k, xs, rfl, rfl, hT, hne, hk, q⟩ := h
  cases rx
  obtain ⟨t, rfl⟩ := ry
  obtain ⟨its, r, ⟨⟨cls, dd, data, sl⟩, ho, hc, n, hd⟩, hs⟩ := I.tuple hT
  simp only at hc hd
  subst hc hd
  have hn : its ≠ [] := fun e => hne (by
    have hle : its.length = xs.length := r.length.symm
    rw [e] at hle
    exact List.eq_nil_of_length_eq_zero hle.symm)
  have hi : its.toArray.isEmpty = false := by
    cases its with
    | nil => exact absurd rfl hn
    | cons a b => rfl
  rcases hk with rfl | rfl
  · refine wpAny_binaryOp_repeat_ref (T := "tuple") (U := "int") (by decide) ⟨_, ho, rfl⟩ (fun s' => typeIs_int s' 0 t) noFill_tuple_mul F.fills_int_mul F.slot_int_rmul repeat_tuple F.slot_int_index.lookup
      (call_meets F.slot_int_rmul (typeIs_int s 0 t) F.entry_int_rmul (F.args_int_rmul_2 _ _) (int_rmul_tuple 0 t l its.toArray n dd sl)
        ⟨ho, rfl, ⟨_, ho, rfl⟩, call_meets F.slot_tuple_mul ⟨_, ho, rfl⟩ F.entry_tuple_mul (F.args_tuple_mul_2 _ _) (tuple_mul0 l its.toArray n dd sl t hi) ⟨ho, ?_⟩⟩)
    refine ⟨.ref s.heap.objs.size, _, I.laid (t' := s.toks) (o := .tup []) (fun b ob q => Heap.get?_push_of_some _ q) (Nat.le_refl _) ?_, rfl, q _ [] _ (same_new (I.hok.fresh (Nat.le_refl _))) (SqT.of upd_same) (.inl rfl)⟩
    exact ⟨Nat.zero_le _, [], .nil, IsTup.new _ _⟩
  · refine wpAny_binaryOp_repeat_ref (T := "tuple") (U := "int") (by decide) ⟨_, ho, rfl⟩ (fun s' => typeIs_int s' 1 t) noFill_tuple_mul F.fills_int_mul F.slot_int_rmul repeat_tuple F.slot_int_index.lookup
      (call_meets F.slot_int_rmul (typeIs_int s 1 t) F.entry_int_rmul (F.args_int_rmul_2 _ _) (int_rmul_tuple 1 t l its.toArray n dd sl)
        ⟨ho, rfl, ⟨_, ho, rfl⟩, call_meets F.slot_tuple_mul ⟨_, ho, rfl⟩ F.entry_tuple_mul (F.args_tuple_mul_2 _ _) (tuple_mul1 l its.toArray n dd sl t hi) ⟨ho, ?_⟩⟩)
    exact ⟨.ref l, H, I, rfl, q _ xs _ (Same.refl _) hT (.inr rfl)⟩
theorem erase_map {α β : Type} (f : α → β) : ∀ (l : List α) (j : Nat), (l.map f).eraseIdx j = (l.eraseIdx j).map f
  | [], j => by simp
  | a :: r, 0 => by simp
  | a :: r, j + 1 => by
    have ih := erase_map f r j
    simp [ih]
theorem first_at {ws : List PySem.Str} {k : PySem.Str} (h : k ∈ ws) : ∃ j : Nat, ws[j]? = some k ∧ ∀ m : Nat, m < j → ws[m]? ≠ some k := by
  induction ws with
  | nil => exact (List.not_mem_nil h).elim
  | cons a r ih =>
    by_cases e : a = k
    · exact ⟨0, by rw [e]; rfl, fun m hm => absurd hm (Nat.not_lt_zero _)⟩
    · obtain ⟨j, h1, h2⟩ := ih ((List.mem_cons.mp h).resolve_left fun h => e h.symm)
      refine ⟨j + 1, h1, fun m hm => ?_⟩
      cases m with
      | zero => exact fun h => e (Option.some.inj h)
      | succ m => exact h2 m (by omega)
theorem strs_get : ∀ {us : List Value} {ws : List PySem.Str}, StrsAre us ws → ∀ (j : Nat) (k : PySem.Str), ws[j]? = some k → ∃ t, us[j]? = some (.str k t)
  | _, _, .nil, j, k, h => by cases h
  | _, _, .cons x t r, 0, k, h => by
    cases h
    exact ⟨t, rfl⟩
  | _, _, .cons x t r, j + 1, k, h => strs_get r j k h
def rRemS : V → List V → Hp → VK → Prop := fun x xs H Q => ∃ (l : Addr) (ws : List PySem.Str) (k : PySem.Str), x = .ref l ∧ xs = [.str k] ∧ H l = some (.lst (ws.map V.str)) ∧ k ∈ ws ∧ ∀ us : List PySem.Str, (∀ z, z ∈ us → z ∈ ws) → us.length ≤ ws.length → Q .non (upd H l (.lst (us.map V.str)))
theorem mt_removeS : MtM X "list.remove" rRemS := by
  intro pins s σ H x xs v us Q I rx rxs h
  obtain ⟨l, ns, k, rfl, rfl, hH, hm, q⟩ := h
  obtain ⟨j, hj, hno⟩ := first_at hm
  cases rx
  obtain ⟨u, rfl, ru⟩ := rxs.one
  obtain ⟨t, rfl⟩ := ru
  obtain ⟨z, its, n, r, hl, e⟩ := I.lstM hH
  have hi := strs_of_vals r
  rw [List.length_map] at hl z
  have hjn : j < ns.length := (List.getElem?_eq_some_iff.mp hj).1
  have hjl : j < its.toArray.size := by rw [List.size_toArray]; omega
  refine call_meets PySem.F.slot_list_remove ⟨_, e, rfl⟩ PySem.F.entry_list_remove (PySem.F.args_list_remove_2 _ _)
    (MeetsSeq.list_remove l its.toArray n (.str k t) (isStrOf k) (fun y hy => eq_isStrOf k t hi y (by simpa using hy)) j hjl ?_ ?_ (by rw [List.size_toArray]; omega)) ⟨e, ?_⟩
  · obtain ⟨tj, hjt⟩ := strs_get hi j k hj
    obtain ⟨h1, h2⟩ := List.getElem?_eq_some_iff.mp hjt
    have e1 : its.toArray[j] = .str k tj := by simpa using h2
    rw [e1]
    exact beq_self_eq_true k
  · intro m hm hmj
    have hmn : m < ns.length := by omega
    obtain ⟨tm, hmt⟩ := strs_get hi m _ (List.getElem?_eq_getElem hmn)
    obtain ⟨h1, h2⟩ := List.getElem?_eq_some_iff.mp hmt
    have e1 : its.toArray[m] = .str ns[m] tm := by simpa using h2
    rw [e1]
    refine beq_eq_false_iff_ne.mpr fun e2 => hno m hmj ?_
    rw [List.getElem?_eq_getElem hmn, e2]
  · have rr := r.eraseIdx j
    rw [erase_map] at rr
    have hlen : (ns.eraseIdx j).length ≤ ns.length := List.length_eraseIdx_le ns j
    refine ⟨.non, _, I.lset (its' := its.eraseIdx j) (t' := s.toks) hH e ?_ rr ?_, rfl, q _ (fun z hz => List.mem_of_mem_eraseIdx hz) hlen⟩
    · show its.toArray.eraseIdxIfInBounds j = (its.eraseIdx j).toArray
      rw [List.eraseIdxIfInBounds_toArray]
    · rw [List.length_map]
      omega
def tRev (K : PySem.W.Frag) (te : TE) (ts : TO) : TE := fun σ H Q => te σ H fun x H1 => ts σ H1 fun st H2 => ∃ (a : Addr) (xs : List V), x = .ref a ∧ st = some (-1) ∧ SqL K H2 a xs ∧ ∀ p, H2 p = none → Q (.ref p) (upd H2 p (.lst xs.reverse))
theorem pe_rev {e st : Expr} {te : TE} {ts : TO} {pos p2 : Pos} (he : PE X e te) (hs : PO X (some st) ts) : PE X (.Subscript e (.Slice none none (some st) p2) pos) (tRev X.K te ts) := by
  refine ⟨fun pins s σ H Q I h => ?_⟩
  refine Subscript_ (thn (he.run pins s σ H _ I h) fun v s1 ⟨x, H1, I1, r1, q1⟩ => ?_)
  refine wpAny_Slice ?_
  rw [evalPart_none]
  refine wpAny_pure ?_
  refine wpAny_pure ?_
  refine thn (hs.run pins s1 σ H1 _ I1 q1) fun vs s3 ⟨u, H3, I3, ps, q3⟩ => ?_
  obtain ⟨a, xs, rfl, rfl, hx, q⟩ := q3
  cases r1
  have I4 : Inv X pins σ H3 { s3 with heap := s3.heap.push { cls := .type "slice", data := .fields #[.none, .none, vs] } } := I3.kept (t' := s3.toks) fun b ob q => Heap.get?_push_of_some _ q
  obtain ⟨its, r, ht, hz⟩ := I4.list hx
  show wpAny (model X.prog X.w) X.A (subscriptTail e (.Slice none none (some st) p2) (.ref a) (.ref s3.heap.objs.size)) (EP X pins σ Q) X.xe { s3 with heap := s3.heap.push { cls := .type "slice", data := .fields #[.none, .none, vs] } }
  refine tail_any (ops := [.ref a, .ref s3.heap.objs.size]) ht.isList.typeIs slot_list_getitem.lookup ?_ (by with_unfolding_all rfl)
  refine wpAny_getItem_list_slice ht.isList (Heap.IsSliceOf.new ..) .none .none ps (by decide) ?_ (by rw [List.size_toArray]; have := r.length; omega)
  rw [PySem.W.krv_pick]
  refine ⟨.ref _, _, I4.laid (t' := s3.toks) (o := .lst xs.reverse) (fun b ob q => Heap.get?_push_of_some _ q) (Nat.le_refl _) ?_, rfl, q _ (I4.hok.fresh (Nat.le_refl _))⟩
  exact ⟨by rw [List.length_reverse]; exact hz, _, 0, r.reverse, Heap.get?_push_size _ rfl⟩
end
end SW

namespace SW
open PySem PySem.Spec PyProof.Rows L2
abbrev s_l_gen_plain : Stmt := topS 19
theorem sc_l_gen_plain : FnScope ["hand", "ctx", "lists", "numbers", "kind"] ["hand", "ctx"] (defScope s_l_gen_plain) := ⟨rfl, rfl, rfl, by decide +kernel, rfl, by decide +kernel, by decide +kernel⟩

abbrev s_l_gen_index : Stmt := topS 20
theorem sc_l_gen_index : FnScope ["hand", "ctx", "name", "kind"] ["hand", "ctx", "name"] (defScope s_l_gen_index) := ⟨rfl, rfl, rfl, by decide +kernel, rfl, by decide +kernel, by decide +kernel⟩

abbrev s_l_gen_term : Stmt := topS 21
theorem sc_l_gen_term : FnScope ["hand", "ctx", "name", "index"] ["hand", "ctx"] (defScope s_l_gen_term) := ⟨rfl, rfl, rfl, by decide +kernel, rfl, by decide +kernel, by decide +kernel⟩

abbrev s_l_gen_cmp : Stmt := topS 22
theorem sc_l_gen_cmp : FnScope ["hand", "ctx", "sign"] ["hand", "ctx"] (defScope s_l_gen_cmp) := ⟨rfl, rfl, rfl, by decide +kernel, rfl, by decide +kernel, by decide +kernel⟩

/-! ### what is only carried along -/
def Op (K : PySem.W.Frag) (H : Hp) (v : V) : Prop := ∃ d : PyData, Dp K H v d ∧ noL d = true
def Ops (K : PySem.W.Frag) (H : Hp) (xs : List V) : Prop := ∃ ds : List PyData, DpAll K H xs ds ∧ noLs ds = true
theorem Op.int {K : PySem.W.Frag} {H : Hp} (i : Int) : Op K H (.int i) := ⟨_, .int i, rfl⟩
theorem Op.str {K : PySem.W.Frag} {H : Hp} (i : PySem.Str) : Op K H (.str i) := ⟨_, .str i, rfl⟩
theorem Op.bl {K : PySem.W.Frag} {H : Hp} (i : Bool) : Op K H (.bl i) := ⟨_, .bl i, rfl⟩
theorem Op.non {K : PySem.W.Frag} {H : Hp} : Op K H .non := ⟨_, .non, rfl⟩
theorem Ops.nil {K : PySem.W.Frag} {H : Hp} : Ops K H [] := ⟨_, .nil, rfl⟩
theorem Ops.cons {K : PySem.W.Frag} {H : Hp} {v : V} {xs : List V} (a : Op K H v) (b : Ops K H xs) : Ops K H (v :: xs) := by
  obtain ⟨d, h1, h2⟩ := a
  obtain ⟨ds, h3, h4⟩ := b
  refine ⟨d :: ds, .cons h1 h3, ?_⟩
  unfold noLs
  rw [h2, h4]
  rfl
theorem Op.tup {K : PySem.W.Frag} {H : Hp} {t : Addr} {xs : List V} (h : H t = some (.tup xs)) (o : Ops K H xs) : Op K H (.ref t) := by
  obtain ⟨ds, h3, h4⟩ := o
  exact ⟨.tuple ds, .tup (SqT.of h) h3, by unfold noL; exact h4⟩
theorem Op.sqt {K : PySem.W.Frag} {H : Hp} {t : Addr} {xs : List V} (h : SqT K H t xs) (o : Ops K H xs) : Op K H (.ref t) := by
  obtain ⟨ds, h3, h4⟩ := o
  exact ⟨.tuple ds, .tup h h3, by unfold noL; exact h4⟩
theorem Op.same {K : PySem.W.Frag} {H H' : Hp} {v : V} (a : Op K H v) (s : Same H H') : Op K H' v := by
  obtain ⟨d, h1, h2⟩ := a
  exact ⟨d, h1.same s, h2⟩
theorem Op.but {K : PySem.W.Frag} {H H' : Hp} {v : V} {h : Addr} {ys : List V} (a : Op K H v) (hl : H h = some (.lst ys)) (s : But h H H') : Op K H' v := by
  obtain ⟨d, h1, h2⟩ := a
  exact ⟨d, dp_but hl s d v h2 h1, h2⟩
theorem Op.hand {K : PySem.W.Frag} {H H' : Hp} {v : V} {h d : Addr} {ds : List Int} (a : Op K H v) (hl : Hand H h d ds) (s : But h H H') : Op K H' v := by
  obtain ⟨⟨i, e⟩, _, _⟩ := hl
  exact a.but e s
/-- .. a tuple whose first is a word, but not "list" -/
def Opl (K : PySem.W.Frag) (H : Hp) (v : V) : Prop := ∃ (z : PySem.Str) (ds : List PyData), Dp K H v (.tuple (.str z :: ds)) ∧ noLs ds = true ∧ z ≠ "list"
theorem Opl.op {K : PySem.W.Frag} {H : Hp} {v : V} (a : Opl K H v) : Op K H v := by
  obtain ⟨z, ds, h1, h2, _⟩ := a
  refine ⟨_, h1, ?_⟩
  show (true && noLs ds) = true
  rw [h2]
  rfl
theorem Opl.same {K : PySem.W.Frag} {H H' : Hp} {v : V} (a : Opl K H v) (s : Same H H') : Opl K H' v := by
  obtain ⟨z, ds, h1, h2, h3⟩ := a
  exact ⟨z, ds, h1.same s, h2, h3⟩
theorem Opl.tup {K : PySem.W.Frag} {H : Hp} {t : Addr} {z : PySem.Str} {xs : List V} (h : H t = some (.tup (.str z :: xs))) (hz : z ≠ "list") (o : Ops K H xs) : Opl K H (.ref t) := by
  obtain ⟨ds, h3, h4⟩ := o
  exact ⟨z, ds, .tup (SqT.of h) (.cons (.str z) h3), h4, hz⟩
/-! ### what a block is made of -/
structure Ca where
  c : Addr
  L : Addr
  N : Addr
  Kd : Addr
  Cn : Addr
  Mv : Addr
  R : Addr
structure Kn where
  nm : PySem.Str
  ps : List (PySem.Str × Bool)
  mv : List PySem.Str
def Kn.enc (k : Kn) : PyData := .tuple [.str k.nm, psE k.ps, .tuple (k.mv.map .str)]
theorem psE_noL (ps : List (PySem.Str × Bool)) : noL (psE ps) = true := by
  unfold psE noL
  exact noLs_mapof fun a _ => rfl
theorem strs_noL (ws : List PySem.Str) : noL (.tuple (ws.map .str)) = true := by
  unfold noL
  exact noLs_mapof fun a _ => rfl
theorem Kn.noL (k : Kn) : noL k.enc = true := by
  show (noLs [.str k.nm, psE k.ps, .tuple (k.mv.map .str)]) = true
  show (true && (SW.noL (psE k.ps) && (SW.noL (.tuple (k.mv.map .str)) && true))) = true
  rw [psE_noL, strs_noL]
  rfl
structure Cd where
  ls : List PySem.Str
  ns : List PySem.Str
  kn : List Kn
  c5 : PySem.Str
  c6 : PySem.Str
  mv : List PySem.Str
  b : Bool
structure CtxAt (K : PySem.W.Frag) (H : Hp) (a : Ca) (x : Cd) (r : Int) : Prop where
  c : H a.c = some (.lst [.ref a.L, .ref a.N, .ref a.Kd, .ref a.Cn, .ref a.Mv, .ref a.R, .bl x.b])
  l : H a.L = some (.lst (x.ls.map V.str))
  n : H a.N = some (.lst (x.ns.map V.str))
  k : ∃ xs, H a.Kd = some (.lst xs) ∧ DpAll K H xs (x.kn.map Kn.enc)
  cn : H a.Cn = some (.lst [.str x.c5, .str x.c6])
  m : H a.Mv = some (.lst (x.mv.map V.str))
  r : H a.R = some (.lst [.int r])
  zl : x.ls.length ≤ 10
  zn : x.ns.length ≤ 10
  zk : x.kn.length ≤ 10
  zm : x.mv.length ≤ 10
theorem CtxAt.same {K : PySem.W.Frag} {H H' : Hp} {a : Ca} {x : Cd} {r : Int} (q : CtxAt K H a x r) (s : Same H H') : CtxAt K H' a x r := by
  obtain ⟨c, l, n, ⟨xs, k1, k2⟩, cn, m, r, zl, zn, zk, zm⟩ := q
  exact ⟨s _ _ c, s _ _ l, s _ _ n, ⟨xs, s _ _ k1, dpa_same s _ _ k2⟩, s _ _ cn, s _ _ m, s _ _ r, zl, zn, zk, zm⟩
theorem strs_ne {d : Addr} {v : V} {r : List V} : ∀ {ws : List PySem.Str}, ws.map V.str ≠ .ref d :: v :: r
  | [], h => by cases h
  | a :: r, h => by cases h
theorem CtxAt.hand_ne {K : PySem.W.Frag} {H : Hp} {a : Ca} {x : Cd} {r : Int} (q : CtxAt K H a x r) {h d : Addr} {ds : List Int} (hd : Hand H h d ds) : ∀ b, b ∈ ([a.c, a.L, a.N, a.Kd, a.Cn, a.Mv, a.R] : List Addr) → b ≠ h := by
  obtain ⟨c, l, n, ⟨xs, k1, k2⟩, cn, m, r, zl, zn, zk, zm⟩ := q
  obtain ⟨⟨i, e⟩, _, _⟩ := hd
  have ns : ∀ {b : Addr} {ws : List PySem.Str}, H b = some (.lst (ws.map V.str)) → b ≠ h := fun e1 e2 => by
    rw [e2, e] at e1
    exact strs_ne (HO.lst.inj (Option.some.inj e1)).symm
  intro b hb
  simp only [List.mem_cons, List.not_mem_nil, or_false] at hb
  rcases hb with rfl | rfl | rfl | rfl | rfl | rfl | rfl
  · intro e2
    rw [e2, e] at c
    cases c
  · exact ns l
  · exact ns n
  · intro e2
    rw [e2, e] at k1
    cases k1
    cases hk : x.kn with
    | nil =>
      rw [hk] at k2
      cases k2
    | cons k r =>
      rw [hk] at k2
      cases k2 with
      | cons k3 k4 =>
        cases r with
        | nil => cases k4
        | cons k r =>
          cases k4 with
          | cons k5 k6 => cases k5
  · intro e2
    rw [e2, e] at cn
    cases cn
  · exact ns m
  · intro e2
    rw [e2, e] at r
    cases r
theorem kns_noL (l : List Kn) : noLs (l.map Kn.enc) = true := noLs_mapof fun k _ => k.noL
theorem CtxAt.but {K : PySem.W.Frag} {H H' : Hp} {a : Ca} {x : Cd} {r : Int} (q : CtxAt K H a x r) {h d : Addr} {ds : List Int} (hd : Hand H h d ds) (s : But h H H') : CtxAt K H' a x r := by
  have ne := q.hand_ne hd
  obtain ⟨c, l, n, ⟨xs, k1, k2⟩, cn, m, r, zl, zn, zk, zm⟩ := q
  obtain ⟨⟨i, e⟩, _, _⟩ := hd
  exact ⟨s _ _ (ne _ (by simp)) c, s _ _ (ne _ (by simp)) l, s _ _ (ne _ (by simp)) n, ⟨xs, s _ _ (ne _ (by simp)) k1, dpa_but e s _ _ (kns_noL _) k2⟩, s _ _ (ne _ (by simp)) cn, s _ _ (ne _ (by simp)) m, s _ _ (ne _ (by simp)) r, zl, zn, zk, zm⟩
structure St8 (K : PySem.W.Frag) (H : Hp) (h d : Addr) (ds : List Int) (a : Ca) (x : Cd) (r : Int) : Prop where
  hd : Hand H h d ds
  cx : CtxAt K H a x r
theorem St8.same {K : PySem.W.Frag} {H H' : Hp} {h d : Addr} {ds : List Int} {a : Ca} {x : Cd} {r : Int} (q : St8 K H h d ds a x r) (s : Same H H') : St8 K H' h d ds a x r := ⟨q.hd.same s, q.cx.same s⟩
theorem St8.but {K : PySem.W.Frag} {H H' : Hp} {h d : Addr} {ds : List Int} {a : Ca} {x : Cd} {r : Int} (q : St8 K H h d ds a x r) (s : But h H H') (e : Hand H' h d ds) : St8 K H' h d ds a x r := ⟨e, q.cx.but q.hd s⟩
theorem atI_in {xs : List V} {i : Int} (h0 : 0 ≤ i) (h1 : i < xs.length) : ∃ v, v ∈ xs ∧ atI xs i = some v := by
  have hj : i.toNat < xs.length := by omega
  exact ⟨xs[i.toNat], List.getElem_mem hj, at_nat (j := i.toNat) (by omega) (List.getElem?_eq_getElem hj)⟩
section
variable {P : Program} {w : World} {K : PySem.W.Frag} {mg : PySem.Str → Option Value} {base : Heap}
def spGp (K : PySem.W.Frag) : Sp := fun vs H Q _ => ∃ (h d : Addr) (ds : List Int) (a : Ca) (x : Cd) (r : Int), vs = [.ref h, .ref a.c] ∧ St8 K H h d ds a x r ∧ ∀ (v : V) (H' : Hp), But h H H' → St8 K H' h d ds a x r → Opl K H' v → Q v H'
/-- something is made, and nothing changed but the hand -/
def spG (K : PySem.W.Frag) : Sp := fun vs H Q _ => ∃ (h d : Addr) (ds : List Int) (a : Ca) (x : Cd) (r : Int), vs = [.ref h, .ref a.c] ∧ St8 K H h d ds a x r ∧ ∀ (v : V) (H' : Hp), But h H H' → St8 K H' h d ds a x r → Op K H' v → Q v H'
theorem ok_l_plain (T : TxB mg) (D_l_gen_plain : Df K mg "_law_gen_plain" s_l_gen_plain ["hand", "ctx"]) (D_l_take : Df K mg "_law_take" s_l_take ["hand", "many"]) : FnOk P w K mg base CX0 2 D_l_gen_plain.f D_l_gen_plain.fd ["hand", "ctx"] (spGp K) := by
  have G_l_take := ok_l_take (P := P) (w := w) (K := K) (base := base) T D_l_take
  refine D_l_gen_plain.F.ok sc_l_gen_plain (fun vs H Q E h => ?_) (fun cdv A outer s H vs Q E hr h => ?_)
  · obtain ⟨h, d, ds, a, x, r, rfl, _⟩ := h
    rfl
  · obtain ⟨h, d, ds, a, x, r, rfl, st, q⟩ := h
    refine ⟨_, (pss_cons (ps_par (i := 2) (j := 3) (by rfl) sc_l_gen_plain.nd rfl rfl (by decide) rfl rfl (pa_cons (pe_ix ix_list (pv 1) pe_int (fun _ _ => rfl)) (pa_cons (pe_ix ix_list (pv 1) pe_int (fun _ _ => rfl)) pa_nil)) (by rfl))
    (pss_cons (ps_set (i := 4) sc_l_gen_plain.nd rfl (.inl rfl) (pe_call G_l_take (hr.mono (by decide)) (by rfl) D_l_take.g D_l_take.F.kp D_l_take.b .nil pass0 (pa_cons (pv 0) (pa_cons pe_int pa_nil))))
    (pss_cons (ps_if (PW.pt (pw_or (pt_cmpR op_lt (pv 4) pe_int (nomark _)) (pw_or1 (PW.pt (pw_and (pt_cmpR op_eq (pv 4) pe_int (nomark _)) (pw_and1 (pt_cmpR op_eq (pe_callB call_len_seq (by rfl) T.n_len PySem.boot_len (pa_cons (pv 2) pa_nil)) pe_int (nomark _))))))))
    (pss_one (ps_ret (pe_tup (pa_cons pe_str (pa_cons (pe_ix ix_list (pe_lst (pa_cons (pe_op op_sub (pe_call G_l_take (hr.mono (by decide)) (by rfl) D_l_take.g D_l_take.F.kp D_l_take.b .nil pass0 (pa_cons (pv 0) (pa_cons pe_int pa_nil))) pe_int) (pa_cons (pe_op op_sub (pe_call G_l_take (hr.mono (by decide)) (by rfl) D_l_take.g D_l_take.F.kp D_l_take.b .nil pass0 (pa_cons (pv 0) (pa_cons pe_int pa_nil))) pe_int) pa_nil))) (pe_op op_fdiv (pe_call G_l_take (hr.mono (by decide)) (by rfl) D_l_take.g D_l_take.F.kp D_l_take.b .nil pass0 (pa_cons (pv 0) (pa_cons pe_int pa_nil))) pe_int) (fun _ _ => rfl)) pa_nil)))))
    pss_nil)
    (pss_cons (ps_if (pt_cmpR op_eq (pv 4) pe_int (nomark _))
    (pss_one (ps_ret (pe_tup (pa_cons pe_str (pa_cons (pe_ix ix_list (pv 2) (pe_call G_l_take (hr.mono (by decide)) (by rfl) D_l_take.g D_l_take.F.kp D_l_take.b .nil pass0 (pa_cons (pv 0) (pa_cons (pe_callB call_len_seq (by rfl) T.n_len PySem.boot_len (pa_cons (pv 2) pa_nil)) pa_nil))) (fun _ _ => rfl)) (pa_cons (pe_op op_sub (pe_call G_l_take (hr.mono (by decide)) (by rfl) D_l_take.g D_l_take.F.kp D_l_take.b .nil pass0 (pa_cons (pv 0) (pa_cons pe_int pa_nil))) pe_int) pa_nil))))))
    pss_nil)
    (pss_cons (ps_if (pt_cmpR op_eq (pe_callB call_len_seq (by rfl) T.n_len PySem.boot_len (pa_cons (pv 3) pa_nil)) pe_int (nomark _))
    (pss_one (ps_ret (pe_tup (pa_cons pe_str (pa_cons pe_int pa_nil)))))
    pss_nil)
    (pss_one (ps_ret (pe_tup (pa_cons pe_str (pa_cons (pe_ix ix_list (pv 3) (pe_call G_l_take (hr.mono (by decide)) (by rfl) D_l_take.g D_l_take.F.kp D_l_take.b .nil pass0 (pa_cons (pv 0) (pa_cons (pe_callB call_len_seq (by rfl) T.n_len PySem.boot_len (pa_cons (pv 3) pa_nil)) pa_nil))) (fun _ _ => rfl)) (pa_cons (pe_ix ix_list (pe_lst (pa_cons pe_int (pa_cons pe_int (pa_cons pe_int (pa_cons (pe_un un_neg pe_int) pa_nil))))) (pe_call G_l_take (hr.mono (by decide)) (by rfl) D_l_take.g D_l_take.F.kp D_l_take.b .nil pass0 (pa_cons (pv 0) (pa_cons pe_int pa_nil))) (fun _ _ => rfl)) pa_nil))))))))))), ?_⟩
    refine ⟨_, rfl, a.c, _, _, _, rfl, rfl, SqL.of st.cx.c, atI_nat (j := 0) rfl, _, rfl, a.c, _, _, _, rfl, rfl, SqL.of st.cx.c, atI_nat (j := 1) rfl, _, _, rfl, ?_⟩
    have st1 := st
    have zl := st.cx.zl
    have zn := st.cx.zn
    have fin : ∀ {z : PySem.Str} {ws : List V} {G2 : Hp} {t2 : Addr}, But h H G2 → St8 K G2 h d ds a x r → (∀ G3, Same G2 G3 → Ops K G3 ws) → G2 t2 = none → z ≠ "list" → Q (.ref t2) (upd G2 t2 (.tup (.str z :: ws))) := fun {z ws G2 t2} b s o n hz => by
      generalize hG3 : upd G2 t2 _ = G3
      obtain ⟨s3, e3⟩ := new_of n hG3
      exact q _ _ (b.trans (Same.but s3)) (s.same s3) (.tup e3 hz (o G3 s3))
    refine ⟨_, rfl, h, d, ds, 6, rfl, by decide, st1.hd, fun k H2 _ _ b2 hd2 _ => ?_⟩
    have st2 := st1.but b2 hd2
    have el := st2.cx.l
    have en := st2.cx.n
    refine ⟨_, rfl, _, _, rfl, rfl, _, rfl, ite2 (fun c1 => ?_) (fun c1 => ⟨_, rfl, rfl, _, rfl, ite2 (fun c2 => ⟨_, rfl, a.L, _, rfl, .inl (SqL.of el), rfl, _, rfl, ite2 (fun c3 => ?_) (fun c3 => ?_)⟩) (fun c2 => ?_)⟩)⟩
    · refine iteT ?_
      refine ⟨_, rfl, h, d, ds, 7, rfl, by decide, st2.hd, fun r1 H3 _ _ b3 hd3 _ => ⟨_, _, rfl, rfl, _, rfl, h, d, ds, 199, rfl, by decide, hd3, fun r2 H4 _ _ b4 hd4 _ => ⟨_, _, rfl, rfl, by show 2 ≤ sizeLine; decide, fun t1 n1 => ?_⟩⟩⟩
      generalize hG5 : upd H4 t1 _ = H5
      obtain ⟨s5, e5⟩ := new_of n1 hG5
      refine ⟨_, rfl, h, d, ds, 5, rfl, by decide, hd4.same s5, fun r3 H6 q0 q1 b6 hd6 _ => ?_⟩
      obtain ⟨v, hv, e⟩ := atI_in (xs := [.int (r1 - 2), .int (r2 - 99)]) (i := r3 / 4) (by omega) (by show _ < (2 : Int); omega)
      refine ⟨_, _, rfl, rfl, ⟨by decide, by decide⟩, t1, _, _, _, rfl, rfl, SqL.of (b6 _ _ (hand_ne hd4 n1) e5), e, by show 2 ≤ sizeLine; decide, fun t2 n2 => ?_⟩
      refine fin (b2.trans (b3.trans (b4.trans ((Same.but s5).trans b6)))) ((((st2.but b3 hd3).but b4 hd4).same s5).but b6 hd6) (fun G3 _ => ?_) n2 (by decide +kernel)
      simp only [List.mem_cons, List.not_mem_nil, or_false] at hv
      rcases hv with rfl | rfl <;> exact .cons (.int _) .nil
    · refine ⟨_, rfl, h, d, ds, 7, rfl, by decide, st2.hd, fun r1 H3 _ _ b3 hd3 _ => ⟨_, _, rfl, rfl, _, rfl, h, d, ds, 199, rfl, by decide, hd3, fun r2 H4 _ _ b4 hd4 _ => ⟨_, _, rfl, rfl, by show 2 ≤ sizeLine; decide, fun t1 n1 => ?_⟩⟩⟩
      generalize hG5 : upd H4 t1 _ = H5
      obtain ⟨s5, e5⟩ := new_of n1 hG5
      refine ⟨_, rfl, h, d, ds, 5, rfl, by decide, hd4.same s5, fun r3 H6 q0 q1 b6 hd6 _ => ?_⟩
      obtain ⟨v, hv, e⟩ := atI_in (xs := [.int (r1 - 2), .int (r2 - 99)]) (i := r3 / 4) (by omega) (by show _ < (2 : Int); omega)
      refine ⟨_, _, rfl, rfl, ⟨by decide, by decide⟩, t1, _, _, _, rfl, rfl, SqL.of (b6 _ _ (hand_ne hd4 n1) e5), e, by show 2 ≤ sizeLine; decide, fun t2 n2 => ?_⟩
      refine fin (b2.trans (b3.trans (b4.trans ((Same.but s5).trans b6)))) ((((st2.but b3 hd3).but b4 hd4).same s5).but b6 hd6) (fun G3 _ => ?_) n2 (by decide +kernel)
      simp only [List.mem_cons, List.not_mem_nil, or_false] at hv
      rcases hv with rfl | rfl <;> exact .cons (.int _) .nil
    · refine ⟨_, rfl, rfl, _, rfl, ?_⟩
      rw [c2]
      have hlp : 0 < x.ls.length := by
        refine Nat.pos_of_ne_zero fun e => ?_
        have := of_decide_eq_false (Bool.eq_false_iff.mpr c3)
        rw [List.length_map, e] at this
        exact this rfl
      refine iteT ⟨_, rfl, _, rfl, _, rfl, a.L, _, rfl, .inl (SqL.of el), h, d, ds, _, rfl, by rw [List.length_map]; omega, hd2, fun r1 H3 q0 q1 b3 hd3 _ => ?_⟩
      have st3 := st2.but b3 hd3
      rw [List.length_map] at q1
      obtain ⟨v, hv, e⟩ := atI_in (xs := x.ls.map V.str) (i := r1) q0 (by rw [List.length_map]; exact q1)
      obtain ⟨z, _, rfl⟩ := List.mem_map.mp hv
      refine ⟨a.L, _, _, _, rfl, rfl, SqL.of st3.cx.l, e, _, rfl, h, d, ds, 3, rfl, by decide, hd3, fun r2 H4 _ _ b4 hd4 _ => ⟨_, _, rfl, rfl, by show 3 ≤ sizeLine; decide, fun t2 n2 => ?_⟩⟩
      exact fin (b2.trans (b3.trans b4)) (st3.but b4 hd4) (fun _ _ => .cons (.str _) (.cons (.int _) .nil)) n2 (by decide +kernel)
    · refine iteF ?_
      refine ⟨_, rfl, rfl, _, rfl, ?_⟩
      rw [Bool.eq_false_iff.mpr c2]
      refine iteF ⟨_, rfl, a.N, _, rfl, .inl (SqL.of en), rfl, _, rfl, ite2 (fun c3 => ?_) (fun c3 => ?_)⟩
      · exact ⟨by show 2 ≤ sizeLine; decide, fun t2 n2 => fin b2 st2 (fun _ _ => .cons (.int _) .nil) n2 (by decide +kernel)⟩
      · have hlp : 0 < x.ns.length := by
          refine Nat.pos_of_ne_zero fun e => ?_
          have := of_decide_eq_false (Bool.eq_false_iff.mpr c3)
          rw [List.length_map, e] at this
          exact this rfl
        refine ⟨_, rfl, _, rfl, _, rfl, a.N, _, rfl, .inl (SqL.of en), h, d, ds, _, rfl, by rw [List.length_map]; omega, hd2, fun r1 H3 q0 q1 b3 hd3 _ => ?_⟩
        have st3 := st2.but b3 hd3
        rw [List.length_map] at q1
        obtain ⟨v, hv, e⟩ := atI_in (xs := x.ns.map V.str) (i := r1) q0 (by rw [List.length_map]; exact q1)
        obtain ⟨z, _, rfl⟩ := List.mem_map.mp hv
        refine ⟨a.N, _, _, _, rfl, rfl, SqL.of st3.cx.n, e, ?_⟩
        refine ⟨_, rfl, by show 4 ≤ sizeLine; decide, fun t1 n1 => ?_⟩
        generalize hG5 : upd H3 t1 _ = H5
        obtain ⟨s5, e5⟩ := new_of n1 hG5
        refine ⟨_, rfl, h, d, ds, 4, rfl, by decide, hd3.same s5, fun r3 H6 q0 q1 b6 hd6 _ => ?_⟩
        obtain ⟨v, hv, e⟩ := atI_in (xs := [.int 0, .int 0, .int 1, .int (-1)]) (i := r3) q0 (by show _ < (4 : Int); omega)
        refine ⟨t1, _, _, _, rfl, rfl, SqL.of (b6 _ _ (hand_ne hd3 n1) e5), e, by show 3 ≤ sizeLine; decide, fun t2 n2 => ?_⟩
        refine fin (b2.trans (b3.trans ((Same.but s5).trans b6))) ((st3.same s5).but b6 hd6) (fun G3 _ => ?_) n2 (by decide +kernel)
        simp only [List.mem_cons, List.not_mem_nil, or_false] at hv
        rcases hv with rfl | rfl | rfl | rfl <;> exact .cons (.str _) (.cons (.int _) .nil)
end
end SW

namespace SW
open PySem PySem.Spec PyProof.Rows L2
abbrev s_l_gen_condition : Stmt := topS 23
theorem sc_l_gen_condition : FnScope ["hand", "ctx", "kind", "first", "second", "third", "forms"] ["hand", "ctx"] (defScope s_l_gen_condition) := ⟨rfl, rfl, rfl, by decide +kernel, rfl, by decide +kernel, by decide +kernel⟩

section
variable {P : Program} {w : World} {K : PySem.W.Frag} {mg : PySem.Str → Option Value} {base : Heap}
theorem ne_hand2 {H : Hp} {h d b t1 t2 : Addr} {ds : List Int} (hd : Hand H h d ds) (e : H b = some (.lst [.ref t1, .ref t2])) : b ≠ h := fun q => by
  obtain ⟨⟨i, e2⟩, _, _⟩ := hd
  rw [q, e2] at e
  cases e
theorem ne_hand2s {H : Hp} {h d b : Addr} {v : V} {x : PySem.Str} {ds : List Int} (hd : Hand H h d ds) (e : H b = some (.lst [.str x, v])) : b ≠ h := fun q => by
  obtain ⟨⟨i, e2⟩, _, _⟩ := hd
  rw [q, e2] at e
  cases e
theorem fin_tup {K : PySem.W.Frag} {H : Hp} {h d : Addr} {ds : List Int} {a : Ca} {x : Cd} {r : Int} {Q : V → Hp → Prop} (q : ∀ (v : V) (H' : Hp), But h H H' → St8 K H' h d ds a x r → Op K H' v → Q v H') {ws : List V} {G2 : Hp} {t2 : Addr} (b : But h H G2) (s : St8 K G2 h d ds a x r) (o : ∀ G3, Same G2 G3 → Ops K G3 ws) (n : G2 t2 = none) : Q (.ref t2) (upd G2 t2 (.tup ws)) := by
  generalize hG3 : upd G2 t2 _ = G3
  obtain ⟨s3, e3⟩ := new_of n hG3
  exact q _ _ (b.trans (Same.but s3)) (s.same s3) (.tup e3 (o G3 s3))
def spIx (K : PySem.W.Frag) : Sp := fun vs H Q _ => ∃ (h d : Addr) (ds : List Int) (a : Ca) (x : Cd) (r : Int) (z : PySem.Str), vs = [.ref h, .ref a.c, .str z] ∧ St8 K H h d ds a x r ∧ ∀ (v : V) (H' : Hp), But h H H' → St8 K H' h d ds a x r → Op K H' v → Q v H'
theorem ok_l_index (T : TxB mg) (D_l_gen_index : Df K mg "_law_gen_index" s_l_gen_index ["hand", "ctx", "name"]) (D_l_gen_plain : Df K mg "_law_gen_plain" s_l_gen_plain ["hand", "ctx"]) (D_l_take : Df K mg "_law_take" s_l_take ["hand", "many"]) : FnOk P w K mg base CX0 3 D_l_gen_index.f D_l_gen_index.fd ["hand", "ctx", "name"] (spIx K) := by
  have G_l_take := ok_l_take (P := P) (w := w) (K := K) (base := base) T D_l_take
  have G_l_gen_plain := ok_l_plain (P := P) (w := w) (K := K) (base := base) T D_l_gen_plain D_l_take
  refine D_l_gen_index.F.ok sc_l_gen_index (fun vs H Q E h => ?_) (fun cdv A outer s H vs Q E hr h => ?_)
  · obtain ⟨h, d, ds, a, x, r, z, rfl, _⟩ := h
    rfl
  · obtain ⟨h, d, ds, a, x, r, z, rfl, st, q⟩ := h
    refine ⟨_, (pss_cons (ps_set (i := 3) sc_l_gen_index.nd rfl (.inl rfl) (pe_call G_l_take (hr.mono (by decide)) (by rfl) D_l_take.g D_l_take.F.kp D_l_take.b .nil pass0 (pa_cons (pv 0) (pa_cons pe_int pa_nil))))
    (pss_cons (ps_if (pt_cmpR op_lt (pv 3) pe_int (nomark _))
    (pss_one (ps_ret (pe_tup (pa_cons pe_str (pa_cons (pe_call G_l_take (hr.mono (by decide)) (by rfl) D_l_take.g D_l_take.F.kp D_l_take.b .nil pass0 (pa_cons (pv 0) (pa_cons pe_int pa_nil))) pa_nil)))))
    pss_nil)
    (pss_cons (ps_if (pt_cmpR op_lt (pv 3) pe_int (nomark _))
    (pss_one (ps_ret (pe_tup (pa_cons pe_str (pa_cons (pv 2) (pa_cons (pe_op op_sub (pe_un un_neg pe_int) (pe_call G_l_take (hr.mono (by decide)) (by rfl) D_l_take.g D_l_take.F.kp D_l_take.b .nil pass0 (pa_cons (pv 0) (pa_cons pe_int pa_nil)))) pa_nil))))))
    pss_nil)
    (pss_cons (ps_if (pt_cmpR op_lt (pv 3) pe_int (nomark _))
    (pss_one (ps_ret (pe_tup (pa_cons pe_str (pa_cons (pe_ix ix_list (pe_ix ix_list (pv 1) pe_int (fun _ _ => rfl)) (pe_call G_l_take (hr.mono (by decide)) (by rfl) D_l_take.g D_l_take.F.kp D_l_take.b .nil pass0 (pa_cons (pv 0) (pa_cons pe_int pa_nil))) (fun _ _ => rfl)) (pa_cons pe_int pa_nil))))))
    pss_nil)
    (pss_one (ps_ret (pe_call G_l_gen_plain (hr.mono (by decide)) (by rfl) D_l_gen_plain.g D_l_gen_plain.F.kp D_l_gen_plain.b .nil pass0 (pa_cons (pv 0) (pa_cons (pv 1) pa_nil))))))))), ?_⟩
    refine ⟨_, rfl, h, d, ds, 8, rfl, by decide, st.hd, fun k H2 _ _ b2 hd2 _ => ?_⟩
    have st2 := st.but b2 hd2
    refine ⟨_, rfl, _, _, rfl, rfl, _, rfl, ite2 (fun c1 => ?_) (fun c1 => ⟨_, rfl, _, _, rfl, rfl, _, rfl, ite2 (fun c2 => ?_) (fun c2 => ⟨_, rfl, _, _, rfl, rfl, _, rfl, ite2 (fun c3 => ?_) (fun c3 => ?_)⟩)⟩)⟩
    · exact ⟨_, rfl, h, d, ds, 3, rfl, by decide, hd2, fun r1 H3 _ _ b3 hd3 _ => ⟨by show 2 ≤ sizeLine; decide, fun t2 n2 => fin_tup q (b2.trans b3) (st2.but b3 hd3) (fun _ _ => .cons (.str _) (.cons (.int _) .nil)) n2⟩⟩
    · exact ⟨_, rfl, _, rfl, _, rfl, h, d, ds, 2, rfl, by decide, hd2, fun r1 H3 _ _ b3 hd3 _ => ⟨_, _, rfl, rfl, by show 3 ≤ sizeLine; decide, fun t2 n2 => fin_tup q (b2.trans b3) (st2.but b3 hd3) (fun _ _ => .cons (.str _) (.cons (.str _) (.cons (.int _) .nil))) n2⟩⟩
    · refine ⟨_, rfl, a.c, _, _, _, rfl, rfl, SqL.of st2.cx.c, atI_nat (j := 3) rfl, _, rfl, h, d, ds, 2, rfl, by decide, hd2, fun r1 H3 q0 q1 b3 hd3 _ => ?_⟩
      have st3 := st2.but b3 hd3
      obtain ⟨v, hv, e⟩ := atI_in (xs := [.str x.c5, .str x.c6]) (i := r1) q0 (by show _ < (2 : Int); omega)
      refine ⟨a.Cn, _, _, _, rfl, rfl, SqL.of st3.cx.cn, e, by show 3 ≤ sizeLine; decide, fun t2 n2 => fin_tup q (b2.trans b3) st3 (fun _ _ => ?_) n2⟩
      simp only [List.mem_cons, List.not_mem_nil, or_false] at hv
      rcases hv with rfl | rfl <;> exact .cons (.str _) (.cons (.str _) (.cons (.int _) .nil))
    · exact ⟨_, rfl, _, rfl, h, d, ds, a, x, r, rfl, st2, fun v H3 b3 st3 o => q v H3 (b2.trans b3) st3 o.op⟩
theorem ok_l_term (T : TxB mg) (D_l_gen_term : Df K mg "_law_gen_term" s_l_gen_term ["hand", "ctx"]) (D_l_gen_index : Df K mg "_law_gen_index" s_l_gen_index ["hand", "ctx", "name"]) (D_l_gen_plain : Df K mg "_law_gen_plain" s_l_gen_plain ["hand", "ctx"]) (D_l_take : Df K mg "_law_take" s_l_take ["hand", "many"]) : FnOk P w K mg base CX0 4 D_l_gen_term.f D_l_gen_term.fd ["hand", "ctx"] (spG K) := by
  have G_l_take := ok_l_take (P := P) (w := w) (K := K) (base := base) T D_l_take
  have G_l_gen_plain := ok_l_plain (P := P) (w := w) (K := K) (base := base) T D_l_gen_plain D_l_take
  have G_l_gen_index := ok_l_index (P := P) (w := w) (K := K) (base := base) T D_l_gen_index D_l_gen_plain D_l_take
  refine D_l_gen_term.F.ok sc_l_gen_term (fun vs H Q E h => ?_) (fun cdv A outer s H vs Q E hr h => ?_)
  · obtain ⟨h, d, ds, a, x, r, rfl, _⟩ := h
    rfl
  · obtain ⟨h, d, ds, a, x, r, rfl, st, q⟩ := h
    refine ⟨_, (pss_cons (ps_if (PW.pt (pw_or (pt_cmpR op_eq (pe_callB call_len_seq (by rfl) T.n_len PySem.boot_len (pa_cons (pe_ix ix_list (pv 1) pe_int (fun _ _ => rfl)) pa_nil)) pe_int (nomark _)) (pw_or1 (pt_cmpR op_gt (pe_call G_l_take (hr.mono (by decide)) (by rfl) D_l_take.g D_l_take.F.kp D_l_take.b .nil pass0 (pa_cons (pv 0) (pa_cons pe_int pa_nil))) pe_int (nomark _)))))
    (pss_one (ps_ret (pe_call G_l_gen_plain (hr.mono (by decide)) (by rfl) D_l_gen_plain.g D_l_gen_plain.F.kp D_l_gen_plain.b .nil pass0 (pa_cons (pv 0) (pa_cons (pv 1) pa_nil)))))
    pss_nil)
    (pss_cons (ps_set (i := 2) sc_l_gen_term.nd rfl (.inl rfl) (pe_ix ix_list (pe_ix ix_list (pv 1) pe_int (fun _ _ => rfl)) (pe_call G_l_take (hr.mono (by decide)) (by rfl) D_l_take.g D_l_take.F.kp D_l_take.b .nil pass0 (pa_cons (pv 0) (pa_cons (pe_callB call_len_seq (by rfl) T.n_len PySem.boot_len (pa_cons (pe_ix ix_list (pv 1) pe_int (fun _ _ => rfl)) pa_nil)) pa_nil))) (fun _ _ => rfl)))
    (pss_cons (ps_set (i := 3) sc_l_gen_term.nd rfl (.inl rfl) (pe_tup (pa_cons pe_str (pa_cons (pe_call G_l_take (hr.mono (by decide)) (by rfl) D_l_take.g D_l_take.F.kp D_l_take.b .nil pass0 (pa_cons (pv 0) (pa_cons pe_int pa_nil))) pa_nil))))
    (pss_cons (ps_if (pt_val (pe_ix ix_list (pv 1) pe_int (fun _ _ => rfl)))
    (pss_one (ps_set (i := 3) sc_l_gen_term.nd rfl (.inl rfl) (pe_call G_l_gen_index (hr.mono (by decide)) (by rfl) D_l_gen_index.g D_l_gen_index.F.kp D_l_gen_index.b .nil pass0 (pa_cons (pv 0) (pa_cons (pv 1) (pa_cons (pv 2) pa_nil))))))
    pss_nil)
    (pss_one (ps_ret (pe_tup (pa_cons pe_str (pa_cons (pe_tup (pa_cons (pv 2) (pa_cons pe_bl pa_nil))) (pa_cons (pv 3) (pa_cons (pe_ix ix_list (pe_lst (pa_cons pe_int (pa_cons pe_int (pa_cons pe_int (pa_cons (pe_un un_neg pe_int) pa_nil))))) (pe_call G_l_take (hr.mono (by decide)) (by rfl) D_l_take.g D_l_take.F.kp D_l_take.b .nil pass0 (pa_cons (pv 0) (pa_cons pe_int pa_nil))) (fun _ _ => rfl)) pa_nil))))))))))), ?_⟩
    refine ⟨_, rfl, a.c, _, _, _, rfl, rfl, SqL.of st.cx.c, atI_nat (j := 0) rfl, a.L, _, rfl, .inl (SqL.of st.cx.l), rfl, _, rfl, ite2 (fun c1 => ?_) (fun c1 => ⟨_, rfl, h, d, ds, 3, rfl, by decide, st.hd, fun k H2 _ _ b2 hd2 _ => ⟨_, _, rfl, rfl, _, rfl, ite2 (fun c2 => ?_) (fun c2 => ?_)⟩⟩)⟩
    · refine iteT ?_
      exact ⟨_, rfl, _, rfl, h, d, ds, a, x, r, rfl, st, fun v H3 b3 st3 o => q v H3 b3 st3 o.op⟩
    · exact ⟨_, rfl, _, rfl, h, d, ds, a, x, r, rfl, st.but b2 hd2, fun v H3 b3 st3 o => q v H3 (b2.trans b3) st3 o.op⟩
    · have st2 := st.but b2 hd2
      have hlp : 0 < x.ls.length := by
        refine Nat.pos_of_ne_zero fun e => ?_
        have := of_decide_eq_false (Bool.eq_false_iff.mpr c1)
        rw [List.length_map, e] at this
        exact this rfl
      have zl := st.cx.zl
      refine ⟨_, rfl, a.c, _, _, _, rfl, rfl, SqL.of st2.cx.c, atI_nat (j := 0) rfl, _, rfl, _, rfl, a.c, _, _, _, rfl, rfl, SqL.of st2.cx.c, atI_nat (j := 0) rfl, a.L, _, rfl, .inl (SqL.of st2.cx.l), h, d, ds, _, rfl, by rw [List.length_map]; omega, hd2, fun r1 H3 q0 q1 b3 hd3 _ => ?_⟩
      have st3 := st2.but b3 hd3
      rw [List.length_map] at q1
      obtain ⟨v, hv, e⟩ := atI_in (xs := x.ls.map V.str) (i := r1) q0 (by rw [List.length_map]; exact q1)
      obtain ⟨z, _, rfl⟩ := List.mem_map.mp hv
      refine ⟨a.L, _, _, _, rfl, rfl, SqL.of st3.cx.l, e, ?_⟩
      refine ⟨_, rfl, h, d, ds, 2, rfl, by decide, hd3, fun r2 H4 _ _ b4 hd4 _ => ⟨by show 2 ≤ sizeLine; decide, fun t2 n2 => ?_⟩⟩
      have st4 := st3.but b4 hd4
      generalize hG5 : upd H4 t2 _ = H5
      obtain ⟨s5, e5⟩ := new_of n2 hG5
      have st5 := st4.same s5
      have o5 : Op K H5 (.ref t2) := .tup e5 (.cons (.str _) (.cons (.int _) .nil))
      have b5 : But h H H5 := b2.trans (b3.trans (b4.trans (Same.but s5)))
      refine ⟨_, rfl, a.c, _, _, _, rfl, rfl, SqL.of st5.cx.c, atI_nat (j := 6) rfl, ?_⟩
      refine ⟨x.b, rfl, ite2 (fun c => ?_) (fun c => ?_)⟩
      · refine ⟨_, rfl, _, rfl, _, rfl, h, d, ds, a, x, r, z, rfl, st5, fun vI H6 b6 st6 o6 => ?_⟩
        refine ⟨_, rfl, by show 2 ≤ sizeLine; decide, fun t6 n6 => ?_⟩
        generalize hG7 : upd H6 t6 _ = H7
        obtain ⟨s7, e7⟩ := new_of n6 hG7
        refine ⟨_, rfl, _, rfl, by show 4 ≤ sizeLine; decide, fun t8 n8 => ?_⟩
        generalize hG8 : upd H7 t8 _ = H8
        obtain ⟨s8, e8⟩ := new_of n8 hG8
        have st8 := (st6.same s7).same s8
        refine ⟨_, rfl, h, d, ds, 4, rfl, by decide, st8.hd, fun r9 H9 q0 q1 b9 hd9 _ => ?_⟩
        obtain ⟨v, hv, e⟩ := atI_in (xs := [.int 0, .int 0, .int 1, .int (-2)]) (i := r9) q0 (by show _ < (4 : Int); omega)
        have o7 : Op K H7 (.ref t6) := .tup e7 (.cons (.str _) (.cons (.bl _) .nil))
        refine ⟨t8, _, _, _, rfl, rfl, SqL.of (b9 _ _ (hand_ne (st6.same s7).hd n8) e8), e, by show 4 ≤ sizeLine; decide, fun t2 n2 => fin_tup q ((b5.trans b6).trans (((Same.but s7).trans (Same.but s8)).trans b9)) (st8.but b9 hd9) (fun G3 s3 => ?_) n2⟩
        simp only [List.mem_cons, List.not_mem_nil, or_false] at hv
        have o71 := ((o7.same s8).hand st8.hd b9).same s3
        have o72 := (((o6.same s7).same s8).hand st8.hd b9).same s3
        rcases hv with rfl | rfl | rfl | rfl <;> exact .cons (.str _) (.cons o71 (.cons o72 (.cons (.int _) .nil)))
      · skip
        refine ⟨_, rfl, by show 2 ≤ sizeLine; decide, fun t6 n6 => ?_⟩
        generalize hG7 : upd H5 t6 _ = H7
        obtain ⟨s7, e7⟩ := new_of n6 hG7
        refine ⟨_, rfl, _, rfl, by show 4 ≤ sizeLine; decide, fun t8 n8 => ?_⟩
        generalize hG8 : upd H7 t8 _ = H8
        obtain ⟨s8, e8⟩ := new_of n8 hG8
        have st8 := (st5.same s7).same s8
        refine ⟨_, rfl, h, d, ds, 4, rfl, by decide, st8.hd, fun r9 H9 q0 q1 b9 hd9 _ => ?_⟩
        obtain ⟨v, hv, e⟩ := atI_in (xs := [.int 0, .int 0, .int 1, .int (-2)]) (i := r9) q0 (by show _ < (4 : Int); omega)
        have o7 : Op K H7 (.ref t6) := .tup e7 (.cons (.str _) (.cons (.bl _) .nil))
        refine ⟨t8, _, _, _, rfl, rfl, SqL.of (b9 _ _ (hand_ne (st5.same s7).hd n8) e8), e, by show 4 ≤ sizeLine; decide, fun t2 n2 => fin_tup q (b5.trans (((Same.but s7).trans (Same.but s8)).trans b9)) (st8.but b9 hd9) (fun G3 s3 => ?_) n2⟩
        simp only [List.mem_cons, List.not_mem_nil, or_false] at hv
        have o71 := ((o7.same s8).hand st8.hd b9).same s3
        have o72 := (((o5.same s7).same s8).hand st8.hd b9).same s3
        rcases hv with rfl | rfl | rfl | rfl <;> exact .cons (.str _) (.cons o71 (.cons o72 (.cons (.int _) .nil)))
theorem ok_l_cmp (T : TxB mg) (D_l_gen_cmp : Df K mg "_law_gen_cmp" s_l_gen_cmp ["hand", "ctx"]) (D_l_gen_term : Df K mg "_law_gen_term" s_l_gen_term ["hand", "ctx"]) (D_l_gen_index : Df K mg "_law_gen_index" s_l_gen_index ["hand", "ctx", "name"]) (D_l_gen_plain : Df K mg "_law_gen_plain" s_l_gen_plain ["hand", "ctx"]) (D_l_take : Df K mg "_law_take" s_l_take ["hand", "many"]) : FnOk P w K mg base CX0 5 D_l_gen_cmp.f D_l_gen_cmp.fd ["hand", "ctx"] (spG K) := by
  have G_l_take := ok_l_take (P := P) (w := w) (K := K) (base := base) T D_l_take
  have G_l_gen_term := ok_l_term (P := P) (w := w) (K := K) (base := base) T D_l_gen_term D_l_gen_index D_l_gen_plain D_l_take
  refine D_l_gen_cmp.F.ok sc_l_gen_cmp (fun vs H Q E h => ?_) (fun cdv A outer s H vs Q E hr h => ?_)
  · obtain ⟨h, d, ds, a, x, r, rfl, _⟩ := h
    rfl
  · obtain ⟨h, d, ds, a, x, r, rfl, st, q⟩ := h
    refine ⟨_, (pss_cons (ps_set (i := 2) sc_l_gen_cmp.nd rfl (.inl rfl) (pe_ix ix_list (pe_lst (pa_strs (.cons _ _ _ (.cons _ _ _ (.cons _ _ _ (.cons _ _ _ (.cons _ _ _ (.cons _ _ _ .nil)))))))) (pe_call G_l_take (hr.mono (by decide)) (by rfl) D_l_take.g D_l_take.F.kp D_l_take.b .nil pass0 (pa_cons (pv 0) (pa_cons pe_int pa_nil))) (fun _ _ => rfl)))
    (pss_one (ps_ret (pe_tup (pa_cons pe_str (pa_cons (pv 2) (pa_cons (pe_call G_l_gen_term (hr.mono (by decide)) (by rfl) D_l_gen_term.g D_l_gen_term.F.kp D_l_gen_term.b .nil pass0 (pa_cons (pv 0) (pa_cons (pv 1) pa_nil))) (pa_cons (pe_call G_l_gen_term (hr.mono (by decide)) (by rfl) D_l_gen_term.g D_l_gen_term.F.kp D_l_gen_term.b .nil pass0 (pa_cons (pv 0) (pa_cons (pv 1) pa_nil))) pa_nil)))))))), ?_⟩
    refine ⟨by show 6 ≤ sizeLine; decide, fun t1 n1 => ?_⟩
    generalize hG2 : upd H t1 _ = H2
    obtain ⟨s2, e2⟩ := new_of n1 hG2
    have st2 := st.same s2
    refine ⟨_, rfl, h, d, ds, 6, rfl, by decide, st2.hd, fun r3 H3 q0 q1 b3 hd3 _ => ?_⟩
    have st3 := st2.but b3 hd3
    obtain ⟨v, hv, e⟩ := atI_in (xs := [("<" : PySem.Str), "<=", ">", ">=", "==", "!="].map V.str) (i := r3) q0 (by show _ < (6 : Int); omega)
    obtain ⟨z, _, rfl⟩ := List.mem_map.mp hv
    refine ⟨t1, _, _, _, rfl, rfl, SqL.of (b3 _ _ (hand_ne st.hd n1) e2), e, ?_⟩
    refine ⟨_, rfl, _, rfl, _, rfl, h, d, ds, a, x, r, rfl, st3, fun v1 H4 b4 st4 o4 => ?_⟩
    refine ⟨_, rfl, _, rfl, h, d, ds, a, x, r, rfl, st4, fun v2 H5 b5 st5 o5 => ?_⟩
    exact ⟨by show 4 ≤ sizeLine; decide, fun t2 n2 => fin_tup q ((Same.but s2).trans (b3.trans (b4.trans b5))) st5 (fun G3 s3 => .cons (.str _) (.cons (.str _) (.cons ((o4.hand st4.hd b5).same s3) (.cons (o5.same s3) .nil)))) n2⟩
/-- .. with how many ways there are -/
def spCo (K : PySem.W.Frag) : Sp := fun vs H Q _ => ∃ (h d : Addr) (ds : List Int) (a : Ca) (x : Cd) (r : Int), vs = [.ref h, .ref a.c] ∧ St8 K H h d ds a x r ∧ ∀ (t : Addr) (k : Int) (v : V) (H' : Hp), 1 ≤ k → k ≤ 3 → But h H H' → St8 K H' h d ds a x r → Op K H' v → H' t = some (.lst [.int k, v]) → Q (.ref t) H'
theorem fin_co {K : PySem.W.Frag} {H : Hp} {h d : Addr} {ds : List Int} {a : Ca} {x : Cd} {r : Int} {Q : V → Hp → Prop} (q : ∀ (t : Addr) (k : Int) (v : V) (H' : Hp), 1 ≤ k → k ≤ 3 → But h H H' → St8 K H' h d ds a x r → Op K H' v → H' t = some (.lst [.int k, v]) → Q (.ref t) H') {k : Int} (k1 : 1 ≤ k) (k2 : k ≤ 3) {v : V} {G2 : Hp} {t2 : Addr} (b : But h H G2) (s : St8 K G2 h d ds a x r) (o : Op K G2 v) (n : G2 t2 = none) : Q (.ref t2) (upd G2 t2 (.lst [.int k, v])) := by
  generalize hG3 : upd G2 t2 _ = G3
  obtain ⟨s3, e3⟩ := new_of n hG3
  exact q _ _ _ _ k1 k2 (b.trans (Same.but s3)) (s.same s3) (o.same s3) e3
theorem ok_l_condition (T : TxB mg) (D_l_gen_condition : Df K mg "_law_gen_condition" s_l_gen_condition ["hand", "ctx"]) (D_l_gen_cmp : Df K mg "_law_gen_cmp" s_l_gen_cmp ["hand", "ctx"]) (D_l_gen_term : Df K mg "_law_gen_term" s_l_gen_term ["hand", "ctx"]) (D_l_gen_index : Df K mg "_law_gen_index" s_l_gen_index ["hand", "ctx", "name"]) (D_l_gen_plain : Df K mg "_law_gen_plain" s_l_gen_plain ["hand", "ctx"]) (D_l_take : Df K mg "_law_take" s_l_take ["hand", "many"]) : FnOk P w K mg base CX0 6 D_l_gen_condition.f D_l_gen_condition.fd ["hand", "ctx"] (spCo K) := by
  have G_l_take := ok_l_take (P := P) (w := w) (K := K) (base := base) T D_l_take
  have G_l_gen_cmp := ok_l_cmp (P := P) (w := w) (K := K) (base := base) T D_l_gen_cmp D_l_gen_term D_l_gen_index D_l_gen_plain D_l_take
  refine D_l_gen_condition.F.ok sc_l_gen_condition (fun vs H Q E h => ?_) (fun cdv A outer s H vs Q E hr h => ?_)
  · obtain ⟨h, d, ds, a, x, r, rfl, _⟩ := h
    rfl
  · obtain ⟨h, d, ds, a, x, r, rfl, st, q⟩ := h
    refine ⟨_, (pss_cons (ps_set (i := 2) sc_l_gen_condition.nd rfl (.inl rfl) (pe_call G_l_take (hr.mono (by decide)) (by rfl) D_l_take.g D_l_take.F.kp D_l_take.b .nil pass0 (pa_cons (pv 0) (pa_cons pe_int pa_nil))))
    (pss_cons (ps_set (i := 3) sc_l_gen_condition.nd rfl (.inl rfl) (pe_call G_l_gen_cmp (hr.mono (by decide)) (by rfl) D_l_gen_cmp.g D_l_gen_cmp.F.kp D_l_gen_cmp.b .nil pass0 (pa_cons (pv 0) (pa_cons (pv 1) pa_nil))))
    (pss_cons (ps_if (pt_cmpR op_lt (pv 2) pe_int (nomark _))
    (pss_one (ps_ret (pe_lst (pa_cons pe_int (pa_cons (pv 3) pa_nil)))))
    pss_nil)
    (pss_cons (ps_if (pt_cmpR op_eq (pv 2) pe_int (nomark _))
    (pss_one (ps_ret (pe_lst (pa_cons pe_int (pa_cons (pe_tup (pa_cons pe_str (pa_cons (pv 3) pa_nil))) pa_nil)))))
    pss_nil)
    (pss_cons (ps_set (i := 4) sc_l_gen_condition.nd rfl (.inl rfl) (pe_call G_l_gen_cmp (hr.mono (by decide)) (by rfl) D_l_gen_cmp.g D_l_gen_cmp.F.kp D_l_gen_cmp.b .nil pass0 (pa_cons (pv 0) (pa_cons (pv 1) pa_nil))))
    (pss_cons (ps_if (pt_cmpR op_lt (pv 2) pe_int (nomark _))
    (pss_one (ps_ret (pe_lst (pa_cons pe_int (pa_cons (pe_tup (pa_cons (pe_ix ix_list (pe_lst (pa_cons pe_str (pa_cons pe_str pa_nil))) (pe_op op_sub (pv 2) pe_int) (fun _ _ => rfl)) (pa_cons (pe_tup (pa_cons (pv 3) (pa_cons (pv 4) pa_nil))) pa_nil))) pa_nil)))))
    pss_nil)
    (pss_cons (ps_if (pt_cmpR op_eq (pv 2) pe_int (nomark _))
    (pss_one (ps_ret (pe_lst (pa_cons pe_int (pa_cons (pe_tup (pa_cons pe_str (pa_cons (pe_tup (pa_cons (pe_ix ix_list (pe_lst (pa_cons pe_str (pa_cons pe_str pa_nil))) (pe_call G_l_take (hr.mono (by decide)) (by rfl) D_l_take.g D_l_take.F.kp D_l_take.b .nil pass0 (pa_cons (pv 0) (pa_cons pe_int pa_nil))) (fun _ _ => rfl)) (pa_cons (pe_tup (pa_cons (pv 3) (pa_cons (pv 4) pa_nil))) pa_nil))) pa_nil))) pa_nil)))))
    pss_nil)
    (pss_cons (ps_set (i := 5) sc_l_gen_condition.nd rfl (.inl rfl) (pe_call G_l_gen_cmp (hr.mono (by decide)) (by rfl) D_l_gen_cmp.g D_l_gen_cmp.F.kp D_l_gen_cmp.b .nil pass0 (pa_cons (pv 0) (pa_cons (pv 1) pa_nil))))
    (pss_cons (ps_set (i := 6) sc_l_gen_condition.nd rfl (.inl rfl) (pe_lst (pa_cons (pe_tup (pa_cons pe_str (pa_cons (pe_tup (pa_cons (pe_tup (pa_cons pe_str (pa_cons (pe_tup (pa_cons (pv 3) (pa_cons (pe_tup (pa_cons pe_str (pa_cons (pv 4) pa_nil))) pa_nil))) pa_nil))) (pa_cons (pv 5) pa_nil))) pa_nil))) (pa_cons (pe_tup (pa_cons pe_str (pa_cons (pe_tup (pa_cons (pe_tup (pa_cons pe_str (pa_cons (pe_tup (pa_cons (pv 3) (pa_cons (pv 4) pa_nil))) pa_nil))) (pa_cons (pv 5) pa_nil))) pa_nil))) pa_nil))))
    (pss_cons (ps_set (i := 6) sc_l_gen_condition.nd rfl (.inl rfl) (pe_op op_cat (pv 6) (pe_lst (pa_cons (pe_tup (pa_cons (pe_ix ix_list (pe_lst (pa_cons pe_str (pa_cons pe_str pa_nil))) (pe_call G_l_take (hr.mono (by decide)) (by rfl) D_l_take.g D_l_take.F.kp D_l_take.b .nil pass0 (pa_cons (pv 0) (pa_cons pe_int pa_nil))) (fun _ _ => rfl)) (pa_cons (pe_tup (pa_cons (pv 3) (pa_cons (pv 4) (pa_cons (pv 5) pa_nil)))) pa_nil))) (pa_cons (pe_tup (pa_cons pe_str (pa_cons (pe_tup (pa_cons (pv 3) (pa_cons (pe_tup (pa_cons pe_str (pa_cons (pe_tup (pa_cons (pv 4) (pa_cons (pv 5) pa_nil))) pa_nil))) pa_nil))) pa_nil))) pa_nil)))))
    (pss_one (ps_ret (pe_lst (pa_cons pe_int (pa_cons (pe_ix ix_list (pv 6) (pe_call G_l_take (hr.mono (by decide)) (by rfl) D_l_take.g D_l_take.F.kp D_l_take.b .nil pass0 (pa_cons (pv 0) (pa_cons pe_int pa_nil))) (fun _ _ => rfl)) pa_nil))))))))))))))), ?_⟩
    refine ⟨_, rfl, h, d, ds, 11, rfl, by decide, st.hd, fun k H2 k0 k1 b2 hd2 _ => ?_⟩
    have st2 := st.but b2 hd2
    refine ⟨_, rfl, _, rfl, h, d, ds, a, x, r, rfl, st2, fun v1 H3 b3 st3 o1 => ?_⟩
    have b23 := b2.trans b3
    refine ⟨_, rfl, _, _, rfl, rfl, _, rfl, ite2 (fun c1 => ?_) (fun c1 => ⟨_, rfl, rfl, _, rfl, ite2 (fun c2 => ?_) (fun c2 => ?_)⟩)⟩
    · exact ⟨_, rfl, by show 2 ≤ sizeLine; decide, fun t2 n2 => fin_co q (by decide) (by decide) b23 st3 o1 n2⟩
    · refine ⟨_, rfl, by show 2 ≤ sizeLine; decide, fun t4 n4 => ?_⟩
      generalize hG4 : upd H3 t4 _ = H4
      obtain ⟨s4, e4⟩ := new_of n4 hG4
      exact ⟨by show 2 ≤ sizeLine; decide, fun t2 n2 => fin_co q (by decide) (by decide) (b23.trans (Same.but s4)) (st3.same s4) (.tup e4 (.cons (.str _) (.cons (o1.same s4) .nil))) n2⟩
    · have k4 : 4 < k := by
        have := of_decide_eq_false (Bool.eq_false_iff.mpr c1)
        have c2' : ¬ V.int k = V.int 4 := of_decide_eq_false (Bool.eq_false_iff.mpr c2)
        have : ¬ k = 4 := fun e => c2' (by rw [e])
        omega
      refine ⟨_, rfl, _, rfl, h, d, ds, a, x, r, rfl, st3, fun v2 H4 b4 st4 o2 => ?_⟩
      have b24 := b23.trans b4
      have o1 := o1.hand st3.hd b4
      refine ⟨_, rfl, _, _, rfl, rfl, _, rfl, ite2 (fun c3 => ?_) (fun c3 => ⟨_, rfl, rfl, _, rfl, ite2 (fun c5 => ?_) (fun c5 => ?_)⟩)⟩
      · have k5 := of_decide_eq_true c3
        refine ⟨by show 2 ≤ sizeLine; decide, fun t5 n5 => ?_⟩
        generalize hG5 : upd H4 t5 _ = H5
        obtain ⟨s5, e5⟩ := new_of n5 hG5
        obtain ⟨v, hv, e⟩ := atI_in (xs := [("and" : PySem.Str), "or"].map V.str) (i := k - 5) (by omega) (by show _ < (2 : Int); omega)
        obtain ⟨z, _, rfl⟩ := List.mem_map.mp hv
        refine ⟨_, rfl, _, _, rfl, rfl, t5, _, _, _, rfl, rfl, SqL.of e5, e, _, rfl, _, rfl, by show 2 ≤ sizeLine; decide, fun t6 n6 => ?_⟩
        generalize hG6 : upd H5 t6 _ = H6
        obtain ⟨s6, e6⟩ := new_of n6 hG6
        refine ⟨by show 2 ≤ sizeLine; decide, fun t7 n7 => ?_⟩
        generalize hG7 : upd H6 t7 _ = H7
        obtain ⟨s7, e7⟩ := new_of n7 hG7
        have s57 := s5.trans (s6.trans s7)
        have o6 : Op K H6 (.ref t6) := .tup e6 (.cons (o1.same (s5.trans s6)) (.cons (o2.same (s5.trans s6)) .nil))
        exact ⟨by show 2 ≤ sizeLine; decide, fun t2 n2 => fin_co q (by decide) (by decide) (b24.trans (Same.but s57)) (st4.same s57) (.tup e7 (.cons (.str _) (.cons (o6.same s7) .nil))) n2⟩
      · refine ⟨by show 2 ≤ sizeLine; decide, fun t5 n5 => ?_⟩
        generalize hG5 : upd H4 t5 _ = H5
        obtain ⟨s5, e5⟩ := new_of n5 hG5
        refine ⟨_, rfl, h, d, ds, 2, rfl, by decide, st4.hd.same s5, fun k8 H8 k80 k81 b8 hd8 _ => ?_⟩
        have st8 := (st4.same s5).but b8 hd8
        obtain ⟨v, hv, e⟩ := atI_in (xs := [("and" : PySem.Str), "or"].map V.str) (i := k8) (by omega) (by show _ < (2 : Int); omega)
        obtain ⟨z, _, rfl⟩ := List.mem_map.mp hv
        have o1 := (o1.same s5).hand (st4.hd.same s5) b8
        have o2 := (o2.same s5).hand (st4.hd.same s5) b8
        refine ⟨t5, _, _, _, rfl, rfl, SqL.of (b8 _ _ (hand_ne st4.hd n5) e5), e, _, rfl, _, rfl, by show 2 ≤ sizeLine; decide, fun t6 n6 => ?_⟩
        generalize hG6 : upd H8 t6 _ = H6
        obtain ⟨s6, e6⟩ := new_of n6 hG6
        refine ⟨by show 2 ≤ sizeLine; decide, fun t7 n7 => ?_⟩
        generalize hG7 : upd H6 t7 _ = H7
        obtain ⟨s7, e7⟩ := new_of n7 hG7
        refine ⟨by show 2 ≤ sizeLine; decide, fun t9 n9 => ?_⟩
        generalize hG9 : upd H7 t9 _ = H9
        obtain ⟨s9, e9⟩ := new_of n9 hG9
        have s69 := s6.trans (s7.trans s9)
        have o6 : Op K H6 (.ref t6) := .tup e6 (.cons (o1.same s6) (.cons (o2.same s6) .nil))
        have o7 : Op K H7 (.ref t7) := .tup e7 (.cons (.str _) (.cons (o6.same s7) .nil))
        exact ⟨by show 2 ≤ sizeLine; decide, fun t2 n2 => fin_co q (by decide) (by decide) (b24.trans ((Same.but s5).trans (b8.trans (Same.but s69)))) (st8.same s69) (.tup e9 (.cons (.str _) (.cons (o7.same s9) .nil))) n2⟩
      · refine ⟨_, rfl, _, rfl, h, d, ds, a, x, r, rfl, st4, fun v3 H5 b5 st5 o3 => ?_⟩
        have b25 := b24.trans b5
        have o1 := o1.hand st4.hd b5
        have o2 := o2.hand st4.hd b5
        refine ⟨_, rfl, _, rfl, by show 2 ≤ sizeLine; decide, fun t10 nt10 => ?_⟩
        generalize hGJ1 : upd H5 t10 _ = J1
        obtain ⟨sJ1, eJ1⟩ := new_of nt10 hGJ1
        have oC : Op K J1 (.ref t10) := .tup eJ1 (.cons (.str _) (.cons (o2.same sJ1) .nil))
        have o1 := o1.same sJ1
        have o2 := o2.same sJ1
        have o3 := o3.same sJ1
        have st5 := st5.same sJ1
        have b25 := b25.trans (Same.but sJ1)
        refine ⟨by show 2 ≤ sizeLine; decide, fun t20 nt20 => ?_⟩
        generalize hGJ2 : upd J1 t20 _ = J2
        obtain ⟨sJ2, eJ2⟩ := new_of nt20 hGJ2
        have oB : Op K J2 (.ref t20) := .tup eJ2 (.cons (o1.same sJ2) (.cons (oC.same sJ2) .nil))
        have o1 := o1.same sJ2
        have o2 := o2.same sJ2
        have o3 := o3.same sJ2
        have st5 := st5.same sJ2
        have b25 := b25.trans (Same.but sJ2)
        refine ⟨by show 2 ≤ sizeLine; decide, fun t30 nt30 => ?_⟩
        generalize hGJ3 : upd J2 t30 _ = J3
        obtain ⟨sJ3, eJ3⟩ := new_of nt30 hGJ3
        have oA : Op K J3 (.ref t30) := .tup eJ3 (.cons (.str _) (.cons (oB.same sJ3) .nil))
        have o1 := o1.same sJ3
        have o2 := o2.same sJ3
        have o3 := o3.same sJ3
        have st5 := st5.same sJ3
        have b25 := b25.trans (Same.but sJ3)
        refine ⟨_, rfl, by show 2 ≤ sizeLine; decide, fun t40 nt40 => ?_⟩
        generalize hGJ4 : upd J3 t40 _ = J4
        obtain ⟨sJ4, eJ4⟩ := new_of nt40 hGJ4
        have oX : Op K J4 (.ref t40) := .tup eJ4 (.cons (oA.same sJ4) (.cons (o3.same sJ4) .nil))
        have o1 := o1.same sJ4
        have o2 := o2.same sJ4
        have o3 := o3.same sJ4
        have st5 := st5.same sJ4
        have b25 := b25.trans (Same.but sJ4)
        refine ⟨by show 2 ≤ sizeLine; decide, fun t50 nt50 => ?_⟩
        generalize hGJ5 : upd J4 t50 _ = J5
        obtain ⟨sJ5, eJ5⟩ := new_of nt50 hGJ5
        have oP : Op K J5 (.ref t50) := .tup eJ5 (.cons (.str _) (.cons (oX.same sJ5) .nil))
        have o1 := o1.same sJ5
        have o2 := o2.same sJ5
        have o3 := o3.same sJ5
        have st5 := st5.same sJ5
        have b25 := b25.trans (Same.but sJ5)
        refine ⟨_, rfl, _, rfl, by show 2 ≤ sizeLine; decide, fun t60 nt60 => ?_⟩
        generalize hGJ6 : upd J5 t60 _ = J6
        obtain ⟨sJ6, eJ6⟩ := new_of nt60 hGJ6
        have oB : Op K J6 (.ref t60) := .tup eJ6 (.cons (o1.same sJ6) (.cons (o2.same sJ6) .nil))
        have o1 := o1.same sJ6
        have o2 := o2.same sJ6
        have o3 := o3.same sJ6
        have oP := oP.same sJ6
        have st5 := st5.same sJ6
        have b25 := b25.trans (Same.but sJ6)
        refine ⟨by show 2 ≤ sizeLine; decide, fun t70 nt70 => ?_⟩
        generalize hGJ7 : upd J6 t70 _ = J7
        obtain ⟨sJ7, eJ7⟩ := new_of nt70 hGJ7
        have oA : Op K J7 (.ref t70) := .tup eJ7 (.cons (.str _) (.cons (oB.same sJ7) .nil))
        have o1 := o1.same sJ7
        have o2 := o2.same sJ7
        have o3 := o3.same sJ7
        have oP := oP.same sJ7
        have st5 := st5.same sJ7
        have b25 := b25.trans (Same.but sJ7)
        refine ⟨_, rfl, by show 2 ≤ sizeLine; decide, fun t80 nt80 => ?_⟩
        generalize hGJ8 : upd J7 t80 _ = J8
        obtain ⟨sJ8, eJ8⟩ := new_of nt80 hGJ8
        have oX : Op K J8 (.ref t80) := .tup eJ8 (.cons (oA.same sJ8) (.cons (o3.same sJ8) .nil))
        have o1 := o1.same sJ8
        have o2 := o2.same sJ8
        have o3 := o3.same sJ8
        have oP := oP.same sJ8
        have st5 := st5.same sJ8
        have b25 := b25.trans (Same.but sJ8)
        refine ⟨by show 2 ≤ sizeLine; decide, fun t90 nt90 => ?_⟩
        generalize hGJ9 : upd J8 t90 _ = J9
        obtain ⟨sJ9, eJ9⟩ := new_of nt90 hGJ9
        have oQ : Op K J9 (.ref t90) := .tup eJ9 (.cons (.str _) (.cons (oX.same sJ9) .nil))
        have o1 := o1.same sJ9
        have o2 := o2.same sJ9
        have o3 := o3.same sJ9
        have oP := oP.same sJ9
        have st5 := st5.same sJ9
        have b25 := b25.trans (Same.but sJ9)
        refine ⟨by show 2 ≤ sizeLine; decide, fun t100 nt100 => ?_⟩
        generalize hGJ10 : upd J9 t100 _ = J10
        obtain ⟨sJ10, eJ10⟩ := new_of nt100 hGJ10
        have eL := eJ10
        have o1 := o1.same sJ10
        have o2 := o2.same sJ10
        have o3 := o3.same sJ10
        have oP := oP.same sJ10
        have oQ := oQ.same sJ10
        have st5 := st5.same sJ10
        have b25 := b25.trans (Same.but sJ10)
        refine ⟨_, rfl, by show 2 ≤ sizeLine; decide, fun t110 nt110 => ?_⟩
        generalize hGJ11 : upd J10 t110 _ = J11
        obtain ⟨sJ11, eJ11⟩ := new_of nt110 hGJ11
        have eM := eJ11
        have eL := sJ11 _ _ eL
        have o1 := o1.same sJ11
        have o2 := o2.same sJ11
        have o3 := o3.same sJ11
        have oP := oP.same sJ11
        have oQ := oQ.same sJ11
        have st5 := st5.same sJ11
        have b25 := b25.trans (Same.but sJ11)
        refine ⟨_, rfl, h, d, ds, 2, rfl, by decide, st5.hd, fun k8 H8 k80 k81 b8 hd8 _ => ?_⟩
        obtain ⟨v, hv, e⟩ := atI_in (xs := [("and" : PySem.Str), "or"].map V.str) (i := k8) (by omega) (by show _ < (2 : Int); omega)
        obtain ⟨z, _, rfl⟩ := List.mem_map.mp hv
        have o1 := o1.hand st5.hd b8
        have o2 := o2.hand st5.hd b8
        have o3 := o3.hand st5.hd b8
        have oP := oP.hand st5.hd b8
        have oQ := oQ.hand st5.hd b8
        have eL := b8 _ _ (ne_hand2 st5.hd eL) eL
        have eM := b8 _ _ (ne_hand2s st5.hd eM) eM
        have st5 := st5.but b8 hd8
        have b25 := b25.trans b8
        refine ⟨t110, _, _, _, rfl, rfl, SqL.of eM, e, ?_⟩
        refine ⟨_, rfl, _, rfl, _, rfl, by show 3 ≤ sizeLine; decide, fun t120 nt120 => ?_⟩
        generalize hGJ12 : upd H8 t120 _ = J12
        obtain ⟨sJ12, eJ12⟩ := new_of nt120 hGJ12
        have oX : Op K J12 (.ref t120) := .tup eJ12 (.cons (o1.same sJ12) (.cons (o2.same sJ12) (.cons (o3.same sJ12) .nil)))
        have o1 := o1.same sJ12
        have o2 := o2.same sJ12
        have o3 := o3.same sJ12
        have oP := oP.same sJ12
        have oQ := oQ.same sJ12
        have st5 := st5.same sJ12
        have b25 := b25.trans (Same.but sJ12)
        have eL := sJ12 _ _ eL
        refine ⟨by show 2 ≤ sizeLine; decide, fun t130 nt130 => ?_⟩
        generalize hGJ13 : upd J12 t130 _ = J13
        obtain ⟨sJ13, eJ13⟩ := new_of nt130 hGJ13
        have oR : Op K J13 (.ref t130) := .tup eJ13 (.cons (.str _) (.cons (oX.same sJ13) .nil))
        have o1 := o1.same sJ13
        have o2 := o2.same sJ13
        have o3 := o3.same sJ13
        have oP := oP.same sJ13
        have oQ := oQ.same sJ13
        have st5 := st5.same sJ13
        have b25 := b25.trans (Same.but sJ13)
        have eL := sJ13 _ _ eL
        refine ⟨_, rfl, _, rfl, _, rfl, by show 2 ≤ sizeLine; decide, fun t140 nt140 => ?_⟩
        generalize hGJ14 : upd J13 t140 _ = J14
        obtain ⟨sJ14, eJ14⟩ := new_of nt140 hGJ14
        have oB : Op K J14 (.ref t140) := .tup eJ14 (.cons (o2.same sJ14) (.cons (o3.same sJ14) .nil))
        have o1 := o1.same sJ14
        have o2 := o2.same sJ14
        have o3 := o3.same sJ14
        have oP := oP.same sJ14
        have oQ := oQ.same sJ14
        have oR := oR.same sJ14
        have st5 := st5.same sJ14
        have b25 := b25.trans (Same.but sJ14)
        have eL := sJ14 _ _ eL
        refine ⟨by show 2 ≤ sizeLine; decide, fun t150 nt150 => ?_⟩
        generalize hGJ15 : upd J14 t150 _ = J15
        obtain ⟨sJ15, eJ15⟩ := new_of nt150 hGJ15
        have oA : Op K J15 (.ref t150) := .tup eJ15 (.cons (.str _) (.cons (oB.same sJ15) .nil))
        have o1 := o1.same sJ15
        have o2 := o2.same sJ15
        have o3 := o3.same sJ15
        have oP := oP.same sJ15
        have oQ := oQ.same sJ15
        have oR := oR.same sJ15
        have st5 := st5.same sJ15
        have b25 := b25.trans (Same.but sJ15)
        have eL := sJ15 _ _ eL
        refine ⟨by show 2 ≤ sizeLine; decide, fun t160 nt160 => ?_⟩
        generalize hGJ16 : upd J15 t160 _ = J16
        obtain ⟨sJ16, eJ16⟩ := new_of nt160 hGJ16
        have oX : Op K J16 (.ref t160) := .tup eJ16 (.cons (o1.same sJ16) (.cons (oA.same sJ16) .nil))
        have o1 := o1.same sJ16
        have o2 := o2.same sJ16
        have o3 := o3.same sJ16
        have oP := oP.same sJ16
        have oQ := oQ.same sJ16
        have oR := oR.same sJ16
        have st5 := st5.same sJ16
        have b25 := b25.trans (Same.but sJ16)
        have eL := sJ16 _ _ eL
        refine ⟨by show 2 ≤ sizeLine; decide, fun t170 nt170 => ?_⟩
        generalize hGJ17 : upd J16 t170 _ = J17
        obtain ⟨sJ17, eJ17⟩ := new_of nt170 hGJ17
        have oS : Op K J17 (.ref t170) := .tup eJ17 (.cons (.str _) (.cons (oX.same sJ17) .nil))
        have o1 := o1.same sJ17
        have o2 := o2.same sJ17
        have o3 := o3.same sJ17
        have oP := oP.same sJ17
        have oQ := oQ.same sJ17
        have oR := oR.same sJ17
        have st5 := st5.same sJ17
        have b25 := b25.trans (Same.but sJ17)
        have eL := sJ17 _ _ eL
        refine ⟨by show 2 ≤ sizeLine; decide, fun t180 nt180 => ?_⟩
        generalize hGJ18 : upd J17 t180 _ = J18
        obtain ⟨sJ18, eJ18⟩ := new_of nt180 hGJ18
        have eN := eJ18
        have eL := sJ18 _ _ eL
        have o1 := o1.same sJ18
        have o2 := o2.same sJ18
        have o3 := o3.same sJ18
        have oP := oP.same sJ18
        have oQ := oQ.same sJ18
        have oR := oR.same sJ18
        have oS := oS.same sJ18
        have st5 := st5.same sJ18
        have b25 := b25.trans (Same.but sJ18)
        refine ⟨t100, t180, _, _, rfl, rfl, eL, eN, by show 4 ≤ sizeLine; decide, fun tF nF => ?_⟩
        generalize hGF : upd J18 tF _ = HF
        obtain ⟨sF, eF⟩ := new_of nF hGF
        have hdF := st5.hd
        have o1 := o1.same sF
        have o2 := o2.same sF
        have o3 := o3.same sF
        have oP := oP.same sF
        have oQ := oQ.same sF
        have oR := oR.same sF
        have oS := oS.same sF
        have st5 := st5.same sF
        have b25 := b25.trans (Same.but sF)
        refine ⟨_, rfl, _, rfl, h, d, ds, 4, rfl, by decide, st5.hd, fun k9 H9 k90 k91 b9 hd9 _ => ?_⟩
        obtain ⟨v9, hv9, e9⟩ := atI_in (xs := [.ref t50, .ref t90, .ref t130, .ref t170]) (i := k9) (by omega) (by show _ < (4 : Int); omega)
        refine ⟨tF, _, _, _, rfl, rfl, SqL.of (b9 _ _ (hand_ne hdF nF) eF), e9, by show 2 ≤ sizeLine; decide, fun t2 n2 => fin_co q (by decide) (by decide) (b25.trans b9) (st5.but b9 hd9) ?_ n2⟩
        simp only [List.mem_cons, List.not_mem_nil, or_false] at hv9
        rcases hv9 with rfl | rfl | rfl | rfl
        · exact oP.hand st5.hd b9
        · exact oQ.hand st5.hd b9
        · exact oR.hand st5.hd b9
        · exact oS.hand st5.hd b9
end
end SW

namespace SW
open PySem PySem.Spec PyProof.Rows L2
abbrev s_l_gen_call : Stmt := topS 24
theorem sc_l_gen_call : FnScope ["hand", "ctx", "name", "parameters", "moves", "free", "arguments", "one", "is_list", "fit", "other", "chosen"] ["hand", "ctx"] (defScope s_l_gen_call) := ⟨rfl, rfl, rfl, by decide +kernel, rfl, by decide +kernel, by decide +kernel⟩

/-- a statement that holds no other -/
inductive Sm | lst (k : PySem.Str) (r : Int) (x : PySem.Str) (ds : List PyData) | cal (r : Int) (y f : PySem.Str) (as : List Ar) | oth (k : PySem.Str) (r : Int) (ds : List PyData)
def Sm.to {B : Type} : Sm → Sf B
  | .lst k r x ds => .lst k r x ds
  | .cal r y f as => .cal r y f as
  | .oth k r ds => .oth k r ds
def Sm.enc (s : Sm) : PyData := Sf.enc (B := Empty) (fun x => nomatch x) s.to
def Sm.ok (s : Sm) : Prop := Sf.ok (B := Empty) (fun _ => True) s.to
theorem Sm.enc_to {B : Type} {e : B → PyData} (s : Sm) : Sf.enc e s.to = s.enc := by cases s <;> rfl
theorem Sm.ok_to {B : Type} {p : B → Prop} {s : Sm} (h : s.ok) : Sf.ok p s.to := by cases s <;> exact h
theorem Sm.subs {B : Type} (s : Sm) : Sf.subs (B := B) s.to = [] := by cases s <;> rfl
theorem Sm.noL {s : Sm} (h : s.ok) : SW.noL s.enc = true := noL_sf (e := fun x : Empty => nomatch x) (p := fun _ => True) (fun b => nomatch b) h
/-- it speaks of what there is -/
def AtS (x : Cd) {B : Type} : Sf B → Prop
  | .lst _ _ z _ => z ∈ x.ls
  | .cal _ _ f as => (∃ k, k ∈ x.kn ∧ k.nm = f ∧ Fits as k.ps) ∧ ∀ z, Ar.ls z ∈ as → z ∈ x.ls
  | _ => True
def AtM (x : Cd) (s : Sm) : Prop := AtS x (B := Empty) s.to
theorem AtM.to {x : Cd} {B : Type} {s : Sm} (h : AtM x s) : AtS x (B := B) s.to := by cases s <;> exact h
theorem Op_sqt {K : PySem.W.Frag} {H H' : Hp} {h b : Addr} {ys xs : List V} (hl : H h = some (.lst ys)) (s : But h H H') (hs : SqT K H b xs) : SqT K H' b xs := by
  rcases hs with (hs | ⟨o, hs⟩) | hs
  · exact .inl (.inl (s _ _ (fun e => by rw [e, hl] at hs; cases hs) hs))
  · exact .inl (.inr ⟨o, s _ _ (fun e => by rw [e, hl] at hs; cases hs) hs⟩)
  · exact .inr hs
theorem dpa_strs_inv {K : PySem.W.Frag} {H : Hp} : ∀ {ws : List PySem.Str} {xs : List V}, DpAll K H xs (ws.map PyData.str) → xs = ws.map V.str
  | [], _, h => by
    cases h
    rfl
  | x :: r, _, h => by
    cases h with
    | cons h1 h2 =>
      cases dp_str_inv h1
      rw [dpa_strs_inv h2]
      rfl
section
variable {P : Program} {w : World} {K : PySem.W.Frag} {mg : PySem.Str → Option Value} {base : Heap}
def spS (K : PySem.W.Frag) (c : Cd → Prop) : Sp := fun vs H Q _ => ∃ (h d : Addr) (ds : List Int) (a : Ca) (x : Cd) (r : Int), vs = [.ref h, .ref a.c] ∧ St8 K H h d ds a x r ∧ c x ∧ (∀ k, k ∈ x.kn → k.ps.length ≤ 10) ∧ ∀ (v : V) (s : Sm) (H' : Hp), But h H H' → St8 K H' h d ds a x r → Dp K H' v s.enc → s.ok → AtM x s → Q v H'
theorem fin_st {K : PySem.W.Frag} {H : Hp} {h d : Addr} {ds : List Int} {a : Ca} {x : Cd} {r : Int} {Q : V → Hp → Prop} (q : ∀ (v : V) (s : Sm) (H' : Hp), But h H H' → St8 K H' h d ds a x r → Dp K H' v s.enc → s.ok → AtM x s → Q v H') {z : PySem.Str} (hz : z ∉ oddK) {i : Int} {ws : List V} {G2 : Hp} {t2 : Addr} (b : But h H G2) (s : St8 K G2 h d ds a x r) (o : ∀ G3, Same G2 G3 → Ops K G3 ws) (n : G2 t2 = none) : Q (.ref t2) (upd G2 t2 (.tup (.str z :: .int i :: ws))) := by
  generalize hG3 : upd G2 t2 _ = G3
  obtain ⟨s3, e3⟩ := new_of n hG3
  obtain ⟨es, o1, o2⟩ := o G3 s3
  exact q _ (.oth z i es) _ (b.trans (Same.but s3)) (s.same s3) (.tup (SqT.of e3) (.cons (.str _) (.cons (.int _) o1))) ⟨hz, o2⟩ trivial
theorem fin_lst {K : PySem.W.Frag} {H : Hp} {h d : Addr} {ds : List Int} {a : Ca} {x : Cd} {r : Int} {Q : V → Hp → Prop} (q : ∀ (v : V) (s : Sm) (H' : Hp), But h H H' → St8 K H' h d ds a x r → Dp K H' v s.enc → s.ok → AtM x s → Q v H') {z y : PySem.Str} (hz : z = "put" ∨ z = "swap") (hy : y ∈ x.ls) {i : Int} {ws : List V} {G2 : Hp} {t2 : Addr} (b : But h H G2) (s : St8 K G2 h d ds a x r) (o : ∀ G3, Same G2 G3 → Ops K G3 ws) (n : G2 t2 = none) : Q (.ref t2) (upd G2 t2 (.tup (.str z :: .int i :: .str y :: ws))) := by
  generalize hG3 : upd G2 t2 _ = G3
  obtain ⟨s3, e3⟩ := new_of n hG3
  obtain ⟨es, o1, o2⟩ := o G3 s3
  exact q _ (.lst z i y es) _ (b.trans (Same.but s3)) (s.same s3) (.tup (SqT.of e3) (.cons (.str _) (.cons (.int _) (.cons (.str _) o1)))) ⟨hz, o2⟩ hy
/-- the arguments so far fit -/
structure ArOk (ls : List PySem.Str) (as : List Ar) (ps : List (PySem.Str × Bool)) (i : Nat) : Prop where
  len : as.length = i
  fit : ∀ (j : Nat) (q : PySem.Str × Bool), j < i → ps[j]? = some q → q.2 = true → ∃ z, as[j]? = some (.ls z)
  ls : ∀ z, Ar.ls z ∈ as → z ∈ ls
  ok : ∀ a, a ∈ as → a.ok
theorem ArOk.snoc {ls : List PySem.Str} {as : List Ar} {ps : List (PySem.Str × Bool)} {i : Nat} (k : ArOk ls as ps i) {b : Ar} (h1 : ∀ q, ps[i]? = some q → q.2 = true → ∃ z, b = .ls z) (h2 : ∀ z, b = .ls z → z ∈ ls) (h3 : b.ok) : ArOk ls (as ++ [b]) ps (i + 1) := by
  obtain ⟨len, fit, lsk, ok⟩ := k
  refine ⟨by rw [List.length_append, len]; rfl, fun j q hj hq ht => ?_, fun z hz => ?_, fun a ha => ?_⟩
  · by_cases e : j = i
    · subst e
      obtain ⟨z, rfl⟩ := h1 q hq ht
      exact ⟨z, by rw [List.getElem?_append_right (by omega), len, Nat.sub_self]; rfl⟩
    · obtain ⟨z, hz⟩ := fit j q (by omega) hq ht
      exact ⟨z, by rw [List.getElem?_append_left (by omega)]; exact hz⟩
  · rcases List.mem_append.mp hz with hz | hz
    · exact lsk z hz
    · exact h2 z (List.mem_singleton.mp hz).symm
  · rcases List.mem_append.mp ha with ha | ha
    · exact ok a ha
    · rw [List.mem_singleton.mp ha]
      exact h3
theorem ars_noL {as : List Ar} (h : ∀ a, a ∈ as → a.ok) : noLs (as.map Ar.enc) = true := noLs_mapof fun a ha => noL_ar (h a ha)
theorem ok_l_call (T : TxB mg) (D_l_gen_call : Df K mg "_law_gen_call" s_l_gen_call ["hand", "ctx"]) (D_l_gen_plain : Df K mg "_law_gen_plain" s_l_gen_plain ["hand", "ctx"]) (D_l_take : Df K mg "_law_take" s_l_take ["hand", "many"]) : FnOk P w K mg base CX0 3 D_l_gen_call.f D_l_gen_call.fd ["hand", "ctx"] (spS K fun x => x.kn ≠ []) := by
  have G_l_take := ok_l_take (P := P) (w := w) (K := K) (base := base) T D_l_take
  have G_l_gen_plain := ok_l_plain (P := P) (w := w) (K := K) (base := base) T D_l_gen_plain D_l_take
  refine D_l_gen_call.F.ok sc_l_gen_call (fun vs H Q E h => ?_) (fun cdv A outer s H vs Q E hr h => ?_)
  · obtain ⟨h, d, ds, a, x, r, rfl, _⟩ := h
    rfl
  · obtain ⟨h, d, ds, a, x, r, rfl, st, hkn, hps, q⟩ := h
    refine ⟨_, (pss_cons (ps_asg (pe_ix ix_list (pe_ix ix_list (pv 1) pe_int (fun _ _ => rfl)) (pe_call G_l_take (hr.mono (by decide)) (by rfl) D_l_take.g D_l_take.F.kp D_l_take.b .nil pass0 (pa_cons (pv 0) (pa_cons (pe_callB call_len_seq (by rfl) T.n_len PySem.boot_len (pa_cons (pe_ix ix_list (pv 1) pe_int (fun _ _ => rfl)) pa_nil)) pa_nil))) (fun _ _ => rfl)) (pg_tup (by rfl) (pgs_cons (pg_name (i := 2) sc_l_gen_call.nd rfl (.inl rfl)) (pgs_cons (pg_name (i := 3) sc_l_gen_call.nd rfl (.inl rfl)) (pgs_cons (pg_name (i := 4) sc_l_gen_call.nd rfl (.inr rfl)) pgs_nil)))))
    (pss_cons (ps_set (i := 5) sc_l_gen_call.nd rfl (.inl rfl) (pe_callTy call_list_of (by rfl) T.n_list (by decide +kernel) (pa_cons (pe_ix ix_list (pv 1) pe_int (fun _ _ => rfl)) pa_nil)))
    (pss_cons (ps_set (i := 6) sc_l_gen_call.nd rfl (.inl rfl) (pe_lst pa_nil))
    (pss_cons (ps_for PassesOwn.never rfl (pi_tup (pv 3)) (pg_tup (by rfl) (pgs_cons (pg_name (i := 7) sc_l_gen_call.nd rfl (.inr rfl)) (pgs_cons (pg_name (i := 8) sc_l_gen_call.nd rfl (.inl rfl)) pgs_nil)))
    (pss_cons (ps_if (pt_not (pt_val (pv 8)))
    (pss_cons (ps_expr (pe_bm PySem.F.plainAttrs_list PySem.F.slot_list_append PySem.F.type_list_append mt_append (pv 6) (pa_cons (pe_call G_l_gen_plain (hr.mono (by decide)) (by rfl) D_l_gen_plain.g D_l_gen_plain.F.kp D_l_gen_plain.b .nil pass0 (pa_cons (pv 0) (pa_cons (pv 1) pa_nil))) pa_nil)))
    (pss_one ps_continue))
    pss_nil)
    (pss_cons (ps_setLc (i := 9) (own := [("other", 10)]) (g := gName 10) (by rfl) sc_l_gen_call.nd rfl rfl (sw_true rfl rfl rfl (by decide +kernel)) (pi_list (pv 5)) (blkOk_by (own := [("other", 10)]) (N := ["hand", "ctx", "name", "parameters", "moves", "free", "arguments", "one", "is_list", "fit", "other", "chosen"]) (sc := defScope s_l_gen_call) (by decide +kernel)) (fun _ _ _ _ _ => pg_name (i := 10) sc_l_gen_call.nd rfl (Or.inl rfl)) (fun _ _ _ _ _ => pts_one (PW.pt (pw_or (pt_cmpR (show OpR _ (compareOp .In) (rIn K false) from op_in_seq) (pv 7) (pv 4) (by rfl)) (pw_or1 (pt_cmpR (show OpR _ (compareOp .NotIn) (rIn K true) from op_notIn_seq) (pv 10) (pe_ix (show IxR _ (rIxL K) from ix_list) (pv 1) pe_int (fun _ _ => rfl)) (by rfl)))))) (fun _ _ _ _ _ => (pv 10)))
    (pss_cons (ps_if (pt_cmpR op_eq (pe_callB call_len_seq (by rfl) T.n_len PySem.boot_len (pa_cons (pv 9) pa_nil)) pe_int (nomark _))
    (pss_one (ps_ret (pe_tup (pa_cons pe_str (pa_cons pe_int pa_nil)))))
    pss_nil)
    (pss_cons (ps_set (i := 11) sc_l_gen_call.nd rfl (.inl rfl) (pe_ix ix_list (pv 9) (pe_call G_l_take (hr.mono (by decide)) (by rfl) D_l_take.g D_l_take.F.kp D_l_take.b .nil pass0 (pa_cons (pv 0) (pa_cons (pe_callB call_len_seq (by rfl) T.n_len PySem.boot_len (pa_cons (pv 9) pa_nil)) pa_nil))) (fun _ _ => rfl)))
    (pss_cons (ps_expr (pe_bm PySem.F.plainAttrs_list PySem.F.slot_list_remove PySem.F.type_list_remove mt_removeS (pv 5) (pa_cons (pv 11) pa_nil)))
    (pss_one (ps_expr (pe_bm PySem.F.plainAttrs_list PySem.F.slot_list_append PySem.F.type_list_append mt_append (pv 6) (pa_cons (pe_tup (pa_cons pe_str (pa_cons (pv 11) pa_nil))) pa_nil))))))))))
    (pss_one (ps_ret (pe_tup (pa_cons pe_str (pa_cons pe_int (pa_cons (pe_ix ix_list (pe_ix ix_list (pv 1) pe_int (fun _ _ => rfl)) (pe_call G_l_take (hr.mono (by decide)) (by rfl) D_l_take.g D_l_take.F.kp D_l_take.b .nil pass0 (pa_cons (pv 0) (pa_cons pe_int pa_nil))) (fun _ _ => rfl)) (pa_cons (pv 2) (pa_cons (pe_callTy call_tuple_of (by rfl) T.n_tuple (by decide +kernel) (pa_cons (pv 6) pa_nil)) pa_nil)))))))))))), ?_⟩
    obtain ⟨xk, ek, dk⟩ := st.cx.k
    have hxk : xk.length = x.kn.length := by rw [dpa_len dk, List.length_map]
    have hkp : 0 < x.kn.length := List.length_pos_iff.mpr hkn
    refine ⟨_, rfl, a.c, _, _, _, rfl, rfl, SqL.of st.cx.c, atI_nat (j := 2) rfl, _, rfl, _, rfl, a.c, _, _, _, rfl, rfl, SqL.of st.cx.c, atI_nat (j := 2) rfl, a.Kd, _, rfl, .inl (SqL.of ek), h, d, ds, _, rfl, by omega, st.hd, fun r1 H2 q0 q1 b2 hd2 _ => ?_⟩
    have st2 := st.but b2 hd2
    have ek2 := b2 _ _ (st.cx.hand_ne st.hd a.Kd (by simp)) ek
    have hj : r1.toNat < x.kn.length := by omega
    obtain ⟨v, gv, dv⟩ := dp_mem dk hj
    have hmk := List.getElem_mem hj
    have hps1 := hps _ hmk
    generalize x.kn[r1.toNat] = kk at dv hmk hps1
    have dv := st.hd.dp b2 kk.noL dv
    obtain ⟨t, us, rfl, ht, ha⟩ := dp_tup_inv dv
    obtain ⟨v1, vr, rfl, m1, hb⟩ : ∃ v1 vr, us = v1 :: vr ∧ Dp K H2 v1 (.str kk.nm) ∧ DpAll K H2 vr [psE kk.ps, .tuple (kk.mv.map .str)] := by
      cases ha with
      | cons h1 h2 => exact ⟨_, _, rfl, h1, h2⟩
    cases dp_str_inv m1
    obtain ⟨v2, v3, rfl, m2, m3⟩ := dpa2 hb
    refine ⟨a.Kd, _, _, _, rfl, rfl, SqL.of ek2, at_nat (j := r1.toNat) (by omega) gv, t, _, rfl, ht, rfl, _, _, rfl, _, _, rfl, _, _, rfl, rfl, ?_⟩
    refine ⟨_, rfl, a.c, _, _, _, rfl, rfl, SqL.of st2.cx.c, atI_nat (j := 0) rfl, a.L, _, rfl, .inl (SqL.of st2.cx.l), fun F nF => ?_⟩
    generalize hG3 : upd H2 F _ = H3
    obtain ⟨s3, eF⟩ := new_of nF hG3
    refine ⟨Nat.zero_le _, fun N nN => ?_⟩
    generalize hG4 : upd H3 N _ = H4
    obtain ⟨s4, eN⟩ := new_of nN hG4
    obtain ⟨tp, ys, rfl, htp, dyp⟩ := dp_tup_inv m2
    obtain ⟨tm, zs, rfl, htm, dzm⟩ := dp_tup_inv m3
    cases dpa_strs_inv dzm
    have hyl : ys.length = kk.ps.length := by rw [dpa_len dyp, List.length_map]
    have s34 := s3.trans s4
    have st4 := st2.same s34
    have b24 : But h H H4 := b2.trans (Same.but s34)
    have nFH : H2 F = none := nF
    have nNH : H2 N = none := s3.free nN
    have zl := st.cx.zl
    have nFh := hand_ne hd2 nF
    have nNh := hand_ne hd2 nNH
    have nFN : F ≠ N := ne_of_none eF nN
    have htp2 : ∀ {G : Hp}, But h H2 G → SqT K G tp ys := fun b => by
      obtain ⟨⟨i, e⟩, _, _⟩ := hd2
      exact Op_sqt e b htp
    have htm2 : ∀ {G : Hp}, But h H2 G → SqT K G tm (kk.mv.map V.str) := fun b => by
      obtain ⟨⟨i, e⟩, _, _⟩ := hd2
      exact Op_sqt e b htm
    refine ⟨_, rfl, tp, rfl, ⟨_, htp2 (Same.but s34)⟩, ?_⟩
    refine for_tup (K := K) (a := tp) (xs := ys) (fun i σ G => ∃ (y7 y8 y9 y10 y11 : Option V) (fr : List PySem.Str) (xs : List V) (as : List Ar), σ = [some (.ref h), some (.ref a.c), some (.str kk.nm), some (.ref tp), some (.ref tm), some (.ref F), some (.ref N), y7, y8, y9, y10, y11] ∧ But h H2 G ∧ St8 K G h d ds a x r ∧ G F = some (.lst (fr.map V.str)) ∧ fr.length ≤ 10 ∧ (∀ z, z ∈ fr → z ∈ x.ls) ∧ G N = some (.lst xs) ∧ DpAll K G xs (as.map Ar.enc) ∧ ArOk x.ls as kk.ps i) ⟨_, _, _, _, _, x.ls, [], [], rfl, Same.but s34, st4, s4 _ _ eF, zl, fun _ h => h, eN, .nil, rfl, fun j q hj => absurd hj (Nat.not_lt_zero _), fun _ h => (List.not_mem_nil h).elim, fun _ h => (List.not_mem_nil h).elim⟩ (fun i σ G _ hP => ?_) (fun i y σ G hy hP => ?_) (fun σ G hP => ?_)
    · obtain ⟨_, _, _, _, _, _, _, _, _, bG, _⟩ := hP
      exact htp2 bG
    · obtain ⟨y7, y8, y9, y10, y11, fr, xs, as, rfl, bG, stG, eF, zf, hfr, eN, dN, ao⟩ := hP
      have hi : i < kk.ps.length := by
        rw [← hyl]
        exact (List.getElem?_eq_some_iff.mp hy).1
      obtain ⟨v', g1, dy⟩ := dp_mem dyp hi
      rw [hy] at g1
      cases g1
      have hpi := List.getElem?_eq_getElem hi
      generalize kk.ps[i] = pq at dy hpi
      obtain ⟨pn, pb⟩ := pq
      have dyG := hd2.dp bG (show noL (.tuple [.str pn, .bool pb]) = true from rfl) dy
      obtain ⟨t2, w1, w2, rfl, ht2, n1, n2⟩ := dp_inv2 dyG
      cases dp_str_inv n1
      obtain rfl : w2 = .bl pb := by
        cases n2
        rfl
      have hal : as.length = i := ao.len
      have hxl : xs.length = i := by rw [dpa_len dN, List.length_map, hal]
      refine ⟨t2, _, rfl, ht2, rfl, _, _, rfl, _, _, rfl, rfl, ?_⟩
      refine ⟨_, rfl, pb, rfl, ?_⟩
      cases pb with
      | false =>
        refine iteT ⟨_, rfl, .inl ⟨rfl, _, SqL.of eN⟩, _, rfl, _, rfl, h, d, ds, a, x, r, rfl, stG, fun v3 G3 b3 st3 o3 => ?_⟩
        have eN3 := b3 _ _ nNh eN
        refine ⟨N, _, _, rfl, rfl, eN3, small_sz5 (by omega), ?_⟩
        obtain ⟨z, es, o4, o5, o6⟩ := o3
        have dN3 : DpAll K G3 xs (as.map Ar.enc) := by
          obtain ⟨⟨i, e⟩, _, _⟩ := stG.hd
          exact dpa_but e b3 _ _ (ars_noL ao.ok) dN
        have bb : But h H2 (upd G3 N (.lst (xs ++ [v3]))) := (bG.trans b3).new nNH
        have ao2 := ao.snoc (b := .pl z es) (fun q hq ht => by
          rw [hpi] at hq
          cases hq
          cases ht) (fun z hz => by cases hz) ⟨o6, o5⟩
        refine ⟨_, _, _, _, _, fr, xs ++ [v3], as ++ [.pl z es], rfl, bb, st2.but bb (st3.hd.upd nNh (hand_ne2 hd2 nNH)), (upd_ne nFN).trans (b3 _ _ nFh eF), zf, hfr, upd_same, ?_, ao2⟩
        refine dpa_but eN3 (fun b o hb e => (upd_ne hb).trans e) _ _ (ars_noL ao2.ok) ?_
        rw [List.map_append]
        exact dpa_snoc dN3 o4
      | true =>
        refine iteF ⟨_, rfl, F, rfl, ⟨_, SqL.of eF⟩, fun D nD => ?_⟩
        refine lc_list (K := K) (a := F) (xs := fr.map V.str) (fun j J => Same G J ∧ ∃ gs : List PySem.Str, J D = some (.lst (gs.map V.str)) ∧ gs.length ≤ j ∧ ∀ z, z ∈ gs → z ∈ fr) ⟨same_new nD, [], upd_same, Nat.le_refl _, fun _ h => (List.not_mem_nil h).elim⟩ (fun j J _ hP => SqL.of (hP.1 _ _ eF)) (fun j y J hy hP => ?_) (fun J hP => ?_)
        · obtain ⟨sJ, gs, eD, gl, gf⟩ := hP
          rw [List.getElem?_map] at hy
          obtain ⟨z, hz, rfl⟩ := Option.map_eq_some_iff.mp hy
          have hzm := List.mem_of_getElem? hz
          have hjl : j < fr.length := (List.getElem?_eq_some_iff.mp hz).1
          have add : Same G (upd J D (.lst (gs.map V.str ++ [.str z]))) ∧ ∃ gs' : List PySem.Str, (upd J D (.lst (gs.map V.str ++ [.str z]))) D = some (.lst (gs'.map V.str)) ∧ gs'.length ≤ j + 1 ∧ ∀ z, z ∈ gs' → z ∈ fr := by
            refine ⟨same_mut sJ nD, gs ++ [z], by rw [upd_same, List.map_append]; rfl, by rw [List.length_append, List.length_singleton]; omega, fun y hy => ?_⟩
            rcases List.mem_append.mp hy with hy | hy
            · exact gf y hy
            · rw [List.mem_singleton.mp hy]
              exact hzm
          have zd : (gs.map V.str).length < sizeLine := small_sz5 (by rw [List.length_map]; omega)
          refine ⟨rfl, _, rfl, _, rfl, tm, _, rfl, .inr (htm2 (bG.trans (Same.but sJ))), rfl, flat_strs _, _, rfl, ite2 (fun e => ?_) (fun e => ?_)⟩
          · refine iteT ?_
            exact ⟨_, rfl, _, eD, zd, add⟩
          · have stJ := stG.same sJ
            refine ⟨_, rfl, _, rfl, a.c, _, _, _, rfl, rfl, SqL.of stJ.cx.c, atI_nat (j := 4) rfl, a.Mv, _, rfl, .inl (SqL.of stJ.cx.m), rfl, flat_strs _, _, rfl, ite2 (fun e => ?_) (fun e => ?_)⟩
            · exact ⟨_, rfl, _, eD, zd, add⟩
            · exact ⟨sJ, gs, eD, by omega, gf⟩
        · obtain ⟨sJ, gs, eD, gl, gf⟩ := hP
          rw [List.length_map] at gl
          have stJ := stG.same sJ
          have bJ : But h H2 J := bG.trans (Same.but sJ)
          refine ⟨_, rfl, D, _, rfl, .inl (SqL.of eD), rfl, _, rfl, ite2 (fun c => ?_) (fun c => ?_)⟩
          · exact ⟨by show 2 ≤ sizeLine; decide, fun t7 n7 => fin_st q (by decide +kernel) (b2.trans bJ) stJ (fun _ _ => .nil) n7⟩
          · have hlp : 0 < gs.length := by
              refine Nat.pos_of_ne_zero fun e => ?_
              have := of_decide_eq_false (Bool.eq_false_iff.mpr c)
              rw [List.length_map, e] at this
              exact this rfl
            refine ⟨_, rfl, _, rfl, _, rfl, D, _, rfl, .inl (SqL.of eD), h, d, ds, _, rfl, by rw [List.length_map]; omega, stJ.hd, fun r5 H5 q0 q1 b5 hd5 _ => ?_⟩
            rw [List.length_map] at q1
            obtain ⟨v, hv, e⟩ := atI_in (xs := gs.map V.str) (i := r5) q0 (by rw [List.length_map]; exact q1)
            obtain ⟨z, hz, rfl⟩ := List.mem_map.mp hv
            have nDh : D ≠ h := hand_ne stG.hd nD
            refine ⟨D, _, _, _, rfl, rfl, SqL.of (b5 _ _ nDh eD), e, ?_⟩
            have eF5 := b5 _ _ nFh (sJ _ _ eF)
            refine ⟨_, rfl, .inl ⟨rfl, _, SqL.of eF5⟩, _, rfl, F, fr, z, rfl, rfl, eF5, gf z hz, fun us u1 u2 => ?_⟩
            have eN5 := b5 _ _ nNh (sJ _ _ eN)
            have dN5 : DpAll K H5 xs (as.map Ar.enc) := by
              obtain ⟨⟨i, e⟩, _, _⟩ := stJ.hd
              exact dpa_but e b5 _ _ (ars_noL ao.ok) (dpa_same sJ _ _ dN)
            have b6 : But h H2 (upd H5 F (.lst (us.map V.str))) := (bJ.trans b5).new nFH
            have eN6 : (upd H5 F (.lst (us.map V.str))) N = some (.lst xs) := (upd_ne nFN.symm).trans eN5
            have eF6 : (upd H5 F (.lst (us.map V.str))) F = some (.lst (us.map V.str)) := upd_same
            have dN6 : DpAll K (upd H5 F (.lst (us.map V.str))) xs (as.map Ar.enc) := dpa_but eF5 (fun b o hb e => (upd_ne hb).trans e) _ _ (ars_noL ao.ok) dN5
            have hd6 : Hand (upd H5 F (.lst (us.map V.str))) h d ds := hd5.upd nFh (hand_ne2 hd2 nFH)
            generalize upd H5 F (.lst (us.map V.str)) = H6 at b6 eN6 eF6 dN6 hd6
            refine ⟨_, rfl, .inl ⟨rfl, _, SqL.of eN6⟩, _, rfl, by show 2 ≤ sizeLine; decide, fun t7 n7 => ?_⟩
            generalize hG7 : upd H6 t7 _ = H7
            obtain ⟨s7, e7⟩ := new_of n7 hG7
            have eN7 := s7 _ _ eN6
            refine ⟨N, _, _, rfl, rfl, eN7, small_sz5 (by omega), ?_⟩
            have bb : But h H2 (upd H7 N (.lst (xs ++ [.ref t7]))) := (b6.trans (Same.but s7)).new nNH
            have ao2 := ao.snoc (b := .ls z) (fun q hq ht => ⟨z, rfl⟩) (fun y hy => by
              cases hy
              exact hfr z (gf z hz)) trivial
            refine ⟨_, _, _, _, _, us, xs ++ [.ref t7], as ++ [.ls z], rfl, bb, st2.but bb ((hd6.same s7).upd nNh (hand_ne2 hd2 nNH)), (upd_ne nFN).trans (s7 _ _ eF6), by omega, fun y hy => hfr y (u1 y hy), upd_same, ?_, ao2⟩
            refine dpa_but eN7 (fun b o hb e => (upd_ne hb).trans e) _ _ (ars_noL ao2.ok) ?_
            rw [List.map_append]
            exact dpa_snoc (dpa_same s7 _ _ dN6) (dp_tup2 e7 (.str _) (.str _))
    · obtain ⟨y7, y8, y9, y10, y11, fr, xs, as, rfl, bG, stG, eF, zf, hfr, eN, dN, ao⟩ := hP
      rw [hyl] at ao
      have hal : as.length = kk.ps.length := ao.len
      refine ⟨_, rfl, a.c, _, _, _, rfl, rfl, SqL.of stG.cx.c, atI_nat (j := 3) rfl, _, rfl, h, d, ds, 2, rfl, by decide, stG.hd, fun r5 H5 q0 q1 b5 hd5 _ => ?_⟩
      have st5 := stG.but b5 hd5
      obtain ⟨v, hv, e⟩ := atI_in (xs := [.str x.c5, .str x.c6]) (i := r5) q0 (by show _ < (2 : Int); omega)
      obtain ⟨yy, rfl⟩ : ∃ yy, v = .str yy := by
        simp only [List.mem_cons, List.not_mem_nil, or_false] at hv
        rcases hv with rfl | rfl <;> exact ⟨_, rfl⟩
      have hN5 := b5 _ _ nNh eN
      have dN5 := (by
        obtain ⟨⟨i, e⟩, _, _⟩ := stG.hd
        exact dpa_but e b5 _ _ (ars_noL ao.ok) dN : DpAll K H5 xs (as.map Ar.enc))
      refine ⟨a.Cn, _, _, _, rfl, rfl, SqL.of st5.cx.cn, e, _, rfl, _, rfl, N, xs, rfl, .inl ⟨SqL.of hN5, fun tt nt => ?_⟩⟩
      generalize hG6 : upd H5 tt _ = H6
      obtain ⟨s6, e6⟩ := new_of nt hG6
      refine ⟨by show 5 ≤ sizeLine; decide, fun t7 n7 => ?_⟩
      generalize hG7 : upd H6 t7 _ = H7
      obtain ⟨s7, e7⟩ := new_of n7 hG7
      have d6 : Dp K H7 (.ref tt) (.tuple (as.map Ar.enc)) := .tup (SqT.of (s7 _ _ e6)) (dpa_same (s6.trans s7) _ _ dN5)
      exact q _ (.cal 0 yy kk.nm as) H7 (b2.trans (bG.trans (b5.trans (Same.but (s6.trans s7))))) (st5.same (s6.trans s7)) (.tup (SqT.of e7) (.cons (.str _) (.cons (.int _) (.cons (.str _) (.cons (.str _) (.cons d6 .nil)))))) ao.ok ⟨⟨kk, hmk, rfl, hal, fun j p hj ht => ao.fit j p (by exact (List.getElem?_eq_some_iff.mp hj).1) hj ht⟩, ao.ls⟩
end
end SW

namespace SW
open PySem PySem.Spec PyProof.Rows L2
abbrev s_l_gen_simple : Stmt := topS 25
theorem sc_l_gen_simple : FnScope ["hand", "ctx", "kind", "name", "low", "high"] ["hand", "ctx"] (defScope s_l_gen_simple) := ⟨rfl, rfl, rfl, by decide +kernel, rfl, by decide +kernel, by decide +kernel⟩

section
variable {P : Program} {w : World} {K : PySem.W.Frag} {mg : PySem.Str → Option Value} {base : Heap}
theorem ok_l_simple (T : TxB mg) (D_l_gen_simple : Df K mg "_law_gen_simple" s_l_gen_simple ["hand", "ctx"]) (D_l_gen_call : Df K mg "_law_gen_call" s_l_gen_call ["hand", "ctx"]) (D_l_gen_term : Df K mg "_law_gen_term" s_l_gen_term ["hand", "ctx"]) (D_l_gen_index : Df K mg "_law_gen_index" s_l_gen_index ["hand", "ctx", "name"]) (D_l_gen_plain : Df K mg "_law_gen_plain" s_l_gen_plain ["hand", "ctx"]) (D_l_take : Df K mg "_law_take" s_l_take ["hand", "many"]) : FnOk P w K mg base CX0 5 D_l_gen_simple.f D_l_gen_simple.fd ["hand", "ctx"] (spS K fun _ => True) := by
  have G_l_take := ok_l_take (P := P) (w := w) (K := K) (base := base) T D_l_take
  have G_l_gen_plain := ok_l_plain (P := P) (w := w) (K := K) (base := base) T D_l_gen_plain D_l_take
  have G_l_gen_index := ok_l_index (P := P) (w := w) (K := K) (base := base) T D_l_gen_index D_l_gen_plain D_l_take
  have G_l_gen_term := ok_l_term (P := P) (w := w) (K := K) (base := base) T D_l_gen_term D_l_gen_index D_l_gen_plain D_l_take
  have G_l_gen_call := ok_l_call (P := P) (w := w) (K := K) (base := base) T D_l_gen_call D_l_gen_plain D_l_take
  refine D_l_gen_simple.F.ok sc_l_gen_simple (fun vs H Q E h => ?_) (fun cdv A outer s H vs Q E hr h => ?_)
  · obtain ⟨h, d, ds, a, x, r, rfl, _⟩ := h
    rfl
  · obtain ⟨h, d, ds, a, x, r, rfl, st, _, hps, q⟩ := h
    refine ⟨_, (pss_cons (ps_set (i := 2) sc_l_gen_simple.nd rfl (.inl rfl) (pe_call G_l_take (hr.mono (by decide)) (by rfl) D_l_take.g D_l_take.F.kp D_l_take.b .nil pass0 (pa_cons (pv 0) (pa_cons pe_int pa_nil))))
    (pss_cons (ps_if (PW.pt (pw_and (pt_cmpR op_lt (pv 2) pe_int (nomark _)) (pw_and1 (pt_cmpR op_gt (pe_callB call_len_seq (by rfl) T.n_len PySem.boot_len (pa_cons (pe_ix ix_list (pv 1) pe_int (fun _ _ => rfl)) pa_nil)) pe_int (nomark _)))))
    (pss_one (ps_ret (pe_call G_l_gen_call (hr.mono (by decide)) (by rfl) D_l_gen_call.g D_l_gen_call.F.kp D_l_gen_call.b .nil pass0 (pa_cons (pv 0) (pa_cons (pv 1) pa_nil)))))
    pss_nil)
    (pss_cons (ps_if (PW.pt (pw_and (pt_cmpR op_lt (pv 2) pe_int (nomark _)) (pw_and1 (pt_cmpR op_gt (pe_callB call_len_seq (by rfl) T.n_len PySem.boot_len (pa_cons (pe_ix ix_list (pv 1) pe_int (fun _ _ => rfl)) pa_nil)) pe_int (nomark _)))))
    (pss_cons (ps_set (i := 3) sc_l_gen_simple.nd rfl (.inl rfl) (pe_ix ix_list (pe_ix ix_list (pv 1) pe_int (fun _ _ => rfl)) (pe_call G_l_take (hr.mono (by decide)) (by rfl) D_l_take.g D_l_take.F.kp D_l_take.b .nil pass0 (pa_cons (pv 0) (pa_cons (pe_callB call_len_seq (by rfl) T.n_len PySem.boot_len (pa_cons (pe_ix ix_list (pv 1) pe_int (fun _ _ => rfl)) pa_nil)) pa_nil))) (fun _ _ => rfl)))
    (pss_cons (ps_if (PW.pt (pw_or (pt_cmpR op_eq (pv 2) pe_int (nomark _)) (pw_or1 (pt_cmpR op_in_seq (pv 3) (pe_ix ix_list (pv 1) pe_int (fun _ _ => rfl)) (by rfl)))))
    (pss_one (ps_ret (pe_tup (pa_cons pe_str (pa_cons pe_int (pa_cons (pv 3) (pa_cons (pe_call G_l_gen_index (hr.mono (by decide)) (by rfl) D_l_gen_index.g D_l_gen_index.F.kp D_l_gen_index.b .nil pass0 (pa_cons (pv 0) (pa_cons (pv 1) (pa_cons (pv 3) pa_nil)))) (pa_cons (pe_call G_l_gen_index (hr.mono (by decide)) (by rfl) D_l_gen_index.g D_l_gen_index.F.kp D_l_gen_index.b .nil pass0 (pa_cons (pv 0) (pa_cons (pv 1) (pa_cons (pv 3) pa_nil)))) pa_nil))))))))
    pss_nil)
    (pss_one (ps_ret (pe_tup (pa_cons pe_str (pa_cons pe_int (pa_cons (pv 3) (pa_cons (pe_call G_l_gen_index (hr.mono (by decide)) (by rfl) D_l_gen_index.g D_l_gen_index.F.kp D_l_gen_index.b .nil pass0 (pa_cons (pv 0) (pa_cons (pv 1) (pa_cons (pv 3) pa_nil)))) (pa_cons (pe_call G_l_gen_term (hr.mono (by decide)) (by rfl) D_l_gen_term.g D_l_gen_term.F.kp D_l_gen_term.b .nil pass0 (pa_cons (pv 0) (pa_cons (pv 1) pa_nil))) pa_nil))))))))))
    pss_nil)
    (pss_cons (ps_if (pt_cmpR op_eq (pv 2) pe_int (nomark _))
    (pss_cons (ps_set (i := 4) sc_l_gen_simple.nd rfl (.inl rfl) (pe_ix ix_list (pe_lst (pa_cons (pe_tup (pa_cons pe_str (pa_cons (pe_op op_sub (pe_call G_l_take (hr.mono (by decide)) (by rfl) D_l_take.g D_l_take.F.kp D_l_take.b .nil pass0 (pa_cons (pv 0) (pa_cons pe_int pa_nil))) pe_int) pa_nil))) (pa_cons (pe_call G_l_gen_plain (hr.mono (by decide)) (by rfl) D_l_gen_plain.g D_l_gen_plain.F.kp D_l_gen_plain.b .nil pass0 (pa_cons (pv 0) (pa_cons (pv 1) pa_nil))) pa_nil))) (pe_op op_fdiv (pe_call G_l_take (hr.mono (by decide)) (by rfl) D_l_take.g D_l_take.F.kp D_l_take.b .nil pass0 (pa_cons (pv 0) (pa_cons pe_int pa_nil))) pe_int) (fun _ _ => rfl)))
    (pss_cons (ps_set (i := 5) sc_l_gen_simple.nd rfl (.inl rfl) (pe_ix ix_list (pe_lst (pa_cons (pe_tup (pa_cons pe_str (pa_cons (pe_op op_add pe_int (pe_call G_l_take (hr.mono (by decide)) (by rfl) D_l_take.g D_l_take.F.kp D_l_take.b .nil pass0 (pa_cons (pv 0) (pa_cons pe_int pa_nil)))) pa_nil))) (pa_cons (pe_call G_l_gen_plain (hr.mono (by decide)) (by rfl) D_l_gen_plain.g D_l_gen_plain.F.kp D_l_gen_plain.b .nil pass0 (pa_cons (pv 0) (pa_cons (pv 1) pa_nil))) pa_nil))) (pe_op op_fdiv (pe_call G_l_take (hr.mono (by decide)) (by rfl) D_l_take.g D_l_take.F.kp D_l_take.b .nil pass0 (pa_cons (pv 0) (pa_cons pe_int pa_nil))) pe_int) (fun _ _ => rfl)))
    (pss_one (ps_ret (pe_tup (pa_cons pe_str (pa_cons pe_int (pa_cons (pe_ix ix_list (pe_ix ix_list (pv 1) pe_int (fun _ _ => rfl)) (pe_call G_l_take (hr.mono (by decide)) (by rfl) D_l_take.g D_l_take.F.kp D_l_take.b .nil pass0 (pa_cons (pv 0) (pa_cons pe_int pa_nil))) (fun _ _ => rfl)) (pa_cons (pv 4) (pa_cons (pv 5) pa_nil))))))))))
    pss_nil)
    (pss_cons (ps_if (pt_cmpR op_eq (pv 2) pe_int (nomark _))
    (pss_one (ps_ret (pe_tup (pa_cons pe_str (pa_cons pe_int pa_nil)))))
    pss_nil)
    (pss_one (ps_ret (pe_tup (pa_cons pe_str (pa_cons pe_int (pa_cons (pe_ix ix_list (pe_ix ix_list (pv 1) pe_int (fun _ _ => rfl)) (pe_call G_l_take (hr.mono (by decide)) (by rfl) D_l_take.g D_l_take.F.kp D_l_take.b .nil pass0 (pa_cons (pv 0) (pa_cons pe_int pa_nil))) (fun _ _ => rfl)) (pa_cons (pe_call G_l_gen_term (hr.mono (by decide)) (by rfl) D_l_gen_term.g D_l_gen_term.F.kp D_l_gen_term.b .nil pass0 (pa_cons (pv 0) (pa_cons (pv 1) pa_nil))) pa_nil)))))))))))), ?_⟩
    refine ⟨_, rfl, h, d, ds, 9, rfl, by decide, st.hd, fun k H2 k0 k1 b2 hd2 _ => ?_⟩
    have st2 := st.but b2 hd2
    obtain ⟨xk, ek, dk⟩ := st2.cx.k
    have hxk : xk.length = x.kn.length := by rw [dpa_len dk, List.length_map]
    have zl := st.cx.zl
    -- the rest behind the first two tests
    have nm : ∀ {j : Int} {v : V} {i : Nat}, V.int j = v → v = V.int i → j = i := fun h1 h2 => V.int.inj (h1.trans h2)
    refine ⟨_, rfl, _, _, rfl, rfl, _, rfl, ite2 (fun c1 => ⟨_, rfl, a.c, _, _, _, rfl, rfl, SqL.of st2.cx.c, atI_nat (j := 2) rfl, a.Kd, _, rfl, .inl (SqL.of ek), _, _, rfl, rfl, _, rfl, ite2 (fun c2 => ?_) (fun c2 => ?_)⟩) (fun c1 => ?_)⟩
    · have hk2 := of_decide_eq_true c2
      refine ⟨_, rfl, _, rfl, h, d, ds, a, x, r, rfl, st2, fun e => ?_, hps, fun v s H3 b3 st3 d3 o3 m3 => q v s H3 (b2.trans b3) st3 d3 o3 m3⟩
      rw [e] at hxk
      rw [hxk] at hk2
      exact absurd hk2 (by decide)
    · refine ⟨_, rfl, _, _, rfl, rfl, _, rfl, ite2 (fun c3 => ⟨_, rfl, a.c, _, _, _, rfl, rfl, SqL.of st2.cx.c, atI_nat (j := 0) rfl, a.L, _, rfl, .inl (SqL.of st2.cx.l), _, _, rfl, rfl, _, rfl, ite2 (fun c4 => ?_) (fun c4 => ?_)⟩) (fun c3 => ?_)⟩
      · have hlp : 0 < x.ls.length := by
          have := of_decide_eq_true c4
          rw [List.length_map] at this
          omega
        refine ⟨_, rfl, a.c, _, _, _, rfl, rfl, SqL.of st2.cx.c, atI_nat (j := 0) rfl, _, rfl, _, rfl, a.c, _, _, _, rfl, rfl, SqL.of st2.cx.c, atI_nat (j := 0) rfl, a.L, _, rfl, .inl (SqL.of st2.cx.l), h, d, ds, _, rfl, by rw [List.length_map]; omega, st2.hd, fun r3 H3 q0 q1 b3 hd3 _ => ?_⟩
        rw [List.length_map] at q1
        have st3 := st2.but b3 hd3
        obtain ⟨v, hv, e⟩ := atI_in (xs := x.ls.map V.str) (i := r3) q0 (by rw [List.length_map]; exact q1)
        obtain ⟨z, hz, rfl⟩ := List.mem_map.mp hv
        have b23 := b2.trans b3
        refine ⟨a.L, _, _, _, rfl, rfl, SqL.of st3.cx.l, e, ?_⟩
        refine ⟨_, rfl, rfl, _, rfl, ite2 (fun c8 => ?_) (fun c8 => ⟨_, rfl, _, rfl, a.c, _, _, _, rfl, rfl, SqL.of st3.cx.c, atI_nat (j := 4) rfl, a.Mv, _, rfl, .inl (SqL.of st3.cx.m), rfl, flat_strs _, _, rfl, ite2 (fun c9 => ?_) (fun c9 => ?_)⟩)⟩
        · refine iteT ?_
          refine ⟨_, rfl, _, rfl, _, rfl, _, rfl, h, d, ds, a, x, r, z, rfl, st3, fun v4 H4 b4 st4 o4 => ?_⟩
          refine ⟨_, rfl, _, rfl, _, rfl, h, d, ds, a, x, r, z, rfl, st4, fun v5 H5 b5 st5 o5 => ?_⟩
          exact ⟨by show 5 ≤ sizeLine; decide, fun tz nz => fin_lst q (.inr rfl) hz (b23.trans (b4.trans b5)) st5 (fun _ s => .cons ((o4.hand st4.hd b5).same s) (.cons (o5.same s) .nil)) nz⟩
        · refine ⟨_, rfl, _, rfl, _, rfl, _, rfl, h, d, ds, a, x, r, z, rfl, st3, fun v4 H4 b4 st4 o4 => ?_⟩
          refine ⟨_, rfl, _, rfl, _, rfl, h, d, ds, a, x, r, z, rfl, st4, fun v5 H5 b5 st5 o5 => ?_⟩
          exact ⟨by show 5 ≤ sizeLine; decide, fun tz nz => fin_lst q (.inr rfl) hz (b23.trans (b4.trans b5)) st5 (fun _ s => .cons ((o4.hand st4.hd b5).same s) (.cons (o5.same s) .nil)) nz⟩
        · refine ⟨_, rfl, _, rfl, _, rfl, _, rfl, h, d, ds, a, x, r, z, rfl, st3, fun v4 H4 b4 st4 o4 => ?_⟩
          refine ⟨_, rfl, _, rfl, h, d, ds, a, x, r, rfl, st4, fun v5 H5 b5 st5 o5 => ?_⟩
          exact ⟨by show 5 ≤ sizeLine; decide, fun tz nz => fin_lst q (.inl rfl) hz (b23.trans (b4.trans b5)) st5 (fun _ s => .cons ((o4.hand st4.hd b5).same s) (.cons (o5.same s) .nil)) nz⟩
      · refine ⟨_, rfl, rfl, _, rfl, ite2 (fun c5 => ?_) (fun c5 => ⟨_, rfl, rfl, _, rfl, ite2 (fun c6 => ?_) (fun c6 => ?_)⟩)⟩
        · refine ⟨_, rfl, h, d, ds, 3, rfl, by decide, st2.hd, fun r1 A1 _ _ ba1 hda1 _ => ⟨_, _, rfl, rfl, by show 2 ≤ sizeLine; decide, fun t1 n1 => ?_⟩⟩
          generalize hGB1 : upd A1 t1 _ = B1
          obtain ⟨sB1, eB1⟩ := new_of n1 hGB1
          have stB1 := (st2.but ba1 hda1).same sB1
          have oB1 : Op K B1 (.ref t1) := .tup eB1 (.cons (.str _) (.cons (.int _) .nil))
          refine ⟨_, rfl, _, rfl, h, d, ds, a, x, r, rfl, stB1, fun v1 C1 bC1 stC1 oC1 => ⟨by show 2 ≤ sizeLine; decide, fun l1 m1 => ?_⟩⟩
          have oC1 := oC1.op
          generalize hGD1 : upd C1 l1 _ = D1
          obtain ⟨sD1, eD1⟩ := new_of m1 hGD1
          refine ⟨_, rfl, h, d, ds, 4, rfl, by decide, (stC1.same sD1).hd, fun r'1 E1 q01 q11 bE1 hdE1 _ => ?_⟩
          have stE1 := (stC1.same sD1).but bE1 hdE1
          obtain ⟨w1, hw1, e1⟩ := atI_in (xs := [.ref t1, v1]) (i := r'1 / 3) (by omega) (by show _ < (2 : Int); omega)
          have oW1 : Op K E1 w1 := by
            simp only [List.mem_cons, List.not_mem_nil, or_false] at hw1
            rcases hw1 with rfl | rfl
            · exact ((oB1.hand stB1.hd bC1).same sD1).hand (stC1.same sD1).hd bE1
            · exact (oC1.same sD1).hand (stC1.same sD1).hd bE1
          have bb1 := b2.trans (ba1.trans ((Same.but sB1).trans (bC1.trans ((Same.but sD1).trans bE1))))
          have bx1 := ba1.trans ((Same.but sB1).trans (bC1.trans ((Same.but sD1).trans bE1)))
          refine ⟨_, _, rfl, rfl, ⟨by decide, by decide⟩, l1, _, _, _, rfl, rfl, SqL.of (bE1 _ _ (hand_ne stC1.hd m1) eD1), e1, ?_⟩
          refine ⟨_, rfl, h, d, ds, 4, rfl, by decide, stE1.hd, fun r2 A2 _ _ ba2 hda2 _ => ⟨_, _, rfl, rfl, by show 2 ≤ sizeLine; decide, fun t2 n2 => ?_⟩⟩
          generalize hGB2 : upd A2 t2 _ = B2
          obtain ⟨sB2, eB2⟩ := new_of n2 hGB2
          have stB2 := (stE1.but ba2 hda2).same sB2
          have oB2 : Op K B2 (.ref t2) := .tup eB2 (.cons (.str _) (.cons (.int _) .nil))
          refine ⟨_, rfl, _, rfl, h, d, ds, a, x, r, rfl, stB2, fun v2 C2 bC2 stC2 oC2 => ⟨by show 2 ≤ sizeLine; decide, fun l2 m2 => ?_⟩⟩
          have oC2 := oC2.op
          generalize hGD2 : upd C2 l2 _ = D2
          obtain ⟨sD2, eD2⟩ := new_of m2 hGD2
          refine ⟨_, rfl, h, d, ds, 4, rfl, by decide, (stC2.same sD2).hd, fun r'2 E2 q02 q12 bE2 hdE2 _ => ?_⟩
          have stE2 := (stC2.same sD2).but bE2 hdE2
          obtain ⟨w2, hw2, e2⟩ := atI_in (xs := [.ref t2, v2]) (i := r'2 / 3) (by omega) (by show _ < (2 : Int); omega)
          have oW2 : Op K E2 w2 := by
            simp only [List.mem_cons, List.not_mem_nil, or_false] at hw2
            rcases hw2 with rfl | rfl
            · exact ((oB2.hand stB2.hd bC2).same sD2).hand (stC2.same sD2).hd bE2
            · exact (oC2.same sD2).hand (stC2.same sD2).hd bE2
          have bb2 := bb1.trans (ba2.trans ((Same.but sB2).trans (bC2.trans ((Same.but sD2).trans bE2))))
          have bx2 := ba2.trans ((Same.but sB2).trans (bC2.trans ((Same.but sD2).trans bE2)))
          refine ⟨_, _, rfl, rfl, ⟨by decide, by decide⟩, l2, _, _, _, rfl, rfl, SqL.of (bE2 _ _ (hand_ne stC2.hd m2) eD2), e2, ?_⟩
          refine ⟨_, rfl, a.c, _, _, _, rfl, rfl, SqL.of stE2.cx.c, atI_nat (j := 3) rfl, _, rfl, h, d, ds, 2, rfl, by decide, stE2.hd, fun r9 H9 q0 q1 b9 hd9 _ => ?_⟩
          have st9 := stE2.but b9 hd9
          obtain ⟨v, hv, e⟩ := atI_in (xs := [.str x.c5, .str x.c6]) (i := r9) q0 (by show _ < (2 : Int); omega)
          have ov : Op K H9 v := by
            simp only [List.mem_cons, List.not_mem_nil, or_false] at hv
            rcases hv with rfl | rfl <;> exact .str _
          have oW1 := (oW1.hand stE1.hd bx2).hand stE2.hd b9
          have oW2 := oW2.hand stE2.hd b9
          exact ⟨a.Cn, _, _, _, rfl, rfl, SqL.of st9.cx.cn, e, _, rfl, _, rfl, by show 5 ≤ sizeLine; decide, fun tz nz => fin_st q (by decide +kernel) (bb2.trans b9) st9 (fun _ s => .cons (ov.same s) (.cons (oW1.same s) (.cons (oW2.same s) .nil))) nz⟩
        · exact ⟨by show 2 ≤ sizeLine; decide, fun tz nz => fin_st q (by decide +kernel) b2 st2 (fun _ _ => .nil) nz⟩
        · refine ⟨_, rfl, a.c, _, _, _, rfl, rfl, SqL.of st2.cx.c, atI_nat (j := 3) rfl, _, rfl, h, d, ds, 2, rfl, by decide, st2.hd, fun r9 H9 q0 q1 b9 hd9 _ => ?_⟩
          have st9 := st2.but b9 hd9
          obtain ⟨v, hv, e⟩ := atI_in (xs := [.str x.c5, .str x.c6]) (i := r9) q0 (by show _ < (2 : Int); omega)
          have ov : ∀ {G : Hp}, Op K G v := by
            simp only [List.mem_cons, List.not_mem_nil, or_false] at hv
            rcases hv with rfl | rfl <;> exact .str _
          refine ⟨a.Cn, _, _, _, rfl, rfl, SqL.of st9.cx.cn, e, _, rfl, _, rfl, h, d, ds, a, x, r, rfl, st9, fun v4 H4 b4 st4 o4 => ?_⟩
          exact ⟨by show 4 ≤ sizeLine; decide, fun tz nz => fin_st q (by decide +kernel) (b2.trans (b9.trans b4)) st4 (fun _ s => .cons ov (.cons (o4.same s) .nil)) nz⟩
      · refine iteF ?_
        refine ⟨_, rfl, rfl, _, rfl, ite2 (fun c5 => ?_) (fun c5 => ⟨_, rfl, rfl, _, rfl, ite2 (fun c6 => ?_) (fun c6 => ?_)⟩)⟩
        · refine ⟨_, rfl, h, d, ds, 3, rfl, by decide, st2.hd, fun r1 A1 _ _ ba1 hda1 _ => ⟨_, _, rfl, rfl, by show 2 ≤ sizeLine; decide, fun t1 n1 => ?_⟩⟩
          generalize hGB1 : upd A1 t1 _ = B1
          obtain ⟨sB1, eB1⟩ := new_of n1 hGB1
          have stB1 := (st2.but ba1 hda1).same sB1
          have oB1 : Op K B1 (.ref t1) := .tup eB1 (.cons (.str _) (.cons (.int _) .nil))
          refine ⟨_, rfl, _, rfl, h, d, ds, a, x, r, rfl, stB1, fun v1 C1 bC1 stC1 oC1 => ⟨by show 2 ≤ sizeLine; decide, fun l1 m1 => ?_⟩⟩
          have oC1 := oC1.op
          generalize hGD1 : upd C1 l1 _ = D1
          obtain ⟨sD1, eD1⟩ := new_of m1 hGD1
          refine ⟨_, rfl, h, d, ds, 4, rfl, by decide, (stC1.same sD1).hd, fun r'1 E1 q01 q11 bE1 hdE1 _ => ?_⟩
          have stE1 := (stC1.same sD1).but bE1 hdE1
          obtain ⟨w1, hw1, e1⟩ := atI_in (xs := [.ref t1, v1]) (i := r'1 / 3) (by omega) (by show _ < (2 : Int); omega)
          have oW1 : Op K E1 w1 := by
            simp only [List.mem_cons, List.not_mem_nil, or_false] at hw1
            rcases hw1 with rfl | rfl
            · exact ((oB1.hand stB1.hd bC1).same sD1).hand (stC1.same sD1).hd bE1
            · exact (oC1.same sD1).hand (stC1.same sD1).hd bE1
          have bb1 := b2.trans (ba1.trans ((Same.but sB1).trans (bC1.trans ((Same.but sD1).trans bE1))))
          have bx1 := ba1.trans ((Same.but sB1).trans (bC1.trans ((Same.but sD1).trans bE1)))
          refine ⟨_, _, rfl, rfl, ⟨by decide, by decide⟩, l1, _, _, _, rfl, rfl, SqL.of (bE1 _ _ (hand_ne stC1.hd m1) eD1), e1, ?_⟩
          refine ⟨_, rfl, h, d, ds, 4, rfl, by decide, stE1.hd, fun r2 A2 _ _ ba2 hda2 _ => ⟨_, _, rfl, rfl, by show 2 ≤ sizeLine; decide, fun t2 n2 => ?_⟩⟩
          generalize hGB2 : upd A2 t2 _ = B2
          obtain ⟨sB2, eB2⟩ := new_of n2 hGB2
          have stB2 := (stE1.but ba2 hda2).same sB2
          have oB2 : Op K B2 (.ref t2) := .tup eB2 (.cons (.str _) (.cons (.int _) .nil))
          refine ⟨_, rfl, _, rfl, h, d, ds, a, x, r, rfl, stB2, fun v2 C2 bC2 stC2 oC2 => ⟨by show 2 ≤ sizeLine; decide, fun l2 m2 => ?_⟩⟩
          have oC2 := oC2.op
          generalize hGD2 : upd C2 l2 _ = D2
          obtain ⟨sD2, eD2⟩ := new_of m2 hGD2
          refine ⟨_, rfl, h, d, ds, 4, rfl, by decide, (stC2.same sD2).hd, fun r'2 E2 q02 q12 bE2 hdE2 _ => ?_⟩
          have stE2 := (stC2.same sD2).but bE2 hdE2
          obtain ⟨w2, hw2, e2⟩ := atI_in (xs := [.ref t2, v2]) (i := r'2 / 3) (by omega) (by show _ < (2 : Int); omega)
          have oW2 : Op K E2 w2 := by
            simp only [List.mem_cons, List.not_mem_nil, or_false] at hw2
            rcases hw2 with rfl | rfl
            · exact ((oB2.hand stB2.hd bC2).same sD2).hand (stC2.same sD2).hd bE2
            · exact (oC2.same sD2).hand (stC2.same sD2).hd bE2
          have bb2 := bb1.trans (ba2.trans ((Same.but sB2).trans (bC2.trans ((Same.but sD2).trans bE2))))
          have bx2 := ba2.trans ((Same.but sB2).trans (bC2.trans ((Same.but sD2).trans bE2)))
          refine ⟨_, _, rfl, rfl, ⟨by decide, by decide⟩, l2, _, _, _, rfl, rfl, SqL.of (bE2 _ _ (hand_ne stC2.hd m2) eD2), e2, ?_⟩
          refine ⟨_, rfl, a.c, _, _, _, rfl, rfl, SqL.of stE2.cx.c, atI_nat (j := 3) rfl, _, rfl, h, d, ds, 2, rfl, by decide, stE2.hd, fun r9 H9 q0 q1 b9 hd9 _ => ?_⟩
          have st9 := stE2.but b9 hd9
          obtain ⟨v, hv, e⟩ := atI_in (xs := [.str x.c5, .str x.c6]) (i := r9) q0 (by show _ < (2 : Int); omega)
          have ov : Op K H9 v := by
            simp only [List.mem_cons, List.not_mem_nil, or_false] at hv
            rcases hv with rfl | rfl <;> exact .str _
          have oW1 := (oW1.hand stE1.hd bx2).hand stE2.hd b9
          have oW2 := oW2.hand stE2.hd b9
          exact ⟨a.Cn, _, _, _, rfl, rfl, SqL.of st9.cx.cn, e, _, rfl, _, rfl, by show 5 ≤ sizeLine; decide, fun tz nz => fin_st q (by decide +kernel) (bb2.trans b9) st9 (fun _ s => .cons (ov.same s) (.cons (oW1.same s) (.cons (oW2.same s) .nil))) nz⟩
        · exact ⟨by show 2 ≤ sizeLine; decide, fun tz nz => fin_st q (by decide +kernel) b2 st2 (fun _ _ => .nil) nz⟩
        · refine ⟨_, rfl, a.c, _, _, _, rfl, rfl, SqL.of st2.cx.c, atI_nat (j := 3) rfl, _, rfl, h, d, ds, 2, rfl, by decide, st2.hd, fun r9 H9 q0 q1 b9 hd9 _ => ?_⟩
          have st9 := st2.but b9 hd9
          obtain ⟨v, hv, e⟩ := atI_in (xs := [.str x.c5, .str x.c6]) (i := r9) q0 (by show _ < (2 : Int); omega)
          have ov : ∀ {G : Hp}, Op K G v := by
            simp only [List.mem_cons, List.not_mem_nil, or_false] at hv
            rcases hv with rfl | rfl <;> exact .str _
          refine ⟨a.Cn, _, _, _, rfl, rfl, SqL.of st9.cx.cn, e, _, rfl, _, rfl, h, d, ds, a, x, r, rfl, st9, fun v4 H4 b4 st4 o4 => ?_⟩
          exact ⟨by show 4 ≤ sizeLine; decide, fun tz nz => fin_st q (by decide +kernel) (b2.trans (b9.trans b4)) st4 (fun _ s => .cons ov (.cons (o4.same s) .nil)) nz⟩
    · refine iteF ?_
      refine ⟨_, rfl, _, _, rfl, rfl, _, rfl, ite2 (fun c3 => ⟨_, rfl, a.c, _, _, _, rfl, rfl, SqL.of st2.cx.c, atI_nat (j := 0) rfl, a.L, _, rfl, .inl (SqL.of st2.cx.l), _, _, rfl, rfl, _, rfl, ite2 (fun c4 => ?_) (fun c4 => ?_)⟩) (fun c3 => ?_)⟩
      · have hlp : 0 < x.ls.length := by
          have := of_decide_eq_true c4
          rw [List.length_map] at this
          omega
        refine ⟨_, rfl, a.c, _, _, _, rfl, rfl, SqL.of st2.cx.c, atI_nat (j := 0) rfl, _, rfl, _, rfl, a.c, _, _, _, rfl, rfl, SqL.of st2.cx.c, atI_nat (j := 0) rfl, a.L, _, rfl, .inl (SqL.of st2.cx.l), h, d, ds, _, rfl, by rw [List.length_map]; omega, st2.hd, fun r3 H3 q0 q1 b3 hd3 _ => ?_⟩
        rw [List.length_map] at q1
        have st3 := st2.but b3 hd3
        obtain ⟨v, hv, e⟩ := atI_in (xs := x.ls.map V.str) (i := r3) q0 (by rw [List.length_map]; exact q1)
        obtain ⟨z, hz, rfl⟩ := List.mem_map.mp hv
        have b23 := b2.trans b3
        refine ⟨a.L, _, _, _, rfl, rfl, SqL.of st3.cx.l, e, ?_⟩
        refine ⟨_, rfl, rfl, _, rfl, ite2 (fun c8 => ?_) (fun c8 => ⟨_, rfl, _, rfl, a.c, _, _, _, rfl, rfl, SqL.of st3.cx.c, atI_nat (j := 4) rfl, a.Mv, _, rfl, .inl (SqL.of st3.cx.m), rfl, flat_strs _, _, rfl, ite2 (fun c9 => ?_) (fun c9 => ?_)⟩)⟩
        · refine iteT ?_
          refine ⟨_, rfl, _, rfl, _, rfl, _, rfl, h, d, ds, a, x, r, z, rfl, st3, fun v4 H4 b4 st4 o4 => ?_⟩
          refine ⟨_, rfl, _, rfl, _, rfl, h, d, ds, a, x, r, z, rfl, st4, fun v5 H5 b5 st5 o5 => ?_⟩
          exact ⟨by show 5 ≤ sizeLine; decide, fun tz nz => fin_lst q (.inr rfl) hz (b23.trans (b4.trans b5)) st5 (fun _ s => .cons ((o4.hand st4.hd b5).same s) (.cons (o5.same s) .nil)) nz⟩
        · refine ⟨_, rfl, _, rfl, _, rfl, _, rfl, h, d, ds, a, x, r, z, rfl, st3, fun v4 H4 b4 st4 o4 => ?_⟩
          refine ⟨_, rfl, _, rfl, _, rfl, h, d, ds, a, x, r, z, rfl, st4, fun v5 H5 b5 st5 o5 => ?_⟩
          exact ⟨by show 5 ≤ sizeLine; decide, fun tz nz => fin_lst q (.inr rfl) hz (b23.trans (b4.trans b5)) st5 (fun _ s => .cons ((o4.hand st4.hd b5).same s) (.cons (o5.same s) .nil)) nz⟩
        · refine ⟨_, rfl, _, rfl, _, rfl, _, rfl, h, d, ds, a, x, r, z, rfl, st3, fun v4 H4 b4 st4 o4 => ?_⟩
          refine ⟨_, rfl, _, rfl, h, d, ds, a, x, r, rfl, st4, fun v5 H5 b5 st5 o5 => ?_⟩
          exact ⟨by show 5 ≤ sizeLine; decide, fun tz nz => fin_lst q (.inl rfl) hz (b23.trans (b4.trans b5)) st5 (fun _ s => .cons ((o4.hand st4.hd b5).same s) (.cons (o5.same s) .nil)) nz⟩
      · refine ⟨_, rfl, rfl, _, rfl, ite2 (fun c5 => ?_) (fun c5 => ⟨_, rfl, rfl, _, rfl, ite2 (fun c6 => ?_) (fun c6 => ?_)⟩)⟩
        · refine ⟨_, rfl, h, d, ds, 3, rfl, by decide, st2.hd, fun r1 A1 _ _ ba1 hda1 _ => ⟨_, _, rfl, rfl, by show 2 ≤ sizeLine; decide, fun t1 n1 => ?_⟩⟩
          generalize hGB1 : upd A1 t1 _ = B1
          obtain ⟨sB1, eB1⟩ := new_of n1 hGB1
          have stB1 := (st2.but ba1 hda1).same sB1
          have oB1 : Op K B1 (.ref t1) := .tup eB1 (.cons (.str _) (.cons (.int _) .nil))
          refine ⟨_, rfl, _, rfl, h, d, ds, a, x, r, rfl, stB1, fun v1 C1 bC1 stC1 oC1 => ⟨by show 2 ≤ sizeLine; decide, fun l1 m1 => ?_⟩⟩
          have oC1 := oC1.op
          generalize hGD1 : upd C1 l1 _ = D1
          obtain ⟨sD1, eD1⟩ := new_of m1 hGD1
          refine ⟨_, rfl, h, d, ds, 4, rfl, by decide, (stC1.same sD1).hd, fun r'1 E1 q01 q11 bE1 hdE1 _ => ?_⟩
          have stE1 := (stC1.same sD1).but bE1 hdE1
          obtain ⟨w1, hw1, e1⟩ := atI_in (xs := [.ref t1, v1]) (i := r'1 / 3) (by omega) (by show _ < (2 : Int); omega)
          have oW1 : Op K E1 w1 := by
            simp only [List.mem_cons, List.not_mem_nil, or_false] at hw1
            rcases hw1 with rfl | rfl
            · exact ((oB1.hand stB1.hd bC1).same sD1).hand (stC1.same sD1).hd bE1
            · exact (oC1.same sD1).hand (stC1.same sD1).hd bE1
          have bb1 := b2.trans (ba1.trans ((Same.but sB1).trans (bC1.trans ((Same.but sD1).trans bE1))))
          have bx1 := ba1.trans ((Same.but sB1).trans (bC1.trans ((Same.but sD1).trans bE1)))
          refine ⟨_, _, rfl, rfl, ⟨by decide, by decide⟩, l1, _, _, _, rfl, rfl, SqL.of (bE1 _ _ (hand_ne stC1.hd m1) eD1), e1, ?_⟩
          refine ⟨_, rfl, h, d, ds, 4, rfl, by decide, stE1.hd, fun r2 A2 _ _ ba2 hda2 _ => ⟨_, _, rfl, rfl, by show 2 ≤ sizeLine; decide, fun t2 n2 => ?_⟩⟩
          generalize hGB2 : upd A2 t2 _ = B2
          obtain ⟨sB2, eB2⟩ := new_of n2 hGB2
          have stB2 := (stE1.but ba2 hda2).same sB2
          have oB2 : Op K B2 (.ref t2) := .tup eB2 (.cons (.str _) (.cons (.int _) .nil))
          refine ⟨_, rfl, _, rfl, h, d, ds, a, x, r, rfl, stB2, fun v2 C2 bC2 stC2 oC2 => ⟨by show 2 ≤ sizeLine; decide, fun l2 m2 => ?_⟩⟩
          have oC2 := oC2.op
          generalize hGD2 : upd C2 l2 _ = D2
          obtain ⟨sD2, eD2⟩ := new_of m2 hGD2
          refine ⟨_, rfl, h, d, ds, 4, rfl, by decide, (stC2.same sD2).hd, fun r'2 E2 q02 q12 bE2 hdE2 _ => ?_⟩
          have stE2 := (stC2.same sD2).but bE2 hdE2
          obtain ⟨w2, hw2, e2⟩ := atI_in (xs := [.ref t2, v2]) (i := r'2 / 3) (by omega) (by show _ < (2 : Int); omega)
          have oW2 : Op K E2 w2 := by
            simp only [List.mem_cons, List.not_mem_nil, or_false] at hw2
            rcases hw2 with rfl | rfl
            · exact ((oB2.hand stB2.hd bC2).same sD2).hand (stC2.same sD2).hd bE2
            · exact (oC2.same sD2).hand (stC2.same sD2).hd bE2
          have bb2 := bb1.trans (ba2.trans ((Same.but sB2).trans (bC2.trans ((Same.but sD2).trans bE2))))
          have bx2 := ba2.trans ((Same.but sB2).trans (bC2.trans ((Same.but sD2).trans bE2)))
          refine ⟨_, _, rfl, rfl, ⟨by decide, by decide⟩, l2, _, _, _, rfl, rfl, SqL.of (bE2 _ _ (hand_ne stC2.hd m2) eD2), e2, ?_⟩
          refine ⟨_, rfl, a.c, _, _, _, rfl, rfl, SqL.of stE2.cx.c, atI_nat (j := 3) rfl, _, rfl, h, d, ds, 2, rfl, by decide, stE2.hd, fun r9 H9 q0 q1 b9 hd9 _ => ?_⟩
          have st9 := stE2.but b9 hd9
          obtain ⟨v, hv, e⟩ := atI_in (xs := [.str x.c5, .str x.c6]) (i := r9) q0 (by show _ < (2 : Int); omega)
          have ov : Op K H9 v := by
            simp only [List.mem_cons, List.not_mem_nil, or_false] at hv
            rcases hv with rfl | rfl <;> exact .str _
          have oW1 := (oW1.hand stE1.hd bx2).hand stE2.hd b9
          have oW2 := oW2.hand stE2.hd b9
          exact ⟨a.Cn, _, _, _, rfl, rfl, SqL.of st9.cx.cn, e, _, rfl, _, rfl, by show 5 ≤ sizeLine; decide, fun tz nz => fin_st q (by decide +kernel) (bb2.trans b9) st9 (fun _ s => .cons (ov.same s) (.cons (oW1.same s) (.cons (oW2.same s) .nil))) nz⟩
        · exact ⟨by show 2 ≤ sizeLine; decide, fun tz nz => fin_st q (by decide +kernel) b2 st2 (fun _ _ => .nil) nz⟩
        · refine ⟨_, rfl, a.c, _, _, _, rfl, rfl, SqL.of st2.cx.c, atI_nat (j := 3) rfl, _, rfl, h, d, ds, 2, rfl, by decide, st2.hd, fun r9 H9 q0 q1 b9 hd9 _ => ?_⟩
          have st9 := st2.but b9 hd9
          obtain ⟨v, hv, e⟩ := atI_in (xs := [.str x.c5, .str x.c6]) (i := r9) q0 (by show _ < (2 : Int); omega)
          have ov : ∀ {G : Hp}, Op K G v := by
            simp only [List.mem_cons, List.not_mem_nil, or_false] at hv
            rcases hv with rfl | rfl <;> exact .str _
          refine ⟨a.Cn, _, _, _, rfl, rfl, SqL.of st9.cx.cn, e, _, rfl, _, rfl, h, d, ds, a, x, r, rfl, st9, fun v4 H4 b4 st4 o4 => ?_⟩
          exact ⟨by show 4 ≤ sizeLine; decide, fun tz nz => fin_st q (by decide +kernel) (b2.trans (b9.trans b4)) st4 (fun _ s => .cons ov (.cons (o4.same s) .nil)) nz⟩
      · refine iteF ?_
        refine ⟨_, rfl, rfl, _, rfl, ite2 (fun c5 => ?_) (fun c5 => ⟨_, rfl, rfl, _, rfl, ite2 (fun c6 => ?_) (fun c6 => ?_)⟩)⟩
        · refine ⟨_, rfl, h, d, ds, 3, rfl, by decide, st2.hd, fun r1 A1 _ _ ba1 hda1 _ => ⟨_, _, rfl, rfl, by show 2 ≤ sizeLine; decide, fun t1 n1 => ?_⟩⟩
          generalize hGB1 : upd A1 t1 _ = B1
          obtain ⟨sB1, eB1⟩ := new_of n1 hGB1
          have stB1 := (st2.but ba1 hda1).same sB1
          have oB1 : Op K B1 (.ref t1) := .tup eB1 (.cons (.str _) (.cons (.int _) .nil))
          refine ⟨_, rfl, _, rfl, h, d, ds, a, x, r, rfl, stB1, fun v1 C1 bC1 stC1 oC1 => ⟨by show 2 ≤ sizeLine; decide, fun l1 m1 => ?_⟩⟩
          have oC1 := oC1.op
          generalize hGD1 : upd C1 l1 _ = D1
          obtain ⟨sD1, eD1⟩ := new_of m1 hGD1
          refine ⟨_, rfl, h, d, ds, 4, rfl, by decide, (stC1.same sD1).hd, fun r'1 E1 q01 q11 bE1 hdE1 _ => ?_⟩
          have stE1 := (stC1.same sD1).but bE1 hdE1
          obtain ⟨w1, hw1, e1⟩ := atI_in (xs := [.ref t1, v1]) (i := r'1 / 3) (by omega) (by show _ < (2 : Int); omega)
          have oW1 : Op K E1 w1 := by
            simp only [List.mem_cons, List.not_mem_nil, or_false] at hw1
            rcases hw1 with rfl | rfl
            · exact ((oB1.hand stB1.hd bC1).same sD1).hand (stC1.same sD1).hd bE1
            · exact (oC1.same sD1).hand (stC1.same sD1).hd bE1
          have bb1 := b2.trans (ba1.trans ((Same.but sB1).trans (bC1.trans ((Same.but sD1).trans bE1))))
          have bx1 := ba1.trans ((Same.but sB1).trans (bC1.trans ((Same.but sD1).trans bE1)))
          refine ⟨_, _, rfl, rfl, ⟨by decide, by decide⟩, l1, _, _, _, rfl, rfl, SqL.of (bE1 _ _ (hand_ne stC1.hd m1) eD1), e1, ?_⟩
          refine ⟨_, rfl, h, d, ds, 4, rfl, by decide, stE1.hd, fun r2 A2 _ _ ba2 hda2 _ => ⟨_, _, rfl, rfl, by show 2 ≤ sizeLine; decide, fun t2 n2 => ?_⟩⟩
          generalize hGB2 : upd A2 t2 _ = B2
          obtain ⟨sB2, eB2⟩ := new_of n2 hGB2
          have stB2 := (stE1.but ba2 hda2).same sB2
          have oB2 : Op K B2 (.ref t2) := .tup eB2 (.cons (.str _) (.cons (.int _) .nil))
          refine ⟨_, rfl, _, rfl, h, d, ds, a, x, r, rfl, stB2, fun v2 C2 bC2 stC2 oC2 => ⟨by show 2 ≤ sizeLine; decide, fun l2 m2 => ?_⟩⟩
          have oC2 := oC2.op
          generalize hGD2 : upd C2 l2 _ = D2
          obtain ⟨sD2, eD2⟩ := new_of m2 hGD2
          refine ⟨_, rfl, h, d, ds, 4, rfl, by decide, (stC2.same sD2).hd, fun r'2 E2 q02 q12 bE2 hdE2 _ => ?_⟩
          have stE2 := (stC2.same sD2).but bE2 hdE2
          obtain ⟨w2, hw2, e2⟩ := atI_in (xs := [.ref t2, v2]) (i := r'2 / 3) (by omega) (by show _ < (2 : Int); omega)
          have oW2 : Op K E2 w2 := by
            simp only [List.mem_cons, List.not_mem_nil, or_false] at hw2
            rcases hw2 with rfl | rfl
            · exact ((oB2.hand stB2.hd bC2).same sD2).hand (stC2.same sD2).hd bE2
            · exact (oC2.same sD2).hand (stC2.same sD2).hd bE2
          have bb2 := bb1.trans (ba2.trans ((Same.but sB2).trans (bC2.trans ((Same.but sD2).trans bE2))))
          have bx2 := ba2.trans ((Same.but sB2).trans (bC2.trans ((Same.but sD2).trans bE2)))
          refine ⟨_, _, rfl, rfl, ⟨by decide, by decide⟩, l2, _, _, _, rfl, rfl, SqL.of (bE2 _ _ (hand_ne stC2.hd m2) eD2), e2, ?_⟩
          refine ⟨_, rfl, a.c, _, _, _, rfl, rfl, SqL.of stE2.cx.c, atI_nat (j := 3) rfl, _, rfl, h, d, ds, 2, rfl, by decide, stE2.hd, fun r9 H9 q0 q1 b9 hd9 _ => ?_⟩
          have st9 := stE2.but b9 hd9
          obtain ⟨v, hv, e⟩ := atI_in (xs := [.str x.c5, .str x.c6]) (i := r9) q0 (by show _ < (2 : Int); omega)
          have ov : Op K H9 v := by
            simp only [List.mem_cons, List.not_mem_nil, or_false] at hv
            rcases hv with rfl | rfl <;> exact .str _
          have oW1 := (oW1.hand stE1.hd bx2).hand stE2.hd b9
          have oW2 := oW2.hand stE2.hd b9
          exact ⟨a.Cn, _, _, _, rfl, rfl, SqL.of st9.cx.cn, e, _, rfl, _, rfl, by show 5 ≤ sizeLine; decide, fun tz nz => fin_st q (by decide +kernel) (bb2.trans b9) st9 (fun _ s => .cons (ov.same s) (.cons (oW1.same s) (.cons (oW2.same s) .nil))) nz⟩
        · exact ⟨by show 2 ≤ sizeLine; decide, fun tz nz => fin_st q (by decide +kernel) b2 st2 (fun _ _ => .nil) nz⟩
        · refine ⟨_, rfl, a.c, _, _, _, rfl, rfl, SqL.of st2.cx.c, atI_nat (j := 3) rfl, _, rfl, h, d, ds, 2, rfl, by decide, st2.hd, fun r9 H9 q0 q1 b9 hd9 _ => ?_⟩
          have st9 := st2.but b9 hd9
          obtain ⟨v, hv, e⟩ := atI_in (xs := [.str x.c5, .str x.c6]) (i := r9) q0 (by show _ < (2 : Int); omega)
          have ov : ∀ {G : Hp}, Op K G v := by
            simp only [List.mem_cons, List.not_mem_nil, or_false] at hv
            rcases hv with rfl | rfl <;> exact .str _
          refine ⟨a.Cn, _, _, _, rfl, rfl, SqL.of st9.cx.cn, e, _, rfl, _, rfl, h, d, ds, a, x, r, rfl, st9, fun v4 H4 b4 st4 o4 => ?_⟩
          exact ⟨by show 4 ≤ sizeLine; decide, fun tz nz => fin_st q (by decide +kernel) (b2.trans (b9.trans b4)) st4 (fun _ s => .cons ov (.cons (o4.same s) .nil)) nz⟩
end
end SW

namespace SW
open PySem PySem.Spec PyProof.Rows L2
/-! ### all as it was, but the hand and how many rows are left -/
def B2 (h R : Addr) (H H' : Hp) : Prop := ∀ b o, b ≠ h → b ≠ R → H b = some o → H' b = some o
theorem B2.refl (h R : Addr) (H : Hp) : B2 h R H H := fun _ _ _ _ e => e
theorem B2.trans {h R : Addr} {H G J : Hp} (a : B2 h R H G) (b : B2 h R G J) : B2 h R H J := fun c o h1 h2 e => b c o h1 h2 (a c o h1 h2 e)
theorem B2.but {h R : Addr} {H G : Hp} (a : But h H G) : B2 h R H G := fun c o h1 _ e => a c o h1 e
theorem B2.same {h R : Addr} {H G : Hp} (a : Same H G) : B2 h R H G := fun c o _ _ e => a c o e
theorem B2.ofR {h R : Addr} {H G : Hp} {o : HO} (e : upd H R o = G) : B2 h R H G := fun c u _ h2 q => by
  rw [← e, upd_ne h2]
  exact q
theorem B2.new {h R p : Addr} {H G : Hp} {o : HO} (a : B2 h R H G) (n : H p = none) : B2 h R H (upd G p o) := fun c u h1 h2 e => (upd_ne (ne_of_none e n)).trans (a c u h1 h2 e)
theorem B2.sqt {K : PySem.W.Frag} {H H' : Hp} {h R b : Addr} {ys zs xs : List V} (hl : H h = some (.lst ys)) (hr : H R = some (.lst zs)) (s : B2 h R H H') (hs : SqT K H b xs) : SqT K H' b xs := by
  rcases hs with (hs | ⟨o, hs⟩) | hs
  · exact .inl (.inl (s _ _ (fun e => by rw [e, hl] at hs; cases hs) (fun e => by rw [e, hr] at hs; cases hs) hs))
  · exact .inl (.inr ⟨o, s _ _ (fun e => by rw [e, hl] at hs; cases hs) (fun e => by rw [e, hr] at hs; cases hs) hs⟩)
  · exact .inr hs
section
variable {K : PySem.W.Frag} {H J G : Hp} {h d : Addr} {ds : List Int} {a : Ca} {x : Cd} {r r' : Int}
theorem St8.sqt (q : St8 K J h d ds a x r) (s : B2 h a.R J G) {b : Addr} {xs : List V} (e : SqT K J b xs) : SqT K G b xs := by
  obtain ⟨⟨⟨i, e1⟩, _, _⟩, c⟩ := q
  exact B2.sqt e1 c.r s e
theorem St8.dp (q : St8 K J h d ds a x r) (s : B2 h a.R J G) {d0 : PyData} {v : V} (n : noL d0 = true) (e : Dp K J v d0) : Dp K G v d0 := dp_tups (fun _ _ hs => q.sqt s hs) d0 v n e
theorem St8.dpa (q : St8 K J h d ds a x r) (s : B2 h a.R J G) {es : List PyData} {vs : List V} (n : noLs es = true) (e : DpAll K J vs es) : DpAll K G vs es := dpa_tups (fun _ _ hs => q.sqt s hs) es vs n e
theorem St8.op (q : St8 K J h d ds a x r) (s : B2 h a.R J G) {v : V} (o : Op K J v) : Op K G v := by
  obtain ⟨d0, h1, h2⟩ := o
  exact ⟨d0, q.dp s h2 h1, h2⟩
theorem St8.neR (q : St8 K J h d ds a x r) : ∀ b, b ∈ ([a.c, a.L, a.N, a.Kd, a.Cn, a.Mv] : List Addr) → b ≠ a.R := by
  obtain ⟨_, c, l, n, ⟨xs, k1, k2⟩, cn, m, r, zl, zn, zk, zm⟩ := q
  have ns : ∀ {b : Addr} {ws : List PySem.Str}, J b = some (.lst (ws.map V.str)) → b ≠ a.R := fun {b ws} e1 e2 => by
    rw [e2, r] at e1
    have e1 := HO.lst.inj (Option.some.inj e1)
    cases ws with
    | nil => cases e1
    | cons y ys => cases e1
  intro b hb
  simp only [List.mem_cons, List.not_mem_nil, or_false] at hb
  rcases hb with rfl | rfl | rfl | rfl | rfl | rfl
  · intro e2
    rw [e2, r] at c
    cases c
  · exact ns l
  · exact ns n
  · intro e2
    rw [e2, r] at k1
    cases k1
    cases hk : x.kn with
    | nil =>
      rw [hk] at k2
      cases k2
    | cons k r =>
      rw [hk] at k2
      cases k2 with
      | cons k3 k4 => cases k3
  · intro e2
    rw [e2, r] at cn
    cases cn
  · exact ns m
theorem St8.b2 (q : St8 K J h d ds a x r) (s : B2 h a.R J G) (e : Hand G h d ds) (er : G a.R = some (.lst [.int r'])) : St8 K G h d ds a x r' := by
  have n1 := q.cx.hand_ne q.hd
  have n2 := q.neR
  have dk := fun es vs (n : noLs es = true) e => q.dpa s (es := es) (vs := vs) n e
  obtain ⟨_, c, l, n, ⟨xs, k1, k2⟩, cn, m, r, zl, zn, zk, zm⟩ := q
  exact ⟨e, s _ _ (n1 _ (by simp)) (n2 _ (by simp)) c, s _ _ (n1 _ (by simp)) (n2 _ (by simp)) l, s _ _ (n1 _ (by simp)) (n2 _ (by simp)) n, ⟨xs, s _ _ (n1 _ (by simp)) (n2 _ (by simp)) k1, dk _ _ (kns_noL _) k2⟩, s _ _ (n1 _ (by simp)) (n2 _ (by simp)) cn, s _ _ (n1 _ (by simp)) (n2 _ (by simp)) m, er, zl, zn, zk, zm⟩
theorem St8.Rh (q : St8 K J h d ds a x r) : a.R ≠ h := q.cx.hand_ne q.hd a.R (by simp)
theorem St8.Rd (q : St8 K J h d ds a x r) (n : d ≠ a.R) : Hand (upd J a.R (.lst [.int r'])) h d ds := q.hd.upd q.Rh n.symm
theorem St8.ofR (q : St8 K J h d ds a x r) (n : d ≠ a.R) (e : upd J a.R (.lst [.int r']) = G) : St8 K G h d ds a x r' := by
  subst e
  exact q.b2 (B2.ofR rfl) (q.Rd n) upd_same
end
def szD : Nat → Nat
  | 0 => 1
  | n + 1 => 1 + 3 * szD n
theorem szD_pos : ∀ n, 1 ≤ szD n
  | 0 => Nat.le_refl _
  | n + 1 => by
    show 1 ≤ 1 + 3 * szD n
    omega
/-- a block in the making -/
structure BlkSt (K : PySem.W.Frag) (H : Hp) (h d : Addr) (ds : List Int) (a : Ca) (x : Cd) (N : Nat) (Bk : Addr) (bud : Int) (J : Hp) (bu dn rr : Int) (xs : List V) (bs : List (BD (N + 1))) (i : Nat) : Prop where
  b : B2 h a.R H J
  st : St8 K J h d ds a x rr
  e : J Bk = some (.lst xs)
  dp : DpAll K J xs (bs.map (encD (N + 1)))
  ok : ∀ s, s ∈ bs → okD (N + 1) s
  at_ : ∀ a, a ∈ flatB (N + 1) bs → AtS x a.s
  len : bs.length ≤ i
  fl : (flatB (N + 1) bs).length ≤ i * szD N
  bu1 : 1 ≤ bu
  dn1 : 1 ≤ dn
  mul : dn * bu ≤ bud
section
variable {K : PySem.W.Frag} {H J G : Hp} {h d : Addr} {ds : List Int} {a : Ca} {x : Cd} {r0 : Int} {N : Nat} {Bk : Addr} {bud bu dn rr rr' : Int} {xs : List V} {bs : List (BD (N + 1))} {i : Nat}
theorem BlkSt.dn_le (q : BlkSt K H h d ds a x N Bk bud J bu dn rr xs bs i) : dn ≤ bud := by
  have h1 := Int.mul_le_mul_of_nonneg_left q.bu1 (show 0 ≤ dn by have := q.dn1; omega)
  have := q.mul
  rw [Int.mul_one] at h1
  omega
theorem BlkSt.bu_le (q : BlkSt K H h d ds a x N Bk bud J bu dn rr xs bs i) : bu ≤ bud := by
  have h1 := Int.mul_le_mul_of_nonneg_right q.dn1 (show 0 ≤ bu by have := q.bu1; omega)
  have := q.mul
  rw [Int.one_mul] at h1
  omega
theorem BlkSt.noLs (q : BlkSt K H h d ds a x N Bk bud J bu dn rr xs bs i) : SW.noLs (bs.map (encD (N + 1))) = true := noLs_mapof fun s hs => noL_D _ s (q.ok s hs)
theorem BlkSt.xl (q : BlkSt K H h d ds a x N Bk bud J bu dn rr xs bs i) : xs.length ≤ i := by
  rw [dpa_len q.dp, List.length_map]
  exact q.len
theorem BlkSt.mv (q : BlkSt K H h d ds a x N Bk bud J bu dn rr xs bs i) (s0 : St8 K H h d ds a x r0) (n : H Bk = none) (s : B2 h a.R J G) (st : St8 K G h d ds a x rr') : BlkSt K H h d ds a x N Bk bud G bu dn rr' xs bs i :=
  ⟨q.b.trans s, st, s _ _ (hand_ne s0.hd n) (ne_of_none s0.cx.r n).symm q.e, q.st.dpa s q.noLs q.dp, q.ok, q.at_, q.len, q.fl, q.bu1, q.dn1, q.mul⟩
theorem BlkSt.next (q : BlkSt K H h d ds a x N Bk bud J bu dn rr xs bs i) (s0 : St8 K H h d ds a x r0) (n : H Bk = none) {v : V} {s : BD (N + 1)} (dS : Dp K J v (encD (N + 1) s)) (kS : okD (N + 1) s) (aS : ∀ a, a ∈ flatD (N + 1) s → AtS x a.s) (lS : (flatD (N + 1) s).length ≤ szD N) {bd : Int} (b1 : 1 ≤ bd) (b2 : bd ≤ bu) :
    BlkSt K H h d ds a x N Bk bud (upd J Bk (.lst (xs ++ [v]))) (bu / bd) (dn * bd) rr (xs ++ [v]) (bs ++ [s]) (i + 1) := by
  have nh := hand_ne s0.hd n
  have nr := (ne_of_none s0.cx.r n).symm
  have bb : B2 h a.R H (upd J Bk (.lst (xs ++ [v]))) := q.b.new n
  have ok2 : ∀ t, t ∈ bs ++ [s] → okD (N + 1) t := fun t ht => by
    rcases List.mem_append.mp ht with ht | ht
    · exact q.ok t ht
    · rw [List.mem_singleton.mp ht]
      exact kS
  have nl : SW.noLs ((bs ++ [s]).map (encD (N + 1))) = true := noLs_mapof fun s hs => noL_D _ s (ok2 s hs)
  refine ⟨bb, s0.b2 bb (q.st.hd.upd nh (hand_ne2 s0.hd n)) ((upd_ne nr.symm).trans q.st.cx.r), upd_same, ?_, ok2, fun t ht => ?_, ?_, ?_, ?_, ?_, ?_⟩
  · refine dpa_but q.e (fun b o hb e => (upd_ne hb).trans e) _ _ nl ?_
    rw [List.map_append]
    exact dpa_snoc q.dp dS
  · rw [flatB_snoc] at ht
    rcases List.mem_append.mp ht with ht | ht
    · exact q.at_ t ht
    · exact aS t ht
  · rw [List.length_append]
    have := q.len
    exact Nat.add_le_add this (Nat.le_refl 1)
  · rw [flatB_snoc, List.length_append, Nat.succ_mul]
    have := q.fl
    omega
  · refine Int.le_ediv_of_mul_le (by omega) ?_
    rw [Int.one_mul]
    exact b2
  · have := Int.mul_pos (show 0 < dn by have := q.dn1; omega) (show 0 < bd by omega)
    omega
  · rw [Int.mul_assoc]
    have h1 : bd * (bu / bd) ≤ bu := Int.mul_ediv_self_le (by omega)
    have h2 := Int.mul_le_mul_of_nonneg_left h1 (show 0 ≤ dn by have := q.dn1; omega)
    have := q.mul
    omega
end
theorem sm_flat {N : Nat} (s : Sm) : flatD (N + 1) (show BD (N + 1) from (s.to : Sf (BD N))) = [⟨N, s.to⟩] := by
  show flatD (N + 1) (s.to : Sf (BD N)) = _
  rw [flatD_succ, s.subs]
  rfl
/-- a and b, with one way on -/
def tAndB (ta tb : TE) : TE := fun σ H Q => ta σ H fun x H1 => ∃ (c : Bool) (p : Prop), x = .bl c ∧ (c = true → tb σ H1 fun y H2 => ∃ c2 : Bool, y = .bl c2 ∧ H2 = H1 ∧ (c2 = true → p)) ∧ ∀ f : Bool, (f = true → c = true ∧ p) → Q (.bl f) H1
theorem pe_andB {X : Cx} {a b : Expr} {rest : List Expr} {pos : Pos} {ta tb : TE} (ha : PE X a ta) (hb : PE X (.BoolOp .And (b :: rest) pos) tb) : PE X (.BoolOp .And (a :: b :: rest) pos) (tAndB ta tb) := by
  refine ⟨fun pins s σ H Q I h => ?_⟩
  refine BoolOp_and (thn (ha.run pins s σ H _ I h) fun v s1 ⟨x, H1, I1, r1, q1⟩ => ?_)
  obtain ⟨c, p, rfl, h2, q1⟩ := q1
  cases r1
  refine wpAny_truthy_bool ?_
  cases c with
  | true =>
    refine thn (hb.run pins s1 σ H1 _ I1 (h2 rfl)) fun u s2 ⟨y, H2, I2, r2, q2⟩ => ?_
    obtain ⟨c2, rfl, rfl, q2⟩ := q2
    exact ⟨.bl c2, _, I2, r2, q1 c2 fun e => ⟨rfl, q2 e⟩⟩
  | false => exact ⟨.bl false, H1, I1, rfl, q1 false fun h => by cases h⟩
def spBlk8 (K : PySem.W.Frag) (N : Nat) : Sp := fun vs H Q _ => ∃ (h d : Addr) (ds : List Int) (a : Ca) (x : Cd) (r dep wh mny bud : Int), vs = [.ref h, .ref a.c, .int dep, .int wh, .int mny, .int bud] ∧ dep = N ∧ St8 K H h d ds a x r ∧ d ≠ a.R ∧ (∀ k, k ∈ x.kn → k.ps.length ≤ 10) ∧ 0 ≤ mny ∧ mny ≤ 5 ∧ 1 ≤ bud ∧ bud ≤ 32 ∧
  ∀ (t : Addr) (dn r' : Int) (v : V) (bs : List (BD (N + 1))) (H' : Hp), B2 h a.R H H' → St8 K H' h d ds a x r' → H' t = some (.lst [.int dn, v]) → Dp K H' v (blkE (N + 1) bs) → (∀ s, s ∈ bs → okD (N + 1) s) → (∀ a, a ∈ flatB (N + 1) bs → AtS x a.s) → (bs.length : Int) ≤ mny → (flatB (N + 1) bs).length ≤ mny.toNat * szD N → 1 ≤ dn → dn ≤ bud → Q (.ref t) H'
theorem fin_blk {K : PySem.W.Frag} {H J : Hp} {h d : Addr} {ds : List Int} {a : Ca} {x : Cd} {N : Nat} {Bk : Addr} {bud bu dn rr mny : Int} {xs : List V} {bs : List (BD (N + 1))} {i : Nat} {Q : V → Hp → Prop}
    (q : ∀ (t : Addr) (dn r' : Int) (v : V) (bs : List (BD (N + 1))) (H' : Hp), B2 h a.R H H' → St8 K H' h d ds a x r' → H' t = some (.lst [.int dn, v]) → Dp K H' v (blkE (N + 1) bs) → (∀ s, s ∈ bs → okD (N + 1) s) → (∀ a, a ∈ flatB (N + 1) bs → AtS x a.s) → (bs.length : Int) ≤ mny → (flatB (N + 1) bs).length ≤ mny.toNat * szD N → 1 ≤ dn → dn ≤ bud → Q (.ref t) H')
    (z : BlkSt K H h d ds a x N Bk bud J bu dn rr xs bs i) (hi : i ≤ mny.toNat) (m0 : 0 ≤ mny) {tt t : Addr} (nt : J tt = none) (n : (upd J tt (.tup xs)) t = none) : Q (.ref t) (upd (upd J tt (.tup xs)) t (.lst [.int dn, .ref tt])) := by
  generalize hG : upd J tt _ = G at n
  obtain ⟨s1, e1⟩ := new_of nt hG
  generalize hG2 : upd G t _ = G2
  obtain ⟨s2, e2⟩ := new_of n hG2
  have s := s1.trans s2
  refine q t dn rr (.ref tt) bs G2 (z.b.trans (B2.same s)) (z.st.same s) e2 (.tup (SqT.of (s2 _ _ e1)) (dpa_same s _ _ z.dp)) z.ok z.at_ ?_ ?_ z.dn1 z.dn_le
  · have := z.len
    omega
  · refine Nat.le_trans z.fl (Nat.mul_le_mul_right _ hi)
end SW

set_option maxHeartbeats 8000000
namespace SW
open PySem PySem.Spec PyProof.Rows L2
abbrev s_l_gen_block : Stmt := topS 26
theorem sc_l_gen_block : FnScope ["hand", "ctx", "depth", "whiles", "many", "budget", "block", "done", "k", "kind", "count", "condition", "statement", "breadth", "fits", "then", "other", "body", "falls", "inner", "counter", "keeps"] ["hand", "ctx", "depth", "whiles", "many", "budget"] (defScope s_l_gen_block) := ⟨rfl, rfl, rfl, by decide +kernel, rfl, by decide +kernel, by decide +kernel⟩

theorem in12 (k : Int) : inV (.int k) [.int 1, .int 2] = (decide ((1 : Int) = k) || (decide ((2 : Int) = k) || false)) := rfl
section
variable {P : Program} {w : World} {K : PySem.W.Frag} {mg : PySem.Str → Option Value} {base : Heap}
theorem sm_of {N : Nat} {x : Cd} {s : Sm} (h : AtM x s) : ∀ a, a ∈ flatD (N + 1) (show BD (N + 1) from (s.to : Sf (BD N))) → AtS x a.s := fun a ha => by
  rw [sm_flat] at ha
  rw [List.mem_singleton.mp ha]
  exact h.to
theorem sm_len {N : Nat} (s : Sm) : (flatD (N + 1) (show BD (N + 1) from (s.to : Sf (BD N)))).length ≤ szD N := by
  rw [sm_flat]
  exact szD_pos N
theorem if_flat {N : Nat} {x : Cd} {r : Int} {c : PyData} {a b : List (BD N)} (h1 : ∀ t, t ∈ flatB N a → AtS x t.s) (h2 : ∀ t, t ∈ flatB N b → AtS x t.s) : ∀ t, t ∈ flatD (N + 1) (show BD (N + 1) from (Sf.iff r c a b : Sf (BD N))) → AtS x t.s := fun t ht => by
  have e : flatD (N + 1) (show BD (N + 1) from (Sf.iff r c a b : Sf (BD N))) = ⟨N, Sf.iff r c a b⟩ :: (flatB N a ++ (flatB N b ++ [])) := flatD_succ N _
  rw [e] at ht
  rcases List.mem_cons.mp ht with rfl | ht
  · trivial
  · rw [List.append_nil] at ht
    rcases List.mem_append.mp ht with ht | ht
    · exact h1 t ht
    · exact h2 t ht
theorem if_len {N : Nat} {r : Int} {c : PyData} {a b : List (BD N)} : (flatD (N + 1) (show BD (N + 1) from (Sf.iff r c a b : Sf (BD N)))).length = 1 + (flatB N a).length + (flatB N b).length := by
  have e : flatD (N + 1) (show BD (N + 1) from (Sf.iff r c a b : Sf (BD N))) = ⟨N, Sf.iff r c a b⟩ :: (flatB N a ++ (flatB N b ++ [])) := flatD_succ N _
  rw [e, List.append_nil, List.length_cons, List.length_append]
  omega
theorem wh_flat {N : Nat} {x : Cd} {r : Int} {c f : PyData} {ks : List PyData} {b : List (BD N)} (h2 : ∀ t, t ∈ flatB N b → AtS x t.s) : ∀ t, t ∈ flatD (N + 1) (show BD (N + 1) from (Sf.whl r c ks f b : Sf (BD N))) → AtS x t.s := fun t ht => by
  have e : flatD (N + 1) (show BD (N + 1) from (Sf.whl r c ks f b : Sf (BD N))) = ⟨N, Sf.whl r c ks f b⟩ :: (flatB N b ++ []) := flatD_succ N _
  rw [e] at ht
  rcases List.mem_cons.mp ht with rfl | ht
  · trivial
  · rw [List.append_nil] at ht
    exact h2 t ht
theorem wh_len {N : Nat} {r : Int} {c f : PyData} {ks : List PyData} {b : List (BD N)} : (flatD (N + 1) (show BD (N + 1) from (Sf.whl r c ks f b : Sf (BD N)))).length = 1 + (flatB N b).length := by
  have e : flatD (N + 1) (show BD (N + 1) from (Sf.whl r c ks f b : Sf (BD N))) = ⟨N, Sf.whl r c ks f b⟩ :: (flatB N b ++ []) := flatD_succ N _
  rw [e, List.append_nil, List.length_cons]
  omega
theorem _root_.SW.St8.lst2 {J G : Hp} {h d : Addr} {ds : List Int} {a : Ca} {x : Cd} {r : Int} (q : St8 K J h d ds a x r) (s : B2 h a.R J G) {t : Addr} {n : Int} {v : V} (e : J t = some (.lst [.int n, v])) : G t = some (.lst [.int n, v]) := by
  obtain ⟨⟨⟨i, e1⟩, _, _⟩, c⟩ := q
  have e2 := c.r
  refine s _ _ (fun h => ?_) (fun h => ?_) e
  · rw [h, e1] at e
    cases e
  · rw [h, e2] at e
    cases e
theorem br_le {c dA dB B b : Int} (c1 : 1 ≤ c) (hA : dA ≤ B) (hB : dB ≤ B) (h : 2 * c * B ≤ b) : c * (dA + dB) ≤ b := by
  have h1 := Int.mul_le_mul_of_nonneg_left (show dA + dB ≤ 2 * B by omega) (show 0 ≤ c by omega)
  have e : c * (2 * B) = 2 * c * B := by rw [← Int.mul_assoc, Int.mul_comm c 2]
  omega
theorem br_pos {c d : Int} (c1 : 1 ≤ c) (h : 1 ≤ d) : 1 ≤ c * d := by
  have := Int.mul_pos (show 0 < c by omega) (show 0 < d by omega)
  omega
theorem Ops.inv {H : Hp} {xs : List V} (h : Ops K H xs) : ∃ ds, DpAll K H xs ds ∧ noLs ds = true := h
theorem half_le {c b : Int} (c1 : 1 ≤ c) (c3 : c ≤ 3) (h : 2 * c ≤ b) : 1 ≤ b / (2 * c) ∧ 2 * c * (b / (2 * c)) ≤ b ∧ b / (2 * c) ≤ b := by
  have h0 : b / (2 * c) * (2 * c) ≤ b := Int.ediv_mul_le b (by omega)
  have h1 : 1 ≤ b / (2 * c) := Int.le_ediv_of_mul_le (by omega) (by omega)
  rw [Int.mul_comm] at h0
  refine ⟨h1, h0, ?_⟩
  have : 1 * (b / (2 * c)) ≤ 2 * c * (b / (2 * c)) := Int.mul_le_mul_of_nonneg_right (by omega) (by omega)
  omega
theorem ok_l_block (T : TxB mg) (D_l_gen_block : Df K mg "_law_gen_block" s_l_gen_block ["hand", "ctx", "depth", "whiles", "many", "budget"]) (D_l_gen_simple : Df K mg "_law_gen_simple" s_l_gen_simple ["hand", "ctx"]) (D_l_gen_call : Df K mg "_law_gen_call" s_l_gen_call ["hand", "ctx"]) (D_l_gen_condition : Df K mg "_law_gen_condition" s_l_gen_condition ["hand", "ctx"]) (D_l_gen_cmp : Df K mg "_law_gen_cmp" s_l_gen_cmp ["hand", "ctx"]) (D_l_gen_term : Df K mg "_law_gen_term" s_l_gen_term ["hand", "ctx"]) (D_l_gen_index : Df K mg "_law_gen_index" s_l_gen_index ["hand", "ctx", "name"]) (D_l_gen_plain : Df K mg "_law_gen_plain" s_l_gen_plain ["hand", "ctx"]) (D_l_take : Df K mg "_law_take" s_l_take ["hand", "many"]) : ∀ N, FnOk P w K mg base CX0 (N + 7) D_l_gen_block.f D_l_gen_block.fd ["hand", "ctx", "depth", "whiles", "many", "budget"] (spBlk8 K N)
  | 0 => by
    have G_l_take := ok_l_take (P := P) (w := w) (K := K) (base := base) T D_l_take
    have G_l_gen_plain := ok_l_plain (P := P) (w := w) (K := K) (base := base) T D_l_gen_plain D_l_take
    have G_l_gen_simple := ok_l_simple (P := P) (w := w) (K := K) (base := base) T D_l_gen_simple D_l_gen_call D_l_gen_term D_l_gen_index D_l_gen_plain D_l_take
    have G_l_gen_condition := ok_l_condition (P := P) (w := w) (K := K) (base := base) T D_l_gen_condition D_l_gen_cmp D_l_gen_term D_l_gen_index D_l_gen_plain D_l_take
    have G_l_gen_block : FnOk P w K mg base CX0 6 D_l_gen_block.f D_l_gen_block.fd ["hand", "ctx", "depth", "whiles", "many", "budget"] (fun _ _ _ _ => False) := fn_never
    refine D_l_gen_block.F.ok sc_l_gen_block (fun vs H Q E h => ?_) (fun cdv A outer s H vs Q E hr h => ?_)
    · obtain ⟨h, d, ds, a, x, r, dep, wh, mny, bud, rfl, _⟩ := h
      rfl
    · obtain ⟨h, d, ds, a, x, r, dep, wh, mny, bud, rfl, hdep, st, hdR, hps, hm0, hm5, hbu1, hbu2, q⟩ := h
      refine ⟨_, (pss_cons (ps_set (i := 6) sc_l_gen_block.nd rfl (.inl rfl) (pe_lst pa_nil))
    (pss_cons (ps_set (i := 7) sc_l_gen_block.nd rfl (.inl rfl) pe_int)
    (pss_cons (ps_for PassesOwn.never rfl (pi_range1 (by rfl) T.n_range (pa_cons (pv 4) pa_nil)) (pg_name (i := 8) sc_l_gen_block.nd rfl (.inl rfl))
    (pss_cons (ps_if (pt_cmpR op_le (pe_ix ix_list (pe_ix ix_list (pv 1) pe_int (fun _ _ => rfl)) pe_int (fun _ _ => rfl)) pe_int (nomark _))
    (pss_one ps_break)
    pss_nil)
    (pss_cons (ps_set (i := 9) sc_l_gen_block.nd rfl (.inl rfl) (pe_call G_l_take (hr.mono (by omega)) (by rfl) D_l_take.g D_l_take.F.kp D_l_take.b .nil pass0 (pa_cons (pv 0) (pa_cons pe_int pa_nil))))
    (pss_cons (ps_asg (pe_call G_l_gen_condition (hr.mono (by omega)) (by rfl) D_l_gen_condition.g D_l_gen_condition.F.kp D_l_gen_condition.b .nil pass0 (pa_cons (pv 0) (pa_cons (pv 1) pa_nil))) (pg_lst (by rfl) (pgs_cons (pg_name (i := 10) sc_l_gen_block.nd rfl (.inl rfl)) (pgs_cons (pg_name (i := 11) sc_l_gen_block.nd rfl (.inl rfl)) pgs_nil))))
    (pss_cons (ps_set (i := 12) sc_l_gen_block.nd rfl (.inl rfl) (pe_call G_l_gen_simple (hr.mono (by omega)) (by rfl) D_l_gen_simple.g D_l_gen_simple.F.kp D_l_gen_simple.b .nil pass0 (pa_cons (pv 0) (pa_cons (pv 1) pa_nil))))
    (pss_cons (ps_set (i := 13) sc_l_gen_block.nd rfl (.inl rfl) pe_int)
    (pss_cons (ps_asg (pe_op op_sub (pe_ix ix_list (pe_ix ix_list (pv 1) pe_int (fun _ _ => rfl)) pe_int (fun _ _ => rfl)) pe_int) (pg_sub (pe_ix ix_list (pv 1) pe_int (fun _ _ => rfl)) pe_int set_list))
    (pss_cons (ps_set (i := 14) sc_l_gen_block.nd rfl (.inl rfl) (pe_andB (pe_cmpR op_gt (pv 2) pe_int (nomark _)) (pe_andB (pe_cmpR op_le (pe_op op_mul pe_int (pv 10)) (pv 5) (nomark _)) (pe_one (pe_cmpR op_ge (pe_ix ix_list (pe_ix ix_list (pv 1) pe_int (fun _ _ => rfl)) pe_int (fun _ _ => rfl)) pe_int (nomark _))))))
    (pss_cons (ps_if (PW.pt (pw_and (pt_cmpR op_eq (pv 9) pe_int (nomark _)) (pw_and1 (pt_cmpR op_le (pv 10) (pv 5) (nomark _)))))
    (pss_cons (ps_set (i := 13) sc_l_gen_block.nd rfl (.inl rfl) (pv 10))
    (pss_one (ps_set (i := 12) sc_l_gen_block.nd rfl (.inl rfl) (pe_tup (pa_cons pe_str (pa_cons pe_int (pa_cons (pv 11) pa_nil)))))))
    pss_nil)
    (pss_cons (ps_if (PW.pt (pw_and (pt_cmpR op_in_seq (pv 9) (pe_lst (pa_cons pe_int (pa_cons pe_int pa_nil))) (by rfl)) (pw_and1 (pt_val (pv 14)))))
    (pss_cons (ps_asg (pe_op op_sub (pe_ix ix_list (pe_ix ix_list (pv 1) pe_int (fun _ _ => rfl)) pe_int (fun _ _ => rfl)) pe_int) (pg_sub (pe_ix ix_list (pv 1) pe_int (fun _ _ => rfl)) pe_int set_list))
    (pss_cons (ps_set (i := 15) sc_l_gen_block.nd rfl (.inl rfl) (pe_call G_l_gen_block (hr.mono (by omega)) (by rfl) D_l_gen_block.g D_l_gen_block.F.kp D_l_gen_block.b .nil pass0 (pa_cons (pv 0) (pa_cons (pv 1) (pa_cons (pe_op op_sub (pv 2) pe_int) (pa_cons (pv 3) (pa_cons (pe_call G_l_take (hr.mono (by omega)) (by rfl) D_l_take.g D_l_take.F.kp D_l_take.b .nil pass0 (pa_cons (pv 0) (pa_cons pe_int pa_nil))) (pa_cons (pe_op op_fdiv (pv 5) (pe_op op_mul pe_int (pv 10))) pa_nil))))))))
    (pss_cons (ps_set (i := 16) sc_l_gen_block.nd rfl (.inl rfl) (pe_call G_l_gen_block (hr.mono (by omega)) (by rfl) D_l_gen_block.g D_l_gen_block.F.kp D_l_gen_block.b .nil pass0 (pa_cons (pv 0) (pa_cons (pv 1) (pa_cons (pe_op op_sub (pv 2) pe_int) (pa_cons (pv 3) (pa_cons (pe_call G_l_take (hr.mono (by omega)) (by rfl) D_l_take.g D_l_take.F.kp D_l_take.b .nil pass0 (pa_cons (pv 0) (pa_cons pe_int pa_nil))) (pa_cons (pe_op op_fdiv (pv 5) (pe_op op_mul pe_int (pv 10))) pa_nil))))))))
    (pss_cons (ps_set (i := 13) sc_l_gen_block.nd rfl (.inl rfl) (pe_op op_mul (pv 10) (pe_op op_add (pe_ix ix_list (pv 15) pe_int (fun _ _ => rfl)) (pe_ix ix_list (pv 16) pe_int (fun _ _ => rfl)))))
    (pss_one (ps_set (i := 12) sc_l_gen_block.nd rfl (.inl rfl) (pe_tup (pa_cons pe_str (pa_cons pe_int (pa_cons (pv 11) (pa_cons (pe_ix ix_list (pv 15) pe_int (fun _ _ => rfl)) (pa_cons (pe_ix ix_list (pv 16) pe_int (fun _ _ => rfl)) pa_nil))))))))))))
    pss_nil)
    (pss_cons (ps_if (PW.pt (pw_and (pt_cmpR op_eq (pv 9) pe_int (nomark _)) (pw_and (pt_val (pv 14)) (pw_and1 (pt_cmpR op_gt (pv 3) pe_int (nomark _))))))
    (pss_cons (ps_asg (pe_op op_sub (pe_ix ix_list (pe_ix ix_list (pv 1) pe_int (fun _ _ => rfl)) pe_int (fun _ _ => rfl)) pe_int) (pg_sub (pe_ix ix_list (pv 1) pe_int (fun _ _ => rfl)) pe_int set_list))
    (pss_cons (ps_set (i := 17) sc_l_gen_block.nd rfl (.inl rfl) (pe_call G_l_gen_block (hr.mono (by omega)) (by rfl) D_l_gen_block.g D_l_gen_block.F.kp D_l_gen_block.b .nil pass0 (pa_cons (pv 0) (pa_cons (pv 1) (pa_cons (pe_op op_sub (pv 2) pe_int) (pa_cons (pe_op op_sub (pv 3) pe_int) (pa_cons (pe_op op_add pe_int (pe_call G_l_take (hr.mono (by omega)) (by rfl) D_l_take.g D_l_take.F.kp D_l_take.b .nil pass0 (pa_cons (pv 0) (pa_cons pe_int pa_nil)))) (pa_cons (pe_op op_fdiv (pv 5) (pe_op op_mul pe_int (pv 10))) pa_nil))))))))
    (pss_cons (ps_set (i := 13) sc_l_gen_block.nd rfl (.inl rfl) (pe_op op_mul (pv 10) (pe_op op_add (pe_ix ix_list (pv 17) pe_int (fun _ _ => rfl)) pe_int)))
    (pss_cons (ps_set (i := 18) sc_l_gen_block.nd rfl (.inl rfl) (pe_tup (pa_cons (pe_call G_l_gen_plain (hr.mono (by omega)) (by rfl) D_l_gen_plain.g D_l_gen_plain.F.kp D_l_gen_plain.b .nil pass0 (pa_cons (pv 0) (pa_cons (pv 1) pa_nil))) (pa_cons (pe_call G_l_gen_plain (hr.mono (by omega)) (by rfl) D_l_gen_plain.g D_l_gen_plain.F.kp D_l_gen_plain.b .nil pass0 (pa_cons (pv 0) (pa_cons (pv 1) pa_nil))) pa_nil))))
    (pss_cons (ps_set (i := 19) sc_l_gen_block.nd rfl (.inl rfl) (pe_ix ix_list (pv 17) pe_int (fun _ _ => rfl)))
    (Evl.pss_cut (ps_if (PW.pt (pw_and (pt_cmpR op_gt (pe_call G_l_take (hr.mono (by omega)) (by rfl) D_l_take.g D_l_take.F.kp D_l_take.b .nil pass0 (pa_cons (pv 0) (pa_cons pe_int pa_nil))) pe_int (nomark _)) (pw_and1 (pt_cmpR op_gt (pe_ix ix_list (pe_ix ix_list (pv 1) pe_int (fun _ _ => rfl)) pe_int (fun _ _ => rfl)) pe_int (nomark _)))))
    (pss_cons (ps_asg (pe_op op_sub (pe_ix ix_list (pe_ix ix_list (pv 1) pe_int (fun _ _ => rfl)) pe_int (fun _ _ => rfl)) pe_int) (pg_sub (pe_ix ix_list (pv 1) pe_int (fun _ _ => rfl)) pe_int set_list))
    (pss_cons (ps_set (i := 20) sc_l_gen_block.nd rfl (.inl rfl) (pe_ix ix_list (pe_ix ix_list (pv 1) pe_int (fun _ _ => rfl)) (pe_call G_l_take (hr.mono (by omega)) (by rfl) D_l_take.g D_l_take.F.kp D_l_take.b .nil pass0 (pa_cons (pv 0) (pa_cons pe_int pa_nil))) (fun _ _ => rfl)))
    (pss_cons (ps_set (i := 13) sc_l_gen_block.nd rfl (.inl rfl) (pe_op op_add (pe_ix ix_list (pv 17) pe_int (fun _ _ => rfl)) pe_int))
    (pss_cons (ps_set (i := 11) sc_l_gen_block.nd rfl (.inl rfl) (pe_tup (pa_cons pe_str (pa_cons pe_str (pa_cons (pe_tup (pa_cons pe_str (pa_cons (pv 20) (pa_cons pe_int pa_nil)))) (pa_cons (pe_call G_l_gen_plain (hr.mono (by omega)) (by rfl) D_l_gen_plain.g D_l_gen_plain.F.kp D_l_gen_plain.b .nil pass0 (pa_cons (pv 0) (pa_cons (pv 1) pa_nil))) pa_nil))))))
    (pss_one (ps_set (i := 19) sc_l_gen_block.nd rfl (.inl rfl) (pe_op op_catB (pv 19) (pe_tup (pa_cons (pe_tup (pa_cons pe_str (pa_cons pe_int (pa_cons (pv 20) (pa_cons (pe_tup (pa_cons pe_str (pa_cons (pv 20) (pa_cons pe_int pa_nil)))) pa_nil))))) pa_nil)))))))))
    pss_nil)
    (pss_cons (ps_set (i := 21) sc_l_gen_block.nd rfl (.inl rfl) (pe_op op_rep01 (pe_tup (pa_cons (pe_tup (pa_cons pe_str (pa_cons pe_str (pa_cons (pe_tup (pa_cons pe_str (pa_cons pe_int pa_nil))) (pa_cons (pe_tup (pa_cons pe_str (pa_cons pe_int pa_nil))) pa_nil))))) pa_nil)) (pe_callTy call_int1 (by rfl) T.n_int (by decide +kernel) (pa_cons (pe_andB (pe_cmpR op_eq (pe_call G_l_take (hr.mono (by omega)) (by rfl) D_l_take.g D_l_take.F.kp D_l_take.b .nil pass0 (pa_cons (pv 0) (pa_cons pe_int pa_nil))) pe_int (nomark _)) (pe_one (pe_cmpR op_gt (pe_ix ix_list (pe_ix ix_list (pv 1) pe_int (fun _ _ => rfl)) pe_int (fun _ _ => rfl)) pe_int (nomark _)))) pa_nil))))
    (pss_cons (ps_asg (pe_op op_sub (pe_ix ix_list (pe_ix ix_list (pv 1) pe_int (fun _ _ => rfl)) pe_int (fun _ _ => rfl)) (pe_callB call_len_seq (by rfl) T.n_len PySem.boot_len (pa_cons (pv 21) pa_nil))) (pg_sub (pe_ix ix_list (pv 1) pe_int (fun _ _ => rfl)) pe_int set_list))
    (pss_one (ps_set (i := 12) sc_l_gen_block.nd rfl (.inl rfl) (pe_tup (pa_cons pe_str (pa_cons pe_int (pa_cons (pv 11) (pa_cons (pv 21) (pa_cons (pv 18) (pa_cons (pv 19) pa_nil)))))))))))))))))
    pss_nil)
    (pss_cons (ps_set (i := 5) sc_l_gen_block.nd rfl (.inl rfl) (pe_op op_fdiv (pv 5) (pv 13)))
    (pss_cons (ps_set (i := 7) sc_l_gen_block.nd rfl (.inl rfl) (pe_op op_mul (pv 7) (pv 13)))
    (pss_one (ps_expr (pe_bm PySem.F.plainAttrs_list PySem.F.slot_list_append PySem.F.type_list_append mt_append (pv 6) (pa_cons (pv 12) pa_nil)))))))))))))))))
    (pss_one (ps_ret (pe_lst (pa_cons (pv 7) (pa_cons (pe_callTy call_tuple_of (by rfl) T.n_tuple (by decide +kernel) (pa_cons (pv 6) pa_nil)) pa_nil)))))))), ?_⟩
      refine ⟨Nat.zero_le _, fun Bk nB => ?_⟩
      generalize hG : upd H Bk _ = G
      obtain ⟨s1, e1⟩ := new_of nB hG
      refine ⟨_, rfl, mny, rfl, by omega, by omega, ?_⟩
      refine for_range (lo := 0) (n := mny.toNat) (fun i σ J => ∃ (bu dn rr : Int) (y8 y9 y10 y11 y12 y13 y14 y15 y16 y17 y18 y19 y20 y21 : Option V) (xs : List V) (bs : List (BD (0 + 1))), σ = [some (.ref h), some (.ref a.c), some (.int dep), some (.int wh), some (.int mny), some (.int bu), some (.ref Bk), some (.int dn), y8, y9, y10, y11, y12, y13, y14, y15, y16, y17, y18, y19, y20, y21] ∧ BlkSt K H h d ds a x 0 Bk bud J bu dn rr xs bs i) ⟨bud, 1, r, _, _, _, _, _, _, _, _, _, _, _, _, _, _, [], [], rfl, ⟨B2.same s1, st.same s1, e1, .nil, fun _ h => (List.not_mem_nil h).elim, fun _ h => (List.not_mem_nil h).elim, Nat.le_refl _, Nat.zero_le _, hbu1, by decide, by omega⟩⟩ (fun i σ J hi hP => ?_) (fun σ J hP => ?_)
      · obtain ⟨bu, dn, rr, y8, y9, y10, y11, y12, y13, y14, y15, y16, y17, y18, y19, y20, y21, xs, bs, rfl, z⟩ := hP
        refine ⟨_, rfl, a.c, _, _, _, rfl, rfl, SqL.of z.st.cx.c, atI_nat (j := 5) rfl, a.R, _, _, _, rfl, rfl, SqL.of z.st.cx.r, atI_nat (j := 0) rfl, _, _, rfl, rfl, _, rfl, ite2 (fun e => ?_) (fun e => ?_)⟩
        · refine ⟨_, rfl, _, rfl, Bk, _, rfl, .inl ⟨SqL.of z.e, fun tt nt => ?_⟩⟩
          exact ⟨by show 2 ≤ sizeLine; decide, fun t n => fin_blk q z (by omega) hm0 nt n⟩
        clear e
        refine ⟨_, rfl, h, d, ds, 7, rfl, by decide, z.st.hd, fun k J1 hk0 hk1 bk hdk _ => ?_⟩
        replace z := z.mv st nB (B2.but bk) (z.st.but bk hdk)
        refine ⟨_, rfl, _, rfl, h, d, ds, a, x, _, rfl, z.st, fun tc c vc J2 c1 c3 bc stc oc ec => ⟨tc, _, rfl, SqL.of ec, rfl, _, _, rfl, _, _, rfl, rfl, ?_⟩⟩
        replace z := z.mv st nB (B2.but bc) stc
        refine ⟨_, rfl, _, rfl, h, d, ds, a, x, _, rfl, z.st, trivial, hps, fun vS s0 J3 bs0 sts dS o0 m0' => ?_⟩
        replace oc := z.st.op (B2.but bs0) oc
        replace z := z.mv st nB (B2.but bs0) sts
        refine ⟨_, rfl, a.c, _, _, _, rfl, rfl, SqL.of z.st.cx.c, atI_nat (j := 5) rfl, a.R, _, _, _, rfl, rfl, SqL.of z.st.cx.r, atI_nat (j := 0) rfl, _, _, rfl, rfl, _, rfl, a.c, _, _, _, rfl, rfl, SqL.of z.st.cx.c, atI_nat (j := 5) rfl, a.R, _, 0, 0, rfl, rfl, z.st.cx.r, rfl, ?_⟩
        generalize hGR0 : upd J3 a.R _ = J4
        replace oc := z.st.op (B2.ofR hGR0) oc
        replace dS := z.st.dp (B2.ofR hGR0) (Sm.noL o0) dS
        replace z := z.mv st nB (B2.ofR hGR0) (z.st.ofR hdR hGR0)
        have hbl := z.bu_le
        have hdl := z.dn_le
        have hb1 := z.bu1
        have hd1 := z.dn1
        refine ⟨_, rfl, _, _, rfl, rfl, ?_⟩
        refine ⟨decide (0 < dep), 2 * c ≤ bu, rfl, fun _ => ⟨_, rfl, _, _, rfl, rfl, .inl ⟨by decide, by decide⟩, _, rfl, _, _, rfl, rfl, decide (2 * c ≤ bu), True, rfl, fun _ => ⟨_, rfl, a.c, _, _, _, rfl, rfl, SqL.of z.st.cx.c, atI_nat (j := 5) rfl, a.R, _, _, _, rfl, rfl, SqL.of z.st.cx.r, atI_nat (j := 0) rfl, _, _, rfl, rfl, _, rfl, rfl, fun _ => trivial⟩, fun f hf => ⟨f, rfl, rfl, fun e => of_decide_eq_true (hf e).1⟩⟩, fun f hf => ?_⟩
        have hf : f = true → 0 < dep ∧ 2 * c ≤ bu := fun e => ⟨of_decide_eq_true (hf e).1, (hf e).2⟩
        have hk : k = 0 ∨ (k = 1 ∨ k = 2) ∨ k = 3 ∨ 3 < k := by omega
        rcases hk with hk | hk | hk | hk
        · have hk3 : ¬ k = 3 := by omega
          have hk12 : (decide ((1 : Int) = k) || (decide ((2 : Int) = k) || false)) = false := by rw [decide_eq_false (by omega), decide_eq_false (by omega)]; rfl
          refine ⟨_, rfl, rfl, _, rfl, ?_⟩
          rw [int_dec, decide_eq_true hk]
          refine iteT ⟨_, rfl, _, rfl, _, _, rfl, rfl, _, rfl, ite2 (fun c5 => ?_) (fun c5 => ?_)⟩
          · have c5 := of_decide_eq_true c5
            refine ⟨_, rfl, ?_⟩
            refine ⟨_, rfl, by show 3 ≤ sizeLine; decide, fun tCH nCH => ?_⟩
            generalize hGCH : upd J4 tCH _ = J5
            obtain ⟨sCH, eCH⟩ := new_of nCH hGCH
            replace oc := z.st.op (B2.same sCH) oc
            replace dS := z.st.dp (B2.same sCH) (Sm.noL o0) dS
            replace z := z.mv st nB (B2.same sCH) (z.st.same sCH)
            obtain ⟨cd, dc, nc⟩ := oc
            have dS : Dp K J5 (.ref tCH) (encD (0 + 1) (show BD (0 + 1) from ((Sm.oth "check" 0 [cd]).to : Sf (BD 0)))) := .tup (SqT.of eCH) (.cons (.str _) (.cons (.int _) (.cons dc .nil)))
            have kS : (Sm.oth "check" 0 [cd]).ok := ⟨by decide +kernel, by show (noL cd && true) = true; rw [nc]; rfl⟩
            refine ⟨_, rfl, by show 2 ≤ sizeLine; decide, fun tL5 nL5 => ?_⟩
            generalize hGL5 : upd J5 tL5 _ = J6
            obtain ⟨sL5, eL5⟩ := new_of nL5 hGL5
            replace dS := z.st.dp (B2.same sL5) (noL_D (0 + 1) (show BD (0 + 1) from ((Sm.oth "check" 0 [cd]).to : Sf (BD 0))) (Sm.ok_to (B := BD 0) (p := okD 0) kS)) dS
            replace z := z.mv st nB (B2.same sL5) (z.st.same sL5)
            refine ⟨tL5, _, rfl, .inl (SqL.of eL5), rfl, rfl, _, rfl, ?_⟩
            show if inV (.int k) [.int 1, .int 2] = true then _ else _
            rw [in12, hk12]
            refine iteF ?_
            refine iteF ?_
            refine ⟨_, rfl, rfl, _, rfl, ?_⟩
            rw [int_dec, decide_eq_false hk3]
            refine iteF ?_
            refine iteF ?_
            refine ⟨_, rfl, _, rfl, _, _, rfl, rfl, ⟨by omega, by omega⟩, ?_⟩
            refine ⟨_, rfl, _, rfl, _, _, rfl, rfl, .inl ⟨by omega, by omega⟩, ?_⟩
            refine ⟨_, rfl, .inl ⟨rfl, _, SqL.of z.e⟩, _, rfl, Bk, _, _, rfl, rfl, z.e, small_sz5 (by have := z.xl; omega), ?_⟩
            have zz := z.next st nB dS (Sm.ok_to kS) (sm_of trivial) (sm_len _) c1 c5
            exact ⟨_, _, _, _, _, _, _, _, _, _, _, _, _, _, _, _, _, _, _, rfl, zz⟩
          · refine ⟨_, rfl, by show 2 ≤ sizeLine; decide, fun tL6 nL6 => ?_⟩
            generalize hGL6 : upd J4 tL6 _ = J7
            obtain ⟨sL6, eL6⟩ := new_of nL6 hGL6
            replace oc := z.st.op (B2.same sL6) oc
            replace dS := z.st.dp (B2.same sL6) (Sm.noL o0) dS
            replace z := z.mv st nB (B2.same sL6) (z.st.same sL6)
            refine ⟨tL6, _, rfl, .inl (SqL.of eL6), rfl, rfl, _, rfl, ?_⟩
            show if inV (.int k) [.int 1, .int 2] = true then _ else _
            rw [in12, hk12]
            refine iteF ?_
            refine iteF ?_
            refine ⟨_, rfl, rfl, _, rfl, ?_⟩
            rw [int_dec, decide_eq_false hk3]
            refine iteF ?_
            refine iteF ?_
            refine ⟨_, rfl, _, rfl, _, _, rfl, rfl, ⟨by omega, by omega⟩, ?_⟩
            refine ⟨_, rfl, _, rfl, _, _, rfl, rfl, .inl ⟨by omega, by omega⟩, ?_⟩
            refine ⟨_, rfl, .inl ⟨rfl, _, SqL.of z.e⟩, _, rfl, Bk, _, _, rfl, rfl, z.e, small_sz5 (by have := z.xl; omega), ?_⟩
            have zz := z.next st nB (show Dp K _ vS (encD (0 + 1) (show BD (0 + 1) from (s0.to : Sf (BD 0)))) by rw [show encD (0 + 1) (show BD (0 + 1) from (s0.to : Sf (BD 0))) = s0.enc from Sm.enc_to s0]; exact dS) (Sm.ok_to o0) (sm_of m0') (sm_len s0) (by decide) z.bu1
            exact ⟨_, _, _, _, _, _, _, _, _, _, _, _, _, _, _, _, _, _, _, rfl, zz⟩
        · have k0 : ¬ k = 0 := by omega
          have hk3 : ¬ k = 3 := by omega
          have hk12 : (decide ((1 : Int) = k) || (decide ((2 : Int) = k) || false)) = true := by rcases hk with rfl | rfl <;> rfl
          refine ⟨_, rfl, rfl, _, rfl, ?_⟩
          rw [int_dec, decide_eq_false k0]
          refine iteF ?_
          refine iteF ?_
          refine ⟨_, rfl, by show 2 ≤ sizeLine; decide, fun tL8 nL8 => ?_⟩
          generalize hGL8 : upd J4 tL8 _ = J9
          obtain ⟨sL8, eL8⟩ := new_of nL8 hGL8
          replace oc := z.st.op (B2.same sL8) oc
          replace dS := z.st.dp (B2.same sL8) (Sm.noL o0) dS
          replace z := z.mv st nB (B2.same sL8) (z.st.same sL8)
          refine ⟨tL8, _, rfl, .inl (SqL.of eL8), rfl, rfl, _, rfl, ?_⟩
          show if inV (.int k) [.int 1, .int 2] = true then _ else _
          rw [in12, hk12]
          refine iteT ⟨_, rfl, f, rfl, ?_⟩
          cases f with
          | false =>
            refine iteF ?_
            refine ⟨_, rfl, rfl, _, rfl, ?_⟩
            rw [int_dec, decide_eq_false hk3]
            refine iteF ?_
            refine iteF ?_
            refine ⟨_, rfl, _, rfl, _, _, rfl, rfl, ⟨by omega, by omega⟩, ?_⟩
            refine ⟨_, rfl, _, rfl, _, _, rfl, rfl, .inl ⟨by omega, by omega⟩, ?_⟩
            refine ⟨_, rfl, .inl ⟨rfl, _, SqL.of z.e⟩, _, rfl, Bk, _, _, rfl, rfl, z.e, small_sz5 (by have := z.xl; omega), ?_⟩
            have zz := z.next st nB (show Dp K _ vS (encD (0 + 1) (show BD (0 + 1) from (s0.to : Sf (BD 0)))) by rw [show encD (0 + 1) (show BD (0 + 1) from (s0.to : Sf (BD 0))) = s0.enc from Sm.enc_to s0]; exact dS) (Sm.ok_to o0) (sm_of m0') (sm_len s0) (by decide) z.bu1
            exact ⟨_, _, _, _, _, _, _, _, _, _, _, _, _, _, _, _, _, _, _, rfl, zz⟩
          | true =>
            obtain ⟨hp1, hp2⟩ := hf rfl
            exact absurd hp1 (by omega)
        · have k0 : ¬ k = 0 := by omega
          have hk12 : (decide ((1 : Int) = k) || (decide ((2 : Int) = k) || false)) = false := by rw [decide_eq_false (by omega), decide_eq_false (by omega)]; rfl
          refine ⟨_, rfl, rfl, _, rfl, ?_⟩
          rw [int_dec, decide_eq_false k0]
          refine iteF ?_
          refine iteF ?_
          refine ⟨_, rfl, by show 2 ≤ sizeLine; decide, fun tL9 nL9 => ?_⟩
          generalize hGL9 : upd J4 tL9 _ = J10
          obtain ⟨sL9, eL9⟩ := new_of nL9 hGL9
          replace oc := z.st.op (B2.same sL9) oc
          replace dS := z.st.dp (B2.same sL9) (Sm.noL o0) dS
          replace z := z.mv st nB (B2.same sL9) (z.st.same sL9)
          refine ⟨tL9, _, rfl, .inl (SqL.of eL9), rfl, rfl, _, rfl, ?_⟩
          show if inV (.int k) [.int 1, .int 2] = true then _ else _
          rw [in12, hk12]
          refine iteF ?_
          refine iteF ?_
          refine ⟨_, rfl, rfl, _, rfl, ?_⟩
          rw [int_dec, decide_eq_true hk]
          refine iteT ⟨_, rfl, f, rfl, ?_⟩
          cases f with
          | false =>
            refine iteF ?_
            refine iteF ?_
            refine ⟨_, rfl, _, rfl, _, _, rfl, rfl, ⟨by omega, by omega⟩, ?_⟩
            refine ⟨_, rfl, _, rfl, _, _, rfl, rfl, .inl ⟨by omega, by omega⟩, ?_⟩
            refine ⟨_, rfl, .inl ⟨rfl, _, SqL.of z.e⟩, _, rfl, Bk, _, _, rfl, rfl, z.e, small_sz5 (by have := z.xl; omega), ?_⟩
            have zz := z.next st nB (show Dp K _ vS (encD (0 + 1) (show BD (0 + 1) from (s0.to : Sf (BD 0)))) by rw [show encD (0 + 1) (show BD (0 + 1) from (s0.to : Sf (BD 0))) = s0.enc from Sm.enc_to s0]; exact dS) (Sm.ok_to o0) (sm_of m0') (sm_len s0) (by decide) z.bu1
            exact ⟨_, _, _, _, _, _, _, _, _, _, _, _, _, _, _, _, _, _, _, rfl, zz⟩
          | true =>
            obtain ⟨hp1, hp2⟩ := hf rfl
            refine iteT ⟨_, rfl, _, _, rfl, rfl, _, rfl, ite2 (fun e => ?_) (fun e => ?_)⟩
            · exact absurd hp1 (by omega)
            · refine ⟨_, rfl, _, rfl, _, _, rfl, rfl, ⟨by omega, by omega⟩, ?_⟩
              refine ⟨_, rfl, _, rfl, _, _, rfl, rfl, .inl ⟨by omega, by omega⟩, ?_⟩
              refine ⟨_, rfl, .inl ⟨rfl, _, SqL.of z.e⟩, _, rfl, Bk, _, _, rfl, rfl, z.e, small_sz5 (by have := z.xl; omega), ?_⟩
              have zz := z.next st nB (show Dp K _ vS (encD (0 + 1) (show BD (0 + 1) from (s0.to : Sf (BD 0)))) by rw [show encD (0 + 1) (show BD (0 + 1) from (s0.to : Sf (BD 0))) = s0.enc from Sm.enc_to s0]; exact dS) (Sm.ok_to o0) (sm_of m0') (sm_len s0) (by decide) z.bu1
              exact ⟨_, _, _, _, _, _, _, _, _, _, _, _, _, _, _, _, _, _, _, rfl, zz⟩
        · have hk3 : ¬ k = 3 := by omega
          have hk12 : (decide ((1 : Int) = k) || (decide ((2 : Int) = k) || false)) = false := by rw [decide_eq_false (by omega), decide_eq_false (by omega)]; rfl
          have k0 : ¬ k = 0 := by omega
          refine ⟨_, rfl, rfl, _, rfl, ?_⟩
          rw [int_dec, decide_eq_false k0]
          refine iteF ?_
          refine iteF ?_
          refine ⟨_, rfl, by show 2 ≤ sizeLine; decide, fun tL7 nL7 => ?_⟩
          generalize hGL7 : upd J4 tL7 _ = J8
          obtain ⟨sL7, eL7⟩ := new_of nL7 hGL7
          replace oc := z.st.op (B2.same sL7) oc
          replace dS := z.st.dp (B2.same sL7) (Sm.noL o0) dS
          replace z := z.mv st nB (B2.same sL7) (z.st.same sL7)
          refine ⟨tL7, _, rfl, .inl (SqL.of eL7), rfl, rfl, _, rfl, ?_⟩
          show if inV (.int k) [.int 1, .int 2] = true then _ else _
          rw [in12, hk12]
          refine iteF ?_
          refine iteF ?_
          refine ⟨_, rfl, rfl, _, rfl, ?_⟩
          rw [int_dec, decide_eq_false hk3]
          refine iteF ?_
          refine iteF ?_
          refine ⟨_, rfl, _, rfl, _, _, rfl, rfl, ⟨by omega, by omega⟩, ?_⟩
          refine ⟨_, rfl, _, rfl, _, _, rfl, rfl, .inl ⟨by omega, by omega⟩, ?_⟩
          refine ⟨_, rfl, .inl ⟨rfl, _, SqL.of z.e⟩, _, rfl, Bk, _, _, rfl, rfl, z.e, small_sz5 (by have := z.xl; omega), ?_⟩
          have zz := z.next st nB (show Dp K _ vS (encD (0 + 1) (show BD (0 + 1) from (s0.to : Sf (BD 0)))) by rw [show encD (0 + 1) (show BD (0 + 1) from (s0.to : Sf (BD 0))) = s0.enc from Sm.enc_to s0]; exact dS) (Sm.ok_to o0) (sm_of m0') (sm_len s0) (by decide) z.bu1
          exact ⟨_, _, _, _, _, _, _, _, _, _, _, _, _, _, _, _, _, _, _, rfl, zz⟩
      · obtain ⟨bu, dn, rr, y8, y9, y10, y11, y12, y13, y14, y15, y16, y17, y18, y19, y20, y21, xs, bs, rfl, z⟩ := hP
        refine ⟨_, rfl, _, rfl, Bk, _, rfl, .inl ⟨SqL.of z.e, fun tt nt => ?_⟩⟩
        exact ⟨by show 2 ≤ sizeLine; decide, fun t n => fin_blk q z (Nat.le_refl _) hm0 nt n⟩
  | m + 1 => by
    have G_l_take := ok_l_take (P := P) (w := w) (K := K) (base := base) T D_l_take
    have G_l_gen_plain := ok_l_plain (P := P) (w := w) (K := K) (base := base) T D_l_gen_plain D_l_take
    have G_l_gen_simple := ok_l_simple (P := P) (w := w) (K := K) (base := base) T D_l_gen_simple D_l_gen_call D_l_gen_term D_l_gen_index D_l_gen_plain D_l_take
    have G_l_gen_condition := ok_l_condition (P := P) (w := w) (K := K) (base := base) T D_l_gen_condition D_l_gen_cmp D_l_gen_term D_l_gen_index D_l_gen_plain D_l_take
    have G_l_gen_block := ok_l_block T D_l_gen_block D_l_gen_simple D_l_gen_call D_l_gen_condition D_l_gen_cmp D_l_gen_term D_l_gen_index D_l_gen_plain D_l_take m
    refine D_l_gen_block.F.ok sc_l_gen_block (fun vs H Q E h => ?_) (fun cdv A outer s H vs Q E hr h => ?_)
    · obtain ⟨h, d, ds, a, x, r, dep, wh, mny, bud, rfl, _⟩ := h
      rfl
    · obtain ⟨h, d, ds, a, x, r, dep, wh, mny, bud, rfl, hdep, st, hdR, hps, hm0, hm5, hbu1, hbu2, q⟩ := h
      refine ⟨_, (pss_cons (ps_set (i := 6) sc_l_gen_block.nd rfl (.inl rfl) (pe_lst pa_nil))
    (pss_cons (ps_set (i := 7) sc_l_gen_block.nd rfl (.inl rfl) pe_int)
    (pss_cons (ps_for PassesOwn.never rfl (pi_range1 (by rfl) T.n_range (pa_cons (pv 4) pa_nil)) (pg_name (i := 8) sc_l_gen_block.nd rfl (.inl rfl))
    (pss_cons (ps_if (pt_cmpR op_le (pe_ix ix_list (pe_ix ix_list (pv 1) pe_int (fun _ _ => rfl)) pe_int (fun _ _ => rfl)) pe_int (nomark _))
    (pss_one ps_break)
    pss_nil)
    (pss_cons (ps_set (i := 9) sc_l_gen_block.nd rfl (.inl rfl) (pe_call G_l_take (hr.mono (by omega)) (by rfl) D_l_take.g D_l_take.F.kp D_l_take.b .nil pass0 (pa_cons (pv 0) (pa_cons pe_int pa_nil))))
    (pss_cons (ps_asg (pe_call G_l_gen_condition (hr.mono (by omega)) (by rfl) D_l_gen_condition.g D_l_gen_condition.F.kp D_l_gen_condition.b .nil pass0 (pa_cons (pv 0) (pa_cons (pv 1) pa_nil))) (pg_lst (by rfl) (pgs_cons (pg_name (i := 10) sc_l_gen_block.nd rfl (.inl rfl)) (pgs_cons (pg_name (i := 11) sc_l_gen_block.nd rfl (.inl rfl)) pgs_nil))))
    (pss_cons (ps_set (i := 12) sc_l_gen_block.nd rfl (.inl rfl) (pe_call G_l_gen_simple (hr.mono (by omega)) (by rfl) D_l_gen_simple.g D_l_gen_simple.F.kp D_l_gen_simple.b .nil pass0 (pa_cons (pv 0) (pa_cons (pv 1) pa_nil))))
    (pss_cons (ps_set (i := 13) sc_l_gen_block.nd rfl (.inl rfl) pe_int)
    (pss_cons (ps_asg (pe_op op_sub (pe_ix ix_list (pe_ix ix_list (pv 1) pe_int (fun _ _ => rfl)) pe_int (fun _ _ => rfl)) pe_int) (pg_sub (pe_ix ix_list (pv 1) pe_int (fun _ _ => rfl)) pe_int set_list))
    (pss_cons (ps_set (i := 14) sc_l_gen_block.nd rfl (.inl rfl) (pe_andB (pe_cmpR op_gt (pv 2) pe_int (nomark _)) (pe_andB (pe_cmpR op_le (pe_op op_mul pe_int (pv 10)) (pv 5) (nomark _)) (pe_one (pe_cmpR op_ge (pe_ix ix_list (pe_ix ix_list (pv 1) pe_int (fun _ _ => rfl)) pe_int (fun _ _ => rfl)) pe_int (nomark _))))))
    (pss_cons (ps_if (PW.pt (pw_and (pt_cmpR op_eq (pv 9) pe_int (nomark _)) (pw_and1 (pt_cmpR op_le (pv 10) (pv 5) (nomark _)))))
    (pss_cons (ps_set (i := 13) sc_l_gen_block.nd rfl (.inl rfl) (pv 10))
    (pss_one (ps_set (i := 12) sc_l_gen_block.nd rfl (.inl rfl) (pe_tup (pa_cons pe_str (pa_cons pe_int (pa_cons (pv 11) pa_nil)))))))
    pss_nil)
    (pss_cons (ps_if (PW.pt (pw_and (pt_cmpR op_in_seq (pv 9) (pe_lst (pa_cons pe_int (pa_cons pe_int pa_nil))) (by rfl)) (pw_and1 (pt_val (pv 14)))))
    (pss_cons (ps_asg (pe_op op_sub (pe_ix ix_list (pe_ix ix_list (pv 1) pe_int (fun _ _ => rfl)) pe_int (fun _ _ => rfl)) pe_int) (pg_sub (pe_ix ix_list (pv 1) pe_int (fun _ _ => rfl)) pe_int set_list))
    (pss_cons (ps_set (i := 15) sc_l_gen_block.nd rfl (.inl rfl) (pe_call G_l_gen_block (hr.mono (by omega)) (by rfl) D_l_gen_block.g D_l_gen_block.F.kp D_l_gen_block.b .nil pass0 (pa_cons (pv 0) (pa_cons (pv 1) (pa_cons (pe_op op_sub (pv 2) pe_int) (pa_cons (pv 3) (pa_cons (pe_call G_l_take (hr.mono (by omega)) (by rfl) D_l_take.g D_l_take.F.kp D_l_take.b .nil pass0 (pa_cons (pv 0) (pa_cons pe_int pa_nil))) (pa_cons (pe_op op_fdiv (pv 5) (pe_op op_mul pe_int (pv 10))) pa_nil))))))))
    (pss_cons (ps_set (i := 16) sc_l_gen_block.nd rfl (.inl rfl) (pe_call G_l_gen_block (hr.mono (by omega)) (by rfl) D_l_gen_block.g D_l_gen_block.F.kp D_l_gen_block.b .nil pass0 (pa_cons (pv 0) (pa_cons (pv 1) (pa_cons (pe_op op_sub (pv 2) pe_int) (pa_cons (pv 3) (pa_cons (pe_call G_l_take (hr.mono (by omega)) (by rfl) D_l_take.g D_l_take.F.kp D_l_take.b .nil pass0 (pa_cons (pv 0) (pa_cons pe_int pa_nil))) (pa_cons (pe_op op_fdiv (pv 5) (pe_op op_mul pe_int (pv 10))) pa_nil))))))))
    (pss_cons (ps_set (i := 13) sc_l_gen_block.nd rfl (.inl rfl) (pe_op op_mul (pv 10) (pe_op op_add (pe_ix ix_list (pv 15) pe_int (fun _ _ => rfl)) (pe_ix ix_list (pv 16) pe_int (fun _ _ => rfl)))))
    (pss_one (ps_set (i := 12) sc_l_gen_block.nd rfl (.inl rfl) (pe_tup (pa_cons pe_str (pa_cons pe_int (pa_cons (pv 11) (pa_cons (pe_ix ix_list (pv 15) pe_int (fun _ _ => rfl)) (pa_cons (pe_ix ix_list (pv 16) pe_int (fun _ _ => rfl)) pa_nil))))))))))))
    pss_nil)
    (pss_cons (ps_if (PW.pt (pw_and (pt_cmpR op_eq (pv 9) pe_int (nomark _)) (pw_and (pt_val (pv 14)) (pw_and1 (pt_cmpR op_gt (pv 3) pe_int (nomark _))))))
    (pss_cons (ps_asg (pe_op op_sub (pe_ix ix_list (pe_ix ix_list (pv 1) pe_int (fun _ _ => rfl)) pe_int (fun _ _ => rfl)) pe_int) (pg_sub (pe_ix ix_list (pv 1) pe_int (fun _ _ => rfl)) pe_int set_list))
    (pss_cons (ps_set (i := 17) sc_l_gen_block.nd rfl (.inl rfl) (pe_call G_l_gen_block (hr.mono (by omega)) (by rfl) D_l_gen_block.g D_l_gen_block.F.kp D_l_gen_block.b .nil pass0 (pa_cons (pv 0) (pa_cons (pv 1) (pa_cons (pe_op op_sub (pv 2) pe_int) (pa_cons (pe_op op_sub (pv 3) pe_int) (pa_cons (pe_op op_add pe_int (pe_call G_l_take (hr.mono (by omega)) (by rfl) D_l_take.g D_l_take.F.kp D_l_take.b .nil pass0 (pa_cons (pv 0) (pa_cons pe_int pa_nil)))) (pa_cons (pe_op op_fdiv (pv 5) (pe_op op_mul pe_int (pv 10))) pa_nil))))))))
    (pss_cons (ps_set (i := 13) sc_l_gen_block.nd rfl (.inl rfl) (pe_op op_mul (pv 10) (pe_op op_add (pe_ix ix_list (pv 17) pe_int (fun _ _ => rfl)) pe_int)))
    (pss_cons (ps_set (i := 18) sc_l_gen_block.nd rfl (.inl rfl) (pe_tup (pa_cons (pe_call G_l_gen_plain (hr.mono (by omega)) (by rfl) D_l_gen_plain.g D_l_gen_plain.F.kp D_l_gen_plain.b .nil pass0 (pa_cons (pv 0) (pa_cons (pv 1) pa_nil))) (pa_cons (pe_call G_l_gen_plain (hr.mono (by omega)) (by rfl) D_l_gen_plain.g D_l_gen_plain.F.kp D_l_gen_plain.b .nil pass0 (pa_cons (pv 0) (pa_cons (pv 1) pa_nil))) pa_nil))))
    (pss_cons (ps_set (i := 19) sc_l_gen_block.nd rfl (.inl rfl) (pe_ix ix_list (pv 17) pe_int (fun _ _ => rfl)))
    (Evl.pss_cut (ps_if (PW.pt (pw_and (pt_cmpR op_gt (pe_call G_l_take (hr.mono (by omega)) (by rfl) D_l_take.g D_l_take.F.kp D_l_take.b .nil pass0 (pa_cons (pv 0) (pa_cons pe_int pa_nil))) pe_int (nomark _)) (pw_and1 (pt_cmpR op_gt (pe_ix ix_list (pe_ix ix_list (pv 1) pe_int (fun _ _ => rfl)) pe_int (fun _ _ => rfl)) pe_int (nomark _)))))
    (pss_cons (ps_asg (pe_op op_sub (pe_ix ix_list (pe_ix ix_list (pv 1) pe_int (fun _ _ => rfl)) pe_int (fun _ _ => rfl)) pe_int) (pg_sub (pe_ix ix_list (pv 1) pe_int (fun _ _ => rfl)) pe_int set_list))
    (pss_cons (ps_set (i := 20) sc_l_gen_block.nd rfl (.inl rfl) (pe_ix ix_list (pe_ix ix_list (pv 1) pe_int (fun _ _ => rfl)) (pe_call G_l_take (hr.mono (by omega)) (by rfl) D_l_take.g D_l_take.F.kp D_l_take.b .nil pass0 (pa_cons (pv 0) (pa_cons pe_int pa_nil))) (fun _ _ => rfl)))
    (pss_cons (ps_set (i := 13) sc_l_gen_block.nd rfl (.inl rfl) (pe_op op_add (pe_ix ix_list (pv 17) pe_int (fun _ _ => rfl)) pe_int))
    (pss_cons (ps_set (i := 11) sc_l_gen_block.nd rfl (.inl rfl) (pe_tup (pa_cons pe_str (pa_cons pe_str (pa_cons (pe_tup (pa_cons pe_str (pa_cons (pv 20) (pa_cons pe_int pa_nil)))) (pa_cons (pe_call G_l_gen_plain (hr.mono (by omega)) (by rfl) D_l_gen_plain.g D_l_gen_plain.F.kp D_l_gen_plain.b .nil pass0 (pa_cons (pv 0) (pa_cons (pv 1) pa_nil))) pa_nil))))))
    (pss_one (ps_set (i := 19) sc_l_gen_block.nd rfl (.inl rfl) (pe_op op_catB (pv 19) (pe_tup (pa_cons (pe_tup (pa_cons pe_str (pa_cons pe_int (pa_cons (pv 20) (pa_cons (pe_tup (pa_cons pe_str (pa_cons (pv 20) (pa_cons pe_int pa_nil)))) pa_nil))))) pa_nil)))))))))
    pss_nil)
    (pss_cons (ps_set (i := 21) sc_l_gen_block.nd rfl (.inl rfl) (pe_op op_rep01 (pe_tup (pa_cons (pe_tup (pa_cons pe_str (pa_cons pe_str (pa_cons (pe_tup (pa_cons pe_str (pa_cons pe_int pa_nil))) (pa_cons (pe_tup (pa_cons pe_str (pa_cons pe_int pa_nil))) pa_nil))))) pa_nil)) (pe_callTy call_int1 (by rfl) T.n_int (by decide +kernel) (pa_cons (pe_andB (pe_cmpR op_eq (pe_call G_l_take (hr.mono (by omega)) (by rfl) D_l_take.g D_l_take.F.kp D_l_take.b .nil pass0 (pa_cons (pv 0) (pa_cons pe_int pa_nil))) pe_int (nomark _)) (pe_one (pe_cmpR op_gt (pe_ix ix_list (pe_ix ix_list (pv 1) pe_int (fun _ _ => rfl)) pe_int (fun _ _ => rfl)) pe_int (nomark _)))) pa_nil))))
    (pss_cons (ps_asg (pe_op op_sub (pe_ix ix_list (pe_ix ix_list (pv 1) pe_int (fun _ _ => rfl)) pe_int (fun _ _ => rfl)) (pe_callB call_len_seq (by rfl) T.n_len PySem.boot_len (pa_cons (pv 21) pa_nil))) (pg_sub (pe_ix ix_list (pv 1) pe_int (fun _ _ => rfl)) pe_int set_list))
    (pss_one (ps_set (i := 12) sc_l_gen_block.nd rfl (.inl rfl) (pe_tup (pa_cons pe_str (pa_cons pe_int (pa_cons (pv 11) (pa_cons (pv 21) (pa_cons (pv 18) (pa_cons (pv 19) pa_nil)))))))))))))))))
    pss_nil)
    (pss_cons (ps_set (i := 5) sc_l_gen_block.nd rfl (.inl rfl) (pe_op op_fdiv (pv 5) (pv 13)))
    (pss_cons (ps_set (i := 7) sc_l_gen_block.nd rfl (.inl rfl) (pe_op op_mul (pv 7) (pv 13)))
    (pss_one (ps_expr (pe_bm PySem.F.plainAttrs_list PySem.F.slot_list_append PySem.F.type_list_append mt_append (pv 6) (pa_cons (pv 12) pa_nil)))))))))))))))))
    (pss_one (ps_ret (pe_lst (pa_cons (pv 7) (pa_cons (pe_callTy call_tuple_of (by rfl) T.n_tuple (by decide +kernel) (pa_cons (pv 6) pa_nil)) pa_nil)))))))), ?_⟩
      refine ⟨Nat.zero_le _, fun Bk nB => ?_⟩
      generalize hG : upd H Bk _ = G
      obtain ⟨s1, e1⟩ := new_of nB hG
      refine ⟨_, rfl, mny, rfl, by omega, by omega, ?_⟩
      refine for_range (lo := 0) (n := mny.toNat) (fun i σ J => ∃ (bu dn rr : Int) (y8 y9 y10 y11 y12 y13 y14 y15 y16 y17 y18 y19 y20 y21 : Option V) (xs : List V) (bs : List (BD ((m + 1) + 1))), σ = [some (.ref h), some (.ref a.c), some (.int dep), some (.int wh), some (.int mny), some (.int bu), some (.ref Bk), some (.int dn), y8, y9, y10, y11, y12, y13, y14, y15, y16, y17, y18, y19, y20, y21] ∧ BlkSt K H h d ds a x (m + 1) Bk bud J bu dn rr xs bs i) ⟨bud, 1, r, _, _, _, _, _, _, _, _, _, _, _, _, _, _, [], [], rfl, ⟨B2.same s1, st.same s1, e1, .nil, fun _ h => (List.not_mem_nil h).elim, fun _ h => (List.not_mem_nil h).elim, Nat.le_refl _, Nat.zero_le _, hbu1, by decide, by omega⟩⟩ (fun i σ J hi hP => ?_) (fun σ J hP => ?_)
      · obtain ⟨bu, dn, rr, y8, y9, y10, y11, y12, y13, y14, y15, y16, y17, y18, y19, y20, y21, xs, bs, rfl, z⟩ := hP
        refine ⟨_, rfl, a.c, _, _, _, rfl, rfl, SqL.of z.st.cx.c, atI_nat (j := 5) rfl, a.R, _, _, _, rfl, rfl, SqL.of z.st.cx.r, atI_nat (j := 0) rfl, _, _, rfl, rfl, _, rfl, ite2 (fun e => ?_) (fun e => ?_)⟩
        · refine ⟨_, rfl, _, rfl, Bk, _, rfl, .inl ⟨SqL.of z.e, fun tt nt => ?_⟩⟩
          exact ⟨by show 2 ≤ sizeLine; decide, fun t n => fin_blk q z (by omega) hm0 nt n⟩
        clear e
        refine ⟨_, rfl, h, d, ds, 7, rfl, by decide, z.st.hd, fun k J1 hk0 hk1 bk hdk _ => ?_⟩
        replace z := z.mv st nB (B2.but bk) (z.st.but bk hdk)
        refine ⟨_, rfl, _, rfl, h, d, ds, a, x, _, rfl, z.st, fun tc c vc J2 c1 c3 bc stc oc ec => ⟨tc, _, rfl, SqL.of ec, rfl, _, _, rfl, _, _, rfl, rfl, ?_⟩⟩
        replace z := z.mv st nB (B2.but bc) stc
        refine ⟨_, rfl, _, rfl, h, d, ds, a, x, _, rfl, z.st, trivial, hps, fun vS s0 J3 bs0 sts dS o0 m0' => ?_⟩
        replace oc := z.st.op (B2.but bs0) oc
        replace z := z.mv st nB (B2.but bs0) sts
        refine ⟨_, rfl, a.c, _, _, _, rfl, rfl, SqL.of z.st.cx.c, atI_nat (j := 5) rfl, a.R, _, _, _, rfl, rfl, SqL.of z.st.cx.r, atI_nat (j := 0) rfl, _, _, rfl, rfl, _, rfl, a.c, _, _, _, rfl, rfl, SqL.of z.st.cx.c, atI_nat (j := 5) rfl, a.R, _, 0, 0, rfl, rfl, z.st.cx.r, rfl, ?_⟩
        generalize hGR0 : upd J3 a.R _ = J4
        replace oc := z.st.op (B2.ofR hGR0) oc
        replace dS := z.st.dp (B2.ofR hGR0) (Sm.noL o0) dS
        replace z := z.mv st nB (B2.ofR hGR0) (z.st.ofR hdR hGR0)
        have hbl := z.bu_le
        have hdl := z.dn_le
        have hb1 := z.bu1
        have hd1 := z.dn1
        refine ⟨_, rfl, _, _, rfl, rfl, ?_⟩
        refine ⟨decide (0 < dep), 2 * c ≤ bu, rfl, fun _ => ⟨_, rfl, _, _, rfl, rfl, .inl ⟨by decide, by decide⟩, _, rfl, _, _, rfl, rfl, decide (2 * c ≤ bu), True, rfl, fun _ => ⟨_, rfl, a.c, _, _, _, rfl, rfl, SqL.of z.st.cx.c, atI_nat (j := 5) rfl, a.R, _, _, _, rfl, rfl, SqL.of z.st.cx.r, atI_nat (j := 0) rfl, _, _, rfl, rfl, _, rfl, rfl, fun _ => trivial⟩, fun f hf => ⟨f, rfl, rfl, fun e => of_decide_eq_true (hf e).1⟩⟩, fun f hf => ?_⟩
        have hf : f = true → 0 < dep ∧ 2 * c ≤ bu := fun e => ⟨of_decide_eq_true (hf e).1, (hf e).2⟩
        have hk : k = 0 ∨ (k = 1 ∨ k = 2) ∨ k = 3 ∨ 3 < k := by omega
        rcases hk with hk | hk | hk | hk
        · have hk3 : ¬ k = 3 := by omega
          have hk12 : (decide ((1 : Int) = k) || (decide ((2 : Int) = k) || false)) = false := by rw [decide_eq_false (by omega), decide_eq_false (by omega)]; rfl
          refine ⟨_, rfl, rfl, _, rfl, ?_⟩
          rw [int_dec, decide_eq_true hk]
          refine iteT ⟨_, rfl, _, rfl, _, _, rfl, rfl, _, rfl, ite2 (fun c5 => ?_) (fun c5 => ?_)⟩
          · have c5 := of_decide_eq_true c5
            refine ⟨_, rfl, ?_⟩
            refine ⟨_, rfl, by show 3 ≤ sizeLine; decide, fun tCH nCH => ?_⟩
            generalize hGCH : upd J4 tCH _ = J5
            obtain ⟨sCH, eCH⟩ := new_of nCH hGCH
            replace oc := z.st.op (B2.same sCH) oc
            replace dS := z.st.dp (B2.same sCH) (Sm.noL o0) dS
            replace z := z.mv st nB (B2.same sCH) (z.st.same sCH)
            obtain ⟨cd, dc, nc⟩ := oc
            have dS : Dp K J5 (.ref tCH) (encD ((m + 1) + 1) (show BD ((m + 1) + 1) from ((Sm.oth "check" 0 [cd]).to : Sf (BD (m + 1))))) := .tup (SqT.of eCH) (.cons (.str _) (.cons (.int _) (.cons dc .nil)))
            have kS : (Sm.oth "check" 0 [cd]).ok := ⟨by decide +kernel, by show (noL cd && true) = true; rw [nc]; rfl⟩
            refine ⟨_, rfl, by show 2 ≤ sizeLine; decide, fun tL5 nL5 => ?_⟩
            generalize hGL5 : upd J5 tL5 _ = J6
            obtain ⟨sL5, eL5⟩ := new_of nL5 hGL5
            replace dS := z.st.dp (B2.same sL5) (noL_D ((m + 1) + 1) (show BD ((m + 1) + 1) from ((Sm.oth "check" 0 [cd]).to : Sf (BD (m + 1)))) (Sm.ok_to (B := BD (m + 1)) (p := okD (m + 1)) kS)) dS
            replace z := z.mv st nB (B2.same sL5) (z.st.same sL5)
            refine ⟨tL5, _, rfl, .inl (SqL.of eL5), rfl, rfl, _, rfl, ?_⟩
            show if inV (.int k) [.int 1, .int 2] = true then _ else _
            rw [in12, hk12]
            refine iteF ?_
            refine iteF ?_
            refine ⟨_, rfl, rfl, _, rfl, ?_⟩
            rw [int_dec, decide_eq_false hk3]
            refine iteF ?_
            refine iteF ?_
            refine ⟨_, rfl, _, rfl, _, _, rfl, rfl, ⟨by omega, by omega⟩, ?_⟩
            refine ⟨_, rfl, _, rfl, _, _, rfl, rfl, .inl ⟨by omega, by omega⟩, ?_⟩
            refine ⟨_, rfl, .inl ⟨rfl, _, SqL.of z.e⟩, _, rfl, Bk, _, _, rfl, rfl, z.e, small_sz5 (by have := z.xl; omega), ?_⟩
            have zz := z.next st nB dS (Sm.ok_to kS) (sm_of trivial) (sm_len _) c1 c5
            exact ⟨_, _, _, _, _, _, _, _, _, _, _, _, _, _, _, _, _, _, _, rfl, zz⟩
          · refine ⟨_, rfl, by show 2 ≤ sizeLine; decide, fun tL6 nL6 => ?_⟩
            generalize hGL6 : upd J4 tL6 _ = J7
            obtain ⟨sL6, eL6⟩ := new_of nL6 hGL6
            replace oc := z.st.op (B2.same sL6) oc
            replace dS := z.st.dp (B2.same sL6) (Sm.noL o0) dS
            replace z := z.mv st nB (B2.same sL6) (z.st.same sL6)
            refine ⟨tL6, _, rfl, .inl (SqL.of eL6), rfl, rfl, _, rfl, ?_⟩
            show if inV (.int k) [.int 1, .int 2] = true then _ else _
            rw [in12, hk12]
            refine iteF ?_
            refine iteF ?_
            refine ⟨_, rfl, rfl, _, rfl, ?_⟩
            rw [int_dec, decide_eq_false hk3]
            refine iteF ?_
            refine iteF ?_
            refine ⟨_, rfl, _, rfl, _, _, rfl, rfl, ⟨by omega, by omega⟩, ?_⟩
            refine ⟨_, rfl, _, rfl, _, _, rfl, rfl, .inl ⟨by omega, by omega⟩, ?_⟩
            refine ⟨_, rfl, .inl ⟨rfl, _, SqL.of z.e⟩, _, rfl, Bk, _, _, rfl, rfl, z.e, small_sz5 (by have := z.xl; omega), ?_⟩
            have zz := z.next st nB (show Dp K _ vS (encD ((m + 1) + 1) (show BD ((m + 1) + 1) from (s0.to : Sf (BD (m + 1))))) by rw [show encD ((m + 1) + 1) (show BD ((m + 1) + 1) from (s0.to : Sf (BD (m + 1)))) = s0.enc from Sm.enc_to s0]; exact dS) (Sm.ok_to o0) (sm_of m0') (sm_len s0) (by decide) z.bu1
            exact ⟨_, _, _, _, _, _, _, _, _, _, _, _, _, _, _, _, _, _, _, rfl, zz⟩
        · have k0 : ¬ k = 0 := by omega
          have hk3 : ¬ k = 3 := by omega
          have hk12 : (decide ((1 : Int) = k) || (decide ((2 : Int) = k) || false)) = true := by rcases hk with rfl | rfl <;> rfl
          refine ⟨_, rfl, rfl, _, rfl, ?_⟩
          rw [int_dec, decide_eq_false k0]
          refine iteF ?_
          refine iteF ?_
          refine ⟨_, rfl, by show 2 ≤ sizeLine; decide, fun tL8 nL8 => ?_⟩
          generalize hGL8 : upd J4 tL8 _ = J9
          obtain ⟨sL8, eL8⟩ := new_of nL8 hGL8
          replace oc := z.st.op (B2.same sL8) oc
          replace dS := z.st.dp (B2.same sL8) (Sm.noL o0) dS
          replace z := z.mv st nB (B2.same sL8) (z.st.same sL8)
          refine ⟨tL8, _, rfl, .inl (SqL.of eL8), rfl, rfl, _, rfl, ?_⟩
          show if inV (.int k) [.int 1, .int 2] = true then _ else _
          rw [in12, hk12]
          refine iteT ⟨_, rfl, f, rfl, ?_⟩
          cases f with
          | false =>
            refine iteF ?_
            refine ⟨_, rfl, rfl, _, rfl, ?_⟩
            rw [int_dec, decide_eq_false hk3]
            refine iteF ?_
            refine iteF ?_
            refine ⟨_, rfl, _, rfl, _, _, rfl, rfl, ⟨by omega, by omega⟩, ?_⟩
            refine ⟨_, rfl, _, rfl, _, _, rfl, rfl, .inl ⟨by omega, by omega⟩, ?_⟩
            refine ⟨_, rfl, .inl ⟨rfl, _, SqL.of z.e⟩, _, rfl, Bk, _, _, rfl, rfl, z.e, small_sz5 (by have := z.xl; omega), ?_⟩
            have zz := z.next st nB (show Dp K _ vS (encD ((m + 1) + 1) (show BD ((m + 1) + 1) from (s0.to : Sf (BD (m + 1))))) by rw [show encD ((m + 1) + 1) (show BD ((m + 1) + 1) from (s0.to : Sf (BD (m + 1)))) = s0.enc from Sm.enc_to s0]; exact dS) (Sm.ok_to o0) (sm_of m0') (sm_len s0) (by decide) z.bu1
            exact ⟨_, _, _, _, _, _, _, _, _, _, _, _, _, _, _, _, _, _, _, rfl, zz⟩
          | true =>
            obtain ⟨hp1, hp2⟩ := hf rfl
            obtain ⟨hh1, hh2, hh3⟩ := half_le c1 c3 hp2
            refine iteT ?_
            refine ⟨_, rfl, a.c, _, _, _, rfl, rfl, SqL.of z.st.cx.c, atI_nat (j := 5) rfl, a.R, _, _, _, rfl, rfl, SqL.of z.st.cx.r, atI_nat (j := 0) rfl, _, _, rfl, rfl, _, rfl, a.c, _, _, _, rfl, rfl, SqL.of z.st.cx.c, atI_nat (j := 5) rfl, a.R, _, 0, 0, rfl, rfl, z.st.cx.r, rfl, ?_⟩
            generalize hGR1 : upd J9 a.R _ = J10
            replace oc := z.st.op (B2.ofR hGR1) oc
            replace z := z.mv st nB (B2.ofR hGR1) (z.st.ofR hdR hGR1)
            refine ⟨_, rfl, _, rfl, _, rfl, _, _, rfl, rfl, _, rfl, _, rfl, h, d, ds, 3, rfl, by decide, z.st.hd, fun rA J11 q0A q1A bA hdA _ => ?_⟩
            replace oc := z.st.op (B2.but bA) oc
            replace z := z.mv st nB (B2.but bA) (z.st.but bA hdA)
            refine ⟨_, rfl, _, rfl, _, _, rfl, rfl, .inl ⟨by decide, by decide⟩, _, _, rfl, rfl, ⟨by omega, by omega⟩, h, d, ds, a, x, _, dep - 1, wh, rA, bu / (2 * c), rfl, by omega, z.st, hdR, hps, by omega, by omega, hh1, by omega, fun tbA dnA rrA vbA bbA J12 bxA stxA exA dbA okA atA lnA flA d1A d2A => ?_⟩
            replace oc := z.st.op (bxA) oc
            replace z := z.mv st nB (bxA) stxA
            have flxA : (flatB _ bbA).length ≤ 2 * szD m := Nat.le_trans flA (Nat.mul_le_mul_right _ (by omega))
            refine ⟨_, rfl, _, rfl, _, rfl, _, _, rfl, rfl, _, rfl, _, rfl, h, d, ds, 2, rfl, by decide, z.st.hd, fun rB J13 q0B q1B bB hdB _ => ?_⟩
            replace oc := z.st.op (B2.but bB) oc
            replace dbA := z.st.dp (B2.but bB) (noL_blk okA) dbA
            replace exA := z.st.lst2 (B2.but bB) exA
            replace z := z.mv st nB (B2.but bB) (z.st.but bB hdB)
            refine ⟨_, rfl, _, rfl, _, _, rfl, rfl, .inl ⟨by decide, by decide⟩, _, _, rfl, rfl, ⟨by omega, by omega⟩, h, d, ds, a, x, _, dep - 1, wh, rB, bu / (2 * c), rfl, by omega, z.st, hdR, hps, by omega, by omega, hh1, by omega, fun tbB dnB rrB vbB bbB J14 bxB stxB exB dbB okB atB lnB flB d1B d2B => ?_⟩
            replace oc := z.st.op (bxB) oc
            replace dbA := z.st.dp (bxB) (noL_blk okA) dbA
            replace exA := z.st.lst2 (bxB) exA
            replace z := z.mv st nB (bxB) stxB
            have flxB : (flatB _ bbB).length ≤ 1 * szD m := Nat.le_trans flB (Nat.mul_le_mul_right _ (by omega))
            have p1 := br_pos c1 (show 1 ≤ dnA + dnB by omega)
            have p2 := br_le c1 d2A d2B hh2
            refine ⟨_, rfl, _, rfl, tbA, _, _, _, rfl, rfl, SqL.of exA, atI_nat (j := 0) rfl, _, rfl, tbB, _, _, _, rfl, rfl, SqL.of exB, atI_nat (j := 0) rfl, _, _, rfl, rfl, _, _, rfl, rfl, .inl ⟨by omega, by omega⟩, ?_⟩
            refine ⟨_, rfl, _, rfl, tbA, _, _, _, rfl, rfl, SqL.of exA, atI_nat (j := 1) rfl, _, rfl, tbB, _, _, _, rfl, rfl, SqL.of exB, atI_nat (j := 1) rfl, by show 5 ≤ sizeLine; decide, fun tIF nIF => ?_⟩
            generalize hGIF : upd J14 tIF _ = J15
            obtain ⟨sIF, eIF⟩ := new_of nIF hGIF
            replace oc := z.st.op (B2.same sIF) oc
            replace dbA := z.st.dp (B2.same sIF) (noL_blk okA) dbA
            replace dbB := z.st.dp (B2.same sIF) (noL_blk okB) dbB
            replace exA := z.st.lst2 (B2.same sIF) exA
            replace exB := z.st.lst2 (B2.same sIF) exB
            replace z := z.mv st nB (B2.same sIF) (z.st.same sIF)
            obtain ⟨cd, dc, nc⟩ := oc
            have dS : Dp K J15 (.ref tIF) (encD ((m + 1) + 1) (show BD ((m + 1) + 1) from (Sf.iff 0 cd bbA bbB : Sf (BD (m + 1))))) := .tup (SqT.of eIF) (.cons (.str _) (.cons (.int _) (.cons dc (.cons dbA (.cons dbB .nil)))))
            refine ⟨_, rfl, rfl, _, rfl, ?_⟩
            rw [int_dec, decide_eq_false hk3]
            refine iteF ?_
            refine iteF ?_
            have lS : (flatD ((m + 1) + 1) (show BD ((m + 1) + 1) from (Sf.iff 0 cd bbA bbB : Sf (BD (m + 1))))).length ≤ szD (m + 1) := by
              rw [if_len]
              show _ ≤ 1 + 3 * szD m
              omega
            refine ⟨_, rfl, _, rfl, _, _, rfl, rfl, ⟨by omega, by omega⟩, ?_⟩
            refine ⟨_, rfl, _, rfl, _, _, rfl, rfl, .inl ⟨by omega, by omega⟩, ?_⟩
            refine ⟨_, rfl, .inl ⟨rfl, _, SqL.of z.e⟩, _, rfl, Bk, _, _, rfl, rfl, z.e, small_sz5 (by have := z.xl; omega), ?_⟩
            have zz := z.next st nB dS ⟨nc, okA, okB⟩ (if_flat atA atB) lS p1 p2
            exact ⟨_, _, _, _, _, _, _, _, _, _, _, _, _, _, _, _, _, _, _, rfl, zz⟩
        · have k0 : ¬ k = 0 := by omega
          have hk12 : (decide ((1 : Int) = k) || (decide ((2 : Int) = k) || false)) = false := by rw [decide_eq_false (by omega), decide_eq_false (by omega)]; rfl
          refine ⟨_, rfl, rfl, _, rfl, ?_⟩
          rw [int_dec, decide_eq_false k0]
          refine iteF ?_
          refine iteF ?_
          refine ⟨_, rfl, by show 2 ≤ sizeLine; decide, fun tL15 nL15 => ?_⟩
          generalize hGL15 : upd J4 tL15 _ = J16
          obtain ⟨sL15, eL15⟩ := new_of nL15 hGL15
          replace oc := z.st.op (B2.same sL15) oc
          replace dS := z.st.dp (B2.same sL15) (Sm.noL o0) dS
          replace z := z.mv st nB (B2.same sL15) (z.st.same sL15)
          refine ⟨tL15, _, rfl, .inl (SqL.of eL15), rfl, rfl, _, rfl, ?_⟩
          show if inV (.int k) [.int 1, .int 2] = true then _ else _
          rw [in12, hk12]
          refine iteF ?_
          refine iteF ?_
          refine ⟨_, rfl, rfl, _, rfl, ?_⟩
          rw [int_dec, decide_eq_true hk]
          refine iteT ⟨_, rfl, f, rfl, ?_⟩
          cases f with
          | false =>
            refine iteF ?_
            refine iteF ?_
            refine ⟨_, rfl, _, rfl, _, _, rfl, rfl, ⟨by omega, by omega⟩, ?_⟩
            refine ⟨_, rfl, _, rfl, _, _, rfl, rfl, .inl ⟨by omega, by omega⟩, ?_⟩
            refine ⟨_, rfl, .inl ⟨rfl, _, SqL.of z.e⟩, _, rfl, Bk, _, _, rfl, rfl, z.e, small_sz5 (by have := z.xl; omega), ?_⟩
            have zz := z.next st nB (show Dp K _ vS (encD ((m + 1) + 1) (show BD ((m + 1) + 1) from (s0.to : Sf (BD (m + 1))))) by rw [show encD ((m + 1) + 1) (show BD ((m + 1) + 1) from (s0.to : Sf (BD (m + 1)))) = s0.enc from Sm.enc_to s0]; exact dS) (Sm.ok_to o0) (sm_of m0') (sm_len s0) (by decide) z.bu1
            exact ⟨_, _, _, _, _, _, _, _, _, _, _, _, _, _, _, _, _, _, _, rfl, zz⟩
          | true =>
            obtain ⟨hp1, hp2⟩ := hf rfl
            refine iteT ⟨_, rfl, _, _, rfl, rfl, _, rfl, ite2 (fun e => ?_) (fun e => ?_)⟩
            · clear e
              obtain ⟨hh1, hh2, hh3⟩ := half_le c1 c3 hp2
              refine ⟨_, rfl, a.c, _, _, _, rfl, rfl, SqL.of z.st.cx.c, atI_nat (j := 5) rfl, a.R, _, _, _, rfl, rfl, SqL.of z.st.cx.r, atI_nat (j := 0) rfl, _, _, rfl, rfl, _, rfl, a.c, _, _, _, rfl, rfl, SqL.of z.st.cx.c, atI_nat (j := 5) rfl, a.R, _, 0, 0, rfl, rfl, z.st.cx.r, rfl, ?_⟩
              generalize hGR1 : upd J16 a.R _ = J17
              replace oc := z.st.op (B2.ofR hGR1) oc
              replace z := z.mv st nB (B2.ofR hGR1) (z.st.ofR hdR hGR1)
              refine ⟨_, rfl, _, rfl, _, rfl, _, _, rfl, rfl, _, rfl, _, _, rfl, rfl, _, rfl, h, d, ds, 2, rfl, by decide, z.st.hd, fun rA J18 q0A q1A bA hdA _ => ?_⟩
              replace oc := z.st.op (B2.but bA) oc
              replace z := z.mv st nB (B2.but bA) (z.st.but bA hdA)
              refine ⟨_, _, rfl, rfl, _, rfl, _, rfl, _, _, rfl, rfl, .inl ⟨by decide, by decide⟩, _, _, rfl, rfl, ⟨by omega, by omega⟩, h, d, ds, a, x, _, dep - 1, (wh - 1), (1 + rA), bu / (2 * c), rfl, by omega, z.st, hdR, hps, by omega, by omega, hh1, by omega, fun tbA dnA rrA vbA bbA J19 bxA stxA exA dbA okA atA lnA flA d1A d2A => ?_⟩
              replace oc := z.st.op (bxA) oc
              replace z := z.mv st nB (bxA) stxA
              have flxA : (flatB _ bbA).length ≤ 2 * szD m := Nat.le_trans flA (Nat.mul_le_mul_right _ (by omega))
              have p1 := br_pos c1 (show 1 ≤ dnA + 1 by omega)
              have p2 := br_le c1 d2A hh1 hh2
              have p3 : dnA + 1 ≤ bu := by
                have := br_le (c := 1) (b := bu) (by decide) d2A hh1 (by have := Int.mul_le_mul_of_nonneg_right (show 2 * 1 ≤ 2 * c by omega) (show 0 ≤ bu / (2 * c) by omega); omega)
                omega
              refine ⟨_, rfl, _, rfl, tbA, _, _, _, rfl, rfl, SqL.of exA, atI_nat (j := 0) rfl, _, _, rfl, rfl, _, _, rfl, rfl, .inl ⟨by omega, by omega⟩, ?_⟩
              refine ⟨_, rfl, _, rfl, h, d, ds, a, x, _, rfl, z.st, fun vF1 J20 bF1 stF1 oF1 => ?_⟩
              replace oc := z.st.op (B2.but bF1) oc
              replace dbA := z.st.dp (B2.but bF1) (noL_blk okA) dbA
              replace exA := z.st.lst2 (B2.but bF1) exA
              replace z := z.mv st nB (B2.but bF1) stF1
              have oF1 := oF1.op
              refine ⟨_, rfl, _, rfl, h, d, ds, a, x, _, rfl, z.st, fun vF2 J21 bF2 stF2 oF2 => ?_⟩
              replace oc := z.st.op (B2.but bF2) oc
              replace oF1 := z.st.op (B2.but bF2) oF1
              replace dbA := z.st.dp (B2.but bF2) (noL_blk okA) dbA
              replace exA := z.st.lst2 (B2.but bF2) exA
              replace z := z.mv st nB (B2.but bF2) stF2
              have oF2 := oF2.op
              refine ⟨by show 2 ≤ sizeLine; decide, fun tFA nFA => ?_⟩
              generalize hGFA : upd J21 tFA _ = J22
              obtain ⟨sFA, eFA⟩ := new_of nFA hGFA
              replace oc := z.st.op (B2.same sFA) oc
              replace oF1 := z.st.op (B2.same sFA) oF1
              replace oF2 := z.st.op (B2.same sFA) oF2
              replace dbA := z.st.dp (B2.same sFA) (noL_blk okA) dbA
              replace exA := z.st.lst2 (B2.same sFA) exA
              replace z := z.mv st nB (B2.same sFA) (z.st.same sFA)
              have oFA : Op K J22 (.ref tFA) := .tup eFA (.cons oF1 (.cons oF2 .nil))
              refine ⟨_, rfl, tbA, _, _, _, rfl, rfl, SqL.of exA, atI_nat (j := 1) rfl, ?_⟩
              refine ⟨fun σ' J' => ∃ (y20 : Option V) (bd rr9 : Int) (vc' vI : V) (BB : List (BD (m + 1))), σ' = [some (.ref h), some (.ref a.c), some (.int dep), some (.int wh), some (.int mny), some (.int bu), some (.ref Bk), some (.int dn), some (.int (0 + (i : Nat))), some (.int k), some (.int c), some vc', some vS, some (.int bd), some (.bl true), y15, y16, some (.ref tbA), some (.ref tFA), some vI, y20, y21] ∧ BlkSt K H h d ds a x (m + 1) Bk bud J' bu dn rr9 xs bs i ∧ Op K J' vc' ∧ Op K J' (.ref tFA) ∧ Dp K J' vI (blkE (m + 1) BB) ∧ (∀ s, s ∈ BB → okD (m + 1) s) ∧ (∀ t, t ∈ flatB (m + 1) BB → AtS x t.s) ∧ (flatB (m + 1) BB).length ≤ 2 * szD m + 1 ∧ 1 ≤ bd ∧ bd ≤ bu, ?_, fun σ' J' hM => ?_⟩
              · refine ⟨_, rfl, h, d, ds, 3, rfl, by decide, z.st.hd, fun rC1 J23 q0C1 q1C1 bC1 hdC1 _ => ?_⟩
                replace oc := z.st.op (B2.but bC1) oc
                replace oFA := z.st.op (B2.but bC1) oFA
                replace dbA := z.st.dp (B2.but bC1) (noL_blk okA) dbA
                replace exA := z.st.lst2 (B2.but bC1) exA
                replace z := z.mv st nB (B2.but bC1) (z.st.but bC1 hdC1)
                refine ⟨_, _, rfl, rfl, _, rfl, ite2 (fun e => ⟨_, rfl, a.c, _, _, _, rfl, rfl, SqL.of z.st.cx.c, atI_nat (j := 5) rfl, a.R, _, _, _, rfl, rfl, SqL.of z.st.cx.r, atI_nat (j := 0) rfl, _, _, rfl, rfl, _, rfl, ite2 (fun e2 => ?_) (fun e2 => ?_)⟩) (fun e => ?_)⟩
                · refine ⟨_, rfl, a.c, _, _, _, rfl, rfl, SqL.of z.st.cx.c, atI_nat (j := 5) rfl, a.R, _, _, _, rfl, rfl, SqL.of z.st.cx.r, atI_nat (j := 0) rfl, _, _, rfl, rfl, _, rfl, a.c, _, _, _, rfl, rfl, SqL.of z.st.cx.c, atI_nat (j := 5) rfl, a.R, _, 0, 0, rfl, rfl, z.st.cx.r, rfl, ?_⟩
                  generalize hGR2 : upd J23 a.R _ = J24
                  replace oc := z.st.op (B2.ofR hGR2) oc
                  replace oFA := z.st.op (B2.ofR hGR2) oFA
                  replace dbA := z.st.dp (B2.ofR hGR2) (noL_blk okA) dbA
                  replace exA := z.st.lst2 (B2.ofR hGR2) exA
                  replace z := z.mv st nB (B2.ofR hGR2) (z.st.ofR hdR hGR2)
                  refine ⟨_, rfl, a.c, _, _, _, rfl, rfl, SqL.of z.st.cx.c, atI_nat (j := 3) rfl, _, rfl, h, d, ds, 2, rfl, by decide, z.st.hd, fun rC2 J25 q0C2 q1C2 bC2 hdC2 _ => ?_⟩
                  replace oc := z.st.op (B2.but bC2) oc
                  replace oFA := z.st.op (B2.but bC2) oFA
                  replace dbA := z.st.dp (B2.but bC2) (noL_blk okA) dbA
                  replace exA := z.st.lst2 (B2.but bC2) exA
                  replace z := z.mv st nB (B2.but bC2) (z.st.but bC2 hdC2)
                  obtain ⟨v, hv, e⟩ := atI_in (xs := [.str x.c5, .str x.c6]) (i := rC2) q0C2 (by show _ < (2 : Int); omega)
                  obtain ⟨yy, rfl⟩ : ∃ yy, v = .str yy := by
                    simp only [List.mem_cons, List.not_mem_nil, or_false] at hv
                    rcases hv with rfl | rfl <;> exact ⟨_, rfl⟩
                  refine ⟨a.Cn, _, _, _, rfl, rfl, SqL.of z.st.cx.cn, e, ?_⟩
                  refine ⟨_, rfl, tbA, _, _, _, rfl, rfl, SqL.of exA, atI_nat (j := 0) rfl, _, _, rfl, rfl, ?_⟩
                  refine ⟨_, rfl, by show 3 ≤ sizeLine; decide, fun tV1 nV1 => ?_⟩
                  generalize hGV1 : upd J25 tV1 _ = J26
                  obtain ⟨sV1, eV1⟩ := new_of nV1 hGV1
                  replace oc := z.st.op (B2.same sV1) oc
                  replace oFA := z.st.op (B2.same sV1) oFA
                  replace dbA := z.st.dp (B2.same sV1) (noL_blk okA) dbA
                  replace exA := z.st.lst2 (B2.same sV1) exA
                  replace z := z.mv st nB (B2.same sV1) (z.st.same sV1)
                  have oV1 : Op K J26 (.ref tV1) := .tup eV1 (.cons (.str _) (.cons (.str _) (.cons (.int _) .nil)))
                  refine ⟨_, rfl, _, rfl, h, d, ds, a, x, _, rfl, z.st, fun vP3 J27 bP3 stP3 oP3 => ?_⟩
                  replace oc := z.st.op (B2.but bP3) oc
                  replace oFA := z.st.op (B2.but bP3) oFA
                  replace oV1 := z.st.op (B2.but bP3) oV1
                  replace dbA := z.st.dp (B2.but bP3) (noL_blk okA) dbA
                  replace exA := z.st.lst2 (B2.but bP3) exA
                  replace z := z.mv st nB (B2.but bP3) stP3
                  have oP3 := oP3.op
                  refine ⟨by show 4 ≤ sizeLine; decide, fun tCM nCM => ?_⟩
                  generalize hGCM : upd J27 tCM _ = J28
                  obtain ⟨sCM, eCM⟩ := new_of nCM hGCM
                  replace oc := z.st.op (B2.same sCM) oc
                  replace oFA := z.st.op (B2.same sCM) oFA
                  replace oV1 := z.st.op (B2.same sCM) oV1
                  replace oP3 := z.st.op (B2.same sCM) oP3
                  replace dbA := z.st.dp (B2.same sCM) (noL_blk okA) dbA
                  replace exA := z.st.lst2 (B2.same sCM) exA
                  replace z := z.mv st nB (B2.same sCM) (z.st.same sCM)
                  have oc : Op K J28 (.ref tCM) := .tup eCM (.cons (.str _) (.cons (.str _) (.cons oV1 (.cons oP3 .nil))))
                  refine ⟨_, rfl, _, rfl, _, rfl, by show 3 ≤ sizeLine; decide, fun tV2 nV2 => ?_⟩
                  generalize hGV2 : upd J28 tV2 _ = J29
                  obtain ⟨sV2, eV2⟩ := new_of nV2 hGV2
                  replace oc := z.st.op (B2.same sV2) oc
                  replace oFA := z.st.op (B2.same sV2) oFA
                  replace dbA := z.st.dp (B2.same sV2) (noL_blk okA) dbA
                  replace exA := z.st.lst2 (B2.same sV2) exA
                  replace z := z.mv st nB (B2.same sV2) (z.st.same sV2)
                  have dV2 : Dp K J29 (.ref tV2) (.tuple [.str "var", .str yy, .int 1]) := .tup (SqT.of eV2) (.cons (.str _) (.cons (.str _) (.cons (.int _) .nil)))
                  refine ⟨by show 4 ≤ sizeLine; decide, fun tST nST => ?_⟩
                  generalize hGST : upd J29 tST _ = J30
                  obtain ⟨sST, eST⟩ := new_of nST hGST
                  replace oc := z.st.op (B2.same sST) oc
                  replace oFA := z.st.op (B2.same sST) oFA
                  replace dbA := z.st.dp (B2.same sST) (noL_blk okA) dbA
                  replace dV2 := z.st.dp (B2.same sST) rfl dV2
                  replace exA := z.st.lst2 (B2.same sST) exA
                  replace z := z.mv st nB (B2.same sST) (z.st.same sST)
                  have dST : Dp K J30 (.ref tST) (.tuple [.str "set", .int 0, .str yy, (.tuple [.str "var", .str yy, .int 1])]) := .tup (SqT.of eST) (.cons (.str _) (.cons (.int _) (.cons (.str _) (.cons dV2 .nil))))
                  refine ⟨by show 1 ≤ sizeLine; decide, fun tIN nIN => ?_⟩
                  generalize hGIN : upd J30 tIN _ = J31
                  obtain ⟨sIN, eIN⟩ := new_of nIN hGIN
                  replace oc := z.st.op (B2.same sIN) oc
                  replace oFA := z.st.op (B2.same sIN) oFA
                  replace dbA := z.st.dp (B2.same sIN) (noL_blk okA) dbA
                  replace dST := z.st.dp (B2.same sIN) rfl dST
                  replace exA := z.st.lst2 (B2.same sIN) exA
                  replace z := z.mv st nB (B2.same sIN) (z.st.same sIN)
                  obtain ⟨tI, yI, rfl, hI, dI⟩ := dp_tup_inv dbA
                  have hIl : yI.length ≤ 3 := by
                    rw [dpa_len dI, List.length_map]
                    omega
                  refine ⟨tI, tIN, yI, _, rfl, rfl, hI, SqT.of eIN, sz5 (by show yI.length + 1 ≤ 100000; omega), fun pI J32 sI hsI => ?_⟩
                  have dbA : Dp K J31 (.ref tI) (blkE (m + 1) bbA) := .tup hI dI
                  replace oc := z.st.op (B2.same sI) oc
                  replace oFA := z.st.op (B2.same sI) oFA
                  replace dbA := z.st.dp (B2.same sI) (noL_blk okA) dbA
                  replace dST := z.st.dp (B2.same sI) rfl dST
                  replace exA := z.st.lst2 (B2.same sI) exA
                  replace z := z.mv st nB (B2.same sI) (z.st.same sI)
                  have dI2 : Dp K J32 (.ref pI) (blkE (m + 1) (bbA ++ [(show BD (m + 1) from (Sf.oth "set" 0 [.str yy, (.tuple [.str "var", .str yy, .int 1])] : Sf (BD m)))])) := by
                    refine .tup hsI ?_
                    rw [List.map_append]
                    exact dpa_snoc (dpa_same sI _ _ dI) dST
                  have okI : ∀ s, s ∈ bbA ++ [(show BD (m + 1) from (Sf.oth "set" 0 [.str yy, (.tuple [.str "var", .str yy, .int 1])] : Sf (BD m)))] → okD (m + 1) s := fun s hs => by
                    rcases List.mem_append.mp hs with hs | hs
                    · exact okA s hs
                    · rw [List.mem_singleton.mp hs]
                      exact ⟨by decide +kernel, rfl⟩
                  have atI9 : ∀ t, t ∈ flatB (m + 1) (bbA ++ [(show BD (m + 1) from (Sf.oth "set" 0 [.str yy, (.tuple [.str "var", .str yy, .int 1])] : Sf (BD m)))]) → AtS x t.s := fun t ht => by
                    have e8 : flatB (m + 1) (bbA ++ [(show BD (m + 1) from (Sf.oth "set" 0 [.str yy, (.tuple [.str "var", .str yy, .int 1])] : Sf (BD m)))]) = flatB (m + 1) bbA ++ [⟨m, Sf.oth "set" 0 [.str yy, (.tuple [.str "var", .str yy, .int 1])]⟩] := flatB_snoc _ _ _
                    rw [e8] at ht
                    rcases List.mem_append.mp ht with ht | ht
                    · exact atA t ht
                    · rw [List.mem_singleton.mp ht]
                      trivial
                  have lnI : (flatB (m + 1) (bbA ++ [(show BD (m + 1) from (Sf.oth "set" 0 [.str yy, (.tuple [.str "var", .str yy, .int 1])] : Sf (BD m)))])).length ≤ 2 * szD m + 1 := by
                    have e8 : flatB (m + 1) (bbA ++ [(show BD (m + 1) from (Sf.oth "set" 0 [.str yy, (.tuple [.str "var", .str yy, .int 1])] : Sf (BD m)))]) = flatB (m + 1) bbA ++ [⟨m, Sf.oth "set" 0 [.str yy, (.tuple [.str "var", .str yy, .int 1])]⟩] := flatB_snoc _ _ _
                    rw [e8, List.length_append]
                    exact Nat.add_le_add flxA (Nat.le_refl 1)
                  clear dbA dST
                  have p4 : 1 ≤ dnA + 1 := by omega
                  exact ⟨_, _, _, _, _, _, rfl, z, oc, oFA, dI2, okI, atI9, lnI, p4, p3⟩
                · exact ⟨_, _, _, _, _, _, rfl, z, oc, oFA, dbA, okA, atA, by omega, p1, p2⟩
                · refine iteF ?_
                  exact ⟨_, _, _, _, _, _, rfl, z, oc, oFA, dbA, okA, atA, by omega, p1, p2⟩
              · obtain ⟨y20, bd, rr9, vc', vI, BB, rfl, z, oc, oFA, dI, okI, atI9, lnI, p1, p2⟩ := hM
                refine ⟨by show 2 ≤ sizeLine; decide, fun tK1 nK1 => ?_⟩
                generalize hGK1 : upd J' tK1 _ = J33
                obtain ⟨sK1, eK1⟩ := new_of nK1 hGK1
                replace oc := z.st.op (B2.same sK1) oc
                replace oFA := z.st.op (B2.same sK1) oFA
                replace dI := z.st.dp (B2.same sK1) (noL_blk okI) dI
                replace z := z.mv st nB (B2.same sK1) (z.st.same sK1)
                have oK1 : Op K J33 (.ref tK1) := .tup eK1 (.cons (.str _) (.cons (.int _) .nil))
                refine ⟨by show 2 ≤ sizeLine; decide, fun tK2 nK2 => ?_⟩
                generalize hGK2 : upd J33 tK2 _ = J34
                obtain ⟨sK2, eK2⟩ := new_of nK2 hGK2
                replace oc := z.st.op (B2.same sK2) oc
                replace oFA := z.st.op (B2.same sK2) oFA
                replace oK1 := z.st.op (B2.same sK2) oK1
                replace dI := z.st.dp (B2.same sK2) (noL_blk okI) dI
                replace z := z.mv st nB (B2.same sK2) (z.st.same sK2)
                have oK2 : Op K J34 (.ref tK2) := .tup eK2 (.cons (.str _) (.cons (.int _) .nil))
                refine ⟨by show 4 ≤ sizeLine; decide, fun tK3 nK3 => ?_⟩
                generalize hGK3 : upd J34 tK3 _ = J35
                obtain ⟨sK3, eK3⟩ := new_of nK3 hGK3
                replace oc := z.st.op (B2.same sK3) oc
                replace oFA := z.st.op (B2.same sK3) oFA
                replace oK1 := z.st.op (B2.same sK3) oK1
                replace oK2 := z.st.op (B2.same sK3) oK2
                replace dI := z.st.dp (B2.same sK3) (noL_blk okI) dI
                replace z := z.mv st nB (B2.same sK3) (z.st.same sK3)
                have oK3 : Op K J35 (.ref tK3) := .tup eK3 (.cons (.str _) (.cons (.str _) (.cons oK1 (.cons oK2 .nil))))
                refine ⟨by show 1 ≤ sizeLine; decide, fun tK4 nK4 => ?_⟩
                generalize hGK4 : upd J35 tK4 _ = J36
                obtain ⟨sK4, eK4⟩ := new_of nK4 hGK4
                replace oc := z.st.op (B2.same sK4) oc
                replace oFA := z.st.op (B2.same sK4) oFA
                replace oK3 := z.st.op (B2.same sK4) oK3
                replace dI := z.st.dp (B2.same sK4) (noL_blk okI) dI
                replace z := z.mv st nB (B2.same sK4) (z.st.same sK4)
                have hK4 : SqT K J36 tK4 [.ref tK3] := SqT.of eK4
                refine ⟨_, rfl, h, d, ds, 4, rfl, by decide, z.st.hd, fun rK5 J37 q0K5 q1K5 bK5 hdK5 _ => ?_⟩
                replace oc := z.st.op (B2.but bK5) oc
                replace oFA := z.st.op (B2.but bK5) oFA
                replace oK3 := z.st.op (B2.but bK5) oK3
                replace dI := z.st.dp (B2.but bK5) (noL_blk okI) dI
                replace hK4 := z.st.sqt (B2.but bK5) hK4
                replace z := z.mv st nB (B2.but bK5) (z.st.but bK5 hdK5)
                refine ⟨rfl, _, True, rfl, fun _ => ⟨_, rfl, a.c, _, _, _, rfl, rfl, SqL.of z.st.cx.c, atI_nat (j := 5) rfl, a.R, _, _, _, rfl, rfl, SqL.of z.st.cx.r, atI_nat (j := 0) rfl, _, _, rfl, rfl, _, rfl, rfl, fun _ => trivial⟩, fun g _ => ?_⟩
                refine .inr ⟨g, rfl, tK4, _, _, rfl, rfl, hK4, by simp, by cases g <;> simp, fun pk yk J38 sk hk9 hyk => ?_⟩
                replace oc := z.st.op (B2.same sk) oc
                replace oFA := z.st.op (B2.same sk) oFA
                replace oK3 := z.st.op (B2.same sk) oK3
                replace dI := z.st.dp (B2.same sk) (noL_blk okI) dI
                replace z := z.mv st nB (B2.same sk) (z.st.same sk)
                have oKs : Ops K J38 yk := by
                  rcases hyk with rfl | rfl
                  · exact .nil
                  · exact .cons oK3 .nil
                have hyl : yk.length ≤ 1 := by
                  rcases hyk with rfl | rfl
                  · exact Nat.zero_le _
                  · exact Nat.le_refl _
                have oKK : Op K J38 (.ref pk) := .sqt hk9 oKs
                obtain ⟨kds, dK, nK⟩ := oKs.inv
                have dKK : Dp K J38 (.ref pk) (.tuple kds) := .tup hk9 dK
                refine ⟨_, rfl, a.c, _, _, _, rfl, rfl, SqL.of z.st.cx.c, atI_nat (j := 5) rfl, a.R, _, _, _, rfl, rfl, SqL.of z.st.cx.r, atI_nat (j := 0) rfl, _, rfl, pk, _, rfl, .inr hk9, _, _, rfl, rfl, _, rfl, a.c, _, _, _, rfl, rfl, SqL.of z.st.cx.c, atI_nat (j := 5) rfl, a.R, _, 0, 0, rfl, rfl, z.st.cx.r, rfl, ?_⟩
                generalize hGR9 : upd J38 a.R _ = J39
                replace oc := z.st.op (B2.ofR hGR9) oc
                replace oFA := z.st.op (B2.ofR hGR9) oFA
                replace dI := z.st.dp (B2.ofR hGR9) (noL_blk okI) dI
                replace dKK := z.st.dp (B2.ofR hGR9) (show noL (.tuple kds) = true by unfold noL; exact nK) dKK
                replace z := z.mv st nB (B2.ofR hGR9) (z.st.ofR hdR hGR9)
                refine ⟨_, rfl, _, rfl, _, rfl, _, rfl, by show 6 ≤ sizeLine; decide, fun tW nW => ?_⟩
                generalize hGW : upd J39 tW _ = J40
                obtain ⟨sW, eW⟩ := new_of nW hGW
                replace oc := z.st.op (B2.same sW) oc
                replace oFA := z.st.op (B2.same sW) oFA
                replace dI := z.st.dp (B2.same sW) (noL_blk okI) dI
                replace dKK := z.st.dp (B2.same sW) (show noL (.tuple kds) = true by unfold noL; exact nK) dKK
                replace z := z.mv st nB (B2.same sW) (z.st.same sW)
                obtain ⟨cd, dc, nc⟩ := oc
                obtain ⟨fd, df, nf⟩ := oFA
                have dS : Dp K J40 (.ref tW) (encD ((m + 1) + 1) (show BD ((m + 1) + 1) from (Sf.whl 0 cd kds fd BB : Sf (BD (m + 1))))) := .tup (SqT.of eW) (.cons (.str _) (.cons (.int _) (.cons dc (.cons dKK (.cons df (.cons dI .nil))))))
                have lS : (flatD ((m + 1) + 1) (show BD ((m + 1) + 1) from (Sf.whl 0 cd kds fd BB : Sf (BD (m + 1))))).length ≤ szD (m + 1) := by
                  rw [wh_len]
                  show _ ≤ 1 + 3 * szD m
                  have := szD_pos m
                  have := lnI
                  omega
                refine ⟨_, rfl, _, rfl, _, _, rfl, rfl, ⟨by omega, by omega⟩, ?_⟩
                refine ⟨_, rfl, _, rfl, _, _, rfl, rfl, .inl ⟨by omega, by omega⟩, ?_⟩
                refine ⟨_, rfl, .inl ⟨rfl, _, SqL.of z.e⟩, _, rfl, Bk, _, _, rfl, rfl, z.e, small_sz5 (by have := z.xl; omega), ?_⟩
                have zz := z.next st nB dS ⟨nc, nK, nf, okI⟩ (wh_flat atI9) lS p1 p2
                exact ⟨_, _, _, _, _, _, _, _, _, _, _, _, _, _, _, _, _, _, _, rfl, zz⟩
            · refine ⟨_, rfl, _, rfl, _, _, rfl, rfl, ⟨by omega, by omega⟩, ?_⟩
              refine ⟨_, rfl, _, rfl, _, _, rfl, rfl, .inl ⟨by omega, by omega⟩, ?_⟩
              refine ⟨_, rfl, .inl ⟨rfl, _, SqL.of z.e⟩, _, rfl, Bk, _, _, rfl, rfl, z.e, small_sz5 (by have := z.xl; omega), ?_⟩
              have zz := z.next st nB (show Dp K _ vS (encD ((m + 1) + 1) (show BD ((m + 1) + 1) from (s0.to : Sf (BD (m + 1))))) by rw [show encD ((m + 1) + 1) (show BD ((m + 1) + 1) from (s0.to : Sf (BD (m + 1)))) = s0.enc from Sm.enc_to s0]; exact dS) (Sm.ok_to o0) (sm_of m0') (sm_len s0) (by decide) z.bu1
              exact ⟨_, _, _, _, _, _, _, _, _, _, _, _, _, _, _, _, _, _, _, rfl, zz⟩
        · have hk3 : ¬ k = 3 := by omega
          have hk12 : (decide ((1 : Int) = k) || (decide ((2 : Int) = k) || false)) = false := by rw [decide_eq_false (by omega), decide_eq_false (by omega)]; rfl
          have k0 : ¬ k = 0 := by omega
          refine ⟨_, rfl, rfl, _, rfl, ?_⟩
          rw [int_dec, decide_eq_false k0]
          refine iteF ?_
          refine iteF ?_
          refine ⟨_, rfl, by show 2 ≤ sizeLine; decide, fun tL7 nL7 => ?_⟩
          generalize hGL7 : upd J4 tL7 _ = J8
          obtain ⟨sL7, eL7⟩ := new_of nL7 hGL7
          replace oc := z.st.op (B2.same sL7) oc
          replace dS := z.st.dp (B2.same sL7) (Sm.noL o0) dS
          replace z := z.mv st nB (B2.same sL7) (z.st.same sL7)
          refine ⟨tL7, _, rfl, .inl (SqL.of eL7), rfl, rfl, _, rfl, ?_⟩
          show if inV (.int k) [.int 1, .int 2] = true then _ else _
          rw [in12, hk12]
          refine iteF ?_
          refine iteF ?_
          refine ⟨_, rfl, rfl, _, rfl, ?_⟩
          rw [int_dec, decide_eq_false hk3]
          refine iteF ?_
          refine iteF ?_
          refine ⟨_, rfl, _, rfl, _, _, rfl, rfl, ⟨by omega, by omega⟩, ?_⟩
          refine ⟨_, rfl, _, rfl, _, _, rfl, rfl, .inl ⟨by omega, by omega⟩, ?_⟩
          refine ⟨_, rfl, .inl ⟨rfl, _, SqL.of z.e⟩, _, rfl, Bk, _, _, rfl, rfl, z.e, small_sz5 (by have := z.xl; omega), ?_⟩
          have zz := z.next st nB (show Dp K _ vS (encD ((m + 1) + 1) (show BD ((m + 1) + 1) from (s0.to : Sf (BD (m + 1))))) by rw [show encD ((m + 1) + 1) (show BD ((m + 1) + 1) from (s0.to : Sf (BD (m + 1)))) = s0.enc from Sm.enc_to s0]; exact dS) (Sm.ok_to o0) (sm_of m0') (sm_len s0) (by decide) z.bu1
          exact ⟨_, _, _, _, _, _, _, _, _, _, _, _, _, _, _, _, _, _, _, rfl, zz⟩
      · obtain ⟨bu, dn, rr, y8, y9, y10, y11, y12, y13, y14, y15, y16, y17, y18, y19, y20, y21, xs, bs, rfl, z⟩ := hP
        refine ⟨_, rfl, _, rfl, Bk, _, rfl, .inl ⟨SqL.of z.e, fun tt nt => ?_⟩⟩
        exact ⟨by show 2 ≤ sizeLine; decide, fun t n => fin_blk q z (Nat.le_refl _) hm0 nt n⟩
end
end SW

namespace SW
open PySem PySem.Spec PyProof.Rows L2
abbrev s_l_rows : Stmt := topS 15
theorem sc_l_rows : FnScope ["block", "row", "found", "statement", "first", "then", "other", "body"] ["block", "row"] (defScope s_l_rows) := ⟨rfl, rfl, rfl, by decide +kernel, rfl, by decide +kernel, by decide +kernel⟩

def rSlC (K : PySem.W.Frag) : V → Option Int → Option Int → Hp → VK → Prop := fun x lo hi H Q => ∃ a xs, x = .ref a ∧ SqT K H a xs ∧ (xs.length ≤ sizeLine → ∀ p H', Same H H' → SqT K H' p (cutV xs lo hi) → Q (.ref p) H')
theorem sl_tupC {X : Cx} : SlR X (rSlC X.K) := by
  intro pins s σ H x v vl vu lo hi sl Q I rx hs pl pu h
  obtain ⟨a, xs, h1, h2, q⟩ := h
  obtain ⟨its, r, ht, hz⟩ := I.tuple h2
  exact sl_tupB pins s σ H x v vl vu lo hi sl Q I rx hs pl pu ⟨a, xs, h1, h2, q hz⟩
/-- what is said of a statement, whatever its row is -/
def core (a : An) : Option (PySem.Str ⊕ (PySem.Str × List Ar)) := match a.s with
  | .lst _ _ x _ => some (.inl x)
  | .cal _ _ f as => some (.inr (f, as))
  | _ => none
def flC (n : Nat) (b : List (BD n)) : List (Option (PySem.Str ⊕ (PySem.Str × List Ar))) := (flatB n b).map core
def flS (n : Nat) (s : BD n) : List (Option (PySem.Str ⊕ (PySem.Str × List Ar))) := (flatD n s).map core
theorem flC_snoc (n : Nat) (b : List (BD n)) (s : BD n) : flC n (b ++ [s]) = flC n b ++ flS n s := by
  unfold flC flS
  rw [flatB_snoc, List.map_append]
theorem flC_len {n : Nat} {b b' : List (BD n)} (h : flC n b = flC n b') : (flatB n b).length = (flatB n b').length := by
  have := congrArg List.length h
  unfold flC at this
  rwa [List.length_map, List.length_map] at this
theorem flS_if {n : Nat} {r : Int} {c : PyData} {a b : List (BD n)} : flS (n + 1) (show BD (n + 1) from (Sf.iff r c a b : Sf (BD n))) = none :: (flC n a ++ flC n b) := by
  have e : flatD (n + 1) (show BD (n + 1) from (Sf.iff r c a b : Sf (BD n))) = ⟨n, Sf.iff r c a b⟩ :: (flatB n a ++ (flatB n b ++ [])) := flatD_succ n _
  unfold flS flC
  rw [e, List.append_nil, List.map_cons, List.map_append]
  rfl
theorem flS_wh {n : Nat} {r : Int} {c f : PyData} {ks : List PyData} {b : List (BD n)} : flS (n + 1) (show BD (n + 1) from (Sf.whl r c ks f b : Sf (BD n))) = none :: flC n b := by
  have e : flatD (n + 1) (show BD (n + 1) from (Sf.whl r c ks f b : Sf (BD n))) = ⟨n, Sf.whl r c ks f b⟩ :: (flatB n b ++ []) := flatD_succ n _
  unfold flS flC
  rw [e, List.append_nil, List.map_cons]
  rfl
theorem cutR2 (a b : V) (r : List V) : cutV (a :: b :: r) (some 2) none = r := by
  unfold cutV
  rw [HT.sIx_none]
  have e : HT.sIx (a :: b :: r).length 0 (some 2) = 2 := by
    show (if (2 : Int) < 0 then ((2 : Int) + ((a :: b :: r).length : Int)).toNat else min (2 : Int).toNat (a :: b :: r).length) = 2
    rw [if_neg (by decide), List.length_cons, List.length_cons]
    show min 2 _ = 2
    omega
  rw [e]
  show r.take ((r.length + 1 + 1) - 2) = r
  rw [show r.length + 1 + 1 - 2 = r.length by omega, List.take_length]
theorem cut3 (a b c d e : V) : cutV [a, b, c, d, e] none (some 3) = [a, b, c] := rfl
theorem cut5 (a b c d e f : V) : cutV [a, b, c, d, e, f] none (some 5) = [a, b, c, d, e] := rfl
theorem len_flat : ∀ (n : Nat) (b : List (BD n)), b.length ≤ (flatB n b).length
  | 0, b => by
    cases b with
    | nil => exact Nat.le_refl _
    | cons s r => exact nomatch s
  | n + 1, b => by
    induction b with
    | nil => exact Nat.le_refl _
    | cons s r ih =>
      have e : flatB (n + 1) (s :: r) = flatD (n + 1) s ++ flatB (n + 1) r := rfl
      rw [e, List.length_append, List.length_cons, show flatD (n + 1) s = ⟨n, s⟩ :: ((Sf.subs (B := BD n) s).map (flatB n)).flatten from flatD_succ n s, List.length_cons]
      omega
section
variable {P : Program} {w : World} {K : PySem.W.Frag} {mg : PySem.Str → Option Value} {base : Heap}
def spRows (K : PySem.W.Frag) (n : Nat) : Sp := fun vs H Q _ => ∃ (v : V) (r : Int) (b : List (BD n)), vs = [v, .int r] ∧ Dp K H v (blkE n b) ∧ (∀ s, s ∈ b → okD n s) ∧ b.length ≤ 900 ∧ (flatB n b).length ≤ 900 ∧ ∀ (t : Addr) (v' : V) (r' : Int) (b' : List (BD n)) (H' : Hp), Same H H' → H' t = some (.tup [v', .int r']) → Dp K H' v' (blkE n b') → (∀ s, s ∈ b' → okD n s) → b'.length = b.length → flC n b' = flC n b → Q (.ref t) H'
theorem ok_l_rows (T : TxB mg) (D_l_rows : Df K mg "_law_rows" s_l_rows ["block", "row"]) : ∀ n, FnOk P w K mg base CX0 (n + 1) D_l_rows.f D_l_rows.fd ["block", "row"] (spRows K n)
  | 0 => by
    have G_l_rows : FnOk P w K mg base CX0 0 D_l_rows.f D_l_rows.fd ["block", "row"] (fun _ _ _ _ => False) := fn_never
    refine D_l_rows.F.ok sc_l_rows (fun vs H Q E h => ?_) (fun cdv A outer s H vs Q E hr h => ?_)
    · obtain ⟨v, r, b, rfl, _⟩ := h
      rfl
    · obtain ⟨v, r, b, rfl, hd, hok, hl, hf, q⟩ := h
      refine ⟨_, (pss_cons (ps_set (i := 2) sc_l_rows.nd rfl (.inl rfl) (pe_lst pa_nil))
    (pss_cons (ps_for PassesOwn.never rfl (pi_tup (pv 0)) (pg_name (i := 3) sc_l_rows.nd rfl (.inl rfl))
    (pss_cons (ps_set (i := 4) sc_l_rows.nd rfl (.inl rfl) (pv 1))
    (pss_cons (ps_set (i := 1) sc_l_rows.nd rfl (.inl rfl) (pe_op op_add (pv 1) pe_int))
    (pss_cons (ps_if (pt_cmpR op_eq (pe_ix ix_tup (pv 3) pe_int (fun _ _ => rfl)) pe_str (nomark _))
    (pss_cons (ps_asg (pe_call G_l_rows (hr.mono (by omega)) (by rfl) D_l_rows.g D_l_rows.F.kp D_l_rows.b .nil pass0 (pa_cons (pe_ix ix_tup (pv 3) pe_int (fun _ _ => rfl)) (pa_cons (pv 1) pa_nil))) (pg_tup (by rfl) (pgs_cons (pg_name (i := 5) sc_l_rows.nd rfl (.inl rfl)) (pgs_cons (pg_name (i := 1) sc_l_rows.nd rfl (.inl rfl)) pgs_nil))))
    (pss_cons (ps_asg (pe_call G_l_rows (hr.mono (by omega)) (by rfl) D_l_rows.g D_l_rows.F.kp D_l_rows.b .nil pass0 (pa_cons (pe_ix ix_tup (pv 3) pe_int (fun _ _ => rfl)) (pa_cons (pe_op op_add (pv 1) (pe_callTy call_int1 (by rfl) T.n_int (by decide +kernel) (pa_cons (pe_cmpR op_gt (pe_callB call_len_seq (by rfl) T.n_len PySem.boot_len (pa_cons (pe_ix ix_tup (pv 3) pe_int (fun _ _ => rfl)) pa_nil)) pe_int (nomark _)) pa_nil))) pa_nil))) (pg_tup (by rfl) (pgs_cons (pg_name (i := 6) sc_l_rows.nd rfl (.inl rfl)) (pgs_cons (pg_name (i := 1) sc_l_rows.nd rfl (.inl rfl)) pgs_nil))))
    (pss_cons (ps_set (i := 3) sc_l_rows.nd rfl (.inl rfl) (pe_op op_catB (pe_slice sl_tupC (pv 3) po_none (po_some pe_int)) (pe_tup (pa_cons (pv 5) (pa_cons (pv 6) pa_nil)))))
    (pss_one (ps_set (i := 1) sc_l_rows.nd rfl (.inl rfl) (pe_op op_add (pv 1) pe_int))))))
    (pss_one (ps_if (pt_cmpR op_eq (pe_ix ix_tup (pv 3) pe_int (fun _ _ => rfl)) pe_str (nomark _))
    (pss_cons (ps_asg (pe_call G_l_rows (hr.mono (by omega)) (by rfl) D_l_rows.g D_l_rows.F.kp D_l_rows.b .nil pass0 (pa_cons (pe_ix ix_tup (pv 3) pe_int (fun _ _ => rfl)) (pa_cons (pe_op op_add (pe_op op_add (pv 1) (pe_callB call_len_seq (by rfl) T.n_len PySem.boot_len (pa_cons (pe_ix ix_tup (pv 3) pe_int (fun _ _ => rfl)) pa_nil))) pe_int) pa_nil))) (pg_tup (by rfl) (pgs_cons (pg_name (i := 7) sc_l_rows.nd rfl (.inl rfl)) (pgs_cons (pg_name (i := 1) sc_l_rows.nd rfl (.inl rfl)) pgs_nil))))
    (pss_cons (ps_set (i := 3) sc_l_rows.nd rfl (.inl rfl) (pe_op op_catB (pe_slice sl_tupC (pv 3) po_none (po_some pe_int)) (pe_tup (pa_cons (pv 7) pa_nil))))
    (pss_one (ps_set (i := 1) sc_l_rows.nd rfl (.inl rfl) (pe_op op_add (pv 1) pe_int)))))
    pss_nil)))
    (pss_one (ps_expr (pe_bm PySem.F.plainAttrs_list PySem.F.slot_list_append PySem.F.type_list_append mt_append (pv 2) (pa_cons (pe_op op_catB (pe_tup (pa_cons (pe_ix ix_tup (pv 3) pe_int (fun _ _ => rfl)) (pa_cons (pv 4) pa_nil))) (pe_slice sl_tupC (pv 3) (po_some pe_int) po_none)) pa_nil))))))))
    (pss_one (ps_ret (pe_tup (pa_cons (pe_callTy call_tuple_of (by rfl) T.n_tuple (by decide +kernel) (pa_cons (pv 2) pa_nil)) (pa_cons (pv 1) pa_nil))))))), ?_⟩
      obtain rfl : b = [] := by
        cases b with
        | nil => rfl
        | cons s r => exact nomatch s
      obtain ⟨t, us, rfl, ht, ha⟩ := dp_tup_inv hd
      cases ha
      refine ⟨Nat.zero_le _, fun F nF => ?_⟩
      generalize hG : upd H F _ = G
      obtain ⟨s1, e1⟩ := new_of nF hG
      refine ⟨_, rfl, t, rfl, ⟨_, sqt_same s1 ht⟩, ?_⟩
      refine for_tup (K := K) (a := t) (xs := []) (fun _ σ J => J = G ∧ ∃ y3 y4 y5 y6 y7 : Option V, σ = [some (.ref t), some (.int r), some (.ref F), y3, y4, y5, y6, y7]) ⟨rfl, _, _, _, _, _, rfl⟩ (fun _ _ J _ hP => by
        obtain ⟨rfl, _⟩ := hP
        exact sqt_same s1 ht) (fun i x σ J hx _ => by cases hx) (fun σ J hP => ?_)
      obtain ⟨rfl, y3, y4, y5, y6, y7, rfl⟩ := hP
      refine ⟨_, rfl, F, _, rfl, .inl ⟨SqL.of e1, fun tt nt => ?_⟩⟩
      generalize hG2 : upd J tt _ = G2
      obtain ⟨s2, e2⟩ := new_of nt hG2
      refine ⟨_, rfl, by show 2 ≤ sizeLine; decide, fun t9 n9 => ?_⟩
      generalize hG3 : upd G2 t9 _ = G3
      obtain ⟨s3, e3⟩ := new_of n9 hG3
      exact q t9 _ r [] G3 (s1.trans (s2.trans s3)) e3 (.tup (SqT.of (s3 _ _ e2)) .nil) (fun _ h => (List.not_mem_nil h).elim) rfl rfl
  | n + 1 => by
    have G_l_rows := ok_l_rows T D_l_rows n
    refine D_l_rows.F.ok sc_l_rows (fun vs H Q E h => ?_) (fun cdv A outer s H vs Q E hr h => ?_)
    · obtain ⟨v, r, b, rfl, _⟩ := h
      rfl
    · obtain ⟨v, r, b, rfl, hd, hok, hl, hf, q⟩ := h
      refine ⟨_, (pss_cons (ps_set (i := 2) sc_l_rows.nd rfl (.inl rfl) (pe_lst pa_nil))
    (pss_cons (ps_for PassesOwn.never rfl (pi_tup (pv 0)) (pg_name (i := 3) sc_l_rows.nd rfl (.inl rfl))
    (pss_cons (ps_set (i := 4) sc_l_rows.nd rfl (.inl rfl) (pv 1))
    (pss_cons (ps_set (i := 1) sc_l_rows.nd rfl (.inl rfl) (pe_op op_add (pv 1) pe_int))
    (pss_cons (ps_if (pt_cmpR op_eq (pe_ix ix_tup (pv 3) pe_int (fun _ _ => rfl)) pe_str (nomark _))
    (pss_cons (ps_asg (pe_call G_l_rows (hr.mono (by omega)) (by rfl) D_l_rows.g D_l_rows.F.kp D_l_rows.b .nil pass0 (pa_cons (pe_ix ix_tup (pv 3) pe_int (fun _ _ => rfl)) (pa_cons (pv 1) pa_nil))) (pg_tup (by rfl) (pgs_cons (pg_name (i := 5) sc_l_rows.nd rfl (.inl rfl)) (pgs_cons (pg_name (i := 1) sc_l_rows.nd rfl (.inl rfl)) pgs_nil))))
    (pss_cons (ps_asg (pe_call G_l_rows (hr.mono (by omega)) (by rfl) D_l_rows.g D_l_rows.F.kp D_l_rows.b .nil pass0 (pa_cons (pe_ix ix_tup (pv 3) pe_int (fun _ _ => rfl)) (pa_cons (pe_op op_add (pv 1) (pe_callTy call_int1 (by rfl) T.n_int (by decide +kernel) (pa_cons (pe_cmpR op_gt (pe_callB call_len_seq (by rfl) T.n_len PySem.boot_len (pa_cons (pe_ix ix_tup (pv 3) pe_int (fun _ _ => rfl)) pa_nil)) pe_int (nomark _)) pa_nil))) pa_nil))) (pg_tup (by rfl) (pgs_cons (pg_name (i := 6) sc_l_rows.nd rfl (.inl rfl)) (pgs_cons (pg_name (i := 1) sc_l_rows.nd rfl (.inl rfl)) pgs_nil))))
    (pss_cons (ps_set (i := 3) sc_l_rows.nd rfl (.inl rfl) (pe_op op_catB (pe_slice sl_tupC (pv 3) po_none (po_some pe_int)) (pe_tup (pa_cons (pv 5) (pa_cons (pv 6) pa_nil)))))
    (pss_one (ps_set (i := 1) sc_l_rows.nd rfl (.inl rfl) (pe_op op_add (pv 1) pe_int))))))
    (pss_one (ps_if (pt_cmpR op_eq (pe_ix ix_tup (pv 3) pe_int (fun _ _ => rfl)) pe_str (nomark _))
    (pss_cons (ps_asg (pe_call G_l_rows (hr.mono (by omega)) (by rfl) D_l_rows.g D_l_rows.F.kp D_l_rows.b .nil pass0 (pa_cons (pe_ix ix_tup (pv 3) pe_int (fun _ _ => rfl)) (pa_cons (pe_op op_add (pe_op op_add (pv 1) (pe_callB call_len_seq (by rfl) T.n_len PySem.boot_len (pa_cons (pe_ix ix_tup (pv 3) pe_int (fun _ _ => rfl)) pa_nil))) pe_int) pa_nil))) (pg_tup (by rfl) (pgs_cons (pg_name (i := 7) sc_l_rows.nd rfl (.inl rfl)) (pgs_cons (pg_name (i := 1) sc_l_rows.nd rfl (.inl rfl)) pgs_nil))))
    (pss_cons (ps_set (i := 3) sc_l_rows.nd rfl (.inl rfl) (pe_op op_catB (pe_slice sl_tupC (pv 3) po_none (po_some pe_int)) (pe_tup (pa_cons (pv 7) pa_nil))))
    (pss_one (ps_set (i := 1) sc_l_rows.nd rfl (.inl rfl) (pe_op op_add (pv 1) pe_int)))))
    pss_nil)))
    (pss_one (ps_expr (pe_bm PySem.F.plainAttrs_list PySem.F.slot_list_append PySem.F.type_list_append mt_append (pv 2) (pa_cons (pe_op op_catB (pe_tup (pa_cons (pe_ix ix_tup (pv 3) pe_int (fun _ _ => rfl)) (pa_cons (pv 4) pa_nil))) (pe_slice sl_tupC (pv 3) (po_some pe_int) po_none)) pa_nil))))))))
    (pss_one (ps_ret (pe_tup (pa_cons (pe_callTy call_tuple_of (by rfl) T.n_tuple (by decide +kernel) (pa_cons (pv 2) pa_nil)) (pa_cons (pv 1) pa_nil))))))), ?_⟩
      obtain ⟨t0, us, rfl, ht0, ha0⟩ := dp_tup_inv hd
      have hul : us.length = b.length := by rw [dpa_len ha0, List.length_map]
      refine ⟨Nat.zero_le _, fun F nF => ?_⟩
      generalize hG : upd H F _ = G
      obtain ⟨s1, e1⟩ := new_of nF hG
      refine ⟨_, rfl, t0, rfl, ⟨_, sqt_same s1 ht0⟩, ?_⟩
      refine for_tup (K := K) (a := t0) (xs := us) (fun i σ J => Same H J ∧ ∃ (r : Int) (y3 y4 y5 y6 y7 : Option V) (xs : List V) (b' : List (BD (n + 1))), σ = [some (.ref t0), some (.int r), some (.ref F), y3, y4, y5, y6, y7] ∧ J F = some (.lst xs) ∧ DpAll K J xs (b'.map (encD (n + 1))) ∧ (∀ s, s ∈ b' → okD (n + 1) s) ∧ b'.length = i ∧ flC (n + 1) b' = flC (n + 1) (b.take i)) ⟨s1, r, _, _, _, _, _, [], [], rfl, e1, .nil, fun _ h => (List.not_mem_nil h).elim, rfl, rfl⟩ (fun i σ J _ hP => sqt_same hP.1 ht0) (fun i x σ J hx hP => ?_) (fun σ J hP => ?_)
      · obtain ⟨sJ, r, y3, y4, y5, y6, y7, xs, b', rfl, eF, dF, okb, lb, fb⟩ := hP
        have hi : i < b.length := by
          rw [← hul]
          exact (List.getElem?_eq_some_iff.mp hx).1
        obtain ⟨v', g1, dv⟩ := dp_mem ha0 hi
        rw [hx] at g1
        cases g1
        have hok1 := hok _ (List.getElem_mem hi)
        have hfk : flC (n + 1) (b.take (i + 1)) = flC (n + 1) (b.take i) ++ flS (n + 1) b[i] := by
          rw [List.take_succ_eq_append_getElem hi, flC_snoc]
        have hfl := flatD_le (m := n + 1) (List.getElem_mem hi)
        have hxl : xs.length = i := by rw [dpa_len dF, List.length_map, lb]
        have dvJ := dv.same sJ
        clear dv
        generalize b[i] = st at dvJ hok1 hfk hfl
        obtain ⟨st, rfl⟩ : ∃ s' : Sf (BD n), s' = st := ⟨st, rfl⟩
        obtain ⟨t, ws, rfl, ht, ha⟩ := sf_inv (B := BD n) (s := st) dvJ
        have hok1 : Sf.ok (okD n) st := hok1
        have hsub : ∀ b2, b2 ∈ st.subs → (flatB n b2).length ≤ 900 := fun b2 hb2 => by
          have h1 := flatN_le hb2
          rw [show flatD (n + 1) st = ⟨n, st⟩ :: ((Sf.subs (B := BD n) st).map (flatB n)).flatten from flatD_succ n st, List.length_cons] at hfl
          omega
        have hsub2 : ∀ b2, b2 ∈ st.subs → b2.length ≤ 900 := fun b2 hb2 => Nat.le_trans (len_flat n b2) (hsub b2 hb2)
        have hsok := ok_subs (n := n) (s := st) hok1
        -- the statement stored
        have fin : ∀ {J2 : Hp} {tt : Addr} {st2 : BD (n + 1)} {r2 : Int} {y3 y4 y5 y6 y7 : Option V}, Same H J2 → J2 F = some (.lst xs) → DpAll K J2 xs (b'.map (encD (n + 1))) → Dp K J2 (.ref tt) (encD (n + 1) st2) → okD (n + 1) st2 → flS (n + 1) st2 = flS (n + 1) st → Same H (upd J2 F (.lst (xs ++ [.ref tt]))) ∧ ∃ (r : Int) (y3' y4' y5' y6' y7' : Option V) (xs' : List V) (b' : List (BD (n + 1))), [some (.ref t0), some (.int r2), some (.ref F), y3, y4, y5, y6, y7] = [some (.ref t0), some (.int r), some (.ref F), y3', y4', y5', y6', y7'] ∧ (upd J2 F (.lst (xs ++ [.ref tt]))) F = some (.lst xs') ∧ DpAll K (upd J2 F (.lst (xs ++ [.ref tt]))) xs' (b'.map (encD (n + 1))) ∧ (∀ s, s ∈ b' → okD (n + 1) s) ∧ b'.length = i + 1 ∧ flC (n + 1) b' = flC (n + 1) (b.take (i + 1)) := fun {J2 tt st2 r2 y3 y4 y5 y6 y7} s2 e2 d2 dt o2 f2 => by
          have ok2 : ∀ s, s ∈ b' ++ [st2] → okD (n + 1) s := fun s hs => by
            rcases List.mem_append.mp hs with hs | hs
            · exact okb s hs
            · rw [List.mem_singleton.mp hs]
              exact o2
          refine ⟨same_mut s2 nF, r2, _, _, _, _, _, xs ++ [.ref tt], b' ++ [st2], rfl, upd_same, ?_, ok2, by rw [List.length_append, lb]; rfl, ?_⟩
          · refine dpa_but e2 (fun b o hb e => (upd_ne hb).trans e) _ _ (noLs_mapof fun s hs => noL_D _ s (ok2 s hs)) ?_
            rw [List.map_append]
            exact dpa_snoc d2 dt
          · have e : flC (n + 1) (b' ++ [st2]) = flC (n + 1) b' ++ flS (n + 1) st2 := flC_snoc _ _ _
            rw [e, hfk, fb, f2]
        refine ⟨_, rfl, ?_⟩
        refine ⟨_, rfl, _, _, rfl, rfl, ?_⟩
        refine ⟨_, rfl, t, _, _, _, rfl, rfl, ht, atI_nat (j := 0) rfl, rfl, _, rfl, ?_⟩
        rw [str_dec]
        rcases kind_if hok1 with ⟨r0, c, a, b2, rfl⟩ | ⟨h1, h2⟩
        · obtain ⟨v1, v2, v3, v4, rfl, d1, d2, d3, d4⟩ := dpa4 ha
          obtain ⟨tb, yb, rfl, htb, dyb⟩ := dp_tup_inv d4
          have ma : a ∈ (Sf.iff r0 c a b2).subs := List.mem_cons_self
          have mb : b2 ∈ (Sf.iff r0 c a b2).subs := List.mem_cons_of_mem _ List.mem_cons_self
          refine iteT ⟨_, rfl, t, _, _, _, rfl, rfl, ht, atI_nat (j := 3) rfl, _, rfl, v3, _, a, rfl, d3, hsok a ma, hsub2 a ma, hsub a ma, fun t1 w1 r1 a' J1 s1 e1 f1 ok1 l1 g1 => ⟨t1, _, rfl, SqT.of e1, rfl, _, _, rfl, _, _, rfl, rfl, ?_⟩⟩
          refine ⟨_, rfl, t, _, _, _, rfl, rfl, sqt_same s1 ht, atI_nat (j := 4) rfl, _, rfl, _, rfl, t, _, _, _, rfl, rfl, sqt_same s1 ht, atI_nat (j := 4) rfl, tb, _, rfl, .inr (sqt_same s1 htb), _, _, rfl, rfl, .inr ⟨_, rfl, _, _, rfl, rfl, .ref tb, _, b2, rfl, d4.same s1, hsok b2 mb, hsub2 b2 mb, hsub b2 mb, fun t2 w2 r2 b3 J2 s2 e2 f2 ok2 l2 g2 => ⟨t2, _, rfl, SqT.of e2, rfl, _, _, rfl, _, _, rfl, rfl, ?_⟩⟩⟩
          have s12 := s1.trans s2
          refine ⟨_, rfl, _, rfl, t, _, rfl, sqt_same s12 ht, fun _ p3 J3 s3 h3 => ?_⟩
          rw [show cutV [V.str (Sf.iff r0 c a b2).kind, v1, v2, v3, V.ref tb] none (some 3) = [V.str "if", v1, v2] from rfl] at h3
          refine ⟨_, rfl, _, rfl, by show 2 ≤ sizeLine; decide, fun t4 n4 => ?_⟩
          generalize hG4 : upd J3 t4 _ = J4
          obtain ⟨s4, e4⟩ := new_of n4 hG4
          refine ⟨p3, t4, _, _, rfl, rfl, sqt_same s4 h3, SqT.of e4, by show 5 ≤ sizeLine; decide, fun p5 J5 s5 h5 => ?_⟩
          replace h5 : SqT K J5 p5 [V.str "if", v1, v2, w1, w2] := h5
          have s25 := s3.trans (s4.trans s5)
          have s15 := s12.trans s25
          refine ⟨_, rfl, _, _, rfl, rfl, ?_⟩
          refine ⟨_, rfl, .inl ⟨rfl, _, SqL.of (s15 _ _ eF)⟩, _, rfl, p5, _, _, _, rfl, rfl, h5, atI_nat (j := 0) rfl, _, rfl, by show 2 ≤ sizeLine; decide, fun tH nH => ?_⟩
          generalize hGH : upd J5 tH _ = JH
          obtain ⟨sH, eH⟩ := new_of nH hGH
          refine ⟨_, rfl, _, rfl, p5, _, rfl, sqt_same sH h5, fun zC pC JC sC hC => ?_⟩
          rw [cutR2] at hC
          refine ⟨tH, pC, _, _, rfl, rfl, SqT.of (sC _ _ eH), hC, (by simp only [List.length_cons, List.length_nil, List.length_append] at zC ⊢; omega), fun pD JD sD hD => ?_⟩
          have sHD := sH.trans (sC.trans sD)
          refine ⟨F, _, _, rfl, rfl, sHD _ _ (s15 _ _ eF), small_sz5 (by omega), ?_⟩
          exact fin ((sJ.trans s15).trans sHD) (sHD _ _ (s15 _ _ eF)) (dpa_same (s15.trans sHD) _ _ dF) (st2 := (show BD (n + 1) from (Sf.iff r c a' b3 : Sf (BD n)))) (.tup hD (.cons (.str _) (.cons (.int _) (.cons (d2.same (s15.trans sHD)) (.cons (f1.same (s2.trans (s25.trans sHD))) (.cons (f2.same (s25.trans sHD)) .nil)))))) ⟨hok1.1, ok1, ok2⟩ (by rw [flS_if, show flS (n + 1) (Sf.iff r0 c a b2 : Sf (BD n)) = none :: (flC n a ++ flC n b2) from flS_if, g1, g2])
        · rw [decide_eq_false h1]
          refine iteF ⟨_, rfl, t, _, _, _, rfl, rfl, ht, atI_nat (j := 0) rfl, rfl, _, rfl, ?_⟩
          rw [str_dec]
          rcases h2 with ⟨r0, c, ks, f, b2, rfl⟩ | ⟨h2, h3⟩
          · obtain ⟨v1, v2, v3, v4, v5, rfl, d1, d2, d3, d4, d5⟩ := dpa5 ha
            obtain ⟨tk, yk, rfl, htk, dyk⟩ := dp_tup_inv d3
            have mb : b2 ∈ (Sf.whl r0 c ks f b2).subs := List.mem_cons_self
            refine iteT ⟨_, rfl, t, _, _, _, rfl, rfl, ht, atI_nat (j := 5) rfl, _, rfl, _, rfl, t, _, _, _, rfl, rfl, ht, atI_nat (j := 3) rfl, tk, _, rfl, .inr htk, _, _, rfl, rfl, _, _, rfl, rfl, v5, _, b2, rfl, d5, hsok b2 mb, hsub2 b2 mb, hsub b2 mb, fun t1 w1 r1 a' J1 s1 e1 f1 ok1 l1 g1 => ⟨t1, _, rfl, SqT.of e1, rfl, _, _, rfl, _, _, rfl, rfl, ?_⟩⟩
            refine ⟨_, rfl, _, rfl, t, _, rfl, sqt_same s1 ht, fun _ p3 J3 s3 h3 => ?_⟩
            rw [show cutV [V.str (Sf.whl r0 c ks f b2).kind, v1, v2, V.ref tk, v4, v5] none (some 5) = [V.str "while", v1, v2, V.ref tk, v4] from rfl] at h3
            refine ⟨_, rfl, by show 1 ≤ sizeLine; decide, fun t4 n4 => ?_⟩
            generalize hG4 : upd J3 t4 _ = J4
            obtain ⟨s4, e4⟩ := new_of n4 hG4
            refine ⟨p3, t4, _, _, rfl, rfl, sqt_same s4 h3, SqT.of e4, by show 6 ≤ sizeLine; decide, fun p5 J5 s5 h5 => ?_⟩
            replace h5 : SqT K J5 p5 [V.str "while", v1, v2, V.ref tk, v4, w1] := h5
            have s25 := s3.trans (s4.trans s5)
            have s15 := s1.trans s25
            refine ⟨_, rfl, _, _, rfl, rfl, ?_⟩
            refine ⟨_, rfl, .inl ⟨rfl, _, SqL.of (s15 _ _ eF)⟩, _, rfl, p5, _, _, _, rfl, rfl, h5, atI_nat (j := 0) rfl, _, rfl, by show 2 ≤ sizeLine; decide, fun tH nH => ?_⟩
            generalize hGH : upd J5 tH _ = JH
            obtain ⟨sH, eH⟩ := new_of nH hGH
            refine ⟨_, rfl, _, rfl, p5, _, rfl, sqt_same sH h5, fun zC pC JC sC hC => ?_⟩
            rw [cutR2] at hC
            refine ⟨tH, pC, _, _, rfl, rfl, SqT.of (sC _ _ eH), hC, (by simp only [List.length_cons, List.length_nil, List.length_append] at zC ⊢; omega), fun pD JD sD hD => ?_⟩
            have sHD := sH.trans (sC.trans sD)
            refine ⟨F, _, _, rfl, rfl, sHD _ _ (s15 _ _ eF), small_sz5 (by omega), ?_⟩
            exact fin ((sJ.trans s15).trans sHD) (sHD _ _ (s15 _ _ eF)) (dpa_same (s15.trans sHD) _ _ dF) (st2 := (show BD (n + 1) from (Sf.whl r c ks f a' : Sf (BD n)))) (.tup hD (.cons (.str _) (.cons (.int _) (.cons (d2.same (s15.trans sHD)) (.cons (d3.same (s15.trans sHD)) (.cons (d4.same (s15.trans sHD)) (.cons (f1.same (s25.trans sHD)) .nil))))))) ⟨hok1.1, hok1.2.1, hok1.2.2.1, ok1⟩ (by rw [flS_wh, show flS (n + 1) (Sf.whl r0 c ks f b2 : Sf (BD n)) = none :: flC n b2 from flS_wh, g1])
          · rw [decide_eq_false h2]
            refine iteF ?_
            obtain ⟨wr, wo, rfl, hst⟩ : ∃ wr wo, ws = wr :: wo ∧ ∃ st2 : Sf (BD n), (∀ {J2 : Hp}, Same J J2 → DpAll K J2 (.str st.kind :: .int r :: wo) (.str st2.kind :: st2.rest (encD n))) ∧ Sf.ok (okD n) st2 ∧ flS (n + 1) st2 = flS (n + 1) st := by
              cases st with
              | lst k r0 y ds =>
                cases ha with
                | cons m1 m2 => exact ⟨_, _, rfl, .lst k r y ds, fun s => .cons (.str _) (.cons (.int _) (dpa_same s _ _ m2)), hok1, rfl⟩
              | cal r0 y f as =>
                cases ha with
                | cons m1 m2 => exact ⟨_, _, rfl, .cal r y f as, fun s => .cons (.str _) (.cons (.int _) (dpa_same s _ _ m2)), hok1, rfl⟩
              | oth k r0 ds =>
                cases ha with
                | cons m1 m2 => exact ⟨_, _, rfl, .oth k r ds, fun s => .cons (.str _) (.cons (.int _) (dpa_same s _ _ m2)), hok1, rfl⟩
              | iff r0 c a b2 => cases h3
              | whl r0 c ks f b2 => cases h3
            obtain ⟨st2, hd2, ok2, fl2⟩ := hst
            refine ⟨_, rfl, .inl ⟨rfl, _, SqL.of eF⟩, _, rfl, t, _, _, _, rfl, rfl, ht, atI_nat (j := 0) rfl, _, rfl, by show 2 ≤ sizeLine; decide, fun tH nH => ?_⟩
            generalize hGH : upd J tH _ = JH
            obtain ⟨sH, eH⟩ := new_of nH hGH
            refine ⟨_, rfl, _, rfl, t, _, rfl, sqt_same sH ht, fun zC pC JC sC hC => ?_⟩
            rw [cutR2] at hC
            refine ⟨tH, pC, _, _, rfl, rfl, SqT.of (sC _ _ eH), hC, (by simp only [List.length_cons, List.length_nil, List.length_append] at zC ⊢; omega), fun pD JD sD hD => ?_⟩
            have sHD := sH.trans (sC.trans sD)
            refine ⟨F, _, _, rfl, rfl, sHD _ _ eF, small_sz5 (by omega), ?_⟩
            exact fin (sJ.trans sHD) (sHD _ _ eF) (dpa_same sHD _ _ dF) (st2 := (show BD (n + 1) from st2)) (.tup hD (hd2 sHD)) ok2 fl2
      · obtain ⟨sJ, r, y3, y4, y5, y6, y7, xs, b', rfl, eF, dF, okb, lb, fb⟩ := hP
        rw [List.take_of_length_le (by omega)] at fb
        refine ⟨_, rfl, F, _, rfl, .inl ⟨SqL.of eF, fun tt nt => ?_⟩⟩
        generalize hG2 : upd J tt _ = G2
        obtain ⟨s2, e2⟩ := new_of nt hG2
        refine ⟨_, rfl, by show 2 ≤ sizeLine; decide, fun t9 n9 => ?_⟩
        generalize hG3 : upd G2 t9 _ = G3
        obtain ⟨s3, e3⟩ := new_of n9 hG3
        exact q t9 _ r b' G3 (sJ.trans (s2.trans s3)) e3 (.tup (SqT.of (s3 _ _ e2)) (dpa_same (s2.trans s3) _ _ dF)) okb (by rw [lb]; exact hul) fb
end
end SW

namespace SW
open PySem PySem.Spec PyProof.Rows L2
abbrev s_l_made : Stmt := topS 17
theorem sc_l_made : FnScope ["one"] ["one"] (defScope s_l_made) := ⟨rfl, rfl, rfl, by decide +kernel, rfl, by decide +kernel, by decide +kernel⟩

abbrev s_l_program : Stmt := topS 18
theorem sc_l_program : FnScope ["parts", "one"] ["parts"] (defScope s_l_program) := ⟨rfl, rfl, rfl, by decide +kernel, rfl, by decide +kernel, by decide +kernel⟩

abbrev s_l_parts : Stmt := topS 16
theorem sc_l_parts : FnScope ["procs", "made", "row", "name", "parameters", "needs", "gives", "moves", "falls", "lets", "body", "first", "told", "let", "block"] ["procs"] (defScope s_l_parts) := ⟨rfl, rfl, rfl, by decide +kernel, rfl, by decide +kernel, by decide +kernel⟩

structure CkI (K : PySem.W.Frag) (C : Addr) (q : PySem.Str) (s : Stmt) (ps : List PySem.Str) where
  f : Addr
  fd : FuncData
  F : Fun K "__init__" q s f fd
  b : Binds K fd ps []
  M : Mk K C f
abbrev prP : List PySem.Str := ["self", "row", "name", "parameters", "needs", "gives", "moves", "falls", "lets", "body"]
section
variable {P : Program} {w : World} {K : PySem.W.Frag} {mg : PySem.Str → Option Value} {base : Heap} {CP CG pp gg : Addr}
def spMade (K : PySem.W.Frag) (CP : Addr) : Sp := fun vs H Q _ => ∃ (t : Addr) (v0 v1 v2 v3 v4 v5 v6 v7 v8 : V), vs = [.ref t] ∧ SqT K H t [v0, v1, v2, v3, v4, v5, v6, v7, v8] ∧ ∀ (p dx : Addr) (H' : Hp), Same H H' → H p = none → H' p = some (.ins CP dx (prF v0 v1 v2 v3 v4 v5 v6 v7 v8)) → Q (.ref p) H'
theorem ok_l_made (T : TxQ K mg CP CG pp gg) (c_P : CkI K CP "Procedure.__init__" s_Procedure prP) (D_l_made : Df K mg "_law_made" s_l_made ["one"]) : FnOk P w K mg base CX0 3 D_l_made.f D_l_made.fd ["one"] (spMade K CP) := by
  have G_Procedure := ok_Procedure (P := P) (w := w) (base := base) c_P.F T
  have M_Procedure := c_P.M
  have b_Procedure := c_P.b
  refine D_l_made.F.ok sc_l_made (fun vs H Q E h => ?_) (fun cdv A outer s H vs Q E hr h => ?_)
  · obtain ⟨t, v0, v1, v2, v3, v4, v5, v6, v7, v8, rfl, _⟩ := h
    rfl
  · obtain ⟨t, v0, v1, v2, v3, v4, v5, v6, v7, v8, rfl, ht, q⟩ := h
    refine ⟨_, (pss_one (ps_ret (pe_make M_Procedure G_Procedure (hr.mono (by decide)) rfl T.mg_Procedure b_Procedure .nil pass0 (pa_cons (pe_ix ix_tup (pv 0) pe_int (fun _ _ => rfl)) (pa_cons (pe_ix ix_tup (pv 0) pe_int (fun _ _ => rfl)) (pa_cons (pe_ix ix_tup (pv 0) pe_int (fun _ _ => rfl)) (pa_cons (pe_ix ix_tup (pv 0) pe_int (fun _ _ => rfl)) (pa_cons (pe_ix ix_tup (pv 0) pe_int (fun _ _ => rfl)) (pa_cons (pe_ix ix_tup (pv 0) pe_int (fun _ _ => rfl)) (pa_cons (pe_ix ix_tup (pv 0) pe_int (fun _ _ => rfl)) (pa_cons (pe_ix ix_tup (pv 0) pe_int (fun _ _ => rfl)) (pa_cons (pe_ix ix_tup (pv 0) pe_int (fun _ _ => rfl)) pa_nil)))))))))))), ?_⟩
    refine ⟨_, rfl, t, _, _, _, rfl, rfl, ht, atI_nat (j := 0) rfl, _, rfl, t, _, _, _, rfl, rfl, ht, atI_nat (j := 1) rfl, _, rfl, t, _, _, _, rfl, rfl, ht, atI_nat (j := 2) rfl, _, rfl, t, _, _, _, rfl, rfl, ht, atI_nat (j := 3) rfl, _, rfl, t, _, _, _, rfl, rfl, ht, atI_nat (j := 4) rfl, _, rfl, t, _, _, _, rfl, rfl, ht, atI_nat (j := 5) rfl, _, rfl, t, _, _, _, rfl, rfl, ht, atI_nat (j := 6) rfl, _, rfl, t, _, _, _, rfl, rfl, ht, atI_nat (j := 7) rfl, _, rfl, t, _, _, _, rfl, rfl, ht, atI_nat (j := 8) rfl, ?_⟩
    intro x dx nx ndx nex
    refine ⟨x, dx, v0, v1, v2, v3, v4, v5, v6, v7, v8, rfl, upd_same, fun H' h1 h2 => ⟨rfl, q x dx H' (fun b o e => h1 b o (ne_of_none e nx) ?_) nx h2⟩⟩
    rw [upd_ne (ne_of_none e nx), upd_ne (ne_of_none e ndx)]
    exact e
theorem psE_nl (ps : List (PySem.Str × Bool)) : noL (psE ps) = true := by
  unfold psE noL
  exact noLs_mapof fun a _ => rfl
def trip {m : Nat} (c : Pc m) : PySem.Str × List (PySem.Str × Bool) × List (BD m) := (c.nm, c.ps, c.body)
theorem trip_of {m : Nat} {cs cs0 : List (Pc m)} (h : cs.map trip = cs0.map trip) {c : Pc m} (hc : c ∈ cs) : ∃ c0, c0 ∈ cs0 ∧ c0.nm = c.nm ∧ c0.ps = c.ps ∧ c0.body = c.body := by
  have h1 : trip c ∈ cs0.map trip := by
    rw [← h]
    exact List.mem_map.mpr ⟨c, hc, rfl⟩
  obtain ⟨c0, h2, h3⟩ := List.mem_map.mp h1
  unfold trip at h3
  obtain ⟨e1, e2⟩ := Prod.mk.inj h3
  obtain ⟨e2, e3⟩ := Prod.mk.inj e2
  exact ⟨c0, h2, e1, e2, e3⟩
def spProg (K : PySem.W.Frag) (CP CG : Addr) : Sp := fun vs H Q _ => ∃ (L : Addr) (xs : List V) (m : Nat) (cs0 : List (Pc m)), vs = [.ref L] ∧ H L = some (.lst xs) ∧ PtsAt K H xs cs0 ∧ (∀ c, c ∈ cs0 → c.ok) ∧ xs.length ≤ 100 ∧ ∀ (pg : Addr) (cs : List (Pc m)) (H' : Hp), Same H H' → PgAt K CP CG H' pg cs → cs.map trip = cs0.map trip → Q (.ref pg) H'
theorem ok_l_program (T : TxQ K mg CP CG pp gg) (c_P : CkI K CP "Procedure.__init__" s_Procedure prP) (c_G : CkI K CG "Program.__init__" s_Program ["self", "procedures"]) (D_l_program : Df K mg "_law_program" s_l_program ["parts"]) (D_l_made : Df K mg "_law_made" s_l_made ["one"]) : FnOk P w K mg base CX0 4 D_l_program.f D_l_program.fd ["parts"] (spProg K CP CG) := by
  have G_l_made := ok_l_made (P := P) (w := w) (base := base) T c_P D_l_made
  have G_Program := ok_Program (P := P) (w := w) (base := base) c_G.F T
  have M_Program := c_G.M
  have b_Program := c_G.b
  refine D_l_program.F.ok sc_l_program (fun vs H Q E h => ?_) (fun cdv A outer s H vs Q E hr h => ?_)
  · obtain ⟨L, xs, m, cs0, rfl, _⟩ := h
    rfl
  · obtain ⟨L, xs, m, cs0, rfl, hL, hp, hok, hl, q⟩ := h
    refine ⟨_, (pss_one (ps_ret (pe_make M_Program G_Program (hr.mono (by decide)) rfl T.mg_Program b_Program .nil pass0 (pa_cons (pe_callTy call_tuple_of (by rfl) T.n_tuple (by decide +kernel) (pa_cons (pe_lc (own := [("one", 1)]) (g := gName 1) (by rfl) sc_l_program.nd (pi_list (pv 0)) (blkOk_by (own := [("one", 1)]) (N := ["parts", "one"]) (sc := defScope s_l_program) (by decide +kernel)) (fun _ _ _ _ _ => pg_name (i := 1) sc_l_program.nd rfl (Or.inl rfl)) (fun _ _ _ _ _ => pts_nil) (fun _ _ _ _ _ => (pe_call G_l_made (hr.mono (by decide)) (by rfl) D_l_made.g D_l_made.F.kp D_l_made.b .nil pass0 (pa_cons (pv 1) pa_nil)))) pa_nil)) pa_nil)))), ?_⟩
    have hlen := hp.len
    refine ⟨_, rfl, L, rfl, ⟨_, SqL.of hL⟩, fun D nD => ?_⟩
    refine lc_list (K := K) (a := L) (xs := xs) (fun i G => Same H G ∧ ∃ (cs : List (Pc m)), G D = some (.lst (cs.map fun c => .ref c.p)) ∧ cs.map trip = (cs0.take i).map trip ∧ ∀ c, c ∈ cs → PcAt K CP G c) ⟨same_new nD, [], upd_same, rfl, fun _ h => (List.not_mem_nil h).elim⟩ (fun i G _ hP => SqL.of (hP.1 _ _ hL)) (fun i v G hv hP => ?_) (fun G hP => ?_)
    · obtain ⟨sG, cs, eD, ec, hc⟩ := hP
      have hi : i < cs0.length := by
        rw [← hlen]
        exact (List.getElem?_eq_some_iff.mp hv).1
      obtain ⟨t, v0, v2, v3, v4, v5, v6, v7, v8, rfl, ht, d2, d8⟩ := ((hp.same sG).at_ i v _ hv (List.getElem?_eq_getElem hi)).ex
      have hcl : cs.length = i := by
        have := congrArg List.length ec
        rw [List.length_map, List.length_map, List.length_take] at this
        omega
      refine ⟨rfl, _, rfl, t, v0, _, v2, v3, v4, v5, v6, v7, v8, rfl, ht, fun p dx G2 s2 np e2 => ?_⟩
      refine ⟨_, s2 _ _ eD, small_sz5 (by rw [List.length_map]; omega), ?_⟩
      have s3 : Same H (upd G2 D (.lst ((cs.map fun c => .ref c.p) ++ [.ref p]))) := same_mut (sG.trans s2) nD
      have mv : ∀ c : Pc m, (∀ s, s ∈ c.body → okD m s) → PcAt K CP G2 c → PcAt K CP (upd G2 D (.lst ((cs.map fun c => .ref c.p) ++ [.ref p]))) c := fun c hb0 hc => by
        obtain ⟨dx', u0, u2, u3, u4, u5, u6, u7, u8, h1, h2, h3⟩ := hc.ex
        have kp : ∀ b o, b ≠ D → G2 b = some o → (upd G2 D (.lst ((cs.map fun c => .ref c.p) ++ [.ref p]))) b = some o := fun b o hb e => (upd_ne hb).trans e
        refine ⟨dx', u0, u2, u3, u4, u5, u6, u7, u8, kp _ _ (fun e => ?_) h1, dp_but (s2 _ _ eD) kp _ _ (psE_nl _) h2, ?_⟩
        · rw [e, s2 _ _ eD] at h1
          cases h1
        · exact dp_but (s2 _ _ eD) kp _ _ (noL_blk hb0) h3
      refine ⟨s3, cs ++ [⟨p, cs0[i].nm, cs0[i].ps, cs0[i].body⟩], ?_, ?_, fun c hcm => ?_⟩
      · rw [upd_same, List.map_append]
        rfl
      · rw [List.take_succ_eq_append_getElem hi, List.map_append, List.map_append, ec]
        rfl
      · rcases List.mem_append.mp hcm with hcm | hcm
        · obtain ⟨c0, m1, _, _, e3⟩ := trip_of ec hcm
          exact mv c (e3 ▸ (hok c0 (List.mem_of_mem_take m1)).body) ((hc c hcm).same s2)
        · rw [List.mem_singleton.mp hcm]
          exact mv _ (hok _ (List.getElem_mem hi)).body ⟨dx, v0, v2, v3, v4, v5, v6, v7, v8, e2, d2.same s2, d8.same s2⟩
    · obtain ⟨sG, cs, eD, ec, hc⟩ := hP
      rw [List.take_of_length_le (by omega)] at ec
      refine ⟨D, _, rfl, .inl ⟨SqL.of eD, fun tt nt => ?_⟩⟩
      generalize hG2 : upd G tt _ = G2
      obtain ⟨s2, e2⟩ := new_of nt hG2
      intro x dx nx ndx nex
      refine ⟨x, dx, tt, cs.map fun c => .ref c.p, rfl, upd_same, .inl (.inl ?_), fun H' h1 h2 => ⟨rfl, ?_⟩⟩
      · rw [upd_ne (ne_of_none e2 nx), upd_ne (ne_of_none e2 ndx)]
        exact e2
      · have s3 : Same G2 H' := fun b o e => h1 b o (ne_of_none e nx) (by
          rw [upd_ne (ne_of_none e nx), upd_ne (ne_of_none e ndx)]
          exact e)
        exact q x cs H' (sG.trans (s2.trans s3)) ⟨⟨dx, tt, h2, SqT.of (s3 _ _ e2)⟩, fun c hcm => (hc c hcm).same (s2.trans s3)⟩ ec
end
end SW

namespace SW
open PySem PySem.Spec PyProof.Rows L2
def TupV (K : PySem.W.Frag) (H : Hp) (v : V) : Prop := ∃ t xs, v = .ref t ∧ SqT K H t xs
theorem TupV.same {K : PySem.W.Frag} {H H' : Hp} {v : V} (h : TupV K H v) (s : Same H H') : TupV K H' v := by
  obtain ⟨t, xs, e, h⟩ := h
  exact ⟨t, xs, e, sqt_same s h⟩
def LetV (K : PySem.W.Frag) (H : Hp) (v : V) : Prop := ∃ (tl : Addr) (ls : List V), v = .ref tl ∧ SqT K H tl ls ∧ ls.length ≤ 10 ∧ ∀ l, l ∈ ls → ∃ (t2 : Addr) (a b c : V), l = .ref t2 ∧ SqT K H t2 [a, b, c]
theorem LetV.same {K : PySem.W.Frag} {H H' : Hp} {v : V} (h : LetV K H v) (s : Same H H') : LetV K H' v := by
  obtain ⟨t, xs, e, h, hl, h2⟩ := h
  exact ⟨t, xs, e, sqt_same s h, hl, fun l hl => by
    obtain ⟨t2, a, b, c, e, h⟩ := h2 l hl
    exact ⟨t2, a, b, c, e, sqt_same s h⟩⟩
/-- a procedure's row, as the generator has it -/
structure PqAt (K : PySem.W.Frag) (H : Hp) (v : V) {m : Nat} (c : Pc m) : Prop where
  ex : ∃ (t : Addr) (v2 v3 v4 v5 v6 v7 v8 : V), v = .ref t ∧ SqT K H t [.str c.nm, v2, v3, v4, v5, v6, v7, v8] ∧ Dp K H v2 (psE c.ps) ∧ TupV K H v3 ∧ TupV K H v4 ∧ TupV K H v5 ∧ LetV K H v7 ∧ Dp K H v8 (blkE m c.body)
theorem PqAt.same {K : PySem.W.Frag} {H H' : Hp} {v : V} {m : Nat} {c : Pc m} (h : PqAt K H v c) (s : Same H H') : PqAt K H' v c := by
  obtain ⟨t, v2, v3, v4, v5, v6, v7, v8, e, h1, h2, h3, h4, h5, h7, h8⟩ := h.ex
  exact ⟨t, v2, v3, v4, v5, v6, v7, v8, e, sqt_same s h1, h2.same s, h3.same s, h4.same s, h5.same s, h7.same s, h8.same s⟩
structure PqsAt (K : PySem.W.Frag) (H : Hp) (xs : List V) {m : Nat} (cs : List (Pc m)) : Prop where
  len : xs.length = cs.length
  at_ : ∀ (i : Nat) (v : V) (c : Pc m), xs[i]? = some v → cs[i]? = some c → PqAt K H v c
theorem PqsAt.same {K : PySem.W.Frag} {H H' : Hp} {xs : List V} {m : Nat} {cs : List (Pc m)} (h : PqsAt K H xs cs) (s : Same H H') : PqsAt K H' xs cs := ⟨h.len, fun i v c h1 h2 => (h.at_ i v c h1 h2).same s⟩
theorem PtAt.but {K : PySem.W.Frag} {H H' : Hp} {v : V} {m : Nat} {c : Pc m} {M : Addr} {ys : List V} (h : PtAt K H v c) (hM : H M = some (.lst ys)) (s : But M H H') (hb : ∀ s, s ∈ c.body → okD m s) : PtAt K H' v c := by
  obtain ⟨t, v0, v2, v3, v4, v5, v6, v7, v8, e, h1, h2, h3⟩ := h.ex
  exact ⟨t, v0, v2, v3, v4, v5, v6, v7, v8, e, Op_sqt hM s h1, dp_but hM s _ _ (psE_nl _) h2, dp_but hM s _ _ (noL_blk hb) h3⟩
/-- the same but for the rows -/
structure SamC {m : Nat} (c c' : Pc m) : Prop where
  nm : c'.nm = c.nm
  ps : c'.ps = c.ps
  fl : flC m c'.body = flC m c.body
  ok : ∀ s, s ∈ c'.body → okD m s
structure SamL {m : Nat} (cs cs' : List (Pc m)) : Prop where
  len : cs'.length = cs.length
  at_ : ∀ (i : Nat) (c c' : Pc m), cs[i]? = some c → cs'[i]? = some c' → SamC c c'
section
variable {P : Program} {w : World} {K : PySem.W.Frag} {mg : PySem.Str → Option Value} {base : Heap}
def spParts (K : PySem.W.Frag) : Sp := fun vs H Q _ => ∃ (L : Addr) (xs : List V) (m : Nat) (cs : List (Pc m)), vs = [.ref L] ∧ H L = some (.lst xs) ∧ PqsAt K H xs cs ∧ (∀ c, c ∈ cs → c.ok) ∧ m < 8 ∧ cs.length ≤ 10 ∧ ∀ (M : Addr) (ys : List V) (cs' : List (Pc m)) (H' : Hp), Same H H' → H' M = some (.lst ys) → PtsAt K H' ys cs' → SamL cs cs' → Q (.ref M) H'
theorem ok_l_parts (T : TxB mg) (D_l_parts : Df K mg "_law_parts" s_l_parts ["procs"]) (D_l_rows : Df K mg "_law_rows" s_l_rows ["block", "row"]) : FnOk P w K mg base CX0 10 D_l_parts.f D_l_parts.fd ["procs"] (spParts K) := by
  have G_l_rows : FnOk P w K mg base CX0 9 D_l_rows.f D_l_rows.fd ["block", "row"] (fun vs H Q E => ∃ n, n < 8 ∧ spRows K n vs H Q E) := fn_upto8 fun n hn => (ok_l_rows (P := P) (w := w) (base := base) T D_l_rows n).mono (by omega)
  refine D_l_parts.F.ok sc_l_parts (fun vs H Q E h => ?_) (fun cdv A outer s H vs Q E hr h => ?_)
  · obtain ⟨L, xs, m, cs, rfl, _⟩ := h
    rfl
  · obtain ⟨L, xs, m, cs, rfl, hL, hp, hok, hm, hl, q⟩ := h
    refine ⟨_, (pss_cons (ps_set (i := 1) sc_l_parts.nd rfl (.inl rfl) (pe_lst pa_nil))
    (pss_cons (ps_set (i := 2) sc_l_parts.nd rfl (.inl rfl) pe_int)
    (pss_cons (ps_for PassesOwn.never rfl (pi_list (pv 0)) (pg_tup (by rfl) (pgs_cons (pg_name (i := 3) sc_l_parts.nd rfl (.inl rfl)) (pgs_cons (pg_name (i := 4) sc_l_parts.nd rfl (.inl rfl)) (pgs_cons (pg_name (i := 5) sc_l_parts.nd rfl (.inl rfl)) (pgs_cons (pg_name (i := 6) sc_l_parts.nd rfl (.inl rfl)) (pgs_cons (pg_name (i := 7) sc_l_parts.nd rfl (.inl rfl)) (pgs_cons (pg_name (i := 8) sc_l_parts.nd rfl (.inl rfl)) (pgs_cons (pg_name (i := 9) sc_l_parts.nd rfl (.inl rfl)) (pgs_cons (pg_name (i := 10) sc_l_parts.nd rfl (.inl rfl)) pgs_nil)))))))))
    (pss_cons (ps_set (i := 11) sc_l_parts.nd rfl (.inl rfl) (pv 2))
    (pss_cons (ps_set (i := 2) sc_l_parts.nd rfl (.inl rfl) (pe_op op_add (pe_op op_add (pe_op op_add (pe_op op_add (pe_op op_add (pv 2) pe_int) (pe_callB call_len_seq (by rfl) T.n_len PySem.boot_len (pa_cons (pv 5) pa_nil))) (pe_callB call_len_seq (by rfl) T.n_len PySem.boot_len (pa_cons (pv 6) pa_nil))) (pe_callB call_len_seq (by rfl) T.n_len PySem.boot_len (pa_cons (pv 7) pa_nil))) (pe_callTy call_int1 (by rfl) T.n_int (by decide +kernel) (pa_cons (pe_cmpR op_notN (pv 8) pe_non (nomark _)) pa_nil))))
    (pss_cons (ps_set (i := 12) sc_l_parts.nd rfl (.inl rfl) (pe_lst pa_nil))
    (pss_cons (ps_for PassesOwn.never rfl (pi_tup (pv 9)) (pg_name (i := 13) sc_l_parts.nd rfl (.inl rfl))
    (pss_cons (ps_expr (pe_bm PySem.F.plainAttrs_list PySem.F.slot_list_append PySem.F.type_list_append mt_append (pv 12) (pa_cons (pe_op op_catB (pe_tup (pa_cons (pv 2) pa_nil)) (pe_slice sl_tupB (pv 13) (po_some pe_int) po_none)) pa_nil)))
    (pss_one (ps_set (i := 2) sc_l_parts.nd rfl (.inl rfl) (pe_op op_add (pv 2) pe_int)))))
    (pss_cons (ps_asg (pe_call G_l_rows (hr.mono (by decide)) (by rfl) D_l_rows.g D_l_rows.F.kp D_l_rows.b .nil pass0 (pa_cons (pv 10) (pa_cons (pv 2) pa_nil))) (pg_tup (by rfl) (pgs_cons (pg_name (i := 14) sc_l_parts.nd rfl (.inl rfl)) (pgs_cons (pg_name (i := 2) sc_l_parts.nd rfl (.inl rfl)) pgs_nil))))
    (pss_cons (ps_set (i := 2) sc_l_parts.nd rfl (.inl rfl) (pe_op op_add (pv 2) pe_int))
    (pss_one (ps_expr (pe_bm PySem.F.plainAttrs_list PySem.F.slot_list_append PySem.F.type_list_append mt_append (pv 1) (pa_cons (pe_tup (pa_cons (pv 11) (pa_cons (pv 3) (pa_cons (pv 4) (pa_cons (pv 5) (pa_cons (pv 6) (pa_cons (pv 7) (pa_cons (pv 8) (pa_cons (pe_callTy call_tuple_of (by rfl) T.n_tuple (by decide +kernel) (pa_cons (pv 12) pa_nil)) (pa_cons (pv 14) pa_nil)))))))))) pa_nil)))))))))))
    (pss_one (ps_ret (pv 1)))))), ?_⟩
    refine ⟨Nat.zero_le _, fun M nM => ?_⟩
    generalize hG : upd H M _ = G
    obtain ⟨s1, e1⟩ := new_of nM hG
    refine ⟨_, rfl, L, rfl, ⟨_, SqL.of (s1 _ _ hL)⟩, ?_⟩
    refine for_list (K := K) (a := L) (xs := xs) (fun i σ G => Same H G ∧ ∃ (r : Int) (y3 y4 y5 y6 y7 y8 y9 y10 y11 y12 y13 y14 : Option V) (ys : List V) (cs' : List (Pc m)), σ = [some (.ref L), some (.ref M), some (.int r), y3, y4, y5, y6, y7, y8, y9, y10, y11, y12, y13, y14] ∧ G M = some (.lst ys) ∧ PtsAt K G ys cs' ∧ SamL (cs.take i) cs') ⟨s1, 1, _, _, _, _, _, _, _, _, _, _, _, _, [], [], rfl, e1, ⟨rfl, fun i v c h => by cases h⟩, ⟨rfl, fun i c c' h => by cases h⟩⟩ (fun i σ G _ hP => SqL.of (hP.1 _ _ hL)) (fun i v σ G hv hP => ?_) (fun σ G hP => ?_)
    · obtain ⟨sG, r, y3, y4, y5, y6, y7, y8, y9, y10, y11, y12, y13, y14, ys, cs', rfl, eM, pt, sm⟩ := hP
      have hi : i < cs.length := by
        rw [← hp.len]
        exact (List.getElem?_eq_some_iff.mp hv).1
      have htk : cs.take (i + 1) = cs.take i ++ [cs[i]] := List.take_succ_eq_append_getElem hi
      have hcm := List.getElem_mem hi
      have hq := (hp.same sG).at_ i v _ hv (List.getElem?_eq_getElem hi)
      generalize cs[i] = c at htk hcm hq
      obtain ⟨t, v2, v3, v4, v5, v6, v7, v8, rfl, ht, d2, ⟨tn, xn, rfl, hn⟩, ⟨tg, xg, rfl, hg⟩, ⟨tm, xm, rfl, hmv⟩, ⟨tl, ls, rfl, htl, hll, hls⟩, d8⟩ := hq.ex
      have hcok := hok c hcm
      refine ⟨t, _, rfl, ht, rfl, _, _, rfl, _, _, rfl, _, _, rfl, _, _, rfl, _, _, rfl, _, _, rfl, _, _, rfl, _, _, rfl, rfl, ?_⟩
      refine ⟨_, rfl, ?_⟩
      refine ⟨_, rfl, _, _, rfl, rfl, _, rfl, tn, _, rfl, .inr hn, _, _, rfl, rfl, _, rfl, tg, _, rfl, .inr hg, _, _, rfl, rfl, _, rfl, tm, _, rfl, .inr hmv, _, _, rfl, rfl, _, rfl, rfl, .inr ⟨_, rfl, _, _, rfl, rfl, ?_⟩⟩
      refine ⟨Nat.zero_le _, fun N nN => ?_⟩
      generalize hG2 : upd G N _ = G2
      obtain ⟨s2, e2⟩ := new_of nN hG2
      refine ⟨_, rfl, tl, rfl, ⟨_, sqt_same s2 htl⟩, ?_⟩
      refine for_tup (K := K) (a := tl) (xs := ls) (fun j σ J => Same G J ∧ ∃ (r3 : Int) (y13 : Option V) (zs : List V), σ = [some (.ref L), some (.ref M), some (.int r3), some (.str c.nm), some v2, some (.ref tn), some (.ref tg), some (.ref tm), some v6, some (.ref tl), some v8, some (.int r), some (.ref N), y13, y14] ∧ J N = some (.lst zs) ∧ zs.length = j) ⟨s2, _, _, [], rfl, e2, rfl⟩ (fun j σ J _ hP => sqt_same hP.1 htl) (fun j x σ J hx hP => ?_) (fun σ J hP => ?_)
      · obtain ⟨sJ, r3, y13, zs, rfl, eN, hz⟩ := hP
        have hjl : j < ls.length := (List.getElem?_eq_some_iff.mp hx).1
        obtain ⟨t2, a, b, c9, rfl, ht2⟩ := hls x (List.mem_of_getElem? hx)
        refine ⟨_, rfl, .inl ⟨rfl, _, SqL.of eN⟩, _, rfl, by show 1 ≤ sizeLine; decide, fun tt nt => ?_⟩
        generalize hG3 : upd J tt _ = J3
        obtain ⟨s3, e3⟩ := new_of nt hG3
        refine ⟨_, rfl, _, rfl, t2, _, rfl, sqt_same (sJ.trans s3) ht2, fun p4 J4 s4 h4 => ?_⟩
        refine ⟨tt, p4, _, _, rfl, rfl, SqT.of (s4 _ _ e3), h4, by show 3 ≤ sizeLine; decide, fun p5 J5 s5 h5 => ?_⟩
        have s35 := s3.trans (s4.trans s5)
        refine ⟨N, _, _, rfl, rfl, s35 _ _ eN, small_sz5 (by omega), ?_⟩
        refine ⟨_, rfl, _, _, rfl, rfl, same_mut (sJ.trans s35) nN, _, _, _, rfl, upd_same, ?_⟩
        rw [List.length_append, hz]
        rfl
      · obtain ⟨sJ, r3, y13, zs, rfl, eN, hz⟩ := hP
        refine ⟨_, rfl, _, rfl, m, hm, v8, r3, c.body, rfl, d8.same sJ, hcok.body, Nat.le_trans (len_flat _ _) hcok.flat, hcok.flat, fun t6 v9 r9 b' J6 s6 e6 d9 ok9 _ f9 => ?_⟩
        refine ⟨t6, _, rfl, SqT.of e6, rfl, _, _, rfl, _, _, rfl, rfl, ?_⟩
        refine ⟨_, rfl, _, _, rfl, rfl, ?_⟩
        have s16 := sJ.trans s6
        have eM6 := s16 _ _ eM
        refine ⟨_, rfl, .inl ⟨rfl, _, SqL.of eM6⟩, _, rfl, _, rfl, _, rfl, _, rfl, _, rfl, _, rfl, _, rfl, _, rfl, N, _, rfl, .inl ⟨SqL.of (s6 _ _ eN), fun tt nt => ?_⟩⟩
        generalize hG7 : upd J6 tt _ = J7
        obtain ⟨s7, e7⟩ := new_of nt hG7
        refine ⟨_, rfl, by show 9 ≤ sizeLine; decide, fun t8 n8 => ?_⟩
        generalize hG8 : upd J7 t8 _ = J8
        obtain ⟨s8, e8⟩ := new_of n8 hG8
        have s78 := s7.trans s8
        have eM8 := s78 _ _ eM6
        have hyl : ys.length ≤ 10 := by
          have h1 := pt.len
          have h2 := sm.len
          rw [List.length_take] at h2
          omega
        refine ⟨M, _, _, rfl, rfl, eM8, small_sz5 (by omega), ?_⟩
        have sA : Same G J8 := s16.trans s78
        have kp : But M J8 (upd J8 M (.lst (ys ++ [.ref t8]))) := fun b o hb e => (upd_ne hb).trans e
        have newP : PtAt K J8 (.ref t8) (⟨c.p, c.nm, c.ps, b'⟩ : Pc m) := ⟨t8, _, v2, _, _, _, _, _, v9, rfl, SqT.of e8, d2.same sA, d9.same s78⟩
        have lcs : cs'.length = i := by
          have h2 := sm.len
          rw [List.length_take] at h2
          omega
        have bok : ∀ c', c' ∈ cs' → ∀ s, s ∈ c'.body → okD m s := fun c' hc' => by
          obtain ⟨j, hj⟩ := List.getElem?_of_mem hc'
          have hjl : j < cs'.length := (List.getElem?_eq_some_iff.mp hj).1
          have hj2 : j < (cs.take i).length := by
            rw [← sm.len]
            exact hjl
          exact (sm.at_ j _ c' (List.getElem?_eq_getElem hj2) hj).ok
        refine ⟨same_mut (sG.trans sA) nM, _, _, _, _, _, _, _, _, _, _, _, _, _, ys ++ [.ref t8], cs' ++ [⟨c.p, c.nm, c.ps, b'⟩], rfl, upd_same, ⟨?_, fun j u k hu hk => ?_⟩, ⟨?_, fun j k k' hk hk' => ?_⟩⟩
        · rw [List.length_append, List.length_append, pt.len]
          rfl
        · by_cases hj : j < ys.length
          · rw [List.getElem?_append_left hj] at hu
            rw [List.getElem?_append_left (by rw [← pt.len]; exact hj)] at hk
            exact ((pt.at_ j u k hu hk).same sA).but eM8 kp (bok k (List.mem_of_getElem? hk))
          · have hj2 : j = ys.length := by
              have := (List.getElem?_eq_some_iff.mp hu).1
              rw [List.length_append] at this
              have : j < ys.length + 1 := this
              omega
            rw [hj2, List.getElem?_append_right (Nat.le_refl _), Nat.sub_self] at hu
            rw [hj2, pt.len, List.getElem?_append_right (Nat.le_refl _), Nat.sub_self] at hk
            cases hu
            cases hk
            exact newP.but eM8 kp ok9
        · rw [htk, List.length_append, List.length_append, sm.len]
          rfl
        · rw [htk] at hk
          by_cases hj : j < cs'.length
          · rw [List.getElem?_append_left hj] at hk'
            rw [List.getElem?_append_left (by rw [← sm.len]; exact hj)] at hk
            exact sm.at_ j k k' hk hk'
          · have hj2 : j = cs'.length := by
              have := (List.getElem?_eq_some_iff.mp hk').1
              rw [List.length_append] at this
              have : j < cs'.length + 1 := this
              omega
            rw [hj2, List.getElem?_append_right (Nat.le_refl _), Nat.sub_self] at hk'
            rw [hj2, sm.len, List.getElem?_append_right (Nat.le_refl _), Nat.sub_self] at hk
            cases hk
            cases hk'
            exact ⟨rfl, rfl, f9, ok9⟩
    · obtain ⟨sG, r, y3, y4, y5, y6, y7, y8, y9, y10, y11, y12, y13, y14, ys, cs', rfl, eM, pt, sm⟩ := hP
      rw [List.take_of_length_le (by rw [hp.len]; exact Nat.le_refl _)] at sm
      exact ⟨_, rfl, q M ys cs' G sG eM pt sm⟩
end
end SW

namespace SW
open PySem PySem.Spec PyProof.Rows L2
abbrev s_l_names : Stmt := topS 14
theorem sc_l_names : FnScope ["hand", "found", "letter", "pad"] ["hand"] (defScope s_l_names) := ⟨rfl, rfl, rfl, by decide +kernel, rfl, by decide +kernel, by decide +kernel⟩

/-- a name without its padding -/
def kc (x : PySem.Str) : List Nat := x.cps.toList.filter fun c => c != 117 && c != 122
theorem kc_app (x y : PySem.Str) : kc (x ++ y) = kc x ++ kc y := by
  unfold kc
  have e : (x ++ y).cps.toList = x.cps.toList ++ y.cps.toList := TL.tl_append x y
  rw [e, List.filter_append]
def letters : PySem.Str := "abcdegkmpqvxyhjw"
theorem letters_len : letters.cps.toList.length = 16 := by decide +kernel
theorem letters_nd : letters.cps.toList.Nodup := by decide +kernel
theorem letters_ok : ∀ c, c ∈ letters.cps.toList → (c != 117 && c != 122) = true := by decide +kernel
theorem kc_one {c : Nat} (h : (c != 117 && c != 122) = true) : kc ⟨#[c]⟩ = [c] := by
  show List.filter (fun c => c != 117 && c != 122) [c] = [c]
  rw [List.filter_cons, if_pos h]
  rfl
theorem pads_ok : ∀ z : PySem.Str, z ∈ (["u", "z", "uz", "zuuz", "zzzzuuuu"] : List PySem.Str) → z.length ≤ 8 ∧ kc z = [] := by decide +kernel
def KcOk (ns : List PySem.Str) : Prop := ∀ (j : Nat) (x : PySem.Str), ns[j]? = some x → ∃ c, letters.cps.toList[j]? = some c ∧ kc x = [c]
theorem KcOk.nodup {ns : List PySem.Str} (h : KcOk ns) : ns.Nodup := by
  refine List.pairwise_iff_getElem.mpr fun i j hi hj hij e => ?_
  obtain ⟨c, h1, h2⟩ := h i _ (List.getElem?_eq_getElem hi)
  obtain ⟨c', h3, h4⟩ := h j _ (List.getElem?_eq_getElem hj)
  rw [e, h4] at h2
  cases h2
  obtain ⟨i1, i2⟩ := List.getElem?_eq_some_iff.mp h1
  obtain ⟨j1, j2⟩ := List.getElem?_eq_some_iff.mp h3
  exact List.pairwise_iff_getElem.mp letters_nd i j i1 j1 hij (i2.trans j2.symm)
section
variable {P : Program} {w : World} {K : PySem.W.Frag} {mg : PySem.Str → Option Value} {base : Heap}
def spNames : Sp := fun vs H Q _ => ∃ (h d : Addr) (ds : List Int), vs = [.ref h] ∧ Hand H h d ds ∧ ∀ (a : Addr) (ns : List PySem.Str) (H' : Hp), But h H H' → Hand H' h d ds → H' a = some (.lst (ns.map V.str)) → ns.length = 16 → ns.Nodup → Q (.ref a) H'
theorem ok_l_names (T : TxB mg) (D_l_names : Df K mg "_law_names" s_l_names ["hand"]) (D_l_take : Df K mg "_law_take" s_l_take ["hand", "many"]) : FnOk P w K mg base CX0 2 D_l_names.f D_l_names.fd ["hand"] spNames := by
  have G_l_take := ok_l_take (P := P) (w := w) (K := K) (base := base) T D_l_take
  refine D_l_names.F.ok sc_l_names (fun vs H Q E h => ?_) (fun cdv A outer s H vs Q E hr h => ?_)
  · obtain ⟨h, d, ds, rfl, _⟩ := h
    rfl
  · obtain ⟨h, d, ds, rfl, hH, q⟩ := h
    refine ⟨_, (pss_cons (ps_set (i := 1) sc_l_names.nd rfl (.inl rfl) (pe_lst pa_nil))
    (pss_cons (ps_for PassesOwn.never rfl (pi_str pe_str) (pg_name (i := 2) sc_l_names.nd rfl (.inl rfl))
    (pss_cons (ps_set (i := 3) sc_l_names.nd rfl (.inl rfl) (pe_ix ix_list (pe_lst (pa_strs (.cons _ _ _ (.cons _ _ _ (.cons _ _ _ (.cons _ _ _ (.cons _ _ _ .nil))))))) (pe_call G_l_take (hr.mono (by decide)) (by rfl) D_l_take.g D_l_take.F.kp D_l_take.b .nil pass0 (pa_cons (pv 0) (pa_cons pe_int pa_nil))) (fun _ _ => rfl)))
    (pss_one (ps_expr (pe_bm PySem.F.plainAttrs_list PySem.F.slot_list_append PySem.F.type_list_append mt_append (pv 1) (pa_cons (pe_ix ix_list (pe_lst (pa_cons (pv 2) (pa_cons (pe_op op_add_str (pv 2) (pv 3)) (pa_cons (pe_op op_add_str (pv 3) (pv 2)) pa_nil)))) (pe_call G_l_take (hr.mono (by decide)) (by rfl) D_l_take.g D_l_take.F.kp D_l_take.b .nil pass0 (pa_cons (pv 0) (pa_cons pe_int pa_nil))) (fun _ _ => rfl)) pa_nil))))))
    (pss_one (ps_ret (pv 1))))), ?_⟩
    refine ⟨Nat.zero_le _, fun D nD => ?_⟩
    have hDh := hand_ne hH nD
    have hDd := hand_ne2 hH nD
    refine ⟨_, rfl, ?_⟩
    refine for_str (x := letters) (fun i σ H2 => ∃ (y2 y3 : Option V) (ns : List PySem.Str), σ = [some (.ref h), some (.ref D), y2, y3] ∧ But h H H2 ∧ Hand H2 h d ds ∧ H2 D = some (.lst (ns.map V.str)) ∧ ns.length = i ∧ KcOk ns) ⟨_, _, [], rfl, (But.refl h H).new nD, hH.upd hDh hDd, upd_same, rfl, fun j x h => by cases h⟩ (fun i c σ H2 hc hP => ?_) (fun σ H2 hP => ?_)
    · obtain ⟨y2, y3, ns, rfl, b2, h2, e2, hl, hk⟩ := hP
      have hi : i < 16 := by
        rw [← letters_len]
        exact (List.getElem?_eq_some_iff.mp hc).1
      have hco := kc_one (letters_ok c (List.mem_of_getElem? hc))
      refine ⟨by show (5 : Nat) ≤ sizeLine; decide, fun p np => ?_⟩
      generalize hg : upd H2 p _ = H3
      obtain ⟨s3, e3⟩ := new_of np hg
      have hp := hand_ne h2 np
      have h3 := h2.same s3
      refine ⟨_, rfl, h, d, ds, 5, rfl, by decide, h3, fun r4 H4 r40 r41 b4 h4 _ => ?_⟩
      obtain ⟨z, hz, hza⟩ := strs_at (ws := ["u", "z", "uz", "zuuz", "zzzzuuuu"]) r40 (by show r4 < 5; exact r41)
      obtain ⟨hzl, hzk⟩ := pads_ok z hz
      refine ⟨p, _, _, _, rfl, rfl, SqL.of (b4 _ _ hp e3), hza, ?_⟩
      have e4 := b4 _ _ hDh (s3 _ _ e2)
      have hcl : (⟨#[c]⟩ : PySem.Str).length = 1 := rfl
      refine ⟨_, rfl, .inl ⟨rfl, _, SqL.of e4⟩, ?_⟩
      refine ⟨_, rfl, _, rfl, _, rfl, _, _, rfl, rfl, sz5 (by rw [hcl]; omega), _, rfl, _, rfl, _, _, rfl, rfl, sz5 (by rw [hcl]; omega), by show (3 : Nat) ≤ sizeLine; decide, fun p5 n5 => ?_⟩
      generalize hg : upd H4 p5 _ = H5
      obtain ⟨s5, e5⟩ := new_of n5 hg
      have hp5 := hand_ne h4 n5
      have h5 := h4.same s5
      refine ⟨_, rfl, h, d, ds, 3, rfl, by decide, h5, fun r6 H6 r60 r61 b6 h6 _ => ?_⟩
      obtain ⟨z2, hz2, hza2⟩ := strs_at (ws := [⟨#[c]⟩, (⟨#[c]⟩ : PySem.Str) ++ z, z ++ (⟨#[c]⟩ : PySem.Str)]) r60 (by show r6 < 3; exact r61)
      have hk2 : kc z2 = [c] := by
        simp only [List.mem_cons, List.not_mem_nil, or_false] at hz2
        rcases hz2 with rfl | rfl | rfl
        · exact hco
        · rw [kc_app, hco, hzk]
          rfl
        · rw [kc_app, hco, hzk]
          rfl
      have e6 := b6 _ _ hDh (s5 _ _ e4)
      refine ⟨p5, _, _, _, rfl, rfl, SqL.of (b6 _ _ hp5 e5), hza2, D, _, _, rfl, rfl, e6, ?_, ?_⟩
      · rw [List.length_map, hl]
        exact small_sz (by omega)
      · have B6 : But h H H6 := (b2.trans (Same.but s3)).trans (b4.trans ((Same.but s5).trans b6))
        refine ⟨_, _, ns ++ [z2], rfl, B6.new nD, h6.upd hDh hDd, ?_, by rw [List.length_append, hl]; rfl, fun j x hx => ?_⟩
        · rw [upd_same, List.map_append]
          rfl
        · by_cases hj : j < ns.length
          · rw [List.getElem?_append_left hj] at hx
            exact hk j x hx
          · have hj2 : j = ns.length := by
              have := (List.getElem?_eq_some_iff.mp hx).1
              rw [List.length_append] at this
              have : j < ns.length + 1 := this
              omega
            rw [hj2, List.getElem?_append_right (Nat.le_refl _), Nat.sub_self] at hx
            cases hx
            exact ⟨c, by rw [hj2, hl]; exact hc, hk2⟩
    · obtain ⟨y2, y3, ns, rfl, b2, h2, e2, hl, hk⟩ := hP
      exact ⟨_, rfl, q D ns H2 b2 h2 e2 (by rw [hl]; exact letters_len) hk.nodup⟩
end
end SW

namespace SW
open PySem PySem.Spec PyProof.Rows L2
abbrev TM8 (K : PySem.W.Frag) (J J' : Hp) : Prop := ∀ b xs, SqT K J b xs → SqT K J' b xs
theorem Op.m {K : PySem.W.Frag} {J J' : Hp} (m : TM8 K J J') {v : V} (o : Op K J v) : Op K J' v := by
  obtain ⟨d0, h1, h2⟩ := o
  exact ⟨d0, dp_tups m d0 v h2 h1, h2⟩
theorem TupV.m {K : PySem.W.Frag} {J J' : Hp} (m : TM8 K J J') {v : V} (h : TupV K J v) : TupV K J' v := by
  obtain ⟨t, xs, e, h⟩ := h
  exact ⟨t, xs, e, m _ _ h⟩
theorem LetV.m {K : PySem.W.Frag} {J J' : Hp} (m : TM8 K J J') {v : V} (h : LetV K J v) : LetV K J' v := by
  obtain ⟨t, xs, e, h, hl, h2⟩ := h
  exact ⟨t, xs, e, m _ _ h, hl, fun l hl => by
    obtain ⟨t2, a, b, c, e, h⟩ := h2 l hl
    exact ⟨t2, a, b, c, e, m _ _ h⟩⟩
theorem PqAt.m {K : PySem.W.Frag} {J J' : Hp} (m : TM8 K J J') {v : V} {mm : Nat} {c : Pc mm} (hb : ∀ s, s ∈ c.body → okD mm s) (h : PqAt K J v c) : PqAt K J' v c := by
  obtain ⟨t, v2, v3, v4, v5, v6, v7, v8, e, h1, h2, h3, h4, h5, h7, h8⟩ := h.ex
  exact ⟨t, v2, v3, v4, v5, v6, v7, v8, e, m _ _ h1, dp_tups m _ _ (psE_nl _) h2, h3.m m, h4.m m, h5.m m, h7.m m, dp_tups m _ _ (noL_blk hb) h8⟩
theorem PqsAt.m {K : PySem.W.Frag} {J J' : Hp} (m : TM8 K J J') {xs : List V} {mm : Nat} {cs : List (Pc mm)} (hb : ∀ c, c ∈ cs → ∀ s, s ∈ c.body → okD mm s) (h : PqsAt K J xs cs) : PqsAt K J' xs cs :=
  ⟨h.len, fun i v c h1 h2 => (h.at_ i v c h1 h2).m m (hb c (List.mem_of_getElem? h2))⟩
/-- all as it was, but four places -/
def B4 (h : Addr) (a : Ca) (J J' : Hp) : Prop := ∀ b o, b ≠ h → b ≠ a.R → b ≠ a.c → b ≠ a.Kd → J b = some o → J' b = some o
theorem B4.refl (h : Addr) (a : Ca) (J : Hp) : B4 h a J J := fun _ _ _ _ _ _ e => e
theorem B4.trans {h : Addr} {a : Ca} {J G F : Hp} (x : B4 h a J G) (y : B4 h a G F) : B4 h a J F := fun c o h1 h2 h3 h4 e => y c o h1 h2 h3 h4 (x c o h1 h2 h3 h4 e)
theorem B4.same {h : Addr} {a : Ca} {J G : Hp} (x : Same J G) : B4 h a J G := fun c o _ _ _ _ e => x c o e
theorem B4.but {h : Addr} {a : Ca} {J G : Hp} (x : But h J G) : B4 h a J G := fun c o h1 _ _ _ e => x c o h1 e
theorem B4.b2 {h : Addr} {a : Ca} {J G : Hp} (x : B2 h a.R J G) : B4 h a J G := fun c o h1 h2 _ _ e => x c o h1 h2 e
theorem B4.updC {h : Addr} {a : Ca} {J G : Hp} {o : HO} (e : upd J a.c o = G) : B4 h a J G := fun c u _ _ h3 _ q => by
  rw [← e, upd_ne h3]
  exact q
theorem B4.updK {h : Addr} {a : Ca} {J G : Hp} {o : HO} (e : upd J a.Kd o = G) : B4 h a J G := fun c u _ _ _ h4 q => by
  rw [← e, upd_ne h4]
  exact q
section
variable {K : PySem.W.Frag} {H J G : Hp} {h d : Addr} {ds : List Int} {a : Ca} {x : Cd} {r r' : Int}
theorem St8.m4 (q : St8 K J h d ds a x r) (s : B4 h a J G) : TM8 K J G := fun b xs hs => by
  obtain ⟨⟨⟨i, e1⟩, _, _⟩, c, _, _, ⟨ks, ek, _⟩, _, _, er, _⟩ := q
  rcases hs with (hs | ⟨o, hs⟩) | hs
  · exact .inl (.inl (s _ _ (fun e => by rw [e, e1] at hs; cases hs) (fun e => by rw [e, er] at hs; cases hs) (fun e => by rw [e, c] at hs; cases hs) (fun e => by rw [e, ek] at hs; cases hs) hs))
  · exact .inl (.inr ⟨o, s _ _ (fun e => by rw [e, e1] at hs; cases hs) (fun e => by rw [e, er] at hs; cases hs) (fun e => by rw [e, c] at hs; cases hs) (fun e => by rw [e, ek] at hs; cases hs) hs⟩)
  · exact .inr hs
theorem but_m {ys : List V} {F : Addr} (hF : J F = some (.lst ys)) (s : But F J G) : TM8 K J G := fun b xs hs => Op_sqt hF s hs
theorem same_m (s : Same J G) : TM8 K J G := fun b xs hs => sqt_same s hs
/-- the context's own list changes -/
theorem St8.setC (q : St8 K J h d ds a x r) {N2 : Addr} {ns2 : List PySem.Str} {b2 : Bool} (eN : J N2 = some (.lst (ns2.map V.str))) (zn : ns2.length ≤ 10) (e : upd J a.c (.lst [.ref a.L, .ref N2, .ref a.Kd, .ref a.Cn, .ref a.Mv, .ref a.R, .bl b2]) = G)
    (n1 : a.L ≠ a.c) (n2 : N2 ≠ a.c) (n3 : a.Kd ≠ a.c) (n4 : a.Cn ≠ a.c) (n5 : a.Mv ≠ a.c) (n6 : a.R ≠ a.c) (n7 : d ≠ a.c) : St8 K G h d ds { a with N := N2 } { x with ns := ns2, b := b2 } r := by
  subst e
  have hc : a.c ≠ h := q.cx.hand_ne q.hd a.c (by simp)
  have md := but_m (K := K) q.cx.c (G := upd J a.c (.lst [.ref a.L, .ref N2, .ref a.Kd, .ref a.Cn, .ref a.Mv, .ref a.R, .bl b2])) (fun b o hb e => (upd_ne hb).trans e)
  obtain ⟨hd, c, l, n, ⟨xs, k1, k2⟩, cn, m, r, zl, _, zk, zm⟩ := q
  exact ⟨hd.upd hc n7.symm, upd_same, (upd_ne n1).trans l, (upd_ne n2).trans eN, ⟨xs, (upd_ne n3).trans k1, dpa_tups md _ _ (kns_noL _) k2⟩, (upd_ne n4).trans cn, (upd_ne n5).trans m, (upd_ne n6).trans r, zl, zn, zk, zm⟩
/-- one more is known -/
theorem St8.addK (q : St8 K J h d ds a x r) {xs : List V} {k : Kn} {v : V} (ek : J a.Kd = some (.lst xs)) (dk : DpAll K J xs (x.kn.map Kn.enc)) (dv : Dp K J v k.enc) (zk : x.kn.length + 1 ≤ 10) (e : upd J a.Kd (.lst (xs ++ [v])) = G)
    (n1 : a.L ≠ a.Kd) (n2 : a.N ≠ a.Kd) (n3 : a.c ≠ a.Kd) (n4 : a.Cn ≠ a.Kd) (n5 : a.Mv ≠ a.Kd) (n6 : a.R ≠ a.Kd) (n7 : d ≠ a.Kd) : St8 K G h d ds a { x with kn := x.kn ++ [k] } r := by
  subst e
  have hc : a.Kd ≠ h := q.cx.hand_ne q.hd a.Kd (by simp)
  have md := but_m (K := K) ek (G := upd J a.Kd (.lst (xs ++ [v]))) (fun b o hb e => (upd_ne hb).trans e)
  obtain ⟨hd, c, l, n, _, cn, m, r, zl, zn, _, zm⟩ := q
  refine ⟨hd.upd hc n7.symm, (upd_ne n3).trans c, (upd_ne n1).trans l, (upd_ne n2).trans n, ⟨_, upd_same, ?_⟩, (upd_ne n4).trans cn, (upd_ne n5).trans m, (upd_ne n6).trans r, zl, zn, by rw [List.length_append]; exact zk, zm⟩
  rw [List.map_append]
  exact dpa_snoc (dpa_tups md _ _ (kns_noL _) dk) (dp_tups md _ _ k.noL dv)
end
theorem cut_take (ws : List PySem.Str) {r : Int} (h : 0 ≤ r) : cutV (ws.map V.str) none (some r) = (ws.take r.toNat).map V.str := by
  unfold cutV
  rw [HT.sIx_none, List.drop_zero, Nat.sub_zero]
  have e : HT.sIx (ws.map V.str).length (ws.map V.str).length (some r) = min r.toNat ws.length := by
    show (if r < 0 then (r + ((ws.map V.str).length : Int)).toNat else min r.toNat (ws.map V.str).length) = _
    rw [if_neg (by omega), List.length_map]
  rw [e, List.map_take]
  rw [List.take_eq_take_iff, List.length_map]
  omega
theorem cut_3 (ws : List PySem.Str) {r : Int} (h : 0 ≤ r) (hl : 3 ≤ ws.length) : cutV (ws.map V.str) (some 3) (some (3 + r)) = ((ws.drop 3).take r.toNat).map V.str := by
  unfold cutV
  have e : HT.sIx (ws.map V.str).length (ws.map V.str).length (some (3 + r)) = min (3 + r).toNat ws.length := by
    show (if 3 + r < 0 then (3 + r + ((ws.map V.str).length : Int)).toNat else min (3 + r).toNat (ws.map V.str).length) = _
    rw [if_neg (by omega), List.length_map]
  have e3 : HT.sIx (ws.map V.str).length 0 (some 3) = 3 := by
    show (if (3 : Int) < 0 then ((3 : Int) + ((ws.map V.str).length : Int)).toNat else min (3 : Int).toNat (ws.map V.str).length) = 3
    rw [if_neg (by decide), List.length_map]
    show min 3 _ = 3
    omega
  rw [e, e3, List.map_take, List.map_drop]
  rw [List.take_eq_take_iff, List.length_drop, List.length_map]
  omega
end SW

namespace SW
open PySem PySem.Spec PyProof.Rows L2
/-- the procedures so far -/
structure GsOk (ns : List PySem.Str) (cs : List (Pc 5)) (kn : List Kn) (i : Nat) : Prop where
  len : cs.length = i
  ok : ∀ c, c ∈ cs → c.ok
  nm : ∀ (j : Nat) (c : Pc 5), cs[j]? = some c → ns[15 - j]? = some c.nm
  pn : ∀ c, c ∈ cs → (c.ps.map Prod.fst).Nodup
  an : ∀ c, c ∈ cs → ∀ a, a ∈ flatB 5 c.body → AnOk cs c.ps a
  ll : ∀ c, c ∈ cs → (lnm c.ps).length ≤ 3
  kl : kn.length = i
  kk : ∀ k, k ∈ kn → (∃ c, c ∈ cs ∧ c.nm = k.nm ∧ c.ps = k.ps) ∧ k.ps.length ≤ 10
structure GS (K : PySem.W.Frag) (H : Hp) (h d : Addr) (ds : List Int) (Ap Ak Ar : Addr) (J : Hp) (cs : List (Pc 5)) (kn : List Kn) (r : Int) : Prop where
  b : But h H J
  hd : Hand J h d ds
  p : ∃ ps, J Ap = some (.lst ps) ∧ PqsAt K J ps cs
  k : ∃ ks, J Ak = some (.lst ks) ∧ DpAll K J ks (kn.map Kn.enc)
  r : J Ar = some (.lst [.int r])
section
variable {K : PySem.W.Frag} {H J G : Hp} {h d : Addr} {ds : List Int} {Ap Ak Ar : Addr} {cs : List (Pc 5)} {kn : List Kn} {r r' : Int}
theorem GS.same (z : GS K H h d ds Ap Ak Ar J cs kn r) (s : Same J G) : GS K H h d ds Ap Ak Ar G cs kn r := by
  obtain ⟨b, hd, ⟨ps, p1, p2⟩, ⟨ks, k1, k2⟩, r⟩ := z
  exact ⟨b.trans (Same.but s), hd.same s, ⟨ps, s _ _ p1, p2.same s⟩, ⟨ks, s _ _ k1, dpa_same s _ _ k2⟩, s _ _ r⟩
theorem GS.but (z : GS K H h d ds Ap Ak Ar J cs kn r) (hok : ∀ c, c ∈ cs → c.ok) (s : But h J G) (hd' : Hand G h d ds) (np : Ap ≠ h) (nk : Ak ≠ h) (nr : Ar ≠ h) : GS K H h d ds Ap Ak Ar G cs kn r := by
  obtain ⟨b, hd, ⟨ps, p1, p2⟩, ⟨ks, k1, k2⟩, r⟩ := z
  have m : TM8 K J G := by
    obtain ⟨⟨i, e⟩, _, _⟩ := hd
    exact but_m e s
  exact ⟨b.trans s, hd', ⟨ps, s _ _ np p1, p2.m m fun c hc => (hok c hc).body⟩, ⟨ks, s _ _ nk k1, dpa_tups m _ _ (kns_noL _) k2⟩, s _ _ nr r⟩
theorem GS.m4 (z : GS K H h d ds Ap Ak Ar J cs kn r) (hok : ∀ c, c ∈ cs → c.ok) {a : Ca} (s : B4 h a J G) (m : TM8 K J G) (hR : a.R = Ar) (hd' : Hand G h d ds) (er : G Ar = some (.lst [.int r'])) (nR : H Ar = none) (nC : H a.c = none) (nK : H a.Kd = none)
    (p1 : Ap ≠ h) (p2 : Ap ≠ Ar) (p3 : Ap ≠ a.c) (p4 : Ap ≠ a.Kd) (k1 : Ak ≠ h) (k2 : Ak ≠ Ar) (k3 : Ak ≠ a.c) (k4 : Ak ≠ a.Kd) : GS K H h d ds Ap Ak Ar G cs kn r' := by
  subst hR
  obtain ⟨b, hd, ⟨ps, e1, e2⟩, ⟨ks, e3, e4⟩, r⟩ := z
  exact ⟨fun c o hc e => s _ _ hc (ne_of_none e nR) (ne_of_none e nC) (ne_of_none e nK) (b _ _ hc e), hd', ⟨ps, s _ _ p1 p2 p3 p4 e1, e2.m m fun c hc => (hok c hc).body⟩, ⟨ks, s _ _ k1 k2 k3 k4 e3, dpa_tups m _ _ (kns_noL _) e4⟩, er⟩
end
def encP (x : PySem.Str × Bool) : PyData := .tuple [.str x.1, .bool x.2]
theorem psE_eq (ps : List (PySem.Str × Bool)) : psE ps = .tuple (ps.map encP) := rfl
theorem encP_noL (ps : List (PySem.Str × Bool)) : noLs (ps.map encP) = true := noLs_mapof fun a _ => rfl
/-- the parameters -/
def par0 (ls ms : List PySem.Str) : List (PySem.Str × Bool) := (ls.map fun z => (z, true)) ++ ms.map fun z => (z, false)
structure ParOk (ls ms : List PySem.Str) (ps : List (PySem.Str × Bool)) : Prop where
  nd : (ps.map Prod.fst).Nodup
  ll : (lnm ps).length = ls.length
  mem : ∀ z, z ∈ ls → (z, true) ∈ ps
  len : ps.length = ls.length + ms.length
theorem par0_ok {ls ms : List PySem.Str} (h : (ls ++ ms).Nodup) : ParOk ls ms (par0 ls ms) := by
  refine ⟨?_, ?_, fun z hz => List.mem_append_left _ (List.mem_map.mpr ⟨z, hz, rfl⟩), ?_⟩
  · unfold par0
    rw [List.map_append, List.map_map, List.map_map]
    have e1 : (Prod.fst ∘ fun z : PySem.Str => (z, true)) = id := rfl
    have e2 : (Prod.fst ∘ fun z : PySem.Str => (z, false)) = id := rfl
    rw [e1, e2, List.map_id, List.map_id]
    exact h
  · unfold lnm par0
    rw [List.filter_append, List.map_append, List.length_append]
    have e1 : ∀ l : List PySem.Str, (l.map fun z => (z, true)).filter (fun x => x.2) = l.map fun z => (z, true) := fun l => List.filter_eq_self.mpr fun a ha => by
      obtain ⟨z, _, rfl⟩ := List.mem_map.mp ha
      rfl
    have e2 : ∀ l : List PySem.Str, (l.map fun z => (z, false)).filter (fun x => x.2) = [] := fun l => List.filter_eq_nil_iff.mpr fun a ha => by
      obtain ⟨z, _, rfl⟩ := List.mem_map.mp ha
      exact Bool.false_ne_true
    rw [e1, e2, List.length_map, List.length_map]
    rfl
  · unfold par0
    rw [List.length_append, List.length_map, List.length_map]
theorem ParOk.rev {ls ms : List PySem.Str} {ps : List (PySem.Str × Bool)} (k : ParOk ls ms ps) : ParOk ls ms ps.reverse := by
  refine ⟨?_, ?_, fun z hz => List.mem_reverse.mpr (k.mem z hz), by rw [List.length_reverse]; exact k.len⟩
  · rw [List.map_reverse]
    exact List.pairwise_reverse.mpr (k.nd.imp fun h e => h e.symm)
  · have := k.ll
    unfold lnm at this ⊢
    rw [List.filter_reverse, List.map_reverse, List.length_reverse]
    exact this
theorem split_nd {ns : List PySem.Str} (h : ns.Nodup) (p q : Nat) (hp : p ≤ 3) : (ns.take p ++ (ns.drop 3).take q).Nodup := by
  have h1 : (ns.take 3 ++ ns.drop 3).Nodup := by
    rw [List.take_append_drop]
    exact h
  obtain ⟨a1, a2, a3⟩ := List.nodup_append.mp h1
  refine List.nodup_append.mpr ⟨?_, ?_, fun x hx y hy => a3 x ?_ y (List.mem_of_mem_take hy)⟩
  · exact (List.take_sublist p ns).nodup h
  · exact (List.take_sublist q _).nodup a2
  · have e : ns.take p = (ns.take 3).take p := by
      rw [List.take_take, Nat.min_eq_left hp]
    rw [e] at hx
    exact List.mem_of_mem_take hx
/-- one more procedure -/
theorem GsOk.next {ns : List PySem.Str} {cs : List (Pc 5)} {kn : List Kn} {i : Nat} (z : GsOk ns cs kn i) {c : Pc 5} {mv : List PySem.Str} (hi : i < 3) (ok : c.ok) (nm : ns[15 - i]? = some c.nm) (pn : (c.ps.map Prod.fst).Nodup) (ll : (lnm c.ps).length ≤ 3) (pl : c.ps.length ≤ 10)
    {x : Cd} (hx : x.kn = kn ∨ x.kn = kn ++ [⟨c.nm, c.ps, mv⟩]) (hl : ∀ y, y ∈ x.ls → (y, true) ∈ c.ps) (an : ∀ a, a ∈ flatB 5 c.body → AtS x a.s) : GsOk ns (cs ++ [c]) (kn ++ [⟨c.nm, c.ps, mv⟩]) (i + 1) := by
  have mono : ∀ {ps : List (PySem.Str × Bool)} {a : An}, AnOk cs ps a → AnOk (cs ++ [c]) ps a := fun {ps a} h => by
    obtain ⟨n, s⟩ := a
    cases s with
    | cal r y f as =>
      obtain ⟨⟨d, hd, e, hf⟩, h2⟩ := h
      exact ⟨⟨d, List.mem_append_left _ hd, e, hf⟩, h2⟩
    | lst k r y ds => exact h
    | oth k r ds => trivial
    | iff r c a b => trivial
    | whl r c ks f b => trivial
  have kin : ∀ k, k ∈ kn ++ [(⟨c.nm, c.ps, mv⟩ : Kn)] → (∃ d, d ∈ cs ++ [c] ∧ d.nm = k.nm ∧ d.ps = k.ps) ∧ k.ps.length ≤ 10 := fun k hk => by
    rcases List.mem_append.mp hk with hk | hk
    · obtain ⟨⟨d, hd, e⟩, h2⟩ := z.kk k hk
      exact ⟨⟨d, List.mem_append_left _ hd, e⟩, h2⟩
    · rw [List.mem_singleton.mp hk]
      exact ⟨⟨c, List.mem_append_right _ (List.mem_singleton.mpr rfl), rfl, rfl⟩, pl⟩
  refine ⟨by rw [List.length_append, z.len]; rfl, fun d hd => ?_, fun j d hd => ?_, fun d hd => ?_, fun d hd a ha => ?_, fun d hd => ?_, by rw [List.length_append, z.kl]; rfl, kin⟩
  · rcases List.mem_append.mp hd with hd | hd
    · exact z.ok d hd
    · rw [List.mem_singleton.mp hd]
      exact ok
  · by_cases hj : j < cs.length
    · rw [List.getElem?_append_left hj] at hd
      exact z.nm j d hd
    · have hj2 : j = cs.length := by
        have := (List.getElem?_eq_some_iff.mp hd).1
        rw [List.length_append] at this
        have : j < cs.length + 1 := this
        omega
      rw [hj2, List.getElem?_append_right (Nat.le_refl _), Nat.sub_self] at hd
      cases hd
      rw [hj2, z.len]
      exact nm
  · rcases List.mem_append.mp hd with hd | hd
    · exact z.pn d hd
    · rw [List.mem_singleton.mp hd]
      exact pn
  · rcases List.mem_append.mp hd with hd | hd
    · exact mono (z.an d hd a ha)
    · rw [List.mem_singleton.mp hd] at ha ⊢
      have h := an a ha
      obtain ⟨n, s⟩ := a
      cases s with
      | cal r y f as =>
        obtain ⟨⟨k, hk, e, hf⟩, h2⟩ := h
        have hk2 : k ∈ kn ++ [(⟨c.nm, c.ps, mv⟩ : Kn)] := by
          rcases hx with hx | hx
          · rw [hx] at hk
            exact List.mem_append_left _ hk
          · rw [hx] at hk
            exact hk
        obtain ⟨⟨d, hd, e1, e2⟩, _⟩ := kin k hk2
        exact ⟨⟨d, hd, e1.trans e, e2 ▸ hf⟩, fun y hy => hl y (h2 y hy)⟩
      | lst k r y ds => exact hl y h
      | oth k r ds => trivial
      | iff r c a b => trivial
      | whl r c ks f b => trivial
  · rcases List.mem_append.mp hd with hd | hd
    · exact z.ll d hd
    · rw [List.mem_singleton.mp hd]
      exact ll
theorem GsOk.nd {ns : List PySem.Str} {cs : List (Pc 5)} {kn : List Kn} {i : Nat} (z : GsOk ns cs kn i) (h : ns.Nodup) (hl : ns.length = 16) (hi : i ≤ 3) : (cs.map fun c => c.nm).Nodup := by
  refine List.pairwise_iff_getElem.mpr fun p q hp hq hpq e => ?_
  rw [List.getElem_map, List.getElem_map] at e
  rw [List.length_map] at hp hq
  have h1 := z.nm p _ (List.getElem?_eq_getElem hp)
  have h2 := z.nm q _ (List.getElem?_eq_getElem hq)
  have hcl := z.len
  rw [e] at h1
  obtain ⟨i1, i2⟩ := List.getElem?_eq_some_iff.mp h1
  obtain ⟨j1, j2⟩ := List.getElem?_eq_some_iff.mp h2
  exact List.pairwise_iff_getElem.mp h (15 - q) (15 - p) j1 i1 (by omega) (j2.trans i2.symm)
end SW

set_option maxHeartbeats 8000000
namespace SW
open PySem PySem.Spec PyProof.Rows L2
abbrev s_l_gen : Stmt := topS 27
theorem sc_l_gen : FnScope ["hand", "n", "moved", "procs", "known", "rows", "k", "lists", "numbers", "parameters", "name", "moves", "ctx", "falls", "lets", "false", "needs", "gives", "body", "last"] ["hand", "n", "moved"] (defScope s_l_gen) := ⟨rfl, rfl, rfl, by decide +kernel, rfl, by decide +kernel, by decide +kernel⟩

section
variable {P : Program} {w : World} {K : PySem.W.Frag} {mg : PySem.Str → Option Value} {base : Heap}
def spGen (K : PySem.W.Frag) : Sp := fun vs H Q _ => ∃ (h d N : Addr) (ds : List Int) (ns : List PySem.Str) (mv : Int), vs = [.ref h, .ref N, .int mv] ∧ Hand H h d ds ∧ H N = some (.lst (ns.map V.str)) ∧ ns.length = 16 ∧ ns.Nodup ∧ 0 ≤ mv ∧ ∀ (Ap : Addr) (ps : List V) (cs : List (Pc 5)) (kn : List Kn) (i : Nat) (H' : Hp), But h H H' → Hand H' h d ds → H' Ap = some (.lst ps) → PqsAt K H' ps cs → i ≤ 3 → GsOk ns cs kn i → Q (.ref Ap) H'
theorem getD_lt {ns : List PySem.Str} {j : Nat} (h : j < ns.length) : ns[j]? = some (ns.getD j "") := by
  rw [List.getD_eq_getElem?_getD, List.getElem?_eq_getElem h]
  rfl
theorem at_nm {ns : List PySem.Str} {j : Nat} (h : j < ns.length) : (ns.map V.str)[j]? = some (.str (ns.getD j "")) := by
  rw [List.getElem?_map, getD_lt h]
  rfl
theorem ok_l_gen (T : TxB mg) (D_l_gen : Df K mg "_law_gen" s_l_gen ["hand", "n", "moved"]) (D_l_gen_block : Df K mg "_law_gen_block" s_l_gen_block ["hand", "ctx", "depth", "whiles", "many", "budget"]) (D_l_gen_simple : Df K mg "_law_gen_simple" s_l_gen_simple ["hand", "ctx"]) (D_l_gen_call : Df K mg "_law_gen_call" s_l_gen_call ["hand", "ctx"]) (D_l_gen_condition : Df K mg "_law_gen_condition" s_l_gen_condition ["hand", "ctx"]) (D_l_gen_cmp : Df K mg "_law_gen_cmp" s_l_gen_cmp ["hand", "ctx"]) (D_l_gen_term : Df K mg "_law_gen_term" s_l_gen_term ["hand", "ctx"]) (D_l_gen_index : Df K mg "_law_gen_index" s_l_gen_index ["hand", "ctx", "name"]) (D_l_gen_plain : Df K mg "_law_gen_plain" s_l_gen_plain ["hand", "ctx"]) (D_l_take : Df K mg "_law_take" s_l_take ["hand", "many"]) : FnOk P w K mg base CX0 13 D_l_gen.f D_l_gen.fd ["hand", "n", "moved"] (spGen K) := by
  have G_l_take := ok_l_take (P := P) (w := w) (K := K) (base := base) T D_l_take
  have G_l_gen_plain := ok_l_plain (P := P) (w := w) (K := K) (base := base) T D_l_gen_plain D_l_take
  have G_l_gen_term := ok_l_term (P := P) (w := w) (K := K) (base := base) T D_l_gen_term D_l_gen_index D_l_gen_plain D_l_take
  have G_l_gen_cmp := ok_l_cmp (P := P) (w := w) (K := K) (base := base) T D_l_gen_cmp D_l_gen_term D_l_gen_index D_l_gen_plain D_l_take
  have G_l_gen_block := ok_l_block (P := P) (w := w) (K := K) (base := base) T D_l_gen_block D_l_gen_simple D_l_gen_call D_l_gen_condition D_l_gen_cmp D_l_gen_term D_l_gen_index D_l_gen_plain D_l_take 4
  refine D_l_gen.F.ok sc_l_gen (fun vs H Q E h => ?_) (fun cdv A outer s H vs Q E hr h => ?_)
  · obtain ⟨h, d, N, ds, ns, mv, rfl, _⟩ := h
    rfl
  · obtain ⟨h, d, N, ds, ns, mv, rfl, hd, hN, hn16, hnn, hmv, q⟩ := h
    refine ⟨_, (pss_cons (ps_set (i := 3) sc_l_gen.nd rfl (.inl rfl) (pe_lst pa_nil))
    (pss_cons (ps_set (i := 4) sc_l_gen.nd rfl (.inl rfl) (pe_lst pa_nil))
    (pss_cons (ps_set (i := 5) sc_l_gen.nd rfl (.inl rfl) (pe_lst (pa_cons (pe_op op_sub pe_int (pe_op op_mul pe_int (pe_callTy call_int1 (by rfl) T.n_int (by decide +kernel) (pa_cons (pe_cmpR op_gt (pv 2) pe_int (nomark _)) pa_nil)))) pa_nil)))
    (pss_cons (ps_for PassesOwn.never rfl (pi_range1 (by rfl) T.n_range (pa_cons (pe_op op_add pe_int (pe_call G_l_take (hr.mono (by decide)) (by rfl) D_l_take.g D_l_take.F.kp D_l_take.b .nil pass0 (pa_cons (pv 0) (pa_cons pe_int pa_nil)))) pa_nil)) (pg_name (i := 6) sc_l_gen.nd rfl (.inl rfl))
    (pss_cons (ps_set (i := 7) sc_l_gen.nd rfl (.inl rfl) (pe_slice sl_list (pv 1) po_none (po_some (pe_call G_l_take (hr.mono (by decide)) (by rfl) D_l_take.g D_l_take.F.kp D_l_take.b .nil pass0 (pa_cons (pv 0) (pa_cons pe_int pa_nil))))))
    (pss_cons (ps_set (i := 8) sc_l_gen.nd rfl (.inl rfl) (pe_slice sl_list (pv 1) (po_some pe_int) (po_some (pe_op op_add pe_int (pe_call G_l_take (hr.mono (by decide)) (by rfl) D_l_take.g D_l_take.F.kp D_l_take.b .nil pass0 (pa_cons (pv 0) (pa_cons pe_int pa_nil)))))))
    (pss_cons (ps_set (i := 9) sc_l_gen.nd rfl (.inl rfl) (pe_op op_cat (pe_lc (own := [("name", 10)]) (g := gName 10) (by rfl) sc_l_gen.nd (pi_list (pv 7)) (blkOk_by (own := [("name", 10)]) (N := ["hand", "n", "moved", "procs", "known", "rows", "k", "lists", "numbers", "parameters", "name", "moves", "ctx", "falls", "lets", "false", "needs", "gives", "body", "last"]) (sc := defScope s_l_gen) (by decide +kernel)) (fun _ _ _ _ _ => pg_name (i := 10) sc_l_gen.nd rfl (Or.inl rfl)) (fun _ _ _ _ _ => pts_nil) (fun _ _ _ _ _ => (pe_tup (pa_cons (pv 10) (pa_cons pe_bl pa_nil))))) (pe_lc (own := [("name", 10)]) (g := gName 10) (by rfl) sc_l_gen.nd (pi_list (pv 8)) (blkOk_by (own := [("name", 10)]) (N := ["hand", "n", "moved", "procs", "known", "rows", "k", "lists", "numbers", "parameters", "name", "moves", "ctx", "falls", "lets", "false", "needs", "gives", "body", "last"]) (sc := defScope s_l_gen) (by decide +kernel)) (fun _ _ _ _ _ => pg_name (i := 10) sc_l_gen.nd rfl (Or.inl rfl)) (fun _ _ _ _ _ => pts_nil) (fun _ _ _ _ _ => (pe_tup (pa_cons (pv 10) (pa_cons pe_bl pa_nil)))))))
    (Evl.pss_cut (ps_if (pt_cmpR op_eq (pe_call G_l_take (hr.mono (by decide)) (by rfl) D_l_take.g D_l_take.F.kp D_l_take.b .nil pass0 (pa_cons (pv 0) (pa_cons pe_int pa_nil))) pe_int (nomark _))
    (pss_one (ps_set (i := 9) sc_l_gen.nd rfl (.inl rfl) (pe_rev (pv 9) (po_some (pe_un un_neg pe_int)))))
    pss_nil)
    (pss_cons (ps_set (i := 11) sc_l_gen.nd rfl (.inl rfl) (pe_callTy call_tuple_of (by rfl) T.n_tuple (by decide +kernel) (pa_cons (pe_slice sl_list (pv 7) po_none (po_some (pv 2))) pa_nil)))
    (pss_cons (ps_set (i := 12) sc_l_gen.nd rfl (.inl rfl) (pe_lst (pa_cons (pv 7) (pa_cons (pv 8) (pa_cons (pe_callTy call_list_of (by rfl) T.n_list (by decide +kernel) (pa_cons (pv 4) pa_nil)) (pa_cons (pe_lst (pa_cons (pe_ix ix_list (pv 1) pe_int (fun _ _ => rfl)) (pa_cons (pe_ix ix_list (pv 1) pe_int (fun _ _ => rfl)) pa_nil))) (pa_cons (pe_slice sl_list (pv 7) po_none (po_some (pv 2))) (pa_cons (pv 5) (pa_cons pe_bl pa_nil)))))))))
    (pss_cons (ps_set (i := 13) sc_l_gen.nd rfl (.inl rfl) pe_non)
    (Evl.pss_cut (ps_if (pt_cmpR op_eq (pe_call G_l_take (hr.mono (by decide)) (by rfl) D_l_take.g D_l_take.F.kp D_l_take.b .nil pass0 (pa_cons (pv 0) (pa_cons pe_int pa_nil))) pe_int (nomark _))
    (pss_cons (ps_set (i := 13) sc_l_gen.nd rfl (.inl rfl) (pe_tup (pa_cons (pe_call G_l_gen_plain (hr.mono (by decide)) (by rfl) D_l_gen_plain.g D_l_gen_plain.F.kp D_l_gen_plain.b .nil pass0 (pa_cons (pv 0) (pa_cons (pv 12) pa_nil))) (pa_cons (pe_call G_l_gen_plain (hr.mono (by decide)) (by rfl) D_l_gen_plain.g D_l_gen_plain.F.kp D_l_gen_plain.b .nil pass0 (pa_cons (pv 0) (pa_cons (pv 12) pa_nil))) pa_nil))))
    (pss_one (ps_expr (pe_bm PySem.F.plainAttrs_list PySem.F.slot_list_append PySem.F.type_list_append mt_append (pe_ix ix_list (pv 12) pe_int (fun _ _ => rfl)) (pa_cons (pe_tup (pa_cons (pe_ix ix_list (pv 1) (pe_op op_sub pe_int (pv 6)) (fun _ _ => rfl)) (pa_cons (pe_callTy call_tuple_of (by rfl) T.n_tuple (by decide +kernel) (pa_cons (pv 9) pa_nil)) (pa_cons (pv 11) pa_nil)))) pa_nil)))))
    pss_nil)
    (pss_cons (ps_set (i := 14) sc_l_gen.nd rfl (.inl rfl) (pe_tup (pa_cons (pe_tup (pa_cons pe_int (pa_cons (pe_ix ix_list (pv 1) pe_int (fun _ _ => rfl)) (pa_cons (pe_call G_l_gen_term (hr.mono (by decide)) (by rfl) D_l_gen_term.g D_l_gen_term.F.kp D_l_gen_term.b .nil pass0 (pa_cons (pv 0) (pa_cons (pv 12) pa_nil))) pa_nil)))) pa_nil)))
    (pss_cons (ps_asg (pe_op op_cat (pv 8) (pe_lst (pa_cons (pe_ix ix_list (pv 1) pe_int (fun _ _ => rfl)) (pa_cons (pe_ix ix_list (pv 1) pe_int (fun _ _ => rfl)) pa_nil)))) (pg_sub (pv 12) pe_int set_list))
    (pss_cons (ps_set (i := 14) sc_l_gen.nd rfl (.inl rfl) (pe_op op_catB (pv 14) (pe_tup (pa_cons (pe_tup (pa_cons pe_int (pa_cons (pe_ix ix_list (pv 1) pe_int (fun _ _ => rfl)) (pa_cons (pe_ix ix_list (pe_lst (pa_cons (pe_call G_l_gen_term (hr.mono (by decide)) (by rfl) D_l_gen_term.g D_l_gen_term.F.kp D_l_gen_term.b .nil pass0 (pa_cons (pv 0) (pa_cons (pv 12) pa_nil))) (pa_cons (pe_tup (pa_cons pe_str (pa_cons (pe_ix ix_list (pv 1) pe_int (fun _ _ => rfl)) (pa_cons pe_int pa_nil)))) pa_nil))) (pe_op op_fdiv (pe_call G_l_take (hr.mono (by decide)) (by rfl) D_l_take.g D_l_take.F.kp D_l_take.b .nil pass0 (pa_cons (pv 0) (pa_cons pe_int pa_nil))) pe_int) (fun _ _ => rfl)) pa_nil)))) pa_nil))))
    (pss_cons (ps_asg (pe_op op_cat (pv 8) (pe_lst (pa_cons (pe_ix ix_list (pv 1) pe_int (fun _ _ => rfl)) (pa_cons (pe_ix ix_list (pv 1) pe_int (fun _ _ => rfl)) pa_nil)))) (pg_sub (pv 12) pe_int set_list))
    (pss_cons (ps_asg pe_bl (pg_sub (pv 12) pe_int set_list))
    (pss_cons (ps_set (i := 15) sc_l_gen.nd rfl (.inl rfl) (pe_tup (pa_cons pe_str (pa_cons pe_str (pa_cons (pe_tup (pa_cons pe_str (pa_cons pe_int pa_nil))) (pa_cons (pe_tup (pa_cons pe_str (pa_cons pe_int pa_nil))) pa_nil))))))
    (pss_cons (ps_set (i := 16) sc_l_gen.nd rfl (.inl rfl) (pe_op op_rep01 (pe_tup (pa_cons (pv 15) pa_nil)) (pe_op op_fdiv (pe_call G_l_take (hr.mono (by decide)) (by rfl) D_l_take.g D_l_take.F.kp D_l_take.b .nil pass0 (pa_cons (pv 0) (pa_cons pe_int pa_nil))) pe_int)))
    (pss_cons (ps_set (i := 17) sc_l_gen.nd rfl (.inl rfl) (pe_op op_rep01 (pe_tup (pa_cons (pv 15) pa_nil)) (pe_op op_fdiv (pe_call G_l_take (hr.mono (by decide)) (by rfl) D_l_take.g D_l_take.F.kp D_l_take.b .nil pass0 (pa_cons (pv 0) (pa_cons pe_int pa_nil))) pe_int)))
    (pss_cons (ps_set (i := 18) sc_l_gen.nd rfl (.inl rfl) (pe_ix ix_list (pe_call G_l_gen_block (hr.mono (by decide)) (by rfl) D_l_gen_block.g D_l_gen_block.F.kp D_l_gen_block.b .nil pass0 (pa_cons (pv 0) (pa_cons (pv 12) (pa_cons pe_int (pa_cons pe_int (pa_cons (pe_op op_add pe_int (pe_call G_l_take (hr.mono (by decide)) (by rfl) D_l_take.g D_l_take.F.kp D_l_take.b .nil pass0 (pa_cons (pv 0) (pa_cons pe_int pa_nil)))) (pa_cons pe_int pa_nil))))))) pe_int (fun _ _ => rfl)))
    (pss_cons (ps_set (i := 19) sc_l_gen.nd rfl (.inl rfl) (pe_tup (pa_cons pe_str (pa_cons pe_int (pa_cons (pe_call G_l_gen_term (hr.mono (by decide)) (by rfl) D_l_gen_term.g D_l_gen_term.F.kp D_l_gen_term.b .nil pass0 (pa_cons (pv 0) (pa_cons (pv 12) pa_nil))) pa_nil)))))
    (Evl.pss_cut (ps_if (pt_cmpR op_eq (pe_call G_l_take (hr.mono (by decide)) (by rfl) D_l_take.g D_l_take.F.kp D_l_take.b .nil pass0 (pa_cons (pv 0) (pa_cons pe_int pa_nil))) pe_int (nomark _))
    (pss_one (ps_set (i := 19) sc_l_gen.nd rfl (.inl rfl) (pe_tup (pa_cons pe_str (pa_cons pe_int (pa_cons (pe_call G_l_gen_cmp (hr.mono (by decide)) (by rfl) D_l_gen_cmp.g D_l_gen_cmp.F.kp D_l_gen_cmp.b .nil pass0 (pa_cons (pv 0) (pa_cons (pv 12) pa_nil))) (pa_cons (pe_tup (pa_cons (pv 19) pa_nil)) (pa_cons (pe_tup (pa_cons (pe_tup (pa_cons pe_str (pa_cons pe_int pa_nil))) (pa_cons (pe_tup (pa_cons pe_str (pa_cons pe_int (pa_cons (pe_call G_l_gen_term (hr.mono (by decide)) (by rfl) D_l_gen_term.g D_l_gen_term.F.kp D_l_gen_term.b .nil pass0 (pa_cons (pv 0) (pa_cons (pv 12) pa_nil))) pa_nil)))) pa_nil))) pa_nil))))))))
    pss_nil)
    (pss_cons (ps_expr (pe_bm PySem.F.plainAttrs_list PySem.F.slot_list_append PySem.F.type_list_append mt_append (pv 3) (pa_cons (pe_tup (pa_cons (pe_ix ix_list (pv 1) (pe_op op_sub pe_int (pv 6)) (fun _ _ => rfl)) (pa_cons (pe_callTy call_tuple_of (by rfl) T.n_tuple (by decide +kernel) (pa_cons (pv 9) pa_nil)) (pa_cons (pv 16) (pa_cons (pv 17) (pa_cons (pv 11) (pa_cons (pv 13) (pa_cons (pv 14) (pa_cons (pe_op op_catB (pv 18) (pe_tup (pa_cons (pv 19) pa_nil))) pa_nil))))))))) pa_nil)))
    (pss_one (ps_expr (pe_bm PySem.F.plainAttrs_list PySem.F.slot_list_append PySem.F.type_list_append mt_append (pv 4) (pa_cons (pe_tup (pa_cons (pe_ix ix_list (pv 1) (pe_op op_sub pe_int (pv 6)) (fun _ _ => rfl)) (pa_cons (pe_callTy call_tuple_of (by rfl) T.n_tuple (by decide +kernel) (pa_cons (pv 9) pa_nil)) (pa_cons (pv 11) pa_nil)))) pa_nil)))))))))))))))))))))))))
    (pss_one (ps_ret (pv 3))))))), ?_⟩
    have hNh : N ≠ h := by
      obtain ⟨⟨i, e⟩, _, _⟩ := hd
      intro e2
      rw [e2, e] at hN
      exact strs_ne (HO.lst.inj (Option.some.inj hN)).symm
    refine ⟨Nat.zero_le _, fun Ap nAp => ?_⟩
    generalize hGa : upd H Ap _ = Ha
    obtain ⟨sa, ea⟩ := new_of nAp hGa
    refine ⟨Nat.zero_le _, fun Ak nAk => ?_⟩
    generalize hGb : upd Ha Ak _ = Hb
    obtain ⟨sb, eb⟩ := new_of nAk hGb
    refine ⟨_, rfl, _, _, rfl, rfl, .inr ⟨_, rfl, _, _, rfl, rfl, .inl ⟨by decide, by decide⟩, _, _, rfl, rfl, by show 1 ≤ sizeLine; decide, fun Ar nAr => ?_⟩⟩
    generalize hGc : upd Hb Ar _ = Hc
    obtain ⟨sc, ec⟩ := new_of nAr hGc
    have sabc := sa.trans (sb.trans sc)
    have nAk' : H Ak = none := sa.free nAk
    have nAr' : H Ar = none := (sa.trans sb).free nAr
    have qAp : Ap ≠ h := hand_ne hd nAp
    have qAk : Ak ≠ h := hand_ne hd nAk'
    have qAr : Ar ≠ h := hand_ne hd nAr'
    have qdr : d ≠ Ar := ne_of_none hd.ds_ nAr'
    have qpk : Ap ≠ Ak := ne_of_none ea nAk
    have qpr : Ap ≠ Ar := ne_of_none (sb _ _ ea) nAr
    have qkr : Ak ≠ Ar := ne_of_none eb nAr
    have z0 : GS K H h d ds Ap Ak Ar Hc [] [] _ := ⟨Same.but sabc, hd.same sabc, ⟨[], (sb.trans sc) _ _ ea, ⟨rfl, fun i v c h => by cases h⟩⟩, ⟨[], sc _ _ eb, .nil⟩, ec⟩
    refine ⟨_, rfl, h, d, ds, 3, rfl, by decide, z0.hd, fun r0 Hd r00 r01 bd0 hd0 _ => ⟨_, _, rfl, rfl, _, rfl, by omega, by omega, ?_⟩⟩
    have zd := z0.but (fun c hc => (List.not_mem_nil hc).elim) bd0 hd0 qAp qAk qAr
    clear z0
    refine for_range (lo := 0) (n := ((1 : Int) + r0).toNat) (fun i σ J => ∃ (y6 y7 y8 y9 y10 y11 y12 y13 y14 y15 y16 y17 y18 y19 : Option V) (cs : List (Pc 5)) (kn : List Kn) (r : Int), σ = [some (.ref h), some (.ref N), some (.int mv), some (.ref Ap), some (.ref Ak), some (.ref Ar), y6, y7, y8, y9, y10, y11, y12, y13, y14, y15, y16, y17, y18, y19] ∧ GS K H h d ds Ap Ak Ar J cs kn r ∧ GsOk ns cs kn i) ⟨_, _, _, _, _, _, _, _, _, _, _, _, _, _, [], [], _, rfl, zd, ⟨rfl, fun _ h => (List.not_mem_nil h).elim, fun j c h => (by cases h), fun _ h => (List.not_mem_nil h).elim, fun _ h => (List.not_mem_nil h).elim, fun _ h => (List.not_mem_nil h).elim, rfl, fun _ h => (List.not_mem_nil h).elim⟩⟩ (fun i σ J hi hP => ?_) (fun σ J hP => ?_)
    · obtain ⟨y6, y7, y8, y9, y10, y11, y12, y13, y14, y15, y16, y17, y18, y19, cs, kn, r, rfl, z, zi⟩ := hP
      clear zd
      have hi3 : i < 3 := by omega
      have eN := z.b _ _ hNh hN
      have hcl := zi.len
      have hkl := zi.kl
      refine ⟨_, rfl, _, rfl, h, d, ds, 4, rfl, by decide, z.hd, fun ra J1 ra0 ra1 b1 hd1 _ => ⟨_, rfl, N, _, rfl, SqL.of (b1 _ _ hNh eN), fun L1 nL1 => ?_⟩⟩
      rw [cut_take ns ra0]
      replace z := z.but zi.ok b1 hd1 qAp qAk qAr
      replace eN := b1 _ _ hNh eN
      generalize hG2 : upd J1 L1 _ = J2
      obtain ⟨s2, e2⟩ := new_of nL1 hG2
      have qL1 : L1 ≠ h := hand_ne z.hd nL1
      have qL1r : L1 ≠ Ar := (ne_of_none z.r nL1).symm
      replace z := z.same s2
      replace eN := s2 _ _ eN
      refine ⟨_, rfl, _, rfl, _, rfl, h, d, ds, 3, rfl, by decide, z.hd, fun rb J3 rb0 rb1 b3 hd3 _ => ⟨_, _, rfl, rfl, _, rfl, N, _, rfl, SqL.of (b3 _ _ hNh eN), fun L2 nL2 => ?_⟩⟩
      rw [cut_3 ns rb0 (by omega)]
      replace z := z.but zi.ok b3 hd3 qAp qAk qAr
      replace eN := b3 _ _ hNh eN
      replace e2 := b3 _ _ qL1 e2
      generalize hG4 : upd J3 L2 _ = J4
      obtain ⟨s4, e4⟩ := new_of nL2 hG4
      have qL2 : L2 ≠ h := hand_ne z.hd nL2
      have qL2r : L2 ≠ Ar := (ne_of_none z.r nL2).symm
      have qL12 : L1 ≠ L2 := ne_of_none e2 nL2
      replace z := z.same s4
      replace eN := s4 _ _ eN
      replace e2 := s4 _ _ e2
      have hpo := par0_ok (split_nd hnn ra.toNat rb.toNat (by omega))
      have hlsl : (ns.take ra.toNat).length ≤ 3 := by
        rw [List.length_take]
        omega
      have hmsl : ((ns.drop 3).take rb.toNat).length ≤ 2 := by
        rw [List.length_take]
        omega
      generalize ns.take ra.toNat = ls at e2 hpo hlsl
      generalize (ns.drop 3).take rb.toNat = ms at e4 hpo hmsl
      refine ⟨_, rfl, L1, rfl, ⟨_, SqL.of e2⟩, fun D1 nD1 => ?_⟩
      refine lc_list (K := K) (a := L1) (xs := ls.map V.str) (fun j G => Same J4 G ∧ ∃ xs : List V, G D1 = some (.lst xs) ∧ DpAll K G xs (((ls.take j).map fun z => (z, true)).map encP)) ⟨same_new nD1, [], upd_same, .nil⟩ (fun j G _ hP => SqL.of (hP.1 _ _ e2)) (fun j y G hy hP => ?_) (fun J5 hP => ?_)
      · obtain ⟨sG, xs, eD, dD⟩ := hP
        rw [List.getElem?_map] at hy
        obtain ⟨u, hu, rfl⟩ := Option.map_eq_some_iff.mp hy
        obtain ⟨hj, hju⟩ := List.getElem?_eq_some_iff.mp hu
        refine ⟨rfl, _, rfl, by show 2 ≤ sizeLine; decide, fun tt nt => ?_⟩
        generalize hGt : upd G tt _ = G2
        obtain ⟨st, et⟩ := new_of nt hGt
        have hxl : xs.length ≤ j := by
          rw [dpa_len dD, List.length_map, List.length_map, List.length_take]
          omega
        refine ⟨_, st _ _ eD, small_sz5 (by omega), same_mut (sG.trans st) nD1, xs ++ [.ref tt], upd_same, ?_⟩
        refine dpa_but (st _ _ eD) (fun b o hb e => (upd_ne hb).trans e) _ _ (encP_noL _) ?_
        rw [List.take_succ_eq_append_getElem hj, hju, List.map_append, List.map_append]
        exact dpa_snoc (dpa_same st _ _ dD) (dp_tup2 et (.str _) (.bl _))
      obtain ⟨s5, x5, e5, d5⟩ := hP
      rw [List.take_of_length_le (by rw [List.length_map]; exact Nat.le_refl _)] at d5
      replace e2 := s5 _ _ e2
      replace e4 := s5 _ _ e4
      replace eN := s5 _ _ eN
      replace z := z.same s5
      refine ⟨_, rfl, L2, rfl, ⟨_, SqL.of e4⟩, fun D2 nD2 => ?_⟩
      refine lc_list (K := K) (a := L2) (xs := ms.map V.str) (fun j G => Same J5 G ∧ ∃ xs : List V, G D2 = some (.lst xs) ∧ DpAll K G xs (((ms.take j).map fun z => (z, false)).map encP)) ⟨same_new nD2, [], upd_same, .nil⟩ (fun j G _ hP => SqL.of (hP.1 _ _ e4)) (fun j y G hy hP => ?_) (fun J6 hP => ?_)
      · obtain ⟨sG, xs, eD, dD⟩ := hP
        rw [List.getElem?_map] at hy
        obtain ⟨u, hu, rfl⟩ := Option.map_eq_some_iff.mp hy
        obtain ⟨hj, hju⟩ := List.getElem?_eq_some_iff.mp hu
        refine ⟨rfl, _, rfl, by show 2 ≤ sizeLine; decide, fun tt nt => ?_⟩
        generalize hGt : upd G tt _ = G2
        obtain ⟨st, et⟩ := new_of nt hGt
        have hxl : xs.length ≤ j := by
          rw [dpa_len dD, List.length_map, List.length_map, List.length_take]
          omega
        refine ⟨_, st _ _ eD, small_sz5 (by omega), same_mut (sG.trans st) nD2, xs ++ [.ref tt], upd_same, ?_⟩
        refine dpa_but (st _ _ eD) (fun b o hb e => (upd_ne hb).trans e) _ _ (encP_noL _) ?_
        rw [List.take_succ_eq_append_getElem hj, hju, List.map_append, List.map_append]
        exact dpa_snoc (dpa_same st _ _ dD) (dp_tup2 et (.str _) (.bl _))
      obtain ⟨s6, x6, e6, d6⟩ := hP
      rw [List.take_of_length_le (by rw [List.length_map]; exact Nat.le_refl _)] at d6
      replace e2 := s6 _ _ e2
      replace e4 := s6 _ _ e4
      replace eN := s6 _ _ eN
      replace z := z.same s6
      replace e5 := s6 _ _ e5
      replace d5 := dpa_same s6 _ _ d5
      have x5l : x5.length = ls.length := by rw [dpa_len d5, List.length_map, List.length_map]
      have x6l : x6.length = ms.length := by rw [dpa_len d6, List.length_map, List.length_map]
      refine ⟨D1, D2, _, _, rfl, rfl, e5, e6, sz5 (by omega), fun PA0 nPA => ?_⟩
      generalize hG7 : upd J6 PA0 _ = J7
      obtain ⟨s7, e7⟩ := new_of nPA hG7
      have qPA0 : PA0 ≠ h := hand_ne z.hd nPA
      have qPA0p : PA0 ≠ Ap := (Exists.elim z.p fun _ h => ne_of_none h.1 nPA).symm
      have qPA0r : PA0 ≠ Ar := (ne_of_none z.r nPA).symm
      replace e2 := s7 _ _ e2
      replace e4 := s7 _ _ e4
      replace eN := s7 _ _ eN
      replace z := z.same s7
      have d7 : DpAll K J7 (x5 ++ x6) ((par0 ls ms).map encP) := by
        unfold par0
        rw [List.map_append]
        exact dpa_app (dpa_same s7 _ _ d5) (dpa_same s7 _ _ d6)
      clear d5 d6 e5 e6
      refine ⟨fun σ' J' => ∃ (PA : Addr) (pv : List V) (ps : List (PySem.Str × Bool)), σ' = [some (.ref h), some (.ref N), some (.int mv), some (.ref Ap), some (.ref Ak), some (.ref Ar), some (.int (0 + (i : Nat))), some (.ref L1), some (.ref L2), some (.ref PA), y10, y11, y12, y13, y14, y15, y16, y17, y18, y19] ∧ But h J7 J' ∧ Hand J' h d ds ∧ J' PA = some (.lst pv) ∧ DpAll K J' pv (ps.map encP) ∧ ParOk ls ms ps ∧ PA ≠ h ∧ PA ≠ Ar ∧ PA ≠ Ap, ?_, fun σ' J' hM => ?_⟩
      · refine ⟨_, rfl, h, d, ds, 2, rfl, by decide, z.hd, fun rq J8 _ _ b8 hd8 _ => ⟨rfl, _, rfl, ite2 (fun e => ?_) (fun e => ?_)⟩⟩
        · have d8 : DpAll K J8 (x5 ++ x6) ((par0 ls ms).map encP) := by
            obtain ⟨⟨i, e⟩, _, _⟩ := z.hd
            exact dpa_but e b8 _ _ (encP_noL _) d7
          refine ⟨_, rfl, _, rfl, _, rfl, PA0, _, rfl, rfl, SqL.of (b8 _ _ qPA0 e7), fun PA nPA2 => ?_⟩
          generalize hG9 : upd J8 PA _ = J9
          obtain ⟨s9, e9⟩ := new_of nPA2 hG9
          exact ⟨PA, _, (par0 ls ms).reverse, rfl, b8.trans (Same.but s9), hd8.same s9, e9, by rw [List.map_reverse]; exact dpa_rev (dpa_same s9 _ _ d8), hpo.rev, hand_ne hd8 nPA2, (ne_of_none (b8 _ _ qAr z.r) nPA2).symm, (Exists.elim z.p fun _ h => ne_of_none (b8 _ _ qAp h.1) nPA2).symm⟩
        · have d8 : DpAll K J8 (x5 ++ x6) ((par0 ls ms).map encP) := by
            obtain ⟨⟨i, e⟩, _, _⟩ := z.hd
            exact dpa_but e b8 _ _ (encP_noL _) d7
          exact ⟨PA0, _, par0 ls ms, rfl, b8, hd8, b8 _ _ qPA0 e7, d8, hpo, qPA0, qPA0r, qPA0p⟩
      obtain ⟨PA, pv, ps, rfl, bM, hdM, ePA, dPA, hpo, qPA, qPAr, pPA⟩ := hM
      replace z := z.but zi.ok bM hdM qAp qAk qAr
      replace e2 := bM _ _ qL1 e2
      replace e4 := bM _ _ qL2 e4
      replace eN := bM _ _ hNh eN
      clear d7 e7 s7 hdM bM
      have hpl := hpo.len
      have pvl : pv.length = ps.length := by rw [dpa_len dPA, List.length_map]
      refine ⟨_, rfl, _, rfl, _, rfl, L1, _, rfl, SqL.of e2, fun S1 nS1 => ?_⟩
      rw [cut_take ls hmv]
      generalize hGS : upd J' S1 _ = K1
      obtain ⟨sS1, eS1⟩ := new_of nS1 hGS
      refine ⟨S1, _, rfl, .inl ⟨SqL.of eS1, fun TM nTM => ?_⟩⟩
      generalize hGT : upd K1 TM _ = K2
      obtain ⟨sTM, eTM⟩ := new_of nTM hGT
      have hTM : SqT K K2 TM ((ls.take mv.toNat).map V.str) := SqT.of eTM
      have hmvl : (ls.take mv.toNat).length ≤ 3 := by
        rw [List.length_take]
        omega
      generalize hmvs : ls.take mv.toNat = mvs at hTM hmvl
      replace z := z.same (sS1.trans sTM)
      replace e2 := (sS1.trans sTM) _ _ e2
      replace e4 := (sS1.trans sTM) _ _ e4
      replace eN := (sS1.trans sTM) _ _ eN
      replace ePA := (sS1.trans sTM) _ _ ePA
      replace dPA := dpa_same (sS1.trans sTM) _ _ dPA
      obtain ⟨ks, ek1, dk1⟩ := z.k
      have hksl : ks.length = i := by rw [dpa_len dk1, List.length_map, hkl]
      refine ⟨_, rfl, _, rfl, _, rfl, Ak, ks, rfl, .inl (SqL.of ek1), fun KD nKD => ?_⟩
      generalize hGK : upd K2 KD _ = K3
      obtain ⟨sKD, eKD⟩ := new_of nKD hGK
      have nKDH : H KD = none := z.b.free (hand_ne z.hd nKD) nKD
      have kAp : Ap ≠ KD := (Exists.elim z.p fun _ h => ne_of_none h.1 nKD)
      have kAk : Ak ≠ KD := (ne_of_none ek1 nKD)
      have kAr : Ar ≠ KD := (ne_of_none z.r nKD)
      have kL1 : L1 ≠ KD := (ne_of_none e2 nKD)
      have kL2 : L2 ≠ KD := (ne_of_none e4 nKD)
      have kPA : PA ≠ KD := (ne_of_none ePA nKD)
      have kN : N ≠ KD := (ne_of_none eN nKD)
      have kd : d ≠ KD := (ne_of_none z.hd.ds_ nKD)
      have khd : h ≠ KD := (hand_ne z.hd nKD).symm
      replace hTM := sqt_same sKD hTM
      replace dk1 := dpa_same sKD _ _ dk1
      clear ek1
      replace z := z.same (sKD)
      replace e2 := (sKD) _ _ e2
      replace e4 := (sKD) _ _ e4
      replace eN := (sKD) _ _ eN
      replace ePA := (sKD) _ _ ePA
      replace dPA := dpa_same (sKD) _ _ dPA
      have n5 : atI (ns.map V.str) 5 = some (.str (ns.getD 5 "")) := at_nat (j := 5) rfl (at_nm (by omega))
      have n6 : atI (ns.map V.str) 6 = some (.str (ns.getD 6 "")) := at_nat (j := 6) rfl (at_nm (by omega))
      generalize ns.getD 5 "" = c5 at n5
      generalize ns.getD 6 "" = c6 at n6
      refine ⟨_, rfl, N, _, _, _, rfl, rfl, SqL.of eN, n5, _, rfl, N, _, _, _, rfl, rfl, SqL.of eN, n6, by show 2 ≤ sizeLine; decide, fun CN nCN => ?_⟩
      generalize hGN : upd K3 CN _ = K4
      obtain ⟨sCN, eCN⟩ := new_of nCN hGN
      have kCN : CN ≠ KD := (ne_of_none eKD nCN).symm
      replace hTM := sqt_same sCN hTM
      replace dk1 := dpa_same sCN _ _ dk1
      replace eKD := sCN _ _ eKD
      replace z := z.same (sCN)
      replace e2 := (sCN) _ _ e2
      replace e4 := (sCN) _ _ e4
      replace eN := (sCN) _ _ eN
      replace ePA := (sCN) _ _ ePA
      replace dPA := dpa_same (sCN) _ _ dPA
      refine ⟨_, rfl, _, rfl, _, rfl, L1, _, rfl, SqL.of e2, fun MV nMV => ?_⟩
      rw [cut_take ls hmv, hmvs]
      generalize hGM : upd K4 MV _ = K5
      obtain ⟨sMV, eMV⟩ := new_of nMV hGM
      have kMV : MV ≠ KD := (ne_of_none eKD nMV).symm
      replace hTM := sqt_same sMV hTM
      replace dk1 := dpa_same sMV _ _ dk1
      replace eKD := sMV _ _ eKD
      replace eCN := sMV _ _ eCN
      replace z := z.same (sMV)
      replace e2 := (sMV) _ _ e2
      replace e4 := (sMV) _ _ e4
      replace eN := (sMV) _ _ eN
      replace ePA := (sMV) _ _ ePA
      replace dPA := dpa_same (sMV) _ _ dPA
      refine ⟨_, rfl, by show 7 ≤ sizeLine; decide, fun C nC => ?_⟩
      generalize hGC : upd K5 C _ = K6
      obtain ⟨sC, eC⟩ := new_of nC hGC
      have nCH : H C = none := z.b.free (hand_ne z.hd nC) nC
      have cAp : Ap ≠ C := (Exists.elim z.p fun _ h => ne_of_none h.1 nC)
      have cAk : Ak ≠ C := (Exists.elim z.k fun _ h => ne_of_none h.1 nC)
      have cAr : Ar ≠ C := (ne_of_none z.r nC)
      have cL1 : L1 ≠ C := (ne_of_none e2 nC)
      have cL2 : L2 ≠ C := (ne_of_none e4 nC)
      have cPA : PA ≠ C := (ne_of_none ePA nC)
      have cN : N ≠ C := (ne_of_none eN nC)
      have cd : d ≠ C := (ne_of_none z.hd.ds_ nC)
      have cKD : KD ≠ C := (ne_of_none eKD nC)
      have cCN : CN ≠ C := (ne_of_none eCN nC)
      have cMV : MV ≠ C := (ne_of_none eMV nC)
      have qC : C ≠ h := hand_ne z.hd nC
      have kC : C ≠ KD := cKD.symm
      replace hTM := sqt_same sC hTM
      replace dk1 := dpa_same sC _ _ dk1
      replace eKD := sC _ _ eKD
      replace eCN := sC _ _ eCN
      replace eMV := sC _ _ eMV
      replace z := z.same (sC)
      replace e2 := (sC) _ _ e2
      replace e4 := (sC) _ _ e4
      replace eN := (sC) _ _ eN
      replace ePA := (sC) _ _ ePA
      replace dPA := dpa_same (sC) _ _ dPA
      have st : St8 K K6 h d ds ⟨C, L1, L2, KD, CN, MV, Ar⟩ ⟨ls, ms, kn, c5, c6, mvs, false⟩ r := ⟨z.hd, ⟨eC, e2, e4, ⟨ks, eKD, dk1⟩, eCN, eMV, z.r, by show ls.length ≤ 10; omega, by show ms.length ≤ 10; omega, by show kn.length ≤ 10; omega, by show mvs.length ≤ 10; omega⟩⟩
      have hps0 := zi.kk
      clear eC eKD dk1 eCN eMV e2
      have nnm : atI (ns.map V.str) (15 - (0 + (i : Nat))) = some (.str (ns.getD (15 - i) "")) := at_nat (j := 15 - i) (by omega) (at_nm (by omega))
      have hnm : ns[15 - i]? = some (ns.getD (15 - i) "") := getD_lt (by omega)
      generalize ns.getD (15 - i) "" = nmk at nnm hnm
      have B : B4 h ⟨C, L1, L2, KD, CN, MV, Ar⟩ K6 K6 := B4.refl _ _ _
      have m : TM8 K K6 K6 := fun _ _ h => h
      have kNr : N ≠ Ar := (ne_of_none hN nAr')
      refine ⟨fun σ' J' => ∃ (v13 : V) (x' : Cd), σ' = [some (.ref h), some (.ref N), some (.int mv), some (.ref Ap), some (.ref Ak), some (.ref Ar), some (.int (0 + (i : Nat))), some (.ref L1), some (.ref L2), some (.ref PA), y10, some (.ref TM), some (.ref C), some v13, y14, y15, y16, y17, y18, y19] ∧ B4 h ⟨C, L1, L2, KD, CN, MV, Ar⟩ K6 J' ∧ TM8 K K6 J' ∧ St8 K J' h d ds ⟨C, L1, L2, KD, CN, MV, Ar⟩ x' r ∧ x'.ls = ls ∧ x'.b = false ∧ x'.ns = ms ∧ (x'.kn = kn ∨ x'.kn = kn ++ [⟨nmk, ps, mvs⟩]), ?_, fun σ' J9 hM => ?_⟩
      · refine ⟨_, rfl, h, d, ds, 2, rfl, by decide, st.hd, fun rQ1 M1 q0Q1 q1Q1 bQ1 hdQ1 _ => ?_⟩
        have Mx := st.m4 (B4.but bQ1)
        replace m := fun b xs e => Mx b xs (m b xs e)
        replace B := B.trans (B4.but bQ1)
        replace st := st.but bQ1 hdQ1
        clear Mx
        refine ⟨rfl, _, rfl, ite2 (fun e => ?_) (fun e => ?_)⟩
        · refine ⟨_, rfl, _, rfl, h, d, ds, _, _, _, rfl, st, fun vF1 M2 bF1 stF1 oF1 => ?_⟩
          have Mx := st.m4 (B4.but bF1)
          replace m := fun b xs e => Mx b xs (m b xs e)
          replace B := B.trans (B4.but bF1)
          replace st := stF1
          clear Mx
          have oF1 := oF1.op
          refine ⟨_, rfl, _, rfl, h, d, ds, _, _, _, rfl, st, fun vF2 M3 bF2 stF2 oF2 => ?_⟩
          have Mx := st.m4 (B4.but bF2)
          replace oF1 := oF1.m Mx
          replace m := fun b xs e => Mx b xs (m b xs e)
          replace B := B.trans (B4.but bF2)
          replace st := stF2
          clear Mx
          have oF2 := oF2.op
          refine ⟨by show 2 ≤ sizeLine; decide, fun tFA nFA => ?_⟩
          generalize hGFA : upd M3 tFA _ = M4
          obtain ⟨sFA, eFA⟩ := new_of nFA hGFA
          have Mx := same_m (K := K) sFA
          replace m := fun b xs e => Mx b xs (m b xs e)
          replace B := B.trans (B4.same sFA)
          replace st := st.same sFA
          clear Mx
          obtain ⟨xk, ek, dk⟩ := st.cx.k
          have hxk : xk.length = i := by rw [dpa_len dk, List.length_map]; exact hkl
          refine ⟨_, rfl, C, _, _, _, rfl, rfl, SqL.of st.cx.c, atI_nat (j := 2) rfl, .inl ⟨rfl, _, SqL.of ek⟩, _, rfl, _, rfl, _, _, rfl, rfl, N, _, _, _, rfl, rfl, SqL.of (B _ _ hNh kNr cN kN eN), nnm, _, rfl, PA, _, rfl, .inl ⟨SqL.of (B _ _ qPA qPAr cPA kPA ePA), fun TP nTP => ?_⟩⟩
          generalize hGTP : upd M4 TP _ = M5
          obtain ⟨sTP, eTP⟩ := new_of nTP hGTP
          replace dk := dpa_same sTP _ _ dk
          replace ek := sTP _ _ ek
          have dTP : Dp K M5 (.ref TP) (psE ps) := .tup (SqT.of eTP) (dpa_same sTP _ _ (dpa_tups m _ _ (encP_noL _) dPA))
          have Mx := same_m (K := K) sTP
          replace m := fun b xs e => Mx b xs (m b xs e)
          replace B := B.trans (B4.same sTP)
          replace st := st.same sTP
          clear Mx
          refine ⟨_, rfl, by show 3 ≤ sizeLine; decide, fun tKT nKT => ?_⟩
          generalize hGKT : upd M5 tKT _ = M6
          obtain ⟨sKT, eKT⟩ := new_of nKT hGKT
          have Mx := same_m (K := K) sKT
          replace dTP := dp_tups Mx _ _ (psE_nl _) dTP
          replace m := fun b xs e => Mx b xs (m b xs e)
          replace B := B.trans (B4.same sKT)
          replace st := st.same sKT
          clear Mx
          replace dk := dpa_same sKT _ _ dk
          replace ek := sKT _ _ ek
          have dKT : Dp K M6 (.ref tKT) (Kn.enc ⟨nmk, ps, mvs⟩) := .tup (SqT.of eKT) (.cons (.str _) (.cons dTP (.cons (.tup (m _ _ hTM) (dpa_strs mvs)) .nil)))
          refine ⟨KD, xk, _, rfl, rfl, ek, small_sz5 (by omega), ?_⟩
          generalize hGKD : upd M6 KD _ = M7
          have stn := St8.addK st ek dk dKT (by show kn.length + 1 ≤ 10; omega) hGKD kL1 kL2 kC kCN kMV kAr kd
          have Mx := but_m (K := K) ek (G := M7) (fun b o hb e => by rw [← hGKD]; exact (upd_ne hb).trans e)
          replace m := fun b xs e => Mx b xs (m b xs e)
          replace B := B.trans (B4.updK hGKD)
          replace st := stn
          clear Mx
          exact ⟨_, _, rfl, B, m, st, rfl, rfl, rfl, .inr rfl⟩
        · exact ⟨_, _, rfl, B, m, st, rfl, rfl, rfl, .inl rfl⟩
      obtain ⟨v13, x', rfl, B, m, st, hxl, hxb, hxn, hxk⟩ := hM
      have hps : ∀ k, k ∈ x'.kn → k.ps.length ≤ 10 := fun k hk => by
        rcases hxk with e | e
        · rw [e] at hk
          exact (hps0 k hk).2
        · rw [e] at hk
          rcases List.mem_append.mp hk with hk | hk
          · exact (hps0 k hk).2
          · rw [List.mem_singleton.mp hk]
            show ps.length ≤ 10
            omega
      refine ⟨_, rfl, N, _, _, _, rfl, rfl, SqL.of (B _ _ hNh kNr cN kN eN), n5, _, rfl, _, rfl, h, d, ds, _, _, _, rfl, st, fun vT1 M8 bT1 stT1 oT1 => ?_⟩
      have Mx := st.m4 (B4.but bT1)
      replace m := fun b xs e => Mx b xs (m b xs e)
      replace B := B.trans (B4.but bT1)
      replace st := stT1
      clear Mx
      refine ⟨by show 3 ≤ sizeLine; decide, fun tE1 nE1 => ?_⟩
      generalize hGE1 : upd M8 tE1 _ = M9
      obtain ⟨sE1, eE1⟩ := new_of nE1 hGE1
      have Mx := same_m (K := K) sE1
      replace oT1 := oT1.m Mx
      replace m := fun b xs e => Mx b xs (m b xs e)
      replace B := B.trans (B4.same sE1)
      replace st := st.same sE1
      clear Mx
      refine ⟨by show 1 ≤ sizeLine; decide, fun tE2 nE2 => ?_⟩
      generalize hGE2 : upd M9 tE2 _ = M10
      obtain ⟨sE2, eE2⟩ := new_of nE2 hGE2
      have Mx := same_m (K := K) sE2
      replace oT1 := oT1.m Mx
      replace m := fun b xs e => Mx b xs (m b xs e)
      replace B := B.trans (B4.same sE2)
      replace st := st.same sE2
      clear Mx
      have lt1 : LetV K M10 (.ref tE2) := ⟨tE2, _, rfl, SqT.of eE2, by show 1 ≤ 10; decide, fun l hl => by
        rw [List.mem_singleton.mp hl]
        exact ⟨tE1, _, _, _, rfl, SqT.of (sE2 _ _ eE1)⟩⟩
      have hE1 : SqT K M10 tE2 [.ref tE1] := SqT.of eE2
      have hE1b : SqT K M10 tE1 [.int 0, .str c5, vT1] := SqT.of (sE2 _ _ eE1)
      refine ⟨_, rfl, _, rfl, N, _, _, _, rfl, rfl, SqL.of (B _ _ hNh kNr cN kN eN), n5, _, rfl, N, _, _, _, rfl, rfl, SqL.of (B _ _ hNh kNr cN kN eN), n5, by show 2 ≤ sizeLine; decide, fun tXa nXa => ?_⟩
      generalize hGXa : upd M10 tXa _ = M11
      obtain ⟨sXa, eXa⟩ := new_of nXa hGXa
      have Mx := same_m (K := K) sXa
      replace hE1 := Mx _ _ hE1
      replace hE1b := Mx _ _ hE1b
      replace m := fun b xs e => Mx b xs (m b xs e)
      replace B := B.trans (B4.same sXa)
      replace st := st.same sXa
      clear Mx
      refine ⟨L2, tXa, _, _, rfl, rfl, B _ _ qL2 qL2r cL2 kL2 e4, eXa, sz5 (by show (ms.map V.str).length + 2 ≤ 100000; rw [List.length_map]; omega), fun Na nNa => ?_⟩
      generalize hGNa : upd M11 Na _ = M12
      obtain ⟨sNa, eNa⟩ := new_of nNa hGNa
      have cNa : Na ≠ C := (ne_of_none st.cx.c nNa).symm
      have Mx := same_m (K := K) sNa
      replace hE1 := Mx _ _ hE1
      replace hE1b := Mx _ _ hE1b
      replace m := fun b xs e => Mx b xs (m b xs e)
      replace B := B.trans (B4.same sNa)
      replace st := st.same sNa
      clear Mx
      refine ⟨_, rfl, C, _, 1, 1, rfl, rfl, st.cx.c, rfl, ?_⟩
      generalize hGSa : upd M12 C _ = M13
      have stn := St8.setC st (N2 := Na) (b2 := x'.b) (ns2 := ms ++ [c5, c5]) (by rw [eNa, List.map_append]; rfl) (by rw [List.length_append]; show ms.length + 2 ≤ 10; omega) hGSa cL1 cNa cKD cCN cMV cAr cd
      have Mx := but_m (K := K) st.cx.c (G := M13) (fun b o hb e => by rw [← hGSa]; exact (upd_ne hb).trans e)
      replace hE1 := Mx _ _ hE1
      replace hE1b := Mx _ _ hE1b
      replace m := fun b xs e => Mx b xs (m b xs e)
      replace B := B.trans (B4.updC hGSa)
      replace st := stn
      clear Mx
      refine ⟨_, rfl, _, rfl, N, _, _, _, rfl, rfl, SqL.of (B _ _ hNh kNr cN kN eN), n6, _, rfl, _, rfl, h, d, ds, _, _, _, rfl, st, fun vT2 M14 bT2 stT2 oT2 => ?_⟩
      have Mx := st.m4 (B4.but bT2)
      replace hE1 := Mx _ _ hE1
      replace hE1b := Mx _ _ hE1b
      replace m := fun b xs e => Mx b xs (m b xs e)
      replace B := B.trans (B4.but bT2)
      replace st := stT2
      clear Mx
      refine ⟨_, rfl, N, _, _, _, rfl, rfl, SqL.of (B _ _ hNh kNr cN kN eN), n5, by show 3 ≤ sizeLine; decide, fun tV5 nV5 => ?_⟩
      generalize hGV5 : upd M14 tV5 _ = M15
      obtain ⟨sV5, eV5⟩ := new_of nV5 hGV5
      have Mx := same_m (K := K) sV5
      replace hE1 := Mx _ _ hE1
      replace hE1b := Mx _ _ hE1b
      replace oT2 := oT2.m Mx
      replace m := fun b xs e => Mx b xs (m b xs e)
      replace B := B.trans (B4.same sV5)
      replace st := st.same sV5
      clear Mx
      have oV5 : Op K M15 (.ref tV5) := .tup eV5 (.cons (.str _) (.cons (.str _) (.cons (.int _) .nil)))
      have hdLL := st.hd
      refine ⟨by show 2 ≤ sizeLine; decide, fun tLL nLL => ?_⟩
      generalize hGLL : upd M15 tLL _ = M16
      obtain ⟨sLL, eLL⟩ := new_of nLL hGLL
      have Mx := same_m (K := K) sLL
      replace hE1 := Mx _ _ hE1
      replace hE1b := Mx _ _ hE1b
      replace oT2 := oT2.m Mx
      replace oV5 := oV5.m Mx
      replace m := fun b xs e => Mx b xs (m b xs e)
      replace B := B.trans (B4.same sLL)
      replace st := st.same sLL
      clear Mx
      refine ⟨_, rfl, h, d, ds, 3, rfl, by decide, st.hd, fun rQ2 M17 q0Q2 q1Q2 bQ2 hdQ2 _ => ?_⟩
      have Mx := st.m4 (B4.but bQ2)
      replace hE1 := Mx _ _ hE1
      replace hE1b := Mx _ _ hE1b
      replace oT2 := oT2.m Mx
      replace oV5 := oV5.m Mx
      replace m := fun b xs e => Mx b xs (m b xs e)
      replace B := B.trans (B4.but bQ2)
      replace st := st.but bQ2 hdQ2
      clear Mx
      obtain ⟨v7, hv7, ev7⟩ := atI_in (xs := [vT2, .ref tV5]) (i := rQ2 / 2) (by omega) (by show _ < (2 : Int); omega)
      refine ⟨_, _, rfl, rfl, ⟨by decide, by decide⟩, tLL, _, _, _, rfl, rfl, SqL.of (bQ2 _ _ (hand_ne hdLL nLL) eLL), ev7, ?_⟩
      refine ⟨by show 3 ≤ sizeLine; decide, fun tE3 nE3 => ?_⟩
      generalize hGE3 : upd M17 tE3 _ = M18
      obtain ⟨sE3, eE3⟩ := new_of nE3 hGE3
      have Mx := same_m (K := K) sE3
      replace hE1 := Mx _ _ hE1
      replace hE1b := Mx _ _ hE1b
      replace m := fun b xs e => Mx b xs (m b xs e)
      replace B := B.trans (B4.same sE3)
      replace st := st.same sE3
      clear Mx
      refine ⟨by show 1 ≤ sizeLine; decide, fun tE4 nE4 => ?_⟩
      generalize hGE4 : upd M18 tE4 _ = M19
      obtain ⟨sE4, eE4⟩ := new_of nE4 hGE4
      have Mx := same_m (K := K) sE4
      replace hE1 := Mx _ _ hE1
      replace hE1b := Mx _ _ hE1b
      replace m := fun b xs e => Mx b xs (m b xs e)
      replace B := B.trans (B4.same sE4)
      replace st := st.same sE4
      clear Mx
      refine ⟨tE2, tE4, _, _, rfl, rfl, hE1, SqT.of eE4, by show 2 ≤ sizeLine; decide, fun tLT M20 sLT hLT => ?_⟩
      have hE3 := sqt_same sLT (SqT.of (K := K) (sE4 _ _ eE3))
      have Mx := same_m (K := K) sLT
      replace hE1 := Mx _ _ hE1
      replace hE1b := Mx _ _ hE1b
      replace m := fun b xs e => Mx b xs (m b xs e)
      replace B := B.trans (B4.same sLT)
      replace st := st.same sLT
      clear Mx
      have lt : LetV K M20 (.ref tLT) := ⟨tLT, _, rfl, hLT, by show 2 ≤ 10; decide, fun l hl => by
        rcases List.mem_cons.mp hl with rfl | hl
        · exact ⟨tE1, _, _, _, rfl, hE1b⟩
        · rw [List.mem_singleton.mp hl]
          exact ⟨tE3, _, _, _, rfl, hE3⟩⟩
      clear lt1 hE1 hE1b hE3
      refine ⟨_, rfl, _, rfl, N, _, _, _, rfl, rfl, SqL.of (B _ _ hNh kNr cN kN eN), n5, _, rfl, N, _, _, _, rfl, rfl, SqL.of (B _ _ hNh kNr cN kN eN), n6, by show 2 ≤ sizeLine; decide, fun tXb nXb => ?_⟩
      generalize hGXb : upd M20 tXb _ = M21
      obtain ⟨sXb, eXb⟩ := new_of nXb hGXb
      have Mx := same_m (K := K) sXb
      replace lt := lt.m Mx
      replace m := fun b xs e => Mx b xs (m b xs e)
      replace B := B.trans (B4.same sXb)
      replace st := st.same sXb
      clear Mx
      refine ⟨L2, tXb, _, _, rfl, rfl, B _ _ qL2 qL2r cL2 kL2 e4, eXb, sz5 (by show (ms.map V.str).length + 2 ≤ 100000; rw [List.length_map]; omega), fun Nb nNb => ?_⟩
      generalize hGNb : upd M21 Nb _ = M22
      obtain ⟨sNb, eNb⟩ := new_of nNb hGNb
      have cNb : Nb ≠ C := (ne_of_none st.cx.c nNb).symm
      have Mx := same_m (K := K) sNb
      replace lt := lt.m Mx
      replace m := fun b xs e => Mx b xs (m b xs e)
      replace B := B.trans (B4.same sNb)
      replace st := st.same sNb
      clear Mx
      refine ⟨_, rfl, C, _, 1, 1, rfl, rfl, st.cx.c, rfl, ?_⟩
      generalize hGSb : upd M22 C _ = M23
      have stn := St8.setC st (N2 := Nb) (b2 := x'.b) (ns2 := ms ++ [c5, c6]) (by rw [eNb, List.map_append]; rfl) (by rw [List.length_append]; show ms.length + 2 ≤ 10; omega) hGSb cL1 cNb cKD cCN cMV cAr cd
      have Mx := but_m (K := K) st.cx.c (G := M23) (fun b o hb e => by rw [← hGSb]; exact (upd_ne hb).trans e)
      replace lt := lt.m Mx
      replace m := fun b xs e => Mx b xs (m b xs e)
      replace B := B.trans (B4.updC hGSb)
      replace st := stn
      clear Mx
      refine ⟨_, rfl, C, _, 6, 6, rfl, rfl, st.cx.c, rfl, ?_⟩
      generalize hGSd : upd M23 C _ = M24
      have stn := St8.setC st (N2 := Nb) (b2 := true) (ns2 := ms ++ [c5, c6]) st.cx.n st.cx.zn hGSd cL1 cNb cKD cCN cMV cAr cd
      have Mx := but_m (K := K) st.cx.c (G := M24) (fun b o hb e => by rw [← hGSd]; exact (upd_ne hb).trans e)
      replace lt := lt.m Mx
      replace m := fun b xs e => Mx b xs (m b xs e)
      replace B := B.trans (B4.updC hGSd)
      replace st := stn
      clear Mx
      refine ⟨by show 2 ≤ sizeLine; decide, fun tf1 nf1 => ?_⟩
      generalize hGf1 : upd M24 tf1 _ = M25
      obtain ⟨sf1, ef1⟩ := new_of nf1 hGf1
      have Mx := same_m (K := K) sf1
      replace lt := lt.m Mx
      replace m := fun b xs e => Mx b xs (m b xs e)
      replace B := B.trans (B4.same sf1)
      replace st := st.same sf1
      clear Mx
      have of1 : Op K M25 (.ref tf1) := .tup ef1 (.cons (.str _) (.cons (.int _) .nil))
      refine ⟨by show 2 ≤ sizeLine; decide, fun tf2 nf2 => ?_⟩
      generalize hGf2 : upd M25 tf2 _ = M26
      obtain ⟨sf2, ef2⟩ := new_of nf2 hGf2
      have Mx := same_m (K := K) sf2
      replace lt := lt.m Mx
      replace of1 := of1.m Mx
      replace m := fun b xs e => Mx b xs (m b xs e)
      replace B := B.trans (B4.same sf2)
      replace st := st.same sf2
      clear Mx
      have of2 : Op K M26 (.ref tf2) := .tup ef2 (.cons (.str _) (.cons (.int _) .nil))
      refine ⟨by show 4 ≤ sizeLine; decide, fun tf3 nf3 => ?_⟩
      generalize hGf3 : upd M26 tf3 _ = M27
      obtain ⟨sf3, ef3⟩ := new_of nf3 hGf3
      have Mx := same_m (K := K) sf3
      replace lt := lt.m Mx
      replace of1 := of1.m Mx
      replace of2 := of2.m Mx
      replace m := fun b xs e => Mx b xs (m b xs e)
      replace B := B.trans (B4.same sf3)
      replace st := st.same sf3
      clear Mx
      refine ⟨_, rfl, by show 1 ≤ sizeLine; decide, fun trNN nrNN => ?_⟩
      generalize hGrNN : upd M27 trNN _ = M28
      obtain ⟨srNN, erNN⟩ := new_of nrNN hGrNN
      have Mx := same_m (K := K) srNN
      replace lt := lt.m Mx
      replace m := fun b xs e => Mx b xs (m b xs e)
      replace B := B.trans (B4.same srNN)
      replace st := st.same srNN
      clear Mx
      have hrNN : SqT K M28 trNN [.ref tf3] := SqT.of erNN
      refine ⟨_, rfl, h, d, ds, 4, rfl, by decide, st.hd, fun rqNN M29 q0qNN q1qNN bqNN hdqNN _ => ?_⟩
      have Mx := st.m4 (B4.but bqNN)
      replace lt := lt.m Mx
      replace hrNN := Mx _ _ hrNN
      replace m := fun b xs e => Mx b xs (m b xs e)
      replace B := B.trans (B4.but bqNN)
      replace st := st.but bqNN hdqNN
      clear Mx
      refine ⟨_, _, rfl, rfl, ⟨by decide, by decide⟩, trNN, _, _, rfl, rfl, hrNN, by simp, (by omega), fun pNN yNN M30 ssNN hNN _ => ?_⟩
      have Mx := same_m (K := K) ssNN
      replace lt := lt.m Mx
      replace m := fun b xs e => Mx b xs (m b xs e)
      replace B := B.trans (B4.same ssNN)
      replace st := st.same ssNN
      clear Mx
      have tvNN : TupV K M30 (.ref pNN) := ⟨pNN, _, rfl, hNN⟩
      refine ⟨_, rfl, by show 1 ≤ sizeLine; decide, fun trGG nrGG => ?_⟩
      generalize hGrGG : upd M30 trGG _ = M31
      obtain ⟨srGG, erGG⟩ := new_of nrGG hGrGG
      have Mx := same_m (K := K) srGG
      replace lt := lt.m Mx
      replace tvNN := tvNN.m Mx
      replace m := fun b xs e => Mx b xs (m b xs e)
      replace B := B.trans (B4.same srGG)
      replace st := st.same srGG
      clear Mx
      have hrGG : SqT K M31 trGG [.ref tf3] := SqT.of erGG
      refine ⟨_, rfl, h, d, ds, 4, rfl, by decide, st.hd, fun rqGG M32 q0qGG q1qGG bqGG hdqGG _ => ?_⟩
      have Mx := st.m4 (B4.but bqGG)
      replace lt := lt.m Mx
      replace tvNN := tvNN.m Mx
      replace hrGG := Mx _ _ hrGG
      replace m := fun b xs e => Mx b xs (m b xs e)
      replace B := B.trans (B4.but bqGG)
      replace st := st.but bqGG hdqGG
      clear Mx
      refine ⟨_, _, rfl, rfl, ⟨by decide, by decide⟩, trGG, _, _, rfl, rfl, hrGG, by simp, (by omega), fun pGG yGG M33 ssGG hGG _ => ?_⟩
      have Mx := same_m (K := K) ssGG
      replace lt := lt.m Mx
      replace tvNN := tvNN.m Mx
      replace m := fun b xs e => Mx b xs (m b xs e)
      replace B := B.trans (B4.same ssGG)
      replace st := st.same ssGG
      clear Mx
      have tvGG : TupV K M33 (.ref pGG) := ⟨pGG, _, rfl, hGG⟩
      refine ⟨_, rfl, _, rfl, _, rfl, h, d, ds, 5, rfl, by decide, st.hd, fun rB1 M34 q0B1 q1B1 bB1 hdB1 _ => ?_⟩
      have Mx := st.m4 (B4.but bB1)
      replace lt := lt.m Mx
      replace tvNN := tvNN.m Mx
      replace tvGG := tvGG.m Mx
      replace m := fun b xs e => Mx b xs (m b xs e)
      replace B := B.trans (B4.but bB1)
      replace st := st.but bB1 hdB1
      clear Mx
      refine ⟨_, _, rfl, rfl, h, d, ds, _, _, _, 4, 2, 1 + rB1, 32, rfl, rfl, st, qdr, hps, by omega, by omega, by decide, by decide, fun tb dn rb9 vb bs M35 bx stx ex db okb atb lnb flb d1 d2 => ?_⟩
      have Mx := st.m4 (B4.b2 bx)
      replace lt := lt.m Mx
      replace tvNN := tvNN.m Mx
      replace tvGG := tvGG.m Mx
      replace m := fun b xs e => Mx b xs (m b xs e)
      replace B := B.trans (B4.b2 bx)
      replace st := stx
      clear Mx
      refine ⟨tb, _, _, _, rfl, rfl, SqL.of ex, atI_nat (j := 1) rfl, ?_⟩
      refine ⟨_, rfl, _, rfl, h, d, ds, _, _, _, rfl, st, fun vT8 M36 bT8 stT8 oT8 => ?_⟩
      have Mx := st.m4 (B4.but bT8)
      replace lt := lt.m Mx
      replace tvNN := tvNN.m Mx
      replace tvGG := tvGG.m Mx
      replace db := dp_tups Mx _ _ (noL_blk okb) db
      replace m := fun b xs e => Mx b xs (m b xs e)
      replace B := B.trans (B4.but bT8)
      replace st := stT8
      clear Mx
      refine ⟨by show 3 ≤ sizeLine; decide, fun tR1 nR1 => ?_⟩
      generalize hGR1 : upd M36 tR1 _ = M37
      obtain ⟨sR1, eR1⟩ := new_of nR1 hGR1
      have Mx := same_m (K := K) sR1
      replace lt := lt.m Mx
      replace tvNN := tvNN.m Mx
      replace tvGG := tvGG.m Mx
      replace db := dp_tups Mx _ _ (noL_blk okb) db
      replace oT8 := oT8.m Mx
      replace m := fun b xs e => Mx b xs (m b xs e)
      replace B := B.trans (B4.same sR1)
      replace st := st.same sR1
      clear Mx
      obtain ⟨td, dtd, ntd⟩ := oT8
      have dR1 : Dp K M37 (.ref tR1) (Sf.enc (encD 4) (Sf.oth "return" 0 [td])) := .tup (SqT.of eR1) (.cons (.str _) (.cons (.int _) (.cons dtd .nil)))
      have kR1 : ∀ {B9 : Type} {p9 : B9 → Prop}, Sf.ok p9 (Sf.oth "return" 0 [td] : Sf B9) := ⟨by decide +kernel, by show (noL td && true) = true; rw [ntd]; rfl⟩
      refine ⟨fun σ' J' => ∃ (v19 : V) (sl : Sf (BD 4)) (x19 : Cd), σ' = [some (.ref h), some (.ref N), some (.int mv), some (.ref Ap), some (.ref Ak), some (.ref Ar), some (.int (0 + (i : Nat))), some (.ref L1), some (.ref L2), some (.ref PA), y10, some (.ref TM), some (.ref C), some v13, some (.ref tLT), some (.ref tf3), some (.ref pNN), some (.ref pGG), some vb, some v19] ∧ B4 h ⟨C, L1, Nb, KD, CN, MV, Ar⟩ M37 J' ∧ TM8 K M37 J' ∧ St8 K J' h d ds ⟨C, L1, Nb, KD, CN, MV, Ar⟩ x19 rb9 ∧ Dp K J' v19 (Sf.enc (encD 4) sl) ∧ Sf.ok (okD 4) sl ∧ (∀ t, t ∈ flatD 5 (show BD 5 from sl) → AtS x' t.s) ∧ (flatD 5 (show BD 5 from sl)).length ≤ 10, ?_, fun σ' J20 hM => ?_⟩
      · have B := B4.refl h ⟨C, L1, Nb, KD, CN, MV, Ar⟩ M37
        have m : TM8 K M37 M37 := fun _ _ h => h
        refine ⟨_, rfl, h, d, ds, 3, rfl, by decide, st.hd, fun rQ9 M38 q0Q9 q1Q9 bQ9 hdQ9 _ => ?_⟩
        have Mx := st.m4 (B4.but bQ9)
        replace dR1 := dp_tups Mx _ _ (noL_sf (noL_D 4) (p := okD 4) kR1) dR1
        replace m := fun b xs e => Mx b xs (m b xs e)
        replace B := B.trans (B4.but bQ9)
        replace st := st.but bQ9 hdQ9
        clear Mx
        refine ⟨rfl, _, rfl, ite2 (fun e => ?_) (fun e => ?_)⟩
        · refine ⟨_, rfl, _, rfl, h, d, ds, _, _, _, rfl, st, fun vC9 M39 bC9 stC9 oC9 => ?_⟩
          have Mx := st.m4 (B4.but bC9)
          replace dR1 := dp_tups Mx _ _ (noL_sf (noL_D 4) (p := okD 4) kR1) dR1
          replace m := fun b xs e => Mx b xs (m b xs e)
          replace B := B.trans (B4.but bC9)
          replace st := stC9
          clear Mx
          refine ⟨_, rfl, by show 1 ≤ sizeLine; decide, fun tI1 nI1 => ?_⟩
          generalize hGI1 : upd M39 tI1 _ = M40
          obtain ⟨sI1, eI1⟩ := new_of nI1 hGI1
          have Mx := same_m (K := K) sI1
          replace dR1 := dp_tups Mx _ _ (noL_sf (noL_D 4) (p := okD 4) kR1) dR1
          replace oC9 := oC9.m Mx
          replace m := fun b xs e => Mx b xs (m b xs e)
          replace B := B.trans (B4.same sI1)
          replace st := st.same sI1
          clear Mx
          have dI1 : Dp K M40 (.ref tI1) (blkE 4 [(Sf.oth "return" 0 [td] : Sf (BD 3))]) := .tup (SqT.of eI1) (.cons dR1 .nil)
          refine ⟨by show 2 ≤ sizeLine; decide, fun tI2 nI2 => ?_⟩
          generalize hGI2 : upd M40 tI2 _ = M41
          obtain ⟨sI2, eI2⟩ := new_of nI2 hGI2
          have Mx := same_m (K := K) sI2
          replace oC9 := oC9.m Mx
          replace dI1 := dp_tups Mx _ _ (noL_blk (n := 4) (b := [(show BD 4 from (Sf.oth "return" 0 [td] : Sf (BD 3)))]) (fun s hs => by rw [List.mem_singleton.mp hs]; exact kR1)) dI1
          replace m := fun b xs e => Mx b xs (m b xs e)
          replace B := B.trans (B4.same sI2)
          replace st := st.same sI2
          clear Mx
          have dI2 : Dp K M41 (.ref tI2) (encD 4 (Sf.oth "skip" 0 [] : Sf (BD 3))) := .tup (SqT.of eI2) (.cons (.str _) (.cons (.int _) .nil))
          refine ⟨_, rfl, _, rfl, h, d, ds, _, _, _, rfl, st, fun vT9 M42 bT9 stT9 oT9 => ?_⟩
          have Mx := st.m4 (B4.but bT9)
          replace oC9 := oC9.m Mx
          replace dI1 := dp_tups Mx _ _ (noL_blk (n := 4) (b := [(show BD 4 from (Sf.oth "return" 0 [td] : Sf (BD 3)))]) (fun s hs => by rw [List.mem_singleton.mp hs]; exact kR1)) dI1
          replace dI2 := dp_tups Mx _ _ rfl dI2
          replace m := fun b xs e => Mx b xs (m b xs e)
          replace B := B.trans (B4.but bT9)
          replace st := stT9
          clear Mx
          refine ⟨by show 3 ≤ sizeLine; decide, fun tI3 nI3 => ?_⟩
          generalize hGI3 : upd M42 tI3 _ = M43
          obtain ⟨sI3, eI3⟩ := new_of nI3 hGI3
          have Mx := same_m (K := K) sI3
          replace oC9 := oC9.m Mx
          replace dI1 := dp_tups Mx _ _ (noL_blk (n := 4) (b := [(show BD 4 from (Sf.oth "return" 0 [td] : Sf (BD 3)))]) (fun s hs => by rw [List.mem_singleton.mp hs]; exact kR1)) dI1
          replace dI2 := dp_tups Mx _ _ rfl dI2
          replace oT9 := oT9.m Mx
          replace m := fun b xs e => Mx b xs (m b xs e)
          replace B := B.trans (B4.same sI3)
          replace st := st.same sI3
          clear Mx
          obtain ⟨ud, dud, nud⟩ := oT9
          have kR2 : ∀ {B9 : Type} {p9 : B9 → Prop}, Sf.ok p9 (Sf.oth "return" 0 [ud] : Sf B9) := ⟨by decide +kernel, by show (noL ud && true) = true; rw [nud]; rfl⟩
          have dI3 : Dp K M43 (.ref tI3) (encD 4 (Sf.oth "return" 0 [ud] : Sf (BD 3))) := .tup (SqT.of eI3) (.cons (.str _) (.cons (.int _) (.cons dud .nil)))
          refine ⟨by show 2 ≤ sizeLine; decide, fun tI4 nI4 => ?_⟩
          generalize hGI4 : upd M43 tI4 _ = M44
          obtain ⟨sI4, eI4⟩ := new_of nI4 hGI4
          have Mx := same_m (K := K) sI4
          replace oC9 := oC9.m Mx
          replace dI1 := dp_tups Mx _ _ (noL_blk (n := 4) (b := [(show BD 4 from (Sf.oth "return" 0 [td] : Sf (BD 3)))]) (fun s hs => by rw [List.mem_singleton.mp hs]; exact kR1)) dI1
          replace dI2 := dp_tups Mx _ _ rfl dI2
          replace dI3 := dp_tups Mx _ _ (noL_D 4 _ (kR2 (B9 := BD 3))) dI3
          replace m := fun b xs e => Mx b xs (m b xs e)
          replace B := B.trans (B4.same sI4)
          replace st := st.same sI4
          clear Mx
          have okO : ∀ s, s ∈ [(Sf.oth "skip" 0 [] : Sf (BD 3)), (Sf.oth "return" 0 [ud] : Sf (BD 3))] → okD 4 s := fun s hs => by
            rcases List.mem_cons.mp hs with rfl | hs
            · exact ⟨by decide +kernel, rfl⟩
            · rw [List.mem_singleton.mp hs]
              exact kR2
          have dI4 : Dp K M44 (.ref tI4) (blkE 4 [(Sf.oth "skip" 0 [] : Sf (BD 3)), (Sf.oth "return" 0 [ud] : Sf (BD 3))]) := .tup (SqT.of eI4) (.cons dI2 (.cons dI3 .nil))
          refine ⟨by show 5 ≤ sizeLine; decide, fun tI5 nI5 => ?_⟩
          generalize hGI5 : upd M44 tI5 _ = M45
          obtain ⟨sI5, eI5⟩ := new_of nI5 hGI5
          have Mx := same_m (K := K) sI5
          replace oC9 := oC9.m Mx
          replace dI1 := dp_tups Mx _ _ (noL_blk (n := 4) (b := [(show BD 4 from (Sf.oth "return" 0 [td] : Sf (BD 3)))]) (fun s hs => by rw [List.mem_singleton.mp hs]; exact kR1)) dI1
          replace dI4 := dp_tups Mx _ _ (noL_blk (n := 4) (b := [(show BD 4 from (Sf.oth "skip" 0 [] : Sf (BD 3))), (show BD 4 from (Sf.oth "return" 0 [ud] : Sf (BD 3)))]) okO) dI4
          replace m := fun b xs e => Mx b xs (m b xs e)
          replace B := B.trans (B4.same sI5)
          replace st := st.same sI5
          clear Mx
          obtain ⟨cd, dcd, ncd⟩ := oC9
          exact ⟨_, Sf.iff 0 cd [(Sf.oth "return" 0 [td] : Sf (BD 3))] [(Sf.oth "skip" 0 [] : Sf (BD 3)), (Sf.oth "return" 0 [ud] : Sf (BD 3))], _, rfl, B, m, st, .tup (SqT.of eI5) (.cons (.str _) (.cons (.int _) (.cons dcd (.cons dI1 (.cons dI4 .nil))))), ⟨ncd, fun s hs => by rw [List.mem_singleton.mp hs]; exact kR1, okO⟩, fun t ht => (by rcases ht with _ | ⟨_, _ | ⟨_, _ | ⟨_, _ | ⟨_, ht⟩⟩⟩⟩ <;> first | trivial | cases ht), by show 4 ≤ 10; decide⟩
        · exact ⟨_, Sf.oth "return" 0 [td], _, rfl, B, m, st, dR1, kR1, fun t ht => (by rcases ht with _ | ⟨_, ht⟩ <;> first | trivial | cases ht), by show 1 ≤ 10; decide⟩
      obtain ⟨v19, sl, x19, rfl, B9, m9, st9, d19, k19, a19, l19⟩ := hM
      have Mx := m9
      replace lt := lt.m Mx
      replace tvNN := tvNN.m Mx
      replace tvGG := tvGG.m Mx
      replace db := dp_tups Mx _ _ (noL_blk okb) db
      replace m := fun b xs e => Mx b xs (m b xs e)
      replace B := B.trans (B9)
      replace st := st9
      clear Mx
      have zz := z.m4 zi.ok B m (a := ⟨C, L1, Nb, KD, CN, MV, Ar⟩) rfl st.hd st.cx.r nAr' nCH nKDH qAp qpr cAp kAp qAk qkr cAk kAk
      obtain ⟨pp, ep, dp⟩ := zz.p
      have hppl : pp.length = i := by rw [dp.len, hcl]
      refine ⟨_, rfl, .inl ⟨rfl, _, SqL.of ep⟩, _, rfl, _, rfl, _, _, rfl, rfl, N, _, _, _, rfl, rfl, SqL.of (B _ _ hNh kNr cN kN eN), nnm, _, rfl, PA, _, rfl, .inl ⟨SqL.of (B _ _ qPA qPAr cPA kPA ePA), fun TQ nTQ => ?_⟩⟩
      generalize hGTQ : upd J20 TQ _ = M46
      obtain ⟨sTQ, eTQ⟩ := new_of nTQ hGTQ
      have dTQ : Dp K M46 (.ref TQ) (psE ps) := .tup (SqT.of eTQ) (dpa_same sTQ _ _ (dpa_tups m _ _ (encP_noL _) dPA))
      replace zz := zz.same sTQ
      have Mx := same_m (K := K) sTQ
      replace lt := lt.m Mx
      replace tvNN := tvNN.m Mx
      replace tvGG := tvGG.m Mx
      replace db := dp_tups Mx _ _ (noL_blk okb) db
      replace d19 := dp_tups Mx _ _ (noL_sf (noL_D 4) (p := okD 4) k19) d19
      replace m := fun b xs e => Mx b xs (m b xs e)
      replace B := B.trans (B4.same sTQ)
      replace st := st.same sTQ
      clear Mx
      refine ⟨_, rfl, _, rfl, _, rfl, _, rfl, _, rfl, _, rfl, _, rfl, by show 1 ≤ sizeLine; decide, fun tY1 nY1 => ?_⟩
      generalize hGY1 : upd M46 tY1 _ = M47
      obtain ⟨sY1, eY1⟩ := new_of nY1 hGY1
      have Mx := same_m (K := K) sY1
      replace lt := lt.m Mx
      replace tvNN := tvNN.m Mx
      replace tvGG := tvGG.m Mx
      replace db := dp_tups Mx _ _ (noL_blk okb) db
      replace d19 := dp_tups Mx _ _ (noL_sf (noL_D 4) (p := okD 4) k19) d19
      replace dTQ := dp_tups Mx _ _ (psE_nl _) dTQ
      replace m := fun b xs e => Mx b xs (m b xs e)
      replace B := B.trans (B4.same sY1)
      replace st := st.same sY1
      clear Mx
      replace zz := zz.same sY1
      obtain ⟨tb0, yb0, rfl, hb0, db0⟩ := dp_tup_inv db
      have hyb : yb0.length ≤ 5 := by
        rw [dpa_len db0, List.length_map]
        omega
      refine ⟨tb0, tY1, _, _, rfl, rfl, hb0, SqT.of eY1, sz5 (by show yb0.length + 1 ≤ 100000; omega), fun pY M48 sY hY => ?_⟩
      replace zz := zz.same sY
      replace db0 := dpa_same sY _ _ db0
      have Mx := same_m (K := K) sY
      replace lt := lt.m Mx
      replace tvNN := tvNN.m Mx
      replace tvGG := tvGG.m Mx
      replace d19 := dp_tups Mx _ _ (noL_sf (noL_D 4) (p := okD 4) k19) d19
      replace dTQ := dp_tups Mx _ _ (psE_nl _) dTQ
      replace m := fun b xs e => Mx b xs (m b xs e)
      replace B := B.trans (B4.same sY)
      replace st := st.same sY
      clear Mx
      have okB : ∀ s, s ∈ bs ++ [(show BD 5 from sl)] → okD 5 s := fun s hs => by
        rcases List.mem_append.mp hs with hs | hs
        · exact okb s hs
        · rw [List.mem_singleton.mp hs]
          exact k19
      have dB : Dp K M48 (.ref pY) (blkE 5 (bs ++ [(show BD 5 from sl)])) := by
        refine .tup hY ?_
        rw [List.map_append]
        exact dpa_snoc db0 d19
      refine ⟨by show 8 ≤ sizeLine; decide, fun tY8 nY8 => ?_⟩
      generalize hGY8 : upd M48 tY8 _ = M49
      obtain ⟨sY8, eY8⟩ := new_of nY8 hGY8
      have Mx := same_m (K := K) sY8
      replace lt := lt.m Mx
      replace tvNN := tvNN.m Mx
      replace tvGG := tvGG.m Mx
      replace dTQ := dp_tups Mx _ _ (psE_nl _) dTQ
      replace dB := dp_tups Mx _ _ (noL_blk okB) dB
      replace m := fun b xs e => Mx b xs (m b xs e)
      replace B := B.trans (B4.same sY8)
      replace st := st.same sY8
      clear Mx
      replace zz := zz.same sY8
      obtain ⟨pp, ep, dp⟩ := zz.p
      have hppl : pp.length = i := by rw [dp.len, hcl]
      have flB : flatB 5 (bs ++ [(show BD 5 from sl)]) = flatB 5 bs ++ flatD 5 (show BD 5 from sl) := flatB_snoc _ _ _
      have new : PqAt K M49 (.ref tY8) (⟨C, nmk, ps, bs ++ [(show BD 5 from sl)]⟩ : Pc 5) := ⟨tY8, _, _, _, _, v13, _, _, rfl, SqT.of eY8, dTQ, tvNN, tvGG, ⟨TM, _, rfl, m _ _ hTM⟩, lt, dB⟩
      have cok : (⟨C, nmk, ps, bs ++ [(show BD 5 from sl)]⟩ : Pc 5).ok := ⟨by show ps.length ≤ 100; omega, okB, by
        show (flatB 5 (bs ++ [(show BD 5 from sl)])).length ≤ 900
        rw [flB, List.length_append]
        have e4 : szD 4 = 121 := rfl
        have flb5 : (flatB 5 bs).length ≤ (1 + rB1).toNat * szD 4 := flb
        rw [e4] at flb5
        have : (1 + rB1).toNat ≤ 5 := by omega
        omega⟩
      refine ⟨Ap, _, _, rfl, rfl, ep, small_sz5 (by omega), ?_⟩
      generalize hGAp : upd M49 Ap _ = M50
      have mA := but_m (K := K) ep (G := M50) (fun b o hb e => by rw [← hGAp]; exact (upd_ne hb).trans e)
      have kA : ∀ b o, b ≠ Ap → M49 b = some o → M50 b = some o := fun b o hb e => by rw [← hGAp]; exact (upd_ne hb).trans e
      have eAp : M50 Ap = some (.lst (pp ++ [.ref tY8])) := by rw [← hGAp]; exact upd_same
      have bA : But h H M50 := by rw [← hGAp]; exact zz.b.new nAp
      have hdA : Hand M50 h d ds := by rw [← hGAp]; exact zz.hd.upd qAp (ne_of_none hd.ds_ nAp).symm
      have erA := kA _ _ qpr.symm zz.r
      obtain ⟨kk, ekk, dkk⟩ := zz.k
      have hkkl : kk.length = i := by rw [dpa_len dkk, List.length_map, hkl]
      replace ekk := kA _ _ qpk.symm ekk
      replace dkk := dpa_tups mA _ _ (kns_noL _) dkk
      have pqA : PqsAt K M50 (pp ++ [.ref tY8]) (cs ++ [(⟨C, nmk, ps, bs ++ [(show BD 5 from sl)]⟩ : Pc 5)]) := by
        have d1 := dp.m mA fun c hc => (zi.ok c hc).body
        have d2 := new.m mA okB
        refine ⟨by rw [List.length_append, List.length_append, dp.len]; rfl, fun j u k hu hk => ?_⟩
        by_cases hj : j < pp.length
        · rw [List.getElem?_append_left hj] at hu
          rw [List.getElem?_append_left (by rw [← dp.len]; exact hj)] at hk
          exact d1.at_ j u k hu hk
        · have hj2 : j = pp.length := by
            have := (List.getElem?_eq_some_iff.mp hu).1
            rw [List.length_append] at this
            have : j < pp.length + 1 := this
            omega
          rw [hj2, List.getElem?_append_right (Nat.le_refl _), Nat.sub_self] at hu
          rw [hj2, dp.len, List.getElem?_append_right (Nat.le_refl _), Nat.sub_self] at hk
          cases hu
          cases hk
          exact d2
      have eNA : M50 N = some (.lst (ns.map V.str)) := bA _ _ hNh hN
      have ePAA := kA _ _ pPA (B _ _ qPA qPAr cPA kPA ePA)
      have dPAA := dpa_tups mA _ _ (encP_noL _) (dpa_tups m _ _ (encP_noL _) dPA)
      have hTMA := mA _ _ (m _ _ hTM)
      refine ⟨_, rfl, .inl ⟨rfl, _, SqL.of ekk⟩, _, rfl, _, rfl, _, _, rfl, rfl, N, _, _, _, rfl, rfl, SqL.of eNA, nnm, _, rfl, PA, _, rfl, .inl ⟨SqL.of ePAA, fun TR nTR => ?_⟩⟩
      generalize hGTR : upd M50 TR _ = M51
      obtain ⟨sTR, eTR⟩ := new_of nTR hGTR
      refine ⟨_, rfl, by show 3 ≤ sizeLine; decide, fun tZ nZ => ?_⟩
      generalize hGZ : upd M51 tZ _ = M52
      obtain ⟨sZ, eZ⟩ := new_of nZ hGZ
      have sTZ := sTR.trans sZ
      have dZ : Dp K M52 (.ref tZ) (Kn.enc ⟨nmk, ps, mvs⟩) := .tup (SqT.of eZ) (.cons (.str _) (.cons (.tup (SqT.of (sZ _ _ eTR)) (dpa_same sTZ _ _ dPAA)) (.cons (.tup (sqt_same sTZ hTMA) (dpa_strs mvs)) .nil)))
      replace ekk := sTZ _ _ ekk
      replace dkk := dpa_same sTZ _ _ dkk
      refine ⟨Ak, _, _, rfl, rfl, ekk, small_sz5 (by omega), ?_⟩
      have mK := but_m (K := K) ekk (G := upd M52 Ak (.lst (kk ++ [.ref tZ]))) (fun b o hb e => (upd_ne hb).trans e)
      refine ⟨_, _, _, _, _, _, _, _, _, _, _, _, _, _, cs ++ [(⟨C, nmk, ps, bs ++ [(show BD 5 from sl)]⟩ : Pc 5)], kn ++ [⟨nmk, ps, mvs⟩], _, rfl, ⟨(bA.trans (Same.but sTZ)).new nAk', (hdA.same sTZ).upd qAk (ne_of_none hd.ds_ nAk').symm, ⟨_, (upd_ne qpk).trans (sTZ _ _ eAp), (pqA.same sTZ).m mK fun c hc => ?_⟩, ⟨_, upd_same, ?_⟩, (upd_ne qkr.symm).trans (sTZ _ _ erA)⟩, ?_⟩
      · rcases List.mem_append.mp hc with hc | hc
        · exact (zi.ok c hc).body
        · rw [List.mem_singleton.mp hc]
          exact okB
      · rw [List.map_append]
        exact dpa_snoc (dpa_tups mK _ _ (kns_noL _) dkk) (dp_tups mK _ _ (Kn.noL _) dZ)
      · refine zi.next hi3 cok hnm hpo.nd (by rw [hpo.ll]; exact hlsl) (by show ps.length ≤ 10; omega) hxk (fun y hy => hpo.mem y (by rw [← hxl]; exact hy)) fun t ht => ?_
        rw [flB] at ht
        rcases List.mem_append.mp ht with ht | ht
        · exact atb t ht
        · exact a19 t ht
    · obtain ⟨y6, y7, y8, y9, y10, y11, y12, y13, y14, y15, y16, y17, y18, y19, cs, kn, r, rfl, z, zi⟩ := hP
      obtain ⟨ps, e1, e2⟩ := z.p
      exact ⟨_, rfl, q Ap ps cs kn _ J z.b z.hd e1 e2 (by omega) zi⟩
end
end SW

namespace SW
open PySem PySem.Spec PyProof.Rows L2
section
variable {m : Nat} {cs : List (Pc m)} {ch : PySem.Str → List PySem.Str}
theorem fold_fix (ap : Apart cs) : ∀ (l : List (Pc m)), (∀ c, c ∈ l → c ∈ cs) → ∀ {ch : PySem.Str → List PySem.Str}, Gd cs ch → Gd cs (l.foldl (stp cs) ch) ∧ msr cs ch ≤ msr cs (l.foldl (stp cs) ch) ∧ (msr cs (l.foldl (stp cs) ch) ≤ msr cs ch → l.foldl (stp cs) ch = ch ∧ ∀ c, c ∈ l → byN cs ch c.ps c.body = ch c.nm)
  | [], _, ch, g => ⟨g, Nat.le_refl _, fun _ => ⟨rfl, fun _ h => (List.not_mem_nil h).elim⟩⟩
  | c :: l, hl, ch, g => by
    have hc := hl c List.mem_cons_self
    obtain ⟨h1, h2, h3⟩ := fold_fix ap l (fun d hd => hl d (List.mem_cons_of_mem _ hd)) (stp_gd ap g hc)
    obtain ⟨k1, k2⟩ := stp_msr ap g hc
    refine ⟨h1, Nat.le_trans k1 h2, fun hle => ?_⟩
    have hle : msr cs (l.foldl (stp cs) (stp cs ch c)) ≤ msr cs ch := hle
    have hb : byN cs ch c.ps c.body = ch c.nm := by
      refine Classical.byContradiction fun hne => ?_
      have := k2 hne
      omega
    have hs := stp_same hb
    rw [hs] at h3 h2
    obtain ⟨e1, e2⟩ := h3 (by rw [hs] at hle; exact hle)
    refine ⟨by show l.foldl (stp cs) (stp cs ch c) = ch; rw [hs]; exact e1, fun d hd => ?_⟩
    rcases List.mem_cons.mp hd with rfl | hd
    · exact hb
    · exact e2 d hd
theorem it_gd (ap : Apart cs) : ∀ i, Gd cs (itN cs i)
  | 0 => Gd.zero
  | i + 1 => (fold_fix ap cs (fun _ h => h) (it_gd ap i)).1
theorem it_msr (ap : Apart cs) (i : Nat) : pas cs (itN cs i) = itN cs i ∨ msr cs (itN cs i) < msr cs (itN cs (i + 1)) := by
  obtain ⟨h1, h2, h3⟩ := fold_fix ap cs (fun _ h => h) (it_gd ap i)
  by_cases h : msr cs (pas cs (itN cs i)) ≤ msr cs (itN cs i)
  · exact .inl (h3 h).1
  · exact .inr (Nat.lt_of_not_le h)
theorem it_grow (ap : Apart cs) : ∀ i, pas cs (itN cs i) = itN cs i ∨ i + 1 ≤ msr cs (itN cs (i + 1))
  | 0 => (it_msr ap 0).imp id fun h => by omega
  | i + 1 => by
    rcases it_msr ap (i + 1) with h | h
    · exact .inl h
    · rcases it_grow ap i with h2 | h2
      · refine .inl ?_
        show pas cs (pas cs (itN cs i)) = pas cs (itN cs i)
        rw [h2, h2]
      · exact .inr (by omega)
theorem it_end (ap : Apart cs) (ht : (cs.map fun c => (lnm c.ps).length).sum ≤ 20) : ∀ c, c ∈ cs → byN cs (itN cs 20) c.ps c.body = itN cs 20 c.nm := by
  have hp : pas cs (itN cs 20) = itN cs 20 := by
    rcases it_grow ap 20 with h | h
    · exact h
    · have h9 := msr_le (it_gd ap (20 + 1))
      omega
  obtain ⟨h1, h2, h3⟩ := fold_fix ap cs (fun _ h => h) (it_gd ap 20)
  have hp' : cs.foldl (stp cs) (itN cs 20) = itN cs 20 := hp
  exact (h3 (by rw [hp']; exact Nat.le_refl _)).2
end
/-! ### what is due -/
def dueN (ps : List (PySem.Str × Bool)) (t : List PySem.Str) : List PySem.Str := (ps.filter fun q => q.2 && decide (q.1 ∈ t)).map Prod.fst
theorem due_by {m : Nat} {cs : List (Pc m)} {pos : PySem.Str → List Nat} {ch : PySem.Str → List PySem.Str} (w : LwOk cs) (r : Rel cs pos ch) {ps : List (PySem.Str × Bool)} (hn : (ps.map Prod.fst).Nodup) {n : Nat} {b : List (BD n)} (h : ∀ a, a ∈ flatB n b → AnOk cs ps a) : byN cs ch ps b = dueN ps (tchB pos n b) := by
  rw [by_same w r hn h, pos_filter]
  unfold dueN
  refine congrArg _ (List.filter_congr fun q hq => ?_)
  by_cases hx : q.1 ∈ tchB pos n b
  · obtain ⟨i, hi⟩ := List.getElem?_of_mem hq
    rw [decide_eq_true hx, tch_list w hn h hi hx]
    rfl
  · rw [decide_eq_false hx, Bool.and_false]
/-! ### the procedures as they stand in the program -/
def AnC {m : Nat} (cs : List (Pc m)) (ps : List (PySem.Str × Bool)) : Option (PySem.Str ⊕ (PySem.Str × List Ar)) → Prop
  | none => True
  | some (.inl x) => (x, true) ∈ ps
  | some (.inr (f, as)) => (∃ d, d ∈ cs ∧ d.nm = f ∧ Fits as d.ps) ∧ ∀ x, Ar.ls x ∈ as → (x, true) ∈ ps
theorem an_core {m : Nat} {cs : List (Pc m)} {ps : List (PySem.Str × Bool)} {a : An} : AnOk cs ps a ↔ AnC cs ps (core a) := by
  obtain ⟨n, s⟩ := a
  cases s <;> exact Iff.rfl
theorem AnC.mono {m : Nat} {cs cs' : List (Pc m)} {ps : List (PySem.Str × Bool)} {k : Option (PySem.Str ⊕ (PySem.Str × List Ar))} (h : AnC cs ps k) (hm : ∀ d, d ∈ cs → ∃ d', d' ∈ cs' ∧ d'.nm = d.nm ∧ d'.ps = d.ps) : AnC cs' ps k := by
  match k, h with
  | none, _ => trivial
  | some (.inl x), h => exact h
  | some (.inr (f, as)), h =>
    obtain ⟨⟨d, hd, e, hf⟩, h2⟩ := h
    obtain ⟨d', h3, h4, h5⟩ := hm d hd
    exact ⟨⟨d', h3, h4.trans e, h5 ▸ hf⟩, h2⟩
theorem SamL.trip {m : Nat} {cs cs' cp : List (Pc m)} (s : SamL cs cs') (h : cp.map SW.trip = cs'.map SW.trip) : SamL cs cp := by
  have hl : cp.length = cs'.length := by
    have := congrArg List.length h
    rwa [List.length_map, List.length_map] at this
  refine ⟨hl.trans s.len, fun i c c' hc hc' => ?_⟩
  have hi : i < cp.length := (List.getElem?_eq_some_iff.mp hc').1
  have hi' : i < cs'.length := by omega
  have e : (cp.map SW.trip)[i]? = (cs'.map SW.trip)[i]? := by rw [h]
  rw [List.getElem?_map, List.getElem?_map, hc', List.getElem?_eq_getElem hi'] at e
  have e := Option.some.inj e
  unfold SW.trip at e
  obtain ⟨e1, e2⟩ := Prod.mk.inj e
  obtain ⟨e2, e3⟩ := Prod.mk.inj e2
  have k := s.at_ i c _ hc (List.getElem?_eq_getElem hi')
  exact ⟨e1.trans k.nm, e2.trans k.ps, by rw [e3]; exact k.fl, by rw [e3]; exact k.ok⟩
theorem PtsAt.trip {K : PySem.W.Frag} {H : Hp} {ys : List V} {m : Nat} {cs' cp : List (Pc m)} (p : PtsAt K H ys cs') (h : cp.map SW.trip = cs'.map SW.trip) : PtsAt K H ys cp := by
  have hl : cp.length = cs'.length := by
    have := congrArg List.length h
    rwa [List.length_map, List.length_map] at this
  refine ⟨p.len.trans hl.symm, fun i v c' hv hc' => ?_⟩
  have hi : i < cp.length := (List.getElem?_eq_some_iff.mp hc').1
  have hi' : i < cs'.length := by omega
  have e : (cp.map SW.trip)[i]? = (cs'.map SW.trip)[i]? := by rw [h]
  rw [List.getElem?_map, List.getElem?_map, hc', List.getElem?_eq_getElem hi'] at e
  have e := Option.some.inj e
  unfold SW.trip at e
  obtain ⟨e1, e2⟩ := Prod.mk.inj e
  obtain ⟨e2, e3⟩ := Prod.mk.inj e2
  obtain ⟨t, v0, v2, v3, v4, v5, v6, v7, v8, q1, q2, q3, q4⟩ := (p.at_ i v _ hv (List.getElem?_eq_getElem hi')).ex
  exact ⟨t, v0, v2, v3, v4, v5, v6, v7, v8, q1, by rw [e1]; exact q2, by rw [e2]; exact q3, by rw [e3]; exact q4⟩
/-- all that the law knows of them -/
structure AllOk (cp : List (Pc 5)) : Prop where
  ok : ∀ c, c ∈ cp → c.ok
  lw : LwOk cp
  tot : (cp.map fun c => (lnm c.ps).length).sum ≤ 20
  len : cp.length ≤ 3
theorem sum_le3 {α : Type} {f : α → Nat} : ∀ {l : List α}, (∀ a, a ∈ l → f a ≤ 3) → (l.map f).sum ≤ 3 * l.length
  | [], _ => Nat.le_refl _
  | a :: r, h => by
    rw [List.map_cons, List.sum_cons, List.length_cons]
    have := h a List.mem_cons_self
    have := sum_le3 fun b hb => h b (List.mem_cons_of_mem _ hb)
    omega
theorem all_ok {ns : List PySem.Str} {cs cp : List (Pc 5)} {kn : List Kn} {i : Nat} (z : GsOk ns cs kn i) (hi : i ≤ 3) (hn : ns.Nodup) (hl : ns.length = 16) (s : SamL cs cp) : AllOk cp := by
  have hcl := z.len
  have hpl := s.len
  have frm : ∀ c', c' ∈ cp → ∃ c, c ∈ cs ∧ SamC c c' := fun c' hc' => by
    obtain ⟨j, hj⟩ := List.getElem?_of_mem hc'
    have h1 : j < cp.length := (List.getElem?_eq_some_iff.mp hj).1
    have h2 : j < cs.length := by omega
    exact ⟨cs[j], List.getElem_mem h2, s.at_ j _ c' (List.getElem?_eq_getElem h2) hj⟩
  have to_ : ∀ c, c ∈ cs → ∃ c', c' ∈ cp ∧ c'.nm = c.nm ∧ c'.ps = c.ps := fun c hc => by
    obtain ⟨j, hj⟩ := List.getElem?_of_mem hc
    have h1 : j < cs.length := (List.getElem?_eq_some_iff.mp hj).1
    have h2 : j < cp.length := by omega
    have k := s.at_ j c _ hj (List.getElem?_eq_getElem h2)
    exact ⟨cp[j], List.getElem_mem h2, k.nm, k.ps⟩
  have nms : (cp.map fun c => c.nm) = cs.map fun c => c.nm := by
    refine List.ext_getElem (by rw [List.length_map, List.length_map, hpl]) fun j h1 h2 => ?_
    rw [List.getElem_map, List.getElem_map]
    rw [List.length_map] at h1 h2
    exact (s.at_ j _ _ (List.getElem?_eq_getElem h2) (List.getElem?_eq_getElem h1)).nm
  have lls : ∀ c', c' ∈ cp → (lnm c'.ps).length ≤ 3 := fun c' hc' => by
    obtain ⟨c, hc, k⟩ := frm c' hc'
    rw [k.ps]
    exact z.ll c hc
  refine ⟨fun c' hc' => ?_, ⟨?_, fun c' hc' => ?_, fun c' hc' a ha => ?_⟩, ?_, by omega⟩
  · obtain ⟨c, hc, k⟩ := frm c' hc'
    have h := z.ok c hc
    exact ⟨by rw [k.ps]; exact h.ps, k.ok, by rw [flC_len k.fl]; exact h.flat⟩
  · rw [nms]
    exact z.nd hn hl hi
  · obtain ⟨c, hc, k⟩ := frm c' hc'
    rw [k.ps]
    exact z.pn c hc
  · obtain ⟨c, hc, k⟩ := frm c' hc'
    have h1 : core a ∈ flC 5 c.body := by
      rw [← k.fl]
      exact List.mem_map.mpr ⟨a, ha, rfl⟩
    obtain ⟨a0, h2, h3⟩ := List.mem_map.mp h1
    have h4 := an_core.mp (z.an c hc a0 h2)
    rw [h3] at h4
    rw [k.ps]
    exact an_core.mpr (h4.mono to_)
  · have := sum_le3 lls
    omega
end SW

set_option maxHeartbeats 8000000
namespace SW
open PySem PySem.Spec PyProof.Rows L2
abbrev s_law : Stmt := topS 32
theorem sc_law : FnScope ["script", "hand", "parts", "program", "changes", "at", "one", "procedure", "expected", "place", "step", "found", "block", "touched", "due", "name", "is_list"] ["script"] (defScope s_law) := ⟨rfl, rfl, rfl, by decide +kernel, rfl, by decide +kernel, by decide +kernel⟩

section
variable {P : Program} {w : World} {K : PySem.W.Frag} {mg : PySem.Str → Option Value} {base : Heap} {CP CG pp gg : Addr}
def spLaw (K : PySem.W.Frag) : Sp := fun vs H Q _ => ∃ (a : Addr) (ns : List Int), vs = [.ref a] ∧ SqL K H a (ns.map V.int) ∧ ns.length ≤ 63 ∧ ∀ H', Q (.bl true) H'
theorem ok_law (T : TxQ K mg CP CG pp gg) (c_called : CkM K CG "called" "Program.called" s_called ["self", "name"]) (c_list : CkG K gg) (c_P : CkI K CP "Procedure.__init__" s_Procedure prP) (c_G : CkI K CG "Program.__init__" s_Program ["self", "procedures"]) (D_law : Df K mg "law" s_law ["script"]) (D_changed_lists : Df K mg "changed_lists" s_changed_lists ["program", "procedure"]) (D_changed_in : Df K mg "changed_in" s_changed_in ["program", "procedure", "block"]) (D_all_changed : Df K mg "_all_changed" s_all_changed ["program"]) (D_changed_by : Df K mg "_changed_by" s_changed_by ["program", "procedure", "block", "changed"]) (D_statements_in : Df K mg "statements_in" s_statements_in ["block"]) (D_blocks_of : Df K mg "_blocks_of" s_blocks_of ["statement"]) (D_changed_by_call : Df K mg "_changed_by_call" s_changed_by_call ["program", "call", "changed"]) (D_l_draws : Df K mg "_law_draws" s_l_draws ["script", "many"]) (D_l_take : Df K mg "_law_take" s_l_take ["hand", "many"]) (D_l_names : Df K mg "_law_names" s_l_names ["hand"]) (D_l_rows : Df K mg "_law_rows" s_l_rows ["block", "row"]) (D_l_parts : Df K mg "_law_parts" s_l_parts ["procs"]) (D_l_made : Df K mg "_law_made" s_l_made ["one"]) (D_l_program : Df K mg "_law_program" s_l_program ["parts"]) (D_l_gen : Df K mg "_law_gen" s_l_gen ["hand", "n", "moved"]) (D_l_gen_block : Df K mg "_law_gen_block" s_l_gen_block ["hand", "ctx", "depth", "whiles", "many", "budget"]) (D_l_gen_simple : Df K mg "_law_gen_simple" s_l_gen_simple ["hand", "ctx"]) (D_l_gen_call : Df K mg "_law_gen_call" s_l_gen_call ["hand", "ctx"]) (D_l_gen_condition : Df K mg "_law_gen_condition" s_l_gen_condition ["hand", "ctx"]) (D_l_gen_cmp : Df K mg "_law_gen_cmp" s_l_gen_cmp ["hand", "ctx"]) (D_l_gen_term : Df K mg "_law_gen_term" s_l_gen_term ["hand", "ctx"]) (D_l_gen_index : Df K mg "_law_gen_index" s_l_gen_index ["hand", "ctx", "name"]) (D_l_gen_plain : Df K mg "_law_gen_plain" s_l_gen_plain ["hand", "ctx"]) (D_l_touched : Df K mg "_law_touched" s_l_touched ["block", "changes"]) (D_l_changes : Df K mg "_law_changes" s_l_changes ["parts"]) (D_l_blocks : Df K mg "_law_blocks" s_l_blocks ["block"]) (D_l_is_list : Df K mg "_law_is_list" s_l_is_list ["found", "expected"]) : FnOk P w K mg base CX0 14 D_law.f D_law.fd ["script"] (spLaw K) := by
  have G_changed_lists := ok_changed_lists (P := P) (w := w) (base := base) T c_called c_list D_changed_lists D_changed_in D_all_changed D_changed_by D_statements_in D_blocks_of D_changed_by_call
  have G_changed_in := ok_changed_in (P := P) (w := w) (base := base) T c_called c_list D_changed_in D_all_changed D_changed_by D_statements_in D_blocks_of D_changed_by_call
  have G_l_draws := ok_l_draws (P := P) (w := w) (K := K) (base := base) T.toTxB D_l_draws
  have G_l_take := ok_l_take (P := P) (w := w) (K := K) (base := base) T.toTxB D_l_take
  have G_l_names := ok_l_names (P := P) (w := w) (K := K) (base := base) T.toTxB D_l_names D_l_take
  have G_l_gen := ok_l_gen (P := P) (w := w) (base := base) T.toTxB D_l_gen D_l_gen_block D_l_gen_simple D_l_gen_call D_l_gen_condition D_l_gen_cmp D_l_gen_term D_l_gen_index D_l_gen_plain D_l_take
  have G_l_parts := ok_l_parts (P := P) (w := w) (base := base) T.toTxB D_l_parts D_l_rows
  have G_l_program := ok_l_program (P := P) (w := w) (base := base) T c_P c_G D_l_program D_l_made
  have G_l_changes := ok_l_changes (P := P) (w := w) (base := base) T.toTxB D_l_changes D_l_touched
  have G_l_touched : FnOk P w K mg base CX0 9 D_l_touched.f D_l_touched.fd ["block", "changes"] (fun vs H Q E => ∃ n, n < 8 ∧ spTch K n vs H Q E) := fn_upto8 fun n hn => (ok_l_touched (P := P) (w := w) (base := base) T.toTxB D_l_touched n).mono (by omega)
  have G_l_blocks : FnOk P w K mg base CX0 9 D_l_blocks.f D_l_blocks.fd ["block"] (fun vs H Q E => ∃ n, n < 8 ∧ spBks K n vs H Q E) := fn_upto8 fun n hn => (ok_l_blocks (P := P) (w := w) (base := base) T.toTxB D_l_blocks n).mono (by omega)
  have G_l_is_list := ok_l_is_list (P := P) (w := w) (K := K) (base := base) T.toTxB D_l_is_list
  refine D_law.F.ok sc_law (fun vs H Q E h => ?_) (fun cdv A outer s H vs Q E hr h => ?_)
  · obtain ⟨a, ns, rfl, _⟩ := h
    rfl
  · obtain ⟨a, ns, rfl, hS, hn, q⟩ := h
    refine ⟨_, (pss_cons (ps_set (i := 1) sc_law.nd rfl (.inl rfl) (pe_lst (pa_cons (pe_call G_l_draws (hr.mono (by decide)) (by rfl) D_l_draws.g D_l_draws.F.kp D_l_draws.b .nil pass0 (pa_cons (pv 0) (pa_cons pe_int pa_nil))) (pa_cons pe_int pa_nil))))
    (pss_cons (ps_set (i := 2) sc_law.nd rfl (.inl rfl) (pe_call G_l_parts (hr.mono (by decide)) (by rfl) D_l_parts.g D_l_parts.F.kp D_l_parts.b .nil pass0 (pa_cons (pe_call G_l_gen (hr.mono (by decide)) (by rfl) D_l_gen.g D_l_gen.F.kp D_l_gen.b .nil pass0 (pa_cons (pv 1) (pa_cons (pe_call G_l_names (hr.mono (by decide)) (by rfl) D_l_names.g D_l_names.F.kp D_l_names.b .nil pass0 (pa_cons (pv 1) pa_nil)) (pa_cons (pe_ix ix_list (pe_lst (pa_cons pe_int (pa_cons pe_int (pa_cons pe_int pa_nil)))) (pe_call G_l_take (hr.mono (by decide)) (by rfl) D_l_take.g D_l_take.F.kp D_l_take.b .nil pass0 (pa_cons (pv 1) (pa_cons pe_int pa_nil))) (fun _ _ => rfl)) pa_nil)))) pa_nil)))
    (pss_cons (ps_set (i := 3) sc_law.nd rfl (.inl rfl) (pe_call G_l_program (hr.mono (by decide)) (by rfl) D_l_program.g D_l_program.F.kp D_l_program.b .nil pass0 (pa_cons (pv 2) pa_nil)))
    (pss_cons (ps_set (i := 4) sc_law.nd rfl (.inl rfl) (pe_call G_l_changes (hr.mono (by decide)) (by rfl) D_l_changes.g D_l_changes.F.kp D_l_changes.b .nil pass0 (pa_cons (pv 2) pa_nil)))
    (pss_cons (ps_for PassesOwn.never rfl (pi_range1 (by rfl) T.n_range (pa_cons (pe_callB call_len_seq (by rfl) T.n_len PySem.boot_len (pa_cons (pv 2) pa_nil)) pa_nil)) (pg_name (i := 5) sc_law.nd rfl (.inl rfl))
    (pss_cons (ps_set (i := 6) sc_law.nd rfl (.inr rfl) (pe_ix ix_list (pv 2) (pv 5) (fun _ _ => rfl)))
    (pss_cons (ps_set (i := 7) sc_law.nd rfl (.inl rfl) (pe_ix ix_tup (pe_fld (pv 3) rfl) (pv 5) (fun _ _ => rfl)))
    (pss_cons (ps_setLc (i := 8) (own := [("place", 9)]) (g := gName 9) (by rfl) sc_law.nd rfl rfl (sw_true rfl rfl rfl (by decide +kernel)) (pi_list (pe_dget (hu_of hr) (pv 4) (pe_ix ix_tup (pv 6) pe_int (fun _ _ => rfl)) (fun _ _ => rfl))) (blkOk_by (own := [("place", 9)]) (N := ["script", "hand", "parts", "program", "changes", "at", "one", "procedure", "expected", "place", "step", "found", "block", "touched", "due", "name", "is_list"]) (sc := defScope s_law) (by decide +kernel)) (fun _ _ _ _ _ => pg_name (i := 9) sc_law.nd rfl (Or.inl rfl)) (fun _ _ _ _ _ => pts_nil) (fun _ _ _ _ _ => (pe_ix (show IxR _ (rIxT K) from ix_tup) (pe_ix (show IxR _ (rIxT K) from ix_tup) (pe_ix (show IxR _ (rIxT K) from ix_tup) (pv 6) pe_int (fun _ _ => rfl)) (pv 9) (fun _ _ => rfl)) pe_int (fun _ _ => rfl))))
    (pss_cons (ps_for PassesOwn.never rfl (pi_range1 (by rfl) T.n_range (pa_cons pe_int pa_nil)) (pg_name (i := 10) sc_law.nd rfl (.inl rfl))
    (pss_cons (ps_set (i := 11) sc_law.nd rfl (.inl rfl) (pe_call G_changed_lists (hr.mono (by decide)) (by rfl) D_changed_lists.g D_changed_lists.F.kp D_changed_lists.b .nil pass0 (pa_cons (pv 3) (pa_cons (pv 7) pa_nil))))
    (pss_cons (ps_if (pt_not (pt_val (pe_call G_l_is_list (hr.mono (by decide)) (by rfl) D_l_is_list.g D_l_is_list.F.kp D_l_is_list.b .nil pass0 (pa_cons (pv 11) (pa_cons (pv 8) pa_nil)))))
    (pss_one (ps_ret pe_bl))
    pss_nil)
    (pss_one (ps_expr (pe_bm PySem.F.plainAttrs_list PySem.F.slot_list_append PySem.F.type_list_append mt_append (pv 11) (pa_cons pe_str pa_nil)))))))
    (pss_one (ps_for PassesOwn.never rfl (pi_list (pe_call G_l_blocks (hr.mono (by decide)) (by rfl) D_l_blocks.g D_l_blocks.F.kp D_l_blocks.b .nil pass0 (pa_cons (pe_ix ix_tup (pv 6) pe_int (fun _ _ => rfl)) pa_nil))) (pg_name (i := 12) sc_law.nd rfl (.inl rfl))
    (pss_cons (ps_set (i := 13) sc_law.nd rfl (.inr rfl) (pe_call G_l_touched (hr.mono (by decide)) (by rfl) D_l_touched.g D_l_touched.F.kp D_l_touched.b .nil pass0 (pa_cons (pv 12) (pa_cons (pv 4) pa_nil))))
    (pss_cons (ps_setLc (i := 14) (own := [("name", 15), ("is_list", 16)]) (g := gTup K 2 (gCons (gName 15) (gCons (gName 16) gNil))) (by rfl) sc_law.nd rfl rfl (sw_true rfl rfl rfl (by decide +kernel)) (pi_tup (pe_ix ix_tup (pv 6) pe_int (fun _ _ => rfl))) (blkOk_by (own := [("name", 15), ("is_list", 16)]) (N := ["script", "hand", "parts", "program", "changes", "at", "one", "procedure", "expected", "place", "step", "found", "block", "touched", "due", "name", "is_list"]) (sc := defScope s_law) (by decide +kernel)) (fun _ _ _ _ _ => pg_tup rfl (pgs_cons (pg_name (i := 15) sc_law.nd rfl (Or.inl rfl)) (pgs_cons (pg_name (i := 16) sc_law.nd rfl (Or.inl rfl)) pgs_nil))) (fun _ _ _ _ _ => pts_one (PW.pt (pw_and (pt_val (pv 16)) (pw_and1 (pt_cmpR (show OpR _ (compareOp .In) (rIn K false) from op_in_seq) (pv 15) (pv 13) (by rfl)))))) (fun _ _ _ _ _ => (pv 15)))
    (pss_one (ps_for PassesOwn.never rfl (pi_range1 (by rfl) T.n_range (pa_cons pe_int pa_nil)) (pg_name (i := 10) sc_law.nd rfl (.inl rfl))
    (pss_cons (ps_set (i := 11) sc_law.nd rfl (.inl rfl) (pe_call G_changed_in (hr.mono (by decide)) (by rfl) D_changed_in.g D_changed_in.F.kp D_changed_in.b .nil pass0 (pa_cons (pv 3) (pa_cons (pv 7) (pa_cons (pv 12) pa_nil)))))
    (pss_cons (ps_if (pt_not (pt_val (pe_call G_l_is_list (hr.mono (by decide)) (by rfl) D_l_is_list.g D_l_is_list.F.kp D_l_is_list.b .nil pass0 (pa_cons (pv 11) (pa_cons (pv 14) pa_nil)))))
    (pss_one (ps_ret pe_bl))
    pss_nil)
    (pss_one (ps_expr (pe_bm PySem.F.plainAttrs_list PySem.F.slot_list_append PySem.F.type_list_append mt_append (pv 11) (pa_cons pe_str pa_nil)))))))))))))))))
    (pss_one (ps_ret pe_bl))))))), ?_⟩
    refine ⟨_, rfl, a, ns, 400, rfl, hS, by omega, by decide, fun D ds H1 s1 nD eD => ⟨by show 2 ≤ sizeLine; decide, fun h nh => ?_⟩⟩
    generalize hG2 : upd H1 h _ = H2
    obtain ⟨s2, e2⟩ := new_of nh hG2
    have hd2 : Hand H2 h D ds := ⟨⟨0, e2⟩, s2 _ _ eD, ne_of_none eD nh⟩
    refine ⟨_, rfl, _, rfl, h, D, ds, rfl, hd2, fun N nm H3 b3 hd3 eN n16 nnd => ?_⟩
    refine ⟨by show 3 ≤ sizeLine; decide, fun tm nt => ?_⟩
    generalize hG4 : upd H3 tm _ = H4
    obtain ⟨s4, e4⟩ := new_of nt hG4
    refine ⟨_, rfl, h, D, ds, 3, rfl, by decide, hd3.same s4, fun r5 H5 r50 r51 b5 hd5 _ => ?_⟩
    obtain ⟨v5, hv5, ev5⟩ := atI_in (xs := [.int 0, .int 1, .int 4]) (i := r5) r50 (by show _ < (3 : Int); omega)
    obtain ⟨mv, rfl, hmv⟩ : ∃ mv : Int, v5 = .int mv ∧ 0 ≤ mv := by
      simp only [List.mem_cons, List.not_mem_nil, or_false] at hv5
      rcases hv5 with rfl | rfl | rfl <;> exact ⟨_, rfl, by decide⟩
    have hNh : N ≠ h := by
      obtain ⟨⟨i, e⟩, _, _⟩ := hd3
      intro e9
      rw [e9, e] at eN
      exact strs_ne (HO.lst.inj (Option.some.inj eN)).symm
    refine ⟨tm, _, _, _, rfl, rfl, SqL.of (b5 _ _ (hand_ne hd3 nt) e4), ev5, h, D, N, ds, nm, mv, rfl, hd5, b5 _ _ hNh (s4 _ _ eN), n16, nnd, hmv, fun Ap ps cs kn i H6 b6 hd6 eAp pq hi gs => ?_⟩
    have hcl := gs.len
    refine ⟨Ap, ps, 5, cs, rfl, eAp, pq, gs.ok, by decide, by omega, fun M ys cs' H7 s7 eM pt sm => ?_⟩
    have hyl : ys.length ≤ 3 := by
      have h1 := pt.len
      have h2 := sm.len
      omega
    have cok' : ∀ c, c ∈ cs' → c.ok := (all_ok gs hi nnd n16 sm).ok
    refine ⟨_, rfl, M, ys, 5, cs', rfl, eM, pt, cok', by omega, fun pg cp H8 s8 pga tr => ?_⟩
    have sm2 := sm.trip tr
    have al := all_ok gs hi nnd n16 sm2
    have pt8 := (pt.trip tr).same s8
    clear pt sm sm2 gs pq eAp hd6 b6 ev5 hv5 cok'
    have hlen := al.len
    refine ⟨_, rfl, M, ys, 5, cp, rfl, s8 _ _ eM, pt8, al.ok, al.lw, by omega, by decide, fun cd H9 s9 ncd pk => ?_⟩
    have pt9 := pt8.same s9
    have eM9 := s9 _ _ (s8 _ _ eM)
    have pg9 := pga.same s9
    have ap := apart_of al.lw.nd
    have po : PgOk cp := ⟨al.ok, al.lw.nd, by omega, by decide, al.tot⟩
    have rl := rel_it al.lw 20
    have fx := it_end ap al.tot
    clear pt8 pga
    obtain ⟨dxg, tg, hpg, htg⟩ := pg9.ex
    have hyc := pt9.len
    refine ⟨_, rfl, M, _, rfl, .inl (SqL.of eM9), _, rfl, by omega, by omega, ?_⟩
    refine for_range (lo := 0) (n := ((ys.length : Nat) : Int).toNat) (fun i σ J => Same H9 J ∧ ∃ y5 y6 y7 y8 y9 y10 y11 y12 y13 y14 y15 y16 : Option V, σ = [some (.ref a), some (.ref h), some (.ref M), some (.ref pg), some (.ref cd), y5, y6, y7, y8, y9, y10, y11, y12, y13, y14, y15, y16]) ⟨Same.refl _, _, _, _, _, _, _, _, _, _, _, _, _, rfl⟩ (fun i σ J hi hP => ?_) (fun σ J hP => ?_)
    · obtain ⟨sJ, y5, y6, y7, y8, y9, y10, y11, y12, y13, y14, y15, y16, rfl⟩ := hP
      have hiy : i < ys.length := by omega
      have hic : i < cp.length := by omega
      have hv := List.getElem?_eq_getElem hiy
      have hc := List.getElem?_eq_getElem hic
      have hcm := List.getElem_mem hic
      obtain ⟨t, v0, v2, v3, v4, v5, v6, v7, v8, ev, ht, d2, d8⟩ := ((pt9.same sJ).at_ i _ _ hv hc).ex
      rw [ev] at hv
      have hcp : (cp.map fun c => V.ref c.p)[i]? = some (.ref cp[i].p) := by rw [List.getElem?_map, hc]; rfl
      generalize cp[i] = c at ht d2 d8 hcm hcp hc
      have hcok := al.ok c hcm
      have hpn := al.lw.pn c hcm
      have pgJ := pg9.same sJ
      refine ⟨_, rfl, _, rfl, M, _, _, _, rfl, rfl, SqL.of (sJ _ _ eM9), at_nat (j := i) (Int.zero_add _) hv, ?_⟩
      refine ⟨_, rfl, pg, CG, dxg, _, _, rfl, sJ _ _ hpg, T.cl, T.b0, rfl, _, rfl, tg, _, _, _, rfl, rfl, sqt_same sJ htg, at_nat (j := i) (Int.zero_add _) hcp, ?_⟩
      obtain ⟨kvs, k1, k2, k3⟩ := (pk.same sJ).ex
      obtain ⟨l, l1, l2⟩ := k3 c hcm
      obtain ⟨tp, zs, rfl, htp, dzp⟩ := dp_tup_inv d2
      have hrn := rl.nm c hcm
      have hrl := rl.lt c hcm
      have hpl : (itL cp 20 c.nm).length ≤ 1000 := by
        have e := congrArg List.length hrn
        rw [List.length_map] at e
        rw [← e, ← fx c hcm]
        unfold byN
        refine Nat.le_trans (List.length_filter_le _ _) ?_
        rw [List.length_map]
        refine Nat.le_trans (List.length_filter_le _ _) ?_
        have := hcok.ps
        omega
      refine ⟨_, rfl, _, rfl, t, _, _, _, rfl, rfl, ht, atI_nat (j := 1) rfl, cd, .ref l, rfl, l1 ▸ DGet.k (k := .inr c.nm) k1, l, rfl, ⟨_, SqL.of l2⟩, fun F nF => ?_⟩
      refine lc_list (K := K) (a := l) (xs := (itL cp 20 c.nm).map fun i => V.int (i : Nat)) (fun j G => Same J G ∧ G F = some (.lst ((((itL cp 20 c.nm).take j).map (nmAt c.ps)).map V.str))) ⟨same_new nF, upd_same⟩ (fun j G _ hP => SqL.of (hP.1 _ _ l2)) (fun j x G hx hP => ?_) (fun J1 hP => ?_)
      · obtain ⟨sG, eF⟩ := hP
        rw [List.getElem?_map] at hx
        obtain ⟨p0, hp0, rfl⟩ := Option.map_eq_some_iff.mp hx
        obtain ⟨hj, hjp⟩ := List.getElem?_eq_some_iff.mp hp0
        obtain ⟨q0, hq0, _⟩ := hrl p0 (List.mem_of_getElem? hp0)
        obtain ⟨hpi, hq1⟩ := List.getElem?_eq_some_iff.mp hq0
        obtain ⟨x, gx, dx⟩ := dp_mem dzp hpi
        rw [hq1] at dx
        obtain ⟨t2, w1, w2, rfl, ht2, m1, m2⟩ := dp_inv2 dx
        cases dp_str_inv m1
        refine ⟨rfl, _, rfl, t, _, _, _, rfl, rfl, sqt_same sG ht, atI_nat (j := 2) rfl, _, rfl, tp, _, _, _, rfl, rfl, sqt_same sG htp, atI_nat gx, t2, _, _, _, rfl, rfl, sqt_same sG ht2, atI_nat (j := 0) rfl, _, eF, small_sz5 (by rw [List.length_map, List.length_map, List.length_take]; omega), same_mut sG nF, ?_⟩
        rw [upd_same, List.take_succ_eq_append_getElem hj, hjp, List.map_append, List.map_append]
        rw [show [p0].map (nmAt c.ps) = [q0.1] by rw [List.map_cons, nmAt_of hq0]; rfl]
        rfl
      obtain ⟨sJ1, eF⟩ := hP
      rw [List.take_of_length_le (by rw [List.length_map]; exact Nat.le_refl _), ← hrn] at eF
      have s91 := sJ.trans sJ1
      refine ⟨_, rfl, by decide, by decide, ?_⟩
      refine for_range (lo := 0) (n := 2) (fun k σ G => Same J1 G ∧ ∃ y9 y10 y11 y12 y13 y14 y15 y16 : Option V, σ = [some (.ref a), some (.ref h), some (.ref M), some (.ref pg), some (.ref cd), some (.int (0 + (i : Nat))), some (.ref t), some (.ref c.p), some (.ref F), y9, y10, y11, y12, y13, y14, y15, y16]) ⟨Same.refl _, _, _, _, _, _, _, _, _, rfl⟩ (fun k σ G hk hP => ?_) (fun σ G hP => ?_)
      · obtain ⟨sG, y9, y10, y11, y12, y13, y14, y15, y16, rfl⟩ := hP
        have s9G := s91.trans sG
        refine ⟨_, rfl, _, rfl, pg, 5, cp, c, rfl, pg9.same s9G, po, hcm, fun F2 G2 s2 nF2 eF2 => ?_⟩
        rw [fx c hcm] at eF2
        refine ⟨_, rfl, _, rfl, F2, F, _, _, rfl, eF2, (sG.trans s2) _ _ eF, _, rfl, ?_⟩
        rw [decide_eq_true rfl]
        refine iteF ?_
        refine ⟨_, rfl, .inl ⟨rfl, _, SqL.of eF2⟩, F2, _, _, rfl, rfl, eF2, small_sz5 (by rw [List.length_map, hrn, List.length_map]; omega), ?_⟩
        exact ⟨same_mut (sG.trans s2) (sG.free nF2), _, _, _, _, _, _, _, _, rfl⟩
      · obtain ⟨sG, y9, y10, y11, y12, y13, y14, y15, y16, rfl⟩ := hP
        have sJG := sJ1.trans sG
        have s9G := s91.trans sG
        refine ⟨_, rfl, t, _, _, _, rfl, rfl, sqt_same sJG ht, atI_nat (j := 8) rfl, 5, by decide, v8, c.body, rfl, d8.same sJG, hcok.body, hcok.flat, fun B us Jb sb nB eB dB => ⟨B, rfl, ⟨_, SqL.of eB⟩, ?_⟩⟩
        have hul : us.length = (blks 5 c.body).length := by rw [dpa_len dB, List.length_map]
        have s9b := s9G.trans sb
        have sJb := sJG.trans sb
        refine for_list (K := K) (a := B) (xs := us) (fun j σ W => Same Jb W ∧ ∃ y9 y10 y11 y12 y13 y14 y15 y16 : Option V, σ = [some (.ref a), some (.ref h), some (.ref M), some (.ref pg), some (.ref cd), some (.int (0 + (i : Nat))), some (.ref t), some (.ref c.p), some (.ref F), y9, y10, y11, y12, y13, y14, y15, y16]) ⟨Same.refl _, _, _, _, _, _, _, _, _, rfl⟩ (fun j σ W _ hP => SqL.of (hP.1 _ _ eB)) (fun j x σ W hx hP => ?_) (fun σ W hP => ?_)
        · obtain ⟨sW, y9, y10, y11, y12, y13, y14, y15, y16, rfl⟩ := hP
          have hj : j < (blks 5 c.body).length := by
            rw [← hul]
            exact (List.getElem?_eq_some_iff.mp hx).1
          obtain ⟨v', g1, dv⟩ := dp_mem dB hj
          rw [hx] at g1
          cases g1
          obtain ⟨kn5, kok, kan, kfl⟩ := blks_all (p := AnOk cp c.ps) 5 c.body hcok.body (al.lw.an c hcm) _ (List.getElem_mem hj)
          generalize (blks 5 c.body)[j] = k at dv kn5 kok kan kfl
          have dvW := dv.same sW
          have s9W := s9b.trans sW
          have sJW := sJb.trans sW
          have hfl := hcok.flat
          have hdue := due_by al.lw rl hpn kan
          refine ⟨_, rfl, _, rfl, k.n, by omega, x, cd, 5, cp, itL cp 20, k.b, rfl, dvW, kok, pk.same s9W, fun a ha => cal_ok rl al.ok (kan a ha), by omega, fun Z W2 s2 nZ eZ => ?_⟩
          have sJ2 := sJW.trans s2
          refine ⟨_, rfl, t, _, _, _, rfl, rfl, sqt_same sJ2 ht, atI_nat (j := 2) rfl, tp, rfl, ⟨_, sqt_same sJ2 htp⟩, fun F3 nF3 => ?_⟩
          have hzl : zs.length = c.ps.length := by rw [dpa_len dzp, List.length_map]
          have hcps := hcok.ps
          refine lc_tup (K := K) (a := tp) (xs := zs) (fun j2 G3 => Same W2 G3 ∧ G3 F3 = some (.lst ((dueN (c.ps.take j2) (tchB (itL cp 20) k.n k.b)).map V.str))) ⟨same_new nF3, upd_same⟩ (fun j2 G3 _ hP => sqt_same (sJ2.trans hP.1) htp) (fun j2 x2 G3 hx2 hP => ?_) (fun W3 hP => ?_)
          · obtain ⟨s3, e3⟩ := hP
            have hj2 : j2 < c.ps.length := by
              rw [← hzl]
              exact (List.getElem?_eq_some_iff.mp hx2).1
            obtain ⟨v', g2, dx2⟩ := dp_mem dzp hj2
            rw [hx2] at g2
            cases g2
            have htk : c.ps.take (j2 + 1) = c.ps.take j2 ++ [c.ps[j2]] := List.take_succ_eq_append_getElem hj2
            generalize c.ps[j2] = pq at dx2 htk
            obtain ⟨pn, pb⟩ := pq
            obtain ⟨t4, w1, w2, rfl, ht4, m1, m2⟩ := dp_inv2 dx2
            cases dp_str_inv m1
            obtain rfl := dp_bool_inv m2
            have dl : (dueN (c.ps.take j2) (tchB (itL cp 20) k.n k.b)).length ≤ 100 := by
              unfold dueN
              rw [List.length_map]
              refine Nat.le_trans (List.length_filter_le _ _) ?_
              rw [List.length_take]
              omega
            have dsn : dueN (c.ps.take (j2 + 1)) (tchB (itL cp 20) k.n k.b) = dueN (c.ps.take j2) (tchB (itL cp 20) k.n k.b) ++ dueN [(pn, pb)] (tchB (itL cp 20) k.n k.b) := by
              rw [htk]
              unfold dueN
              rw [List.filter_append, List.map_append]
            refine ⟨t4, _, rfl, sqt_same (sJ2.trans s3) ht4, rfl, _, _, rfl, _, _, rfl, rfl, rfl, _, rfl, pb, rfl, ?_⟩
            cases pb with
            | false =>
              refine iteF ⟨s3, ?_⟩
              rw [dsn, show dueN [(pn, false)] (tchB (itL cp 20) k.n k.b) = [] from rfl, List.append_nil]
              exact e3
            | true =>
              refine iteT ⟨_, rfl, _, rfl, Z, _, rfl, .inl (SqL.of (s3 _ _ eZ)), rfl, flat_strs _, _, rfl, ?_⟩
              show if inV (.str pn) ((tchB (itL cp 20) k.n k.b).map V.str) = true then _ else _
              rw [inV_strs]
              refine ite2 (fun e => ?_) (fun e => ?_)
              · refine ⟨_, rfl, _, e3, small_sz5 (by rw [List.length_map]; omega), same_mut s3 nF3, ?_⟩
                rw [upd_same, dsn, show dueN [(pn, true)] (tchB (itL cp 20) k.n k.b) = [pn] by unfold dueN; rw [List.filter_cons, if_pos (by rw [e]; rfl)]; rfl, List.map_append]
                rfl
              · refine ⟨s3, ?_⟩
                rw [dsn, show dueN [(pn, true)] (tchB (itL cp 20) k.n k.b) = [] by unfold dueN; rw [List.filter_cons, if_neg (by rw [Bool.eq_false_iff.mpr e]; exact Bool.false_ne_true)]; rfl, List.append_nil]
                exact e3
          obtain ⟨s3, e3⟩ := hP
          rw [List.take_of_length_le (by omega)] at e3
          have sb3 := sW.trans (s2.trans s3)
          have s93 := s9b.trans sb3
          have d3l : (dueN c.ps (tchB (itL cp 20) k.n k.b)).length ≤ 100 := by
            unfold dueN
            rw [List.length_map]
            exact Nat.le_trans (List.length_filter_le _ _) hcps
          refine ⟨_, rfl, by decide, by decide, ?_⟩
          refine for_range (lo := 0) (n := 2) (fun k2 σ G3 => Same W3 G3 ∧ ∃ y9 y10 y11 y13 y15 y16 : Option V, σ = [some (.ref a), some (.ref h), some (.ref M), some (.ref pg), some (.ref cd), some (.int (0 + (i : Nat))), some (.ref t), some (.ref c.p), some (.ref F), y9, y10, y11, some x, y13, some (.ref F3), y15, y16]) ⟨Same.refl _, _, _, _, _, _, _, rfl⟩ (fun k2 σ G3 hk2 hP => ?_) (fun σ G3 hP => ?_)
          · obtain ⟨s4, y9, y10, y11, y13, y15, y16, rfl⟩ := hP
            have s94 := s93.trans s4
            refine ⟨_, rfl, _, rfl, _, rfl, pg, 5, cp, c, x, k.n, k.b, rfl, pg9.same s94, po, hcm, by omega, dv.same (sb3.trans s4), kok, by omega, fun F5 G5 s5 nF5 eF5 => ?_⟩
            rw [hdue] at eF5
            refine ⟨_, rfl, _, rfl, F5, F3, _, _, rfl, eF5, (s4.trans s5) _ _ e3, _, rfl, ?_⟩
            rw [decide_eq_true rfl]
            refine iteF ?_
            refine ⟨_, rfl, .inl ⟨rfl, _, SqL.of eF5⟩, F5, _, _, rfl, rfl, eF5, small_sz5 (by rw [List.length_map]; omega), ?_⟩
            exact ⟨same_mut (s4.trans s5) (s4.free nF5), _, _, _, _, _, _, rfl⟩
          · obtain ⟨s4, y9, y10, y11, y13, y15, y16, rfl⟩ := hP
            exact ⟨sb3.trans s4, _, _, _, _, _, _, _, _, rfl⟩
        · obtain ⟨sW, y9, y10, y11, y12, y13, y14, y15, y16, rfl⟩ := hP
          exact ⟨s9b.trans sW, _, _, _, _, _, _, _, _, _, _, _, _, rfl⟩
    · obtain ⟨sJ, y5, y6, y7, y8, y9, y10, y11, y12, y13, y14, y15, y16, rfl⟩ := hP
      exact q J
end
end SW

namespace SW
open PySem PySem.Spec PyProof.Rows L2
theorem txq_mk {K : PySem.W.Frag} {h : Heap} {mg : PySem.Str → Option Value} {CP CG p g : Addr} {rest : List Value} (X : K.In h) (G : h.Ns mainGlobals mg) (B : TxB mg)
    (aP : PySem.W.nsIn K mainGlobals "Procedure" = some (some (.ref CP))) (aG : PySem.W.nsIn K mainGlobals "Program" = some (some (.ref CG)))
    (p1 : PySem.W.plainGet K CP Str.empty = true) (p2 : PySem.W.hasDictIn K CP = true) (p3 : PySem.W.plainOver K CP = true) (p4 : PySem.W.findIn K (.ref CP) "__setattr__" = some (some (.builtin "object.__setattr__")))
    (g1 : PySem.W.plainGet K CG Str.empty = true) (g2 : PySem.W.hasDictIn K CG = true) (g3 : PySem.W.plainOver K CG = true) (g4 : PySem.W.findIn K (.ref CG) "__setattr__" = some (some (.builtin "object.__setattr__")))
    (n0 : PySem.W.findIn K (.ref CP) "row" = some none) (n1 : PySem.W.findIn K (.ref CP) "name" = some none) (n2 : PySem.W.findIn K (.ref CP) "parameters" = some none) (n3 : PySem.W.findIn K (.ref CP) "needs" = some none) (n4 : PySem.W.findIn K (.ref CP) "gives" = some none) (n5 : PySem.W.findIn K (.ref CP) "moves" = some none) (n6 : PySem.W.findIn K (.ref CP) "falls" = some none) (n7 : PySem.W.findIn K (.ref CP) "lets" = some none) (n8 : PySem.W.findIn K (.ref CP) "body" = some none)
    (m0 : PySem.W.findIn K (.ref CG) "procedures" = some none)
    (q1 : PySem.W.findIn K (.ref CP) "list_names" = some (some (.ref p))) (q2 : PySem.W.specialIn K (.ref p) "__get__" = some (some (.builtin "property.__get__"))) (q3 : PySem.W.takesIn K (.ref p) = some true) (q4 : PySem.W.recIn K p "property" = some (.ref g :: rest)) : TxQ K mg CP CG p g :=
  { toTxB := B, cp := ⟨p1, p2, p3, p4⟩, a0 := n0, a1 := n1, a2 := n2, a3 := n3, a4 := n4, a5 := n5, a6 := n6, a7 := n7, a8 := n8, pr := ⟨q1, q2, q3, ⟨rest, q4⟩⟩, mg_Procedure := PySem.W.mg_of X G aP, cl := ⟨g1, g2, g3, g4⟩, b0 := m0, mg_Program := PySem.W.mg_of X G aG }
def ckm_mk {K : PySem.W.Frag} {C f : Addr} {oc : Value} {od an : Option Addr} {sl : Array (Option Value)} {kV doc pm cd ct : Value}
    (a : PySem.W.findIn K (.ref C) "called" = some (some (.ref f))) (i : PySem.W.isFn K (.ref f) = true) (l : K.lookup f = some ⟨oc, od, .func (PySem.W.fnOf "called" "Program.called" (defArgs s_called) (defBody s_called) (defScope s_called) .none kV doc pm an cd ct), sl⟩) (c : PySem.W.codeIn K cd "Program.called" = true) (k : PySem.W.keepIn K (.ref f) = true) : CkM K C "called" "Program.called" s_called ["self", "name"] :=
  ⟨f, _, fun_mk (st := s_called) l c k, (fun_mk (st := s_called) l c k).binds (ps := ["self", "name"]) fun _ _ _ _ _ _ us hl => match us, hl with | [_, _], _ => rfl, ⟨a, i, k⟩⟩
def ckg_mk {K : PySem.W.Frag} {g : Addr} {oc : Value} {od an : Option Addr} {sl : Array (Option Value)} {kV doc pm cd ct : Value}
    (l : K.lookup g = some ⟨oc, od, .func (PySem.W.fnOf "list_names" "Procedure.list_names" (defArgs s_list_names) (defBody s_list_names) (defScope s_list_names) .none kV doc pm an cd ct), sl⟩) (c : PySem.W.codeIn K cd "Procedure.list_names" = true) (k : PySem.W.keepIn K (.ref g) = true) : CkG K g :=
  ⟨_, fun_mk (st := s_list_names) l c k, (fun_mk (st := s_list_names) l c k).binds (ps := ["self"]) fun _ _ _ _ _ _ us hl => match us, hl with | [_], _ => rfl⟩
def ckiP_mk {K : PySem.W.Frag} {C f : Addr} {oc : Value} {od an : Option Addr} {sl : Array (Option Value)} {kV doc pm cd ct : Value}
    (a : PySem.W.findIn K (.ref C) "__init__" = some (some (.ref f))) (i : PySem.W.isFn K (.ref f) = true) (l : K.lookup f = some ⟨oc, od, .func (PySem.W.fnOf "__init__" "Procedure.__init__" (defArgs s_Procedure) (defBody s_Procedure) (defScope s_Procedure) .none kV doc pm an cd ct), sl⟩) (c : PySem.W.codeIn K cd "Procedure.__init__" = true) (k : PySem.W.keepIn K (.ref f) = true)
    (mk : PySem.W.makesIn K C = true) (kc : PySem.W.keepIn K (.ref C) = true) : CkI K C "Procedure.__init__" s_Procedure prP :=
  ⟨f, _, fun_mk (st := s_Procedure) l c k, (fun_mk (st := s_Procedure) l c k).binds (ps := prP) fun _ _ _ _ _ _ us hl => match us, hl with | [_, _, _, _, _, _, _, _, _, _], _ => rfl, ⟨mk, a, i, kc⟩⟩
def ckiG_mk {K : PySem.W.Frag} {C f : Addr} {oc : Value} {od an : Option Addr} {sl : Array (Option Value)} {kV doc pm cd ct : Value}
    (a : PySem.W.findIn K (.ref C) "__init__" = some (some (.ref f))) (i : PySem.W.isFn K (.ref f) = true) (l : K.lookup f = some ⟨oc, od, .func (PySem.W.fnOf "__init__" "Program.__init__" (defArgs s_Program) (defBody s_Program) (defScope s_Program) .none kV doc pm an cd ct), sl⟩) (c : PySem.W.codeIn K cd "Program.__init__" = true) (k : PySem.W.keepIn K (.ref f) = true)
    (mk : PySem.W.makesIn K C = true) (kc : PySem.W.keepIn K (.ref C) = true) : CkI K C "Program.__init__" s_Program ["self", "procedures"] :=
  ⟨f, _, fun_mk (st := s_Program) l c k, (fun_mk (st := s_Program) l c k).binds (ps := ["self", "procedures"]) fun _ _ _ _ _ _ us hl => match us, hl with | [_, _], _ => rfl, ⟨mk, a, i, kc⟩⟩
end SW

namespace SW
open PySem PySem.Spec PyProof.Rows L2
theorem all_mk {P : Program} {w : World} {K : PySem.W.Frag} {mg : PySem.Str → Option Value} {fa CP CG pp gg : Addr} (hfa : mg "law" = some (.ref fa)) (T : TxQ K mg CP CG pp gg) (c_called : CkM K CG "called" "Program.called" s_called ["self", "name"]) (c_list : CkG K gg) (c_P : CkI K CP "Procedure.__init__" s_Procedure prP) (c_G : CkI K CG "Program.__init__" s_Program ["self", "procedures"])
  (D_law : Df K mg "law" s_law ["script"]) (hb : ∀ (s : Shared) (v : Value), BindsTo s D_law.fd ⟨[v], []⟩ [("script", v)]) (D_changed_lists : Df K mg "changed_lists" s_changed_lists ["program", "procedure"]) (D_changed_in : Df K mg "changed_in" s_changed_in ["program", "procedure", "block"]) (D_all_changed : Df K mg "_all_changed" s_all_changed ["program"]) (D_changed_by : Df K mg "_changed_by" s_changed_by ["program", "procedure", "block", "changed"]) (D_statements_in : Df K mg "statements_in" s_statements_in ["block"]) (D_blocks_of : Df K mg "_blocks_of" s_blocks_of ["statement"]) (D_changed_by_call : Df K mg "_changed_by_call" s_changed_by_call ["program", "call", "changed"]) (D_l_draws : Df K mg "_law_draws" s_l_draws ["script", "many"]) (D_l_take : Df K mg "_law_take" s_l_take ["hand", "many"]) (D_l_names : Df K mg "_law_names" s_l_names ["hand"]) (D_l_rows : Df K mg "_law_rows" s_l_rows ["block", "row"]) (D_l_parts : Df K mg "_law_parts" s_l_parts ["procs"]) (D_l_made : Df K mg "_law_made" s_l_made ["one"]) (D_l_program : Df K mg "_law_program" s_l_program ["parts"]) (D_l_gen : Df K mg "_law_gen" s_l_gen ["hand", "n", "moved"]) (D_l_gen_block : Df K mg "_law_gen_block" s_l_gen_block ["hand", "ctx", "depth", "whiles", "many", "budget"]) (D_l_gen_simple : Df K mg "_law_gen_simple" s_l_gen_simple ["hand", "ctx"]) (D_l_gen_call : Df K mg "_law_gen_call" s_l_gen_call ["hand", "ctx"]) (D_l_gen_condition : Df K mg "_law_gen_condition" s_l_gen_condition ["hand", "ctx"]) (D_l_gen_cmp : Df K mg "_law_gen_cmp" s_l_gen_cmp ["hand", "ctx"]) (D_l_gen_term : Df K mg "_law_gen_term" s_l_gen_term ["hand", "ctx"]) (D_l_gen_index : Df K mg "_law_gen_index" s_l_gen_index ["hand", "ctx", "name"]) (D_l_gen_plain : Df K mg "_law_gen_plain" s_l_gen_plain ["hand", "ctx"]) (D_l_touched : Df K mg "_law_touched" s_l_touched ["block", "changes"]) (D_l_changes : Df K mg "_law_changes" s_l_changes ["parts"]) (D_l_blocks : Df K mg "_law_blocks" s_l_blocks ["block"]) (D_l_is_list : Df K mg "_law_is_list" s_l_is_list ["found", "expected"]) :
    ∃ fd : FuncData, (∀ (s : Shared) (v : Value), BindsTo s fd ⟨[v], []⟩ [("script", v)]) ∧ ∀ base : Heap, K.In base → base.Ns mainGlobals mg → FnOk P w K mg base CX0 14 fa fd ["script"] (spLaw K) := by
  have e := hfa.symm.trans D_law.g
  cases e
  exact ⟨D_law.fd, hb, fun base _ _ => (ok_law T c_called c_list c_P c_G D_law D_changed_lists D_changed_in D_all_changed D_changed_by D_statements_in D_blocks_of D_changed_by_call D_l_draws D_l_take D_l_names D_l_rows D_l_parts D_l_made D_l_program D_l_gen D_l_gen_block D_l_gen_simple D_l_gen_call D_l_gen_condition D_l_gen_cmp D_l_gen_term D_l_gen_index D_l_gen_plain D_l_touched D_l_changes D_l_blocks D_l_is_list).mono (by decide)⟩
end SW

open PySem PySem.W PyProof.Rows
set_option maxHeartbeats 0 in
theorem PySem.Challenge.cw_swornrun_k08_lists_that_are_changed_holds : PySem.Challenge.rw_swornrun_k08_lists_that_are_changed.Holds := by
  w_on; o_law; k_head; (case hw => w_witness2)
  k_fill
  refine L2.walk_of (l := PySem.Challenge.rw_swornrun_k08_lists_that_are_changed) (n := 63) (k := 14) (x := "script") (CX := fun _ => L2.CX0) (sp := fun w => SW.spLaw _) rfl (by decide) rfl ⟨rfl, by decide, by decide⟩ (fun w h Y => PySem.W.kIn_of Y) ?F (fun _ _ a ns hl _ hS => ⟨a, ns, rfl, hS, hl, fun _ => rfl⟩) (fun _ _ _ _ _ h => h)
  case F =>
    intro w mg fa h KX G hmg
    refine' SW.all_mk hmg (SW.txq_mk KX G ⟨PySem.W.mg_none_of KX G ?n_len, PySem.W.mg_none_of KX G ?n_range, PySem.W.mg_none_of KX G ?n_int, PySem.W.mg_none_of KX G ?n_abs, PySem.W.mg_none_of KX G ?n_isinstance, PySem.W.mg_none_of KX G ?n_list, PySem.W.mg_none_of KX G ?n_str, PySem.W.mg_none_of KX G ?n_bool, PySem.W.mg_none_of KX G ?n_tuple, PySem.W.mg_none_of KX G ?n_min, PySem.W.mg_none_of KX G ?n_max, PySem.W.mg_none_of KX G ?n_sum, PySem.W.mg_none_of KX G ?n_sorted, PySem.W.mg_none_of KX G ?n_any, PySem.W.mg_none_of KX G ?n_all, PySem.W.mg_none_of KX G ?n_zip, PySem.W.mg_none_of KX G ?n_enumerate, PySem.W.mg_none_of KX G ?n_reversed, PySem.W.mg_none_of KX G ?n_dict, PySem.W.mg_none_of KX G ?n_set, PySem.W.mg_none_of KX G ?n_repr, PySem.W.mg_none_of KX G ?n_ord⟩ ?aP ?aG ?p1 ?p2 ?p3 ?p4 ?g1 ?g2 ?g3 ?g4 ?n0 ?n1 ?n2 ?n3 ?n4 ?n5 ?n6 ?n7 ?n8 ?m0 ?q1 ?q2 ?q3 ?q4) (SW.ckm_mk ?ia ?ii ?il ?ic ?ik) (SW.ckg_mk ?jl ?jc ?jk) (SW.ckiP_mk ?ua ?ui ?ul ?uc ?uk ?um ?ukc) (SW.ckiG_mk ?va ?vi ?vl ?vc ?vk ?vm ?vkc) (SW.df_mk KX G ?a0 ?l0 ?c0 ?k0 (fun _ _ _ _ _ _ us hl => match us, hl with | [_], _ => rfl)) (fun s v => .of_eq rfl) (SW.df_mk KX G ?a1 ?l1 ?c1 ?k1 (fun _ _ _ _ _ _ us hl => match us, hl with | [_, _], _ => rfl)) (SW.df_mk KX G ?a2 ?l2 ?c2 ?k2 (fun _ _ _ _ _ _ us hl => match us, hl with | [_, _, _], _ => rfl)) (SW.df_mk KX G ?a3 ?l3 ?c3 ?k3 (fun _ _ _ _ _ _ us hl => match us, hl with | [_], _ => rfl)) (SW.df_mk KX G ?a4 ?l4 ?c4 ?k4 (fun _ _ _ _ _ _ us hl => match us, hl with | [_, _, _, _], _ => rfl)) (SW.df_mk KX G ?a5 ?l5 ?c5 ?k5 (fun _ _ _ _ _ _ us hl => match us, hl with | [_], _ => rfl)) (SW.df_mk KX G ?a6 ?l6 ?c6 ?k6 (fun _ _ _ _ _ _ us hl => match us, hl with | [_], _ => rfl)) (SW.df_mk KX G ?a7 ?l7 ?c7 ?k7 (fun _ _ _ _ _ _ us hl => match us, hl with | [_, _, _], _ => rfl)) (SW.df_mk KX G ?a8 ?l8 ?c8 ?k8 (fun _ _ _ _ _ _ us hl => match us, hl with | [_, _], _ => rfl)) (SW.df_mk KX G ?a9 ?l9 ?c9 ?k9 (fun _ _ _ _ _ _ us hl => match us, hl with | [_, _], _ => rfl)) (SW.df_mk KX G ?a10 ?l10 ?c10 ?k10 (fun _ _ _ _ _ _ us hl => match us, hl with | [_], _ => rfl)) (SW.df_mk KX G ?a11 ?l11 ?c11 ?k11 (fun _ _ _ _ _ _ us hl => match us, hl with | [_, _], _ => rfl)) (SW.df_mk KX G ?a12 ?l12 ?c12 ?k12 (fun _ _ _ _ _ _ us hl => match us, hl with | [_], _ => rfl)) (SW.df_mk KX G ?a13 ?l13 ?c13 ?k13 (fun _ _ _ _ _ _ us hl => match us, hl with | [_], _ => rfl)) (SW.df_mk KX G ?a14 ?l14 ?c14 ?k14 (fun _ _ _ _ _ _ us hl => match us, hl with | [_], _ => rfl)) (SW.df_mk KX G ?a15 ?l15 ?c15 ?k15 (fun _ _ _ _ _ _ us hl => match us, hl with | [_, _, _], _ => rfl)) (SW.df_mk KX G ?a16 ?l16 ?c16 ?k16 (fun _ _ _ _ _ _ us hl => match us, hl with | [_, _, _, _, _, _], _ => rfl)) (SW.df_mk KX G ?a17 ?l17 ?c17 ?k17 (fun _ _ _ _ _ _ us hl => match us, hl with | [_, _], _ => rfl)) (SW.df_mk KX G ?a18 ?l18 ?c18 ?k18 (fun _ _ _ _ _ _ us hl => match us, hl with | [_, _], _ => rfl)) (SW.df_mk KX G ?a19 ?l19 ?c19 ?k19 (fun _ _ _ _ _ _ us hl => match us, hl with | [_, _], _ => rfl)) (SW.df_mk KX G ?a20 ?l20 ?c20 ?k20 (fun _ _ _ _ _ _ us hl => match us, hl with | [_, _], _ => rfl)) (SW.df_mk KX G ?a21 ?l21 ?c21 ?k21 (fun _ _ _ _ _ _ us hl => match us, hl with | [_, _], _ => rfl)) (SW.df_mk KX G ?a22 ?l22 ?c22 ?k22 (fun _ _ _ _ _ _ us hl => match us, hl with | [_, _, _], _ => rfl)) (SW.df_mk KX G ?a23 ?l23 ?c23 ?k23 (fun _ _ _ _ _ _ us hl => match us, hl with | [_, _], _ => rfl)) (SW.df_mk KX G ?a24 ?l24 ?c24 ?k24 (fun _ _ _ _ _ _ us hl => match us, hl with | [_, _], _ => rfl)) (SW.df_mk KX G ?a25 ?l25 ?c25 ?k25 (fun _ _ _ _ _ _ us hl => match us, hl with | [_], _ => rfl)) (SW.df_mk KX G ?a26 ?l26 ?c26 ?k26 (fun _ _ _ _ _ _ us hl => match us, hl with | [_], _ => rfl)) (SW.df_mk KX G ?a27 ?l27 ?c27 ?k27 (fun _ _ _ _ _ _ us hl => match us, hl with | [_, _], _ => rfl))
    (case a0 => k_is)
    (case l0 => k_is)
    (case c0 => k_is)
    (case k0 => k_is)
    (case a1 => k_is)
    (case l1 => k_is)
    (case c1 => k_is)
    (case k1 => k_is)
    (case a2 => k_is)
    (case l2 => k_is)
    (case c2 => k_is)
    (case k2 => k_is)
    (case a3 => k_is)
    (case l3 => k_is)
    (case c3 => k_is)
    (case k3 => k_is)
    (case a4 => k_is)
    (case l4 => k_is)
    (case c4 => k_is)
    (case k4 => k_is)
    (case a5 => k_is)
    (case l5 => k_is)
    (case c5 => k_is)
    (case k5 => k_is)
    (case a6 => k_is)
    (case l6 => k_is)
    (case c6 => k_is)
    (case k6 => k_is)
    (case a7 => k_is)
    (case l7 => k_is)
    (case c7 => k_is)
    (case k7 => k_is)
    (case a8 => k_is)
    (case l8 => k_is)
    (case c8 => k_is)
    (case k8 => k_is)
    (case a9 => k_is)
    (case l9 => k_is)
    (case c9 => k_is)
    (case k9 => k_is)
    (case a10 => k_is)
    (case l10 => k_is)
    (case c10 => k_is)
    (case k10 => k_is)
    (case a11 => k_is)
    (case l11 => k_is)
    (case c11 => k_is)
    (case k11 => k_is)
    (case a12 => k_is)
    (case l12 => k_is)
    (case c12 => k_is)
    (case k12 => k_is)
    (case a13 => k_is)
    (case l13 => k_is)
    (case c13 => k_is)
    (case k13 => k_is)
    (case a14 => k_is)
    (case l14 => k_is)
    (case c14 => k_is)
    (case k14 => k_is)
    (case a15 => k_is)
    (case l15 => k_is)
    (case c15 => k_is)
    (case k15 => k_is)
    (case a16 => k_is)
    (case l16 => k_is)
    (case c16 => k_is)
    (case k16 => k_is)
    (case a17 => k_is)
    (case l17 => k_is)
    (case c17 => k_is)
    (case k17 => k_is)
    (case a18 => k_is)
    (case l18 => k_is)
    (case c18 => k_is)
    (case k18 => k_is)
    (case a19 => k_is)
    (case l19 => k_is)
    (case c19 => k_is)
    (case k19 => k_is)
    (case a20 => k_is)
    (case l20 => k_is)
    (case c20 => k_is)
    (case k20 => k_is)
    (case a21 => k_is)
    (case l21 => k_is)
    (case c21 => k_is)
    (case k21 => k_is)
    (case a22 => k_is)
    (case l22 => k_is)
    (case c22 => k_is)
    (case k22 => k_is)
    (case a23 => k_is)
    (case l23 => k_is)
    (case c23 => k_is)
    (case k23 => k_is)
    (case a24 => k_is)
    (case l24 => k_is)
    (case c24 => k_is)
    (case k24 => k_is)
    (case a25 => k_is)
    (case l25 => k_is)
    (case c25 => k_is)
    (case k25 => k_is)
    (case a26 => k_is)
    (case l26 => k_is)
    (case c26 => k_is)
    (case k26 => k_is)
    (case a27 => k_is)
    (case l27 => k_is)
    (case c27 => k_is)
    (case k27 => k_is)
    (case n_len => k_is)
    (case n_range => k_is)
    (case n_int => k_is)
    (case n_abs => k_is)
    (case n_isinstance => k_is)
    (case n_list => k_is)
    (case n_str => k_is)
    (case n_bool => k_is)
    (case n_tuple => k_is)
    (case n_min => k_is)
    (case n_max => k_is)
    (case n_sum => k_is)
    (case n_sorted => k_is)
    (case n_any => k_is)
    (case n_all => k_is)
    (case n_zip => k_is)
    (case n_enumerate => k_is)
    (case n_reversed => k_is)
    (case n_dict => k_is)
    (case n_set => k_is)
    (case n_repr => k_is)
    (case n_ord => k_is)
    (case aP => k_is)
    (case aG => k_is)
    (case p1 => k_is)
    (case p2 => k_is)
    (case p3 => k_is)
    (case p4 => k_is)
    (case g1 => k_is)
    (case g2 => k_is)
    (case g3 => k_is)
    (case g4 => k_is)
    (case n0 => k_is)
    (case n1 => k_is)
    (case n2 => k_is)
    (case n3 => k_is)
    (case n4 => k_is)
    (case n5 => k_is)
    (case n6 => k_is)
    (case n7 => k_is)
    (case n8 => k_is)
    (case m0 => k_is)
    (case q1 => k_is)
    (case q2 => k_is)
    (case q3 => k_is)
    (case q4 => k_is)
    (case ia => k_is)
    (case ii => k_is)
    (case il => k_is)
    (case ic => k_is)
    (case ik => k_is)
    (case jl => k_is)
    (case jc => k_is)
    (case jk => k_is)
    (case ua => k_is)
    (case ui => k_is)
    (case ul => k_is)
    (case uc => k_is)
    (case uk => k_is)
    (case um => k_is)
    (case ukc => k_is)
    (case va => k_is)
    (case vi => k_is)
    (case vl => k_is)
    (case vc => k_is)
    (case vk => k_is)
    (case vm => k_is)
    (case vkc => k_is)
