import PyProof.Rows.All
import Wide.All
import OpenK.AllK
import Wide.FinOn
import HandS.ForMost
import HandS.IsInst
import HandS.Evl
import HandS.SetIn
import HandS.Walk
import HandS.Star
import HandS.Zip
import HandS.Style
import HandS.Wide
import HandS.DictComp
import KE.KeyNested
import KE.KDictKeyed
import HandS.TupAny
import HandS.TupMul
import HandS.SetFor
import HandS.TupLe
import KE.DataEq
import KE.KStateDown
import HandS.Defaults
import HandS.Head0
import HandS.Head1
import HandS.Head2
import HandS.Head3
import HandS.HeadEnd
import HandS.HeadHook1
import HandS.HeadHook2
import HandS.HeadHook3
import HandS.HeadHook4
import PySem.Challenge.RW_swornrun_k13_heights
set_option Elab.async false
set_option linter.all false
set_option maxRecDepth 100000
set_option maxHeartbeats 4000000
namespace SW
open PySem PySem.Spec PyProof.Rows L2
def topS (i : Nat) : Stmt := PySem.Challenge.pw_swornrun_k13_heights.main.body.getD i (.Pass ⟨0, 0, 0, 0⟩)
/-- the built-in names stand for what they are -/
structure TxB (mg : PySem.Str → Option Value) : Prop where
  n_len : mg "len" = none
  n_range : mg "range" = none
  n_int : mg "int" = none
  n_abs : mg "abs" = none
  n_isinstance : mg "isinstance" = none
  n_list : mg "list" = none
  n_str : mg "str" = none
  n_bool : mg "bool" = none
  n_tuple : mg "tuple" = none
  n_min : mg "min" = none
  n_max : mg "max" = none
  n_sum : mg "sum" = none
  n_sorted : mg "sorted" = none
  n_any : mg "any" = none
  n_all : mg "all" = none
  n_zip : mg "zip" = none
  n_enumerate : mg "enumerate" = none
  n_reversed : mg "reversed" = none
  n_dict : mg "dict" = none
  n_set : mg "set" = none
  n_repr : mg "repr" = none
  n_ord : mg "ord" = none
/-- a def of the text -/
structure Df (K : PySem.W.Frag) (mg : PySem.Str → Option Value) (x : PySem.Str) (st : Stmt) (ps : List PySem.Str) where
  f : Addr
  fd : FuncData
  F : Fun K x x st f fd
  rb : ∀ us : List Value, us.length = ps.length → bindArgs fd ⟨us, []⟩ = pure (ps.zip us)
  g : mg x = some (.ref f)
theorem Df.b {K : PySem.W.Frag} {mg : PySem.Str → Option Value} {x : PySem.Str} {st : Stmt} {ps : List PySem.Str} (D : Df K mg x st ps) : Binds K D.fd ps [] := .all D.rb
/-- .. of what the head tells -/
def df_mk {x : PySem.Str} {st : Stmt} {ps : List PySem.Str} {K : PySem.W.Frag} {h : Heap} {mg : PySem.Str → Option Value} (X : K.In h) (G : h.Ns mainGlobals mg) {f : Addr} {oc : Value} {od an : Option Addr} {sl : Array (Option Value)} {kV doc pm cd ct : Value}
    (a : PySem.W.nsIn K mainGlobals x = some (some (.ref f))) (l : K.lookup f = some ⟨oc, od, .func (PySem.W.fnOf x x (defArgs st) (defBody st) (defScope st) .none kV doc pm an cd ct), sl⟩) (c : PySem.W.codeIn K cd x = true) (k : PySem.W.keepIn K (.ref f) = true)
    (hb : ∀ (kV doc pm : Value) (an : Option Addr) (cd ct : Value) (us : List Value), us.length = ps.length → bindArgs (PySem.W.fnOf x x (defArgs st) (defBody st) (defScope st) .none kV doc pm an cd ct) ⟨us, []⟩ = pure (ps.zip us)) : Df K mg x st ps :=
  ⟨f, _, fun_mk l c k, hb kV doc pm an cd ct, PySem.W.mg_of X G a⟩
theorem m_of {K : PySem.W.Frag} {h : Heap} {mg : PySem.Str → Option Value} {x : PySem.Str} {v u : Value} (X : K.In h) (G : h.Ns mainGlobals mg) (e : PySem.W.nsIn K mainGlobals x = some (some v)) (q : v = u) : mg x = some u := by
  rw [← q]
  exact PySem.W.mg_of X G e
theorem sqt_mk {K : PySem.W.Frag} {aT : Addr} {od : Option Addr} {its : Array Value} {n : Nat} {sl : Array (Option Value)} {xs : List V} (l : K.lookup aT = some ⟨.type "tuple", od, .seq its n, sl⟩) (hs : its.size ≤ sizeLine) (r : Vals xs its.toList) : ∀ H, SqT K H aT xs :=
  fun H => .inr ⟨_, its, n, l, rfl, rfl, hs, r⟩
theorem same_new {H : Hp} {p : Addr} {o : HO} (h : H p = none) : Same H (upd H p o) := fun b x e => by
  rw [upd_ne (ne_of_none e h)]
  exact e
/-- an object that H does not know has changed -/
theorem same_mut {H H' : Hp} {p : Addr} {o : HO} (s : Same H H') (h : H p = none) : Same H (upd H' p o) := fun b x e => by
  rw [upd_ne (ne_of_none e h)]
  exact s _ _ e
theorem new_of {H H1 : Hp} {p : Addr} {o : HO} (n : H p = none) (h : upd H p o = H1) : Same H H1 ∧ H1 p = some o := by
  subst h
  exact ⟨same_new n, upd_same⟩
/-- all that was tracked is as it was, but what stands at h -/
def But (h : Addr) (H H' : Hp) : Prop := ∀ b o, b ≠ h → H b = some o → H' b = some o
theorem But.refl (h : Addr) (H : Hp) : But h H H := fun _ _ _ e => e
theorem But.trans {h : Addr} {H H1 H2 : Hp} (a : But h H H1) (b : But h H1 H2) : But h H H2 := fun c o n e => b c o n (a c o n e)
theorem Same.but {h : Addr} {H H' : Hp} (a : Same H H') : But h H H' := fun c o _ e => a c o e
/-- the hand at h: the list of draws at d, and a place in it -/
structure Hand (H : Hp) (h d : Addr) (ds : List Int) : Prop where
  at_ : ∃ i : Nat, H h = some (.lst [.ref d, .int (i : Nat)])
  ds_ : H d = some (.lst (ds.map V.int))
  ne : d ≠ h
theorem Hand.same {H H' : Hp} {h d : Addr} {ds : List Int} (a : Hand H h d ds) (s : Same H H') : Hand H' h d ds := by
  obtain ⟨⟨i, h1⟩, h2, h3⟩ := a
  exact ⟨⟨i, s _ _ h1⟩, s _ _ h2, h3⟩
theorem small_sz {n : Nat} (h : n ≤ 1000) : n < sizeLine := Nat.lt_of_le_of_lt h (by decide)
theorem small_sz5 {n : Nat} (h : n ≤ 100000) : n < sizeLine := Nat.lt_of_le_of_lt h (by decide)
theorem ixN_nat {n j : Nat} (h : j < n) : ixN n (j : Int) = some j := by
  unfold ixN
  rw [if_pos (by omega), if_pos (by omega)]
  rfl
theorem hand_ne {H : Hp} {h d p : Addr} {ds : List Int} (hd : Hand H h d ds) (n : H p = none) : p ≠ h := by
  obtain ⟨⟨i, e⟩, _, _⟩ := hd
  exact (ne_of_none e n).symm
theorem hand_ne2 {H : Hp} {h d p : Addr} {ds : List Int} (hd : Hand H h d ds) (n : H p = none) : p ≠ d := (ne_of_none hd.ds_ n).symm
/-- something else than the hand and its draws has changed -/
theorem Hand.upd {H : Hp} {h d p : Addr} {o : HO} {ds : List Int} (a : Hand H h d ds) (h1 : p ≠ h) (h2 : p ≠ d) : Hand (L2.upd H p o) h d ds := by
  obtain ⟨⟨i, e1⟩, e2, e3⟩ := a
  exact ⟨⟨i, (upd_ne h1.symm).trans e1⟩, (upd_ne h2.symm).trans e2, e3⟩
theorem But.new {a : Addr} {H H' : Hp} {p : Addr} {o : HO} (b : But a H H') (n : H p = none) : But a H (L2.upd H' p o) := fun c u hc e => (upd_ne (ne_of_none e n)).trans (b c u hc e)
theorem But.free {a : Addr} {H H' : Hp} {p : Addr} (b : But a H H') (hp : p ≠ a) (n : H' p = none) : H p = none := by
  cases e : H p with
  | none => rfl
  | some u =>
    rw [b p u hp e] at n
    cases n
/-! ### written texts in a row; a text n times -/
def tStrs (ws : List PySem.Str) : TA := fun _ H Q => Q (ws.map V.str) H
theorem pa_strs {X : Cx} {es : List Expr} {ws : List PySem.Str} (h : StrEs es ws) : PA X es (tStrs ws) := by
  induction h with
  | nil => exact pa_nil
  | cons x j p _ ih => exact pa_cons pe_str ih
def rMulS : R2 := fun x y H Q => ∃ (z : PySem.Str) (n : Int), x = .str z ∧ y = .int n ∧ 0 ≤ n ∧ n ≤ 1000 ∧ z.length ≤ 1000 ∧ Q (.str (Txt.mul z n)) H
theorem op_mul_str {X : Cx} : OpR X (binaryOp .Mult) rMulS := by
  intro pins s σ H x y v u Q I rx ry h
  obtain ⟨z, n, rfl, rfl, h0, h1, hz, q⟩ := h
  obtain ⟨t, rfl⟩ := rx
  obtain ⟨t', rfl⟩ := ry
  refine SB.mul ⟨?_, ?_, ?_⟩ fun t' k => ⟨.str _, H, I.tok k, ⟨t', rfl⟩, q⟩
  · rw [Bool.or_eq_false_iff]
    exact ⟨decide_eq_false (by omega), decide_eq_false (by omega)⟩
  · intro hn _ hc
    have hd : (2 ^ 63 - 1 : Int) / 1000 ≤ (2 ^ 63 - 1) / n := by
      have : n * 9223372036854775 ≤ 2 ^ 63 - 1 := by omega
      have h2 : (9223372036854775 : Int) ≤ (2 ^ 63 - 1) / n := Int.le_ediv_of_mul_le (by omega) (by rw [Int.mul_comm]; exact this)
      have h3 : (2 ^ 63 - 1 : Int) / 1000 = 9223372036854775 := by decide
      omega
    have h3 : (2 ^ 63 - 1 : Int) / 1000 = 9223372036854775 := by decide
    omega
  · intro _ _
    have hb : z.length * n.toNat ≤ 1000 * 1000 := Nat.mul_le_mul hz (by omega)
    unfold Builtin.Str.tooLong
    refine decide_eq_false ?_
    have : (1000 * 1000 : Nat) ≤ sizeLine := by decide
    omega
theorem foldl_app {c : Nat} : ∀ (n : Nat) (a : Array Nat), ((List.replicate n #[c]).foldl (· ++ ·) a).toList = a.toList ++ List.replicate n c
  | 0, a => by simp
  | n + 1, a => by
    rw [List.replicate_succ, List.foldl_cons, foldl_app n]
    simp [List.replicate_succ]
theorem mul_one_sign (c : Nat) (n : Int) : (Txt.mul ⟨#[c]⟩ n).cps.toList = List.replicate n.toNat c := by
  unfold Txt.mul
  by_cases h1 : n < 1
  · rw [if_pos h1, show n.toNat = 0 by omega]
    rfl
  · rw [if_neg h1]
    by_cases h2 : (n == 1 || (⟨#[c]⟩ : PySem.Str).length == 0) = true
    · rw [if_pos h2]
      have h3 : n = 1 := by
        rcases Bool.or_eq_true_iff.mp h2 with h | h
        · exact eq_of_beq h
        · exact absurd (eq_of_beq h) (by show ¬ (1 : Nat) = 0; decide)
      subst h3
      rfl
    · rw [if_neg h2]
      show ((List.replicate n.toNat #[c]).foldl (· ++ ·) #[]).toList = _
      rw [foldl_app]
      rfl
theorem join_len1 : ∀ (ys : List PySem.Str), (Str.join "" ys).length = (ys.map (·.length)).sum
  | [] => rfl
  | [x] => by
    show x.length = (x.length :: []).sum
    rw [List.sum_cons]
    rfl
  | x :: y :: r => by
    show (x ++ "" ++ Str.join "" (y :: r)).length = _
    have h := join_len1 (y :: r)
    rw [TL.len_tl] at h ⊢
    rw [TL.tl_append, TL.tl_append, List.length_append, List.length_append, h, List.map_cons, List.sum_cons, TL.len_tl]
    rfl
theorem join_len (ys : List PySem.Str) : (Txt.join "" ys).length = (ys.map (·.length)).sum := by
  rw [TL.join_eq, join_len1]
theorem sum_const {ys : List PySem.Str} {b : Nat} (h : ∀ y ∈ ys, y.length ≤ b) : (ys.map (·.length)).sum ≤ ys.length * b := by
  induction ys with
  | nil => exact Nat.zero_le _
  | cons a r ih =>
    have h1 := h a List.mem_cons_self
    have h2 := ih fun y hy => h y (List.mem_cons_of_mem _ hy)
    rw [List.map_cons, List.sum_cons, List.length_cons, Nat.add_mul]
    omega
theorem str_at {z : PySem.Str} {r : Int} (h0 : 0 ≤ r) (h1 : r < z.length) : ∃ c, atI z.cps.toList r = some c := by
  obtain ⟨j, rfl⟩ : ∃ j : Nat, r = j := ⟨r.toNat, by omega⟩
  have hl : z.cps.toList.length = z.length := rfl
  have hj : j < z.cps.toList.length := by omega
  exact ⟨_, atI_nat (List.getElem?_eq_getElem hj)⟩
theorem strs_at {ws : List PySem.Str} {r : Int} (h0 : 0 ≤ r) (h1 : r < ws.length) : ∃ z, z ∈ ws ∧ atI (ws.map V.str) r = some (.str z) := by
  obtain ⟨j, rfl⟩ : ∃ j : Nat, r = j := ⟨r.toNat, by omega⟩
  have hj : j < ws.length := by omega
  refine ⟨ws[j], List.getElem_mem hj, atI_nat ?_⟩
  rw [List.getElem?_map, List.getElem?_eq_getElem hj]
  rfl
/-- a loop over a text's signs -/
theorem for_str {x : PySem.Str} {g : TG} {tb : TS} {D : Ends} {σ : L2.St} {H : Hp} (Pv : Nat → L2.St → Hp → Prop) (h0 : Pv 0 σ H)
    (hs : ∀ i c σ H, x.cps.toList[i]? = some c → Pv i σ H → g (.str ⟨#[c]⟩) σ H fun σ2 H2 => tb { D with nx := Pv (i + 1), ct := Pv (i + 1), bk := D.nx } σ2 H2) (hd : ∀ σ H, Pv x.cps.toList.length σ H → D.nx σ H) :
    ∃ W : Nat → Nat → L2.St → Hp → Prop, (∃ m, W 0 m σ H) ∧ ∀ i m σ H, W i m σ H →
      ((Its x).stop i H ∧ D.nx σ H) ∨ ((Its x).go i H ∧ ∃ N : L2.St → Hp → Prop, (∀ σ' H', N σ' H' → ∃ m', m' < m ∧ W (i + 1) m' σ' H') ∧ ∀ v H', (Its x).yld i H v H' → g v σ H' fun σ2 H2 => tb { D with nx := N, ct := N, bk := D.nx } σ2 H2) := by
  refine ⟨fun i m σ H => m = x.cps.toList.length - i ∧ i ≤ x.cps.toList.length ∧ Pv i σ H, ⟨x.cps.toList.length, by simp, Nat.zero_le _, h0⟩, ?_⟩
  rintro i m σ H ⟨rfl, hi, p⟩
  by_cases hlt : i < x.cps.toList.length
  · refine .inr ⟨hlt, Pv (i + 1), fun σ' H' p' => ⟨x.cps.toList.length - (i + 1), by omega, rfl, hlt, p'⟩, fun v H' y => ?_⟩
    obtain ⟨e, c, hc, hv⟩ := y
    subst e hv
    exact hs i c σ _ (by rw [Array.getElem?_toList]; exact hc) p
  · have e : i = x.cps.toList.length := by omega
    subst e
    exact .inl ⟨Nat.le_refl _, hd σ H p⟩
abbrev mk (l : List Nat) : PySem.Str := ⟨l.toArray⟩
theorem mk_cp (z : PySem.Str) : mk z.cps.toList = z := rfl
theorem cp_mk (l : List Nat) : (mk l).cps.toList = l := rfl
theorem flat_strs (ws : List PySem.Str) : (ws.map V.str).all flatV = true := by
  induction ws with
  | nil => rfl
  | cons a r ih =>
    rw [List.map_cons, List.all_cons, ih]
    rfl
theorem inV_strs (a : PySem.Str) (ws : List PySem.Str) : inV (.str a) (ws.map V.str) = decide (a ∈ ws) := by
  induction ws with
  | nil => rfl
  | cons b r ih =>
    show ((b == a) || inV (.str a) (r.map V.str)) = _
    rw [ih]
    by_cases e : b = a
    · subst e
      simp
    · rw [beq_eq_false_iff_ne.mpr e]
      by_cases m : a ∈ r
      · simp [m]
      · simp [m, Ne.symm e]
theorem cut2 (z : PySem.Str) (i : Nat) (h : i < z.length) : cutS z (some (i : Int)) (some ((i : Int) + 2)) = mk ((z.cps.toList.drop i).take 2) := by
  have e1 : HT.sIx z.length 0 (some (i : Int)) = i := by
    rw [HT.sIx_nat]
    omega
  have e2 : HT.sIx z.length z.length (some ((i : Int) + 2)) = min (i + 2) z.length := by
    rw [show ((i : Int) + 2) = ((i + 2 : Nat) : Int) by omega, HT.sIx_nat]
  unfold cutS
  rw [e1, e2]
  show mk _ = mk _
  congr 1
  have hl : (z.cps.toList.drop i).length = z.length - i := by
    rw [List.length_drop]
    rfl
  by_cases h2 : i + 2 ≤ z.length
  · rw [show min (i + 2) z.length - i = 2 by omega]
  · rw [Nat.min_eq_right (by omega), List.take_of_length_le (by omega), List.take_of_length_le (by omega)]
theorem cut_nat (z : PySem.Str) (i n : Nat) (h : i + n ≤ z.length) : cutS z (some (i : Int)) (some ((i + n : Nat) : Int)) = mk ((z.cps.toList.drop i).take n) := by
  have e1 : HT.sIx z.length 0 (some (i : Int)) = i := by
    rw [HT.sIx_nat]
    omega
  have e2 : HT.sIx z.length z.length (some ((i + n : Nat) : Int)) = i + n := by
    rw [HT.sIx_nat]
    omega
  unfold cutS
  rw [e1, e2, show i + n - i = n by omega]
theorem str_ne (z : PySem.Str) : (!decide (V.str z = V.str "")) = decide (z.cps.toList ≠ []) := by
  by_cases h : z.cps.toList = []
  · have e : z = "" := by
      rw [← mk_cp z, h]
      rfl
    subst e
    rfl
  · have e : ¬ V.str z = V.str "" := fun e => h (by
      injection e with e
      rw [e]
      rfl)
    rw [decide_eq_false e, decide_eq_true h]
    rfl
theorem le_dec (n m : Nat) : decide ((n : Int) ≤ (m : Int)) = decide (n ≤ m) := decide_eq_decide.mpr Int.ofNat_le
theorem str_dec (x y : PySem.Str) : decide (V.str x = V.str y) = decide (x = y) := decide_eq_decide.mpr ⟨fun h => by injection h, fun h => by rw [h]⟩
theorem sz5 {n : Nat} (h : n ≤ 100000) : n ≤ sizeLine := Nat.le_trans h (by decide)
theorem sz5' {n : Nat} (h : n ≤ 100000) : n < sizeLine := Nat.lt_of_le_of_lt h (by decide)
theorem at_nat {xs : List V} {z : Int} {j : Nat} {v : V} (e : z = (j : Int)) (h : xs[j]? = some v) : atI xs z = some v := at_of e h
end SW

namespace SW
open PySem PySem.Spec PyProof.Rows L2
theorem app_len (x y : PySem.Str) : (x ++ y).length = x.length + y.length := by
  rw [TL.len_tl, TL.tl_append, List.length_append, ← TL.len_tl, ← TL.len_tl]
theorem mul_len (n : Int) : (Txt.mul " " n).length = n.toNat := by
  rw [TL.len_tl]
  show (Txt.mul ⟨#[32]⟩ n).cps.toList.length = _
  rw [mul_one_sign, List.length_replicate]
/-! ### data: what is read stays -/
mutual
theorem dp_same {K : PySem.W.Frag} {H H' : Hp} (s : Same H H') : ∀ (d : PyData) (v : V), Dp K H v d → Dp K H' v d
  | .none, _, h => by
    cases h
    exact .non
  | .bool b, _, h => by
    cases h
    exact .bl b
  | .int i, _, h => by
    cases h
    exact .int i
  | .str x, _, h => by
    cases h
    exact .str x
  | .list ds, _, h => by
    cases h with
    | lst hs ha => exact .lst (s.seq hs) (dpa_same s ds _ ha)
  | .tuple ds, _, h => by
    cases h with
    | tup hs ha =>
      refine .tup ?_ (dpa_same s ds _ ha)
      rcases hs with (hs | ⟨o, hs⟩) | hs
      · exact .inl (.inl (s _ _ hs))
      · exact .inl (.inr ⟨o, s _ _ hs⟩)
      · exact .inr hs
  | .dict _, _, h => by cases h
theorem dpa_same {K : PySem.W.Frag} {H H' : Hp} (s : Same H H') : ∀ (ds : List PyData) (vs : List V), DpAll K H vs ds → DpAll K H' vs ds
  | [], _, h => by
    cases h
    exact .nil
  | d :: ds, _, h => by
    cases h with
    | cons h1 h2 => exact .cons (dp_same s d _ h1) (dpa_same s ds _ h2)
end
theorem sqt_same {K : PySem.W.Frag} {H H' : Hp} (s : Same H H') {a : Addr} {xs : List V} (hs : SqT K H a xs) : SqT K H' a xs := by
  rcases hs with (hs | ⟨o, hs⟩) | hs
  · exact .inl (.inl (s _ _ hs))
  · exact .inl (.inr ⟨o, s _ _ hs⟩)
  · exact .inr hs
theorem _root_.L2.Dp.same {K : PySem.W.Frag} {H H' : Hp} {d : PyData} {v : V} (h : Dp K H v d) (s : Same H H') : Dp K H' v d := dp_same s d v h
mutual
/-- no list within -/
def noL : PyData → Bool
  | .tuple ds => noLs ds
  | .list _ => false
  | .dict _ => false
  | _ => true
def noLs : List PyData → Bool
  | [] => true
  | d :: ds => noL d && noLs ds
end
mutual
theorem dp_but {K : PySem.W.Frag} {H H' : Hp} {h : Addr} {ys : List V} (hl : H h = some (.lst ys)) (s : But h H H') : ∀ (d : PyData) (v : V), noL d = true → Dp K H v d → Dp K H' v d
  | .none, _, _, e => by
    cases e
    exact .non
  | .bool b, _, _, e => by
    cases e
    exact .bl b
  | .int i, _, _, e => by
    cases e
    exact .int i
  | .str x, _, _, e => by
    cases e
    exact .str x
  | .list ds, _, n, _ => by
    unfold noL at n
    cases n
  | .tuple ds, _, n, e => by
    cases e with
    | tup hs ha =>
      refine .tup ?_ (dpa_but hl s ds _ (by unfold noL at n; exact n) ha)
      rcases hs with (hs | ⟨o, hs⟩) | hs
      · refine .inl (.inl (s _ _ (fun e => ?_) hs))
        rw [e, hl] at hs
        cases hs
      · refine .inl (.inr ⟨o, s _ _ (fun e => ?_) hs⟩)
        rw [e, hl] at hs
        cases hs
      · exact .inr hs
  | .dict _, _, _, e => by cases e
theorem dpa_but {K : PySem.W.Frag} {H H' : Hp} {h : Addr} {ys : List V} (hl : H h = some (.lst ys)) (s : But h H H') : ∀ (ds : List PyData) (vs : List V), noLs ds = true → DpAll K H vs ds → DpAll K H' vs ds
  | [], _, _, e => by
    cases e
    exact .nil
  | d :: ds, _, n, e => by
    unfold noLs at n
    rw [Bool.and_eq_true] at n
    cases e with
    | cons h1 h2 => exact .cons (dp_but hl s d _ n.1 h1) (dpa_but hl s ds _ n.2 h2)
end
theorem Hand.dp {K : PySem.W.Frag} {H H' : Hp} {h d0 : Addr} {ds : List Int} (a : Hand H h d0 ds) (s : But h H H') {d : PyData} {v : V} (n : noL d = true) (e : Dp K H v d) : Dp K H' v d := by
  obtain ⟨⟨i, hl⟩, _, _⟩ := a
  exact dp_but hl s d v n e
def isN : PyData → Bool
  | .none => true
  | _ => false
theorem dp_isN {K : PySem.W.Frag} {H : Hp} {d : PyData} {v : V} (h : Dp K H v d) : decide (v = V.non) = isN d := by
  cases h <;> rfl
theorem dp_tup2 {K : PySem.W.Frag} {H : Hp} {t : Addr} {v1 v2 : V} {d1 d2 : PyData} (h : H t = some (.tup [v1, v2])) (h1 : Dp K H v1 d1) (h2 : Dp K H v2 d2) : Dp K H (.ref t) (.tuple [d1, d2]) :=
  .tup (SqT.of h) (.cons h1 (.cons h2 .nil))
theorem dp_tup3 {K : PySem.W.Frag} {H : Hp} {t : Addr} {v1 v2 v3 : V} {d1 d2 d3 : PyData} (h : H t = some (.tup [v1, v2, v3])) (h1 : Dp K H v1 d1) (h2 : Dp K H v2 d2) (h3 : Dp K H v3 d3) : Dp K H (.ref t) (.tuple [d1, d2, d3]) :=
  .tup (SqT.of h) (.cons h1 (.cons h2 (.cons h3 .nil)))
theorem dp_tup4 {K : PySem.W.Frag} {H : Hp} {t : Addr} {v1 v2 v3 v4 : V} {d1 d2 d3 d4 : PyData} (h : H t = some (.tup [v1, v2, v3, v4])) (h1 : Dp K H v1 d1) (h2 : Dp K H v2 d2) (h3 : Dp K H v3 d3) (h4 : Dp K H v4 d4) : Dp K H (.ref t) (.tuple [d1, d2, d3, d4]) :=
  .tup (SqT.of h) (.cons h1 (.cons h2 (.cons h3 (.cons h4 .nil))))
/-! ### lists of texts, compared -/
theorem dpa_strs {K : PySem.W.Frag} {H : Hp} : ∀ ws : List PySem.Str, DpAll K H (ws.map V.str) (ws.map PyData.str)
  | [] => .nil
  | x :: r => .cons (.str x) (dpa_strs r)
theorem dp_strs {K : PySem.W.Frag} {H : Hp} {a : Addr} {ws : List PySem.Str} (h : SqL K H a (ws.map V.str)) : Dp K H (.ref a) (.list (ws.map PyData.str)) := .lst h (dpa_strs ws)
theorem vals_strs : ∀ {ws : List PySem.Str} {us : List Value} {j : Nat} {x : PySem.Str}, Vals (ws.map V.str) us → ws[j]? = some x → ∃ t, us[j]? = some (.str x t)
  | _, _, _, _, r, h => by
    obtain ⟨u, h1, h2⟩ := r.get (x := V.str _) (by rw [List.getElem?_map, h]; rfl)
    obtain ⟨t, rfl⟩ := h2
    exact ⟨t, h1⟩
/-- == of two lists of texts -/
def rEqS (K : PySem.W.Frag) : R2 := fun x y H Q => ∃ (a b : Addr) (ws vs : List PySem.Str), x = .ref a ∧ y = .ref b ∧ SqL K H a (ws.map V.str) ∧ SqL K H b (vs.map V.str) ∧ Q (.bl (decide (ws = vs))) H
theorem all_eq {ws vs : List PySem.Str} (hl : ws.length = vs.length) : ((List.range ws.length).all fun j => decide (ws[j]? = vs[j]?)) = decide (ws = vs) := by
  by_cases h : ws = vs
  · subst h
    rw [decide_eq_true rfl, List.all_eq_true]
    exact fun j _ => decide_eq_true rfl
  · rw [decide_eq_false h]
    refine Bool.eq_false_iff.mpr fun e => h ?_
    rw [List.all_eq_true] at e
    refine List.ext_getElem? fun j => ?_
    by_cases hj : j < ws.length
    · exact of_decide_eq_true (e j (List.mem_range.mpr hj))
    · rw [List.getElem?_eq_none (by omega), List.getElem?_eq_none (by omega)]
theorem op_eqS {X : Cx} (hu : X.A.units < cLine) : OpR X (compareOp .Eq) (rEqS X.K) := by
  intro pins s σ H x y v u Q I rx ry h
  obtain ⟨a, b, ws, vs, rfl, rfl, ha, hb, q⟩ := h
  cases rx
  cases ry
  obtain ⟨its, r1, p1, _⟩ := I.list ha
  obtain ⟨jts, r2, p2, _⟩ := I.list hb
  have l1 := r1.length
  have l2 := r2.length
  rw [List.length_map] at l1 l2
  by_cases hl : ws.length = vs.length
  · refine SeqAt.eq_listAt (e := fun j => decide (ws[j]? = vs[j]?)) p1.isList p2.isList (by simp only [List.size_toArray]; omega) hu (fun j h1 h2 => ?_) ?_
    · simp only [List.size_toArray] at h1 h2
      obtain ⟨t1, e1⟩ := vals_strs (x := ws[j]) r1 (List.getElem?_eq_getElem (by omega))
      obtain ⟨t2, e2⟩ := vals_strs (x := vs[j]) r2 (List.getElem?_eq_getElem (by omega))
      have f1 : its.toArray[j] = .str ws[j] t1 := by
        rw [List.getElem?_eq_getElem h1] at e1
        injection e1 with e1
      have f2 : jts.toArray[j] = .str vs[j] t2 := by
        rw [List.getElem?_eq_getElem h2] at e2
        injection e2 with e2
      rw [f1, f2]
      have e3 : decide (ws[j]? = vs[j]?) = (ws[j] == vs[j]) := by
        rw [List.getElem?_eq_getElem (by omega), List.getElem?_eq_getElem (by omega)]
        by_cases h : ws[j] = vs[j]
        · rw [h]
          simp
        · rw [decide_eq_false (fun e => h (Option.some.inj e)), beq_eq_false_iff_ne.mpr h]
      rw [e3]
      exact SeqAt.EqAt.str_str _ _ _ _
    · have e4 : ((List.range its.toArray.size).all fun j => decide (ws[j]? = vs[j]?)) = decide (ws = vs) := by
        rw [List.size_toArray, ← l1]
        exact all_eq hl
      rw [e4]
      exact ⟨.bl _, H, I, rfl, q⟩
  · refine SeqAt.eq_list_lengthsAt p1.isList p2.isList (by simp only [List.size_toArray]; exact bne_iff_ne.mpr (by omega)) hu ?_
    rw [decide_eq_false (fun e => hl (by rw [e]))] at q
    exact ⟨.bl _, H, I, rfl, q⟩
end SW

namespace SW
open PySem PySem.Spec PyProof.Rows L2
/-! ### a def that is called where no object is being shown -/
structure FnOkG (P : Program) (w : World) (K : PySem.W.Frag) (mg : PySem.Str → Option Value) (base : Heap) (CX : CXT) (k : Nat) (f : Addr) (fd : FuncData) (ps : List PySem.Str) (sp : Sp) : Prop where
  run : ∀ (A : Around) (outer : List Env) (s : Shared) (H : Hp) (args : Args) (us : List Value) (vs : List V) (Q : VK) (E : XK),
    A.guards = some [] → Room k A → Env0 P w K mg base A outer s H → BindsTo s fd args (ps.zip us) → Vals vs us → sp vs H Q E →
    codeAny (model P w) A (.call (.ref f) args) (CR CX outer P w H s Q E) s
theorem Fun.okG {P : Program} {w : World} {K : PySem.W.Frag} {mg : PySem.Str → Option Value} {base : Heap} {x qual : PySem.Str} {st : Stmt} {f : Addr} {fd : FuncData} {N ps : List PySem.Str} {k : Nat} {sp : Sp}
    (F : Fun K x qual st f fd) (S : FnScope N ps (defScope st)) (len : ∀ vs H Q E, sp vs H Q E → vs.length = ps.length)
    (hbody : ∀ (cdv : Value) (A : Around) (outer : List Env) (s : Shared) (H : Hp) (vs : List V) (Q : VK) (E : XK),
      (A.deeper (envOfC qual (defScope st) s.heap.objs.size f cdv)).guards = some [] → Room k (A.deeper (envOfC qual (defScope st) s.heap.objs.size f cdv)) → sp vs H Q E →
      ∃ t, PSs (cxOf CX0 P w K mg base N qual (defScope st) f cdv A outer s H E).nox (defBody st) t ∧ t { nx := fun _ H' => Q .non H', rt := Q } (L2.start N vs) H) :
    FnOkG P w K mg base CX0 (k + 1) f fd ps sp := by
  obtain ⟨oc, od, kV, doc, pm, an, cdv, ct, osl, rfl, lk, hcd⟩ := F.ex
  refine ⟨fun A outer s H args us vs Q E hg hr e0 hb r hsp => ?_⟩
  have hl := len vs H Q E hsp
  have KX := PySem.W.Frag.In.keeps e0.mod.kin fun b o e => (e0.bs b o e).1
  have lim := Heap.NoLimit.keeps e0.mod.nolimit fun b o e => (e0.bs b o e).1
  refine codeAny_call_function hr.depth (KX f _ lk) rfl S.co S.gen rfl (PySem.W.codeRec_of KX hcd) (hb _ _ _ _ (wpAny_newFunctionEnv_cells S.kind (fun y hy => ?_) fun env he s1 i => ?_))
  · obtain ⟨n, v⟩ := y
    rcases S.par n (List.of_mem_zip hy).1 with q | q
    · exact .inl q
    · exact .inr ⟨q, PySem.W.cellsFrom_some _ _ [] (.inl q)⟩
  · subst he
    refine ⟨lim.keeps i.toInCall.keep, codeAny_func ?_⟩
    obtain ⟨t, ht, hq⟩ := hbody cdv A outer s H vs Q E hg (hr.deeper _) hsp
    have I : L2.Inv (cxOf CX0 P w K mg base N qual (defScope st) f cdv A outer s H E) [] (L2.start N vs) H s1 := inv_start S hr.hd e0 hl r i
    refine wpAny_mono ((PSs.nox ht).run [] s1 (L2.start N vs) H _ I hq) (fun fl s' hs => ?_) fun e s' hs => hs
    have fin : ∀ {σ' : L2.St} {H' : Hp} {v : V} {u : Value}, L2.Inv (cxOf CX0 P w K mg base N qual (defScope st) f cdv A outer s H E) [] σ' H' s' → RelV v u → Q v H' → CE outer P w H s Q u s' :=
      fun J rv q => ⟨_, _, J.os, J.bare, J.base, J.hok, rv, q⟩
    cases fl with
    | next =>
      obtain ⟨σ', H', J, q⟩ := hs
      exact fin (v := .non) (u := .none) J rfl q
    | brk =>
      obtain ⟨_, _, _, q⟩ := hs
      exact q.elim
    | cont =>
      obtain ⟨_, _, _, q⟩ := hs
      exact q.elim
    | ret u =>
      obtain ⟨v, σ', H', J, rv, q⟩ := hs
      exact fin J rv q
/-- the law's own call -/
theorem law_callG {P : Program} {w : World} {K : PySem.W.Frag} {mg mb : PySem.Str → Option Value} {k : Nat} {fa a : Addr} {fd : FuncData} {x : PySem.Str} {sp : Sp} {s₁ : Shared} {vs : List Value} {ns : List Int}
    (KX : K.In s₁.heap) (hns : s₁.heap.Ns mainGlobals mg) (hb : s₁.heap.Ns builtinsNs mb) (hbb : ∀ x : PySem.Str, x ≠ Str.ofString "__name__" → mb x = bootBuiltins x) (hlim : s₁.heap.NoLimit) (hg : s₁.gens = #[])
    (ha : s₁.heap.get? a = some { cls := .type "list", data := .seq vs.toArray }) (hi : IntsAre vs ns) (hl : ns.length ≤ sizeLine) (hr : Room k callerA)
    (F : ∀ base : Heap, K.In base → base.Ns mainGlobals mg → FnOkG P w K mg base CX0 k fa fd [x] sp) (hbind : ∀ (s : Shared) (u : Value), BindsTo s fd ⟨[u], []⟩ [(x, u)])
    (hsp : ∀ H, Only H → SqL K H a (ns.map V.int) → sp [.ref a] H (fun v _ => v = .bl true) fun _ _ _ => False) :
    codeAny (model P w) callerA (.call (.ref fa) ⟨[.ref a], []⟩) (fun r s' => r = .ok (.ret (.bool true)) ∧ OldK s₁.heap s'.heap ∧ s'.os = s₁.os ∧ AllBare s'.gens) s₁ := by
  have rv := vals_ints hi
  have lenV := IntsAre.length hi
  have core : ∀ H : Hp, Only H → SqL K H a (ns.map V.int) → HOk P w H s₁.heap → (∀ b, H b ≠ none → b = a) → (H a ≠ none → List.lookup a K = none) →
      codeAny (model P w) callerA (.call (.ref fa) ⟨[.ref a], []⟩) (fun r s' => r = .ok (.ret (.bool true)) ∧ OldK s₁.heap s'.heap ∧ s'.os = s₁.os ∧ AllBare s'.gens) s₁ := by
    intro H hO hS hok hA hK
    have noA : ∀ {b : Addr} {o : Obj}, s₁.heap.get? b = some o → (∀ vs n, o.data ≠ .seq vs n) → H b = none := by
      intro b o e d
      cases hb' : H b with
      | none => rfl
      | some u =>
        have := hA b (by rw [hb']; exact fun z => nomatch z)
        subst this
        rw [ha] at e
        cases e
        exact absurd rfl (d _ _)
    have base_of : ∀ {b : Addr} {o : Obj}, s₁.heap.get? b = some o → H b = none → (hidT s₁.heap H).get? b = some o := fun e n => hidT_get e n
    have nsK : ∀ {b : Addr} {m : PySem.Str → Option Value}, s₁.heap.Ns b m → (hidT s₁.heap H).Ns b m := by
      rintro b m ⟨o, es, ep, e, d, r⟩
      exact ⟨o, es, ep, base_of e (noA e (by intro vs n; rw [d]; exact fun z => nomatch z)), d, r⟩
    have hKb : K.In (hidT s₁.heap H) := by
      intro b o e
      refine base_of (KX b o e) ?_
      cases hb' : H b with
      | none => rfl
      | some u =>
        have := hA b (by rw [hb']; exact fun z => nomatch z)
        subst this
        rw [hK (by rw [hb']; exact fun z => nomatch z)] at e
        cases e
    have hM : Mod K mg (hidT s₁.heap H) := by
      obtain ⟨mc, h1, h2⟩ := hlim
      exact ⟨hKb, nsK hns, ⟨mb, nsK hb, hbb⟩, ⟨mc, nsK h1, h2⟩⟩
    have e0 : Env0 P w K mg (hidT s₁.heap H) callerA [] s₁ H :=
      { frames := rfl, mod := hM, bs := fun b o e => of_hidT e, bsz := Nat.le_of_eq (hidT_size s₁.heap H), funs := trivial, frf := fun b hb => (List.not_mem_nil hb).elim, hok := hok, bare := AllBare.of_eq hg }
    refine codeAny_mono ((F _ hKb (nsK hns)).run callerA [] s₁ H ⟨[.ref a], []⟩ [.ref a] [.ref a] (fun v _ => v = .bl true) (fun _ _ _ => False) rfl hr e0 (hbind s₁ _) (.cons rfl .nil) (hsp H hO hS)) fun r s' h => ?_
    cases r with
    | error e => exact h.elim
    | ok fl =>
      cases fl with
      | next => exact h.elim
      | brk => exact h.elim
      | cont => exact h.elim
      | ret u =>
        obtain ⟨v, H', os, bare, un, hok', r', q⟩ := h
        subst q
        cases r'
        refine ⟨rfl, OldK.of_keep fun b o e => ?_, os, bare⟩
        cases hb' : H b with
        | none => exact un.keep b o e hb' (fun z => List.not_mem_nil z) (fun z => List.not_mem_nil z)
        | some u =>
          rcases hO b with z | ⟨ob, xs, z⟩
          · rw [hb'] at z
            cases z
          · have h1 := un.frzs b _ _ z
            have h2 := hok b _ z
            have h3 := hok' b _ h1
            have h4 := h2.1
            have h5 := h3.1
            rw [e] at h4
            cases h4
            exact h5
  cases hk : List.lookup a K with
  | none =>
    refine core (fun b => if b = a then some (.frz { cls := .type "list", data := .seq vs.toArray } (.lst (ns.map V.int))) else none) (fun b => ?_) (.inl (.inr ⟨_, if_pos rfl⟩)) (fun b u z => ?_) (fun b z => ?_) fun _ => hk
    · by_cases hb : b = a
      · exact .inr ⟨_, _, if_pos hb⟩
      · exact .inl (if_neg hb)
    · by_cases hb : b = a
      · have z' := (if_pos hb).symm.trans z
        cases z'
        subst hb
        exact ⟨ha, by rw [List.length_map]; exact hl, vs, 0, rv, ha⟩
      · have z' := (if_neg hb).symm.trans z
        cases z'
    · by_cases hb : b = a
      · exact hb
      · exact absurd (if_neg hb) z
  | some o =>
    have e := KX a o hk
    rw [ha] at e
    cases e
    refine core (fun _ => none) (fun _ => .inl rfl) (.inr ⟨_, vs.toArray, 0, hk, rfl, rfl, rfl, by rw [List.size_toArray, lenV]; exact hl, rv⟩) (fun b u z => nomatch z) (fun b z => absurd rfl z) fun z => absurd rfl z
theorem walk_ofG {l : PySem.W.OpenLaw} {n k : Nat} {q : Program} {loose : List PySem.Str} {XP : (PySem.Str → Option Value) → Heap → Prop} {YP : World → Heap → Prop} {d : DefRec} {K : Params → PySem.W.Frag} {sp : World → Sp} {x : PySem.Str}
    (hn : l.most = some n) (hn2 : n ≤ sizeLine) (hdf : d.params.defaults = []) (hr : Room k callerA) (hY : ∀ (w : World) (h : Heap), YP w h → (K w.params).In h)
    (F : ∀ (w : World) (mg : PySem.Str → Option Value) (fa : Addr) (h : Heap), (K w.params).In h → h.Ns mainGlobals mg → mg d.name = some (.ref fa) →
      ∃ fd, (∀ (s : Shared) (u : Value), BindsTo s fd ⟨[u], []⟩ [(x, u)]) ∧ ∀ base : Heap, (K w.params).In base → base.Ns mainGlobals mg → FnOkG l.prog w (K w.params) mg base CX0 k fa fd [x] (sp w))
    (hsp : ∀ (w : World) (H : Hp) (a : Addr) (ns : List Int), ns.length ≤ n → Only H → SqL (K w.params) H a (ns.map V.int) → sp w [.ref a] H (fun v _ => v = .bl true) fun _ _ _ => False) :
    PySem.W.WalkO q loose XP YP l.row.toRowW d [] fun f vs => call f vs :=
  Att.attach_call hn hdf fun w s₀ s₁ mg mb fa o pm cd doc a vs ns G Y ho hd hcd hmg hobj hints hlen hg => by
    have KX := hY w s₁.heap Y
    obtain ⟨fd, hb, hF⟩ := F w mg fa s₁.heap KX G.T.g hmg
    exact law_callG KX G.T.g G.T.b G.T.builtins G.T.nolimit hg hobj hints (Nat.le_trans hlen hn2) hr hF hb fun H hO hS => hsp w H a ns hlen hO hS
end SW

namespace SW
open PySem PySem.Spec PyProof.Rows L2
def rLenK (K : PySem.W.Frag) : List V → Hp → VK → Prop := fun xs H Q => ∃ p ys, xs = [.ref p] ∧ (SqL K H p ys ∨ SqT K H p ys) ∧ Q (.int (ys.length : Nat)) H
/-! ### data in lists -/
theorem dpa_snoc {K : PySem.W.Frag} {H : Hp} : ∀ {vs : List V} {ds : List PyData} {v : V} {d : PyData}, DpAll K H vs ds → Dp K H v d → DpAll K H (vs ++ [v]) (ds ++ [d])
  | _, _, _, _, .nil, h => .cons h .nil
  | _, _, _, _, .cons h1 h2, h => .cons h1 (dpa_snoc h2 h)
theorem dpa_len {K : PySem.W.Frag} {H : Hp} : ∀ {vs : List V} {ds : List PyData}, DpAll K H vs ds → vs.length = ds.length
  | _, _, .nil => rfl
  | _, _, .cons _ h => congrArg (· + 1) (dpa_len h)
theorem dpa_get {K : PySem.W.Frag} {H : Hp} : ∀ {vs : List V} {ds : List PyData} {j : Nat} {v : V}, DpAll K H vs ds → vs[j]? = some v → ∃ d, ds[j]? = some d ∧ Dp K H v d
  | _, _, 0, _, .cons h _, e => by
    cases e
    exact ⟨_, rfl, h⟩
  | _, _, j + 1, _, .cons _ h, e => dpa_get (j := j) h e
theorem dpa_get' {K : PySem.W.Frag} {H : Hp} : ∀ {vs : List V} {ds : List PyData} {j : Nat} {d : PyData}, DpAll K H vs ds → ds[j]? = some d → ∃ v, vs[j]? = some v ∧ Dp K H v d
  | _, _, 0, _, .cons h _, e => by
    cases e
    exact ⟨_, rfl, h⟩
  | _, _, j + 1, _, .cons _ h, e => dpa_get' (j := j) h e
theorem dpa_set {K : PySem.W.Frag} {H : Hp} : ∀ {vs : List V} {ds : List PyData} {j : Nat} {v : V} {d : PyData}, DpAll K H vs ds → Dp K H v d → DpAll K H (vs.set j v) (ds.set j d)
  | _, _, _, _, _, .nil, _ => .nil
  | _, _, 0, _, _, .cons _ h, e => .cons e h
  | _, _, j + 1, _, _, .cons h1 h, e => .cons h1 (dpa_set (j := j) h e)
theorem dpa_app {K : PySem.W.Frag} {H : Hp} : ∀ {vs us : List V} {ds es : List PyData}, DpAll K H vs ds → DpAll K H us es → DpAll K H (vs ++ us) (ds ++ es)
  | _, _, _, _, .nil, h => h
  | _, _, _, _, .cons h1 h2, h => .cons h1 (dpa_app h2 h)
theorem dpa_drop {K : PySem.W.Frag} {H : Hp} : ∀ {vs : List V} {ds : List PyData} (n : Nat), DpAll K H vs ds → DpAll K H (vs.drop n) (ds.drop n)
  | _, _, 0, h => h
  | _, _, _ + 1, .nil => .nil
  | _, _, n + 1, .cons _ h => dpa_drop n h
theorem dpa_take {K : PySem.W.Frag} {H : Hp} : ∀ {vs : List V} {ds : List PyData} (n : Nat), DpAll K H vs ds → DpAll K H (vs.take n) (ds.take n)
  | _, _, 0, _ => .nil
  | _, _, _ + 1, .nil => .nil
  | _, _, n + 1, .cons h1 h => .cons h1 (dpa_take n h)
theorem dpa_rev {K : PySem.W.Frag} {H : Hp} : ∀ {vs : List V} {ds : List PyData}, DpAll K H vs ds → DpAll K H vs.reverse ds.reverse
  | _, _, .nil => .nil
  | _, _, .cons h1 h => by
    rw [List.reverse_cons, List.reverse_cons]
    exact dpa_snoc (dpa_rev h) h1
theorem dpa_ints {K : PySem.W.Frag} {H : Hp} : ∀ ns : List Int, DpAll K H (ns.map V.int) (ns.map PyData.int)
  | [] => .nil
  | x :: r => .cons (.int x) (dpa_ints r)
theorem dpa_ints' {K : PySem.W.Frag} {H : Hp} : ∀ {vs : List V} {ns : List Int}, DpAll K H vs (ns.map PyData.int) → vs = ns.map V.int
  | _, [], .nil => rfl
  | _, _ :: _, .cons (.int x) h => congrArg (V.int x :: ·) (dpa_ints' h)
theorem dpa_bls' {K : PySem.W.Frag} {H : Hp} : ∀ {vs : List V} {ns : List Bool}, DpAll K H vs (ns.map PyData.bool) → vs = ns.map V.bl
  | _, [], .nil => rfl
  | _, _ :: _, .cons (.bl x) h => congrArg (V.bl x :: ·) (dpa_bls' h)
theorem int_dec (x y : Int) : decide (V.int x = V.int y) = decide (x = y) := decide_eq_decide.mpr ⟨fun h => by injection h, fun h => by rw [h]⟩
/-! ### parts of lists -/
theorem cutv_from (xs : List V) (n : Nat) : cutV xs (some (n : Int)) none = xs.drop n := by
  unfold cutV
  rw [HT.sIx_nat, HT.sIx_none]
  by_cases h : n ≤ xs.length
  · rw [Nat.min_eq_left h]
    exact List.take_of_length_le (by rw [List.length_drop]; exact Nat.le_refl _)
  · rw [Nat.min_eq_right (by omega), List.drop_eq_nil_of_le (Nat.le_refl _), List.drop_eq_nil_of_le (by omega)]
    exact List.take_nil
theorem cutv_first (xs : List V) (n : Nat) : cutV xs none (some (n : Int)) = xs.take n := by
  unfold cutV
  rw [HT.sIx_nat, HT.sIx_none, List.drop_zero, Nat.sub_zero]
  by_cases h : n ≤ xs.length
  · rw [Nat.min_eq_left h]
  · rw [Nat.min_eq_right (by omega), List.take_of_length_le (Nat.le_refl _), List.take_of_length_le (by omega)]
theorem cutv_part (xs : List V) (n m : Nat) (h : n ≤ m) : cutV xs (some (n : Int)) (some (m : Int)) = (xs.drop n).take (m - n) := by
  unfold cutV
  rw [HT.sIx_nat, HT.sIx_nat]
  by_cases h1 : n ≤ xs.length
  · rw [Nat.min_eq_left h1]
    by_cases h2 : m ≤ xs.length
    · rw [Nat.min_eq_left h2]
    · rw [Nat.min_eq_right (by omega), List.take_of_length_le (by rw [List.length_drop]; exact Nat.le_refl _), List.take_of_length_le (by rw [List.length_drop]; omega)]
  · rw [List.drop_eq_nil_of_le (show xs.length ≤ min n xs.length by omega), List.drop_eq_nil_of_le (show xs.length ≤ n by omega), List.take_nil, List.take_nil]
theorem at_neg1 {xs : List V} {v : V} (h : xs[xs.length - 1]? = some v) : atI xs (-1) = some v := by
  have hl : xs ≠ [] := fun e => by
    rw [e] at h
    cases h
  have e := List.dropLast_concat_getLast hl
  rw [← List.getLast?_eq_getElem?, List.getLast?_eq_getLast hl] at h
  cases h
  conv => lhs; rw [← e]
  exact atI_last _ _
/-! ### a comprehension over any walk, whose items are data without lists -/
theorem lc_data {K : PySem.W.Frag} {J : It} {n : Nat} {G : Hp → Prop} {Y : Nat → Hp → V → Hp → Prop} (w : Walk J n G Y) {g : TG} {te : TE} {vs : List Nat} {σ : L2.St} {H1 : Hp} {D : Addr} {Qd : Hp → Prop} (hD : H1 D = none) (f : Nat → PyData) (hn : n ≤ 100000)
    (hf : ∀ i, i < n → noL (f i) = true) (hG : ∀ H, Same H1 H → G H)
    (hs : ∀ (i : Nat) (x : V) (H H' : Hp) (Q : V → Hp → Prop), i < n → Same H1 H → Y i H x H' → (∀ y H4, Same H H4 → Dp K H4 y (f i) → Q y H4) → g x (wipe σ vs) H' fun σ2 H2 => wipe σ2 vs = wipe σ vs ∧ te σ2 H2 Q)
    (hd : ∀ H ys, Same H1 H → H D = some (.lst ys) → DpAll K H ys ((List.range n).map f) → Qd H) :
    ∃ W : Nat → Nat → Hp → Prop, (∃ m, W 0 m (upd H1 D (.lst []))) ∧ ∀ i m H, W i m H → (J.stop i H ∧ Qd H) ∨ (J.go i H ∧ ∃ Nx : Hp → Prop, (∀ H', Nx H' → ∃ m', m' < m ∧ W (i + 1) m' H') ∧
      ∀ x H', J.yld i H x H' → g x (wipe σ vs) H' fun σ2 H2 => wipe σ2 vs = wipe σ vs ∧ tYes σ2 H2 fun b H3 => if b = true then te σ2 H3 fun y H4 => ∃ acc, H4 D = some (.lst acc) ∧ acc.length < sizeLine ∧ Nx (upd H4 D (.lst (acc ++ [y]))) else Nx H3) := by
  let Pv : Nat → Hp → Prop := fun i H => Same H1 H ∧ ∃ ys, H D = some (.lst ys) ∧ DpAll K H ys ((List.range i).map f)
  refine ⟨fun i m H => m = n - i ∧ i ≤ n ∧ Pv i H, ⟨n, rfl, Nat.zero_le _, same_new hD, [], upd_same, .nil⟩, ?_⟩
  rintro i m H ⟨rfl, hi, s1, ys, e, ha⟩
  by_cases hlt : i < n
  · refine .inr ⟨w.goes i H hlt (hG H s1), Pv (i + 1), fun H' p => ⟨n - (i + 1), by omega, rfl, hlt, p⟩, fun x H' y => ?_⟩
    refine hs i x H H' _ hlt s1 (w.yields i H x H' hlt (hG H s1) y) fun y H4 s4 h4 => ?_
    have e4 : H4 D = some (.lst ys) := s4 _ _ e
    refine ⟨ys, e4, ?_, same_mut (s1.trans s4) hD, ys ++ [y], upd_same, ?_⟩
    · rw [dpa_len ha, List.length_map, List.length_range]
      exact small_sz5 (by omega)
    · rw [List.range_succ, List.map_append]
      have b4 : But D H4 (upd H4 D (.lst (ys ++ [y]))) := fun c o hc eo => (upd_ne hc).trans eo
      refine dpa_snoc (dpa_but e4 b4 _ _ ?_ (dpa_same s4 _ _ ha)) (dp_but e4 b4 _ _ (hf i hlt) h4)
      clear h4 e4 s4 ha
      generalize hr : List.range i = l
      have : ∀ j, j ∈ l → j < n := fun j hj => by
        rw [← hr] at hj
        have := List.mem_range.mp hj
        omega
      clear hr
      induction l with
      | nil => rfl
      | cons a r ih =>
        show (noL (f a) && noLs (r.map f)) = true
        rw [hf a (this a List.mem_cons_self), ih fun j hj => this j (List.mem_cons_of_mem _ hj)]
        rfl
  · have : i = n := by omega
    subst this
    exact .inl ⟨w.stops H (hG H s1), hd H ys s1 e ha⟩
theorem range_map {α β : Type} (xs : List α) (g : α → β) (f : Nat → β) (h : ∀ i x, xs[i]? = some x → f i = g x) : (List.range xs.length).map f = xs.map g := by
  refine List.ext_getElem? fun i => ?_
  rw [List.getElem?_map, List.getElem?_map]
  by_cases hi : i < xs.length
  · rw [List.getElem?_range hi, List.getElem?_eq_getElem hi]
    exact congrArg some (h i _ (List.getElem?_eq_getElem hi))
  · rw [List.getElem?_eq_none (by rw [List.length_range]; omega), List.getElem?_eq_none (by omega)]
    rfl
theorem ints_get {ns : List Int} {j : Nat} {n : Int} (h : ns[j]? = some n) : (ns.map V.int)[j]? = some (.int n) := by
  rw [List.getElem?_map, h]
  rfl
theorem ints_at {ns : List Int} {j : Nat} (h : j < ns.length) : atI (ns.map V.int) (j : Int) = some (.int ns[j]) := atI_nat (ints_get (List.getElem?_eq_getElem h))
end SW

namespace SW
open PySem PySem.Spec PyProof.Rows L2
/-! This text stands for SwTw and SwTg in laws whose program reads no texts (the same names: never both). -/
/-! ### a promise that nobody calls for -/
theorem fn_never {P : Program} {w : World} {K : PySem.W.Frag} {mg : PySem.Str → Option Value} {base : Heap} {k : Nat} {f : Addr} {fd : FuncData} {ps : List PySem.Str} : FnOk P w K mg base CX0 k f fd ps (fun _ _ _ _ => False) :=
  ⟨fun _ _ _ _ h => h.elim, fun _ _ _ _ _ _ _ _ _ _ _ _ _ h => h.elim⟩
theorem fn_or {P : Program} {w : World} {K : PySem.W.Frag} {mg : PySem.Str → Option Value} {base : Heap} {CX : CXT} {k : Nat} {f : Addr} {fd : FuncData} {ps : List PySem.Str} {sp1 sp2 : Sp} (F : FnOk P w K mg base CX k f fd ps sp1) (G : FnOk P w K mg base CX k f fd ps sp2) :
    FnOk P w K mg base CX k f fd ps (fun vs H Q E => sp1 vs H Q E ∨ sp2 vs H Q E) :=
  ⟨fun vs H Q E h => h.elim (F.len vs H Q E) (G.len vs H Q E), fun A outer s H args us vs Q E hr he hb hv h => h.elim (F.run A outer s H args us vs Q E hr he hb hv) (G.run A outer s H args us vs Q E hr he hb hv)⟩
/-! ### data opened -/
theorem dp_str_inv {K : PySem.W.Frag} {H : Hp} {v : V} {x : PySem.Str} (h : Dp K H v (.str x)) : v = .str x := by
  cases h
  rfl
theorem dp_int_inv {K : PySem.W.Frag} {H : Hp} {v : V} {i : Int} (h : Dp K H v (.int i)) : v = .int i := by
  cases h
  rfl
theorem dp_bl_inv {K : PySem.W.Frag} {H : Hp} {v : V} {b : Bool} (h : Dp K H v (.bool b)) : v = .bl b := by
  cases h
  rfl
theorem dp_tup_inv {K : PySem.W.Frag} {H : Hp} {v : V} {ds : List PyData} (h : Dp K H v (.tuple ds)) : ∃ a xs, v = .ref a ∧ SqT K H a xs ∧ DpAll K H xs ds := by
  cases h with
  | tup hs ha => exact ⟨_, _, rfl, hs, ha⟩
theorem dp_inv2 {K : PySem.W.Frag} {H : Hp} {v : V} {d1 d2 : PyData} (h : Dp K H v (.tuple [d1, d2])) : ∃ a v1 v2, v = .ref a ∧ SqT K H a [v1, v2] ∧ Dp K H v1 d1 ∧ Dp K H v2 d2 := by
  obtain ⟨a, xs, e, hs, ha⟩ := dp_tup_inv h
  cases ha with
  | cons h1 ha =>
    cases ha with
    | cons h2 ha =>
      cases ha
      exact ⟨a, _, _, e, hs, h1, h2⟩
theorem dp_inv3 {K : PySem.W.Frag} {H : Hp} {v : V} {d1 d2 d3 : PyData} (h : Dp K H v (.tuple [d1, d2, d3])) : ∃ a v1 v2 v3, v = .ref a ∧ SqT K H a [v1, v2, v3] ∧ Dp K H v1 d1 ∧ Dp K H v2 d2 ∧ Dp K H v3 d3 := by
  obtain ⟨a, xs, e, hs, ha⟩ := dp_tup_inv h
  cases ha with
  | cons h1 ha =>
    cases ha with
    | cons h2 ha =>
      cases ha with
      | cons h3 ha =>
        cases ha
        exact ⟨a, _, _, _, e, hs, h1, h2, h3⟩
theorem dp_inv4 {K : PySem.W.Frag} {H : Hp} {v : V} {d1 d2 d3 d4 : PyData} (h : Dp K H v (.tuple [d1, d2, d3, d4])) : ∃ a v1 v2 v3 v4, v = .ref a ∧ SqT K H a [v1, v2, v3, v4] ∧ Dp K H v1 d1 ∧ Dp K H v2 d2 ∧ Dp K H v3 d3 ∧ Dp K H v4 d4 := by
  obtain ⟨a, xs, e, hs, ha⟩ := dp_tup_inv h
  cases ha with
  | cons h1 ha =>
    cases ha with
    | cons h2 ha =>
      cases ha with
      | cons h3 ha =>
        cases ha with
        | cons h4 ha =>
          cases ha
          exact ⟨a, _, _, _, _, e, hs, h1, h2, h3, h4⟩
theorem int_at {ns : List Int} {r : Int} (h0 : 0 ≤ r) (h1 : r < ns.length) : ∃ z, z ∈ ns ∧ atI (ns.map V.int) r = some (.int z) := by
  obtain ⟨j, rfl⟩ : ∃ j : Nat, r = j := ⟨r.toNat, by omega⟩
  have hj : j < ns.length := by omega
  refine ⟨ns[j], List.getElem_mem hj, atI_nat ?_⟩
  rw [List.getElem?_map, List.getElem?_eq_getElem hj]
  rfl
theorem But.same {h : Addr} {H H1 H2 : Hp} (a : But h H H1) (b : Same H1 H2) : But h H H2 := a.trans (Same.but b)
theorem tup_at {K : PySem.W.Frag} {H : Hp} {xs : List V} {ds : List PyData} {j : Nat} {d : PyData} (ha : DpAll K H xs ds) (e : ds[j]? = some d) : ∃ v, atI xs (j : Int) = some v ∧ Dp K H v d := by
  obtain ⟨v, h1, h2⟩ := dpa_get' ha e
  exact ⟨v, atI_nat h1, h2⟩
end SW

namespace SW
open PySem PySem.Spec PyProof.Rows L2
/-! ### dicts whose keys are tuples within tuples -/
mutual
theorem nest_of {X : Cx} {pins : List (Addr × Obj)} {σ : L2.St} {H : Hp} {s : Shared} (I : Inv X pins σ H s) : ∀ (k : NestedKey) (v : V) (u : Value), Dp X.K H v k.data → RelV v u → NestedIs s.heap k u
  | .none, _, u, h, r => by
    unfold NestedKey.data at h
    cases h
    cases r
    exact .none
  | .num i, _, u, h, r => by
    unfold NestedKey.data at h
    cases h
    obtain ⟨t, rfl⟩ := r
    exact .int i t
  | .text x, _, u, h, r => by
    unfold NestedKey.data at h
    cases h
    obtain ⟨t, rfl⟩ := r
    exact .text x t
  | .tup ks, _, u, h, r => by
    unfold NestedKey.data at h
    cases h with
    | tup hs ha =>
      cases r
      obtain ⟨its, rv, ⟨o, h1, h2, n, h3⟩, _⟩ := I.tuple hs
      exact .tup h1 h2 h3 (nests_of I ks _ _ ha rv)
theorem nests_of {X : Cx} {pins : List (Addr × Obj)} {σ : L2.St} {H : Hp} {s : Shared} (I : Inv X pins σ H s) : ∀ (ks : List NestedKey) (vs : List V) (us : List Value), DpAll X.K H vs (NestedKey.datas ks) → Vals vs us → NestedAll s.heap ks us
  | [], _, us, h, r => by
    unfold NestedKey.datas at h
    cases h
    cases r
    exact .nil
  | k :: ks, _, us, h, r => by
    unfold NestedKey.datas at h
    cases h with
    | cons h1 h2 =>
      cases r with
      | cons r1 r2 => exact .cons (nest_of I k _ _ h1 r1) (nests_of I ks _ _ h2 r2)
end
mutual
theorem noL_nk : ∀ k : NestedKey, noL k.data = true
  | .none => by unfold NestedKey.data; rfl
  | .num _ => by unfold NestedKey.data; rfl
  | .text _ => by unfold NestedKey.data; rfl
  | .tup ks => by
    unfold NestedKey.data
    show noLs (NestedKey.datas ks) = true
    exact noLs_nk ks
theorem noLs_nk : ∀ ks : List NestedKey, noLs (NestedKey.datas ks) = true
  | [] => by unfold NestedKey.datas; rfl
  | k :: ks => by
    unfold NestedKey.datas
    show (noL k.data && noLs (NestedKey.datas ks)) = true
    rw [noL_nk k, noLs_nk ks]
    rfl
end
mutual
theorem dp_tups {K : PySem.W.Frag} {H H' : Hp} (m : ∀ b xs, SqT K H b xs → SqT K H' b xs) : ∀ (d : PyData) (v : V), noL d = true → Dp K H v d → Dp K H' v d
  | .none, _, _, e => by
    cases e
    exact .non
  | .bool b, _, _, e => by
    cases e
    exact .bl b
  | .int i, _, _, e => by
    cases e
    exact .int i
  | .str x, _, _, e => by
    cases e
    exact .str x
  | .list ds, _, n, _ => by
    unfold noL at n
    cases n
  | .tuple ds, _, n, e => by
    cases e with
    | tup hs ha => exact .tup (m _ _ hs) (dpa_tups m ds _ (by unfold noL at n; exact n) ha)
  | .dict _, _, _, e => by cases e
theorem dpa_tups {K : PySem.W.Frag} {H H' : Hp} (m : ∀ b xs, SqT K H b xs → SqT K H' b xs) : ∀ (ds : List PyData) (vs : List V), noLs ds = true → DpAll K H vs ds → DpAll K H' vs ds
  | [], _, _, e => by
    cases e
    exact .nil
  | d :: ds, _, n, e => by
    unfold noLs at n
    rw [Bool.and_eq_true] at n
    cases e with
    | cons h1 h2 => exact .cons (dp_tups m d _ n.1 h1) (dpa_tups m ds _ n.2 h2)
end
def ExO (o : Obj) (a : Addr) : HO := .ext fun h => h.get? a = some o
/-- a pair in the dict, and where its key stands -/
def NPair (K : PySem.W.Frag) (H : Hp) (p : NestedKey × V) (q : NestedKey × Addr × Value) : Prop := p.1 = q.1 ∧ Dp K H (.ref q.2.1) p.1.data ∧ p.1.depth ≤ 8 ∧ RelV p.2 q.2.2
/-- at a stands a dict of these pairs -/
structure DN (P : Program) (w : World) (K : PySem.W.Frag) (H : Hp) (a : Addr) (kvs : List (NestedKey × V)) : Prop where
  sm : (a == sysModules) = false
  ln : kvs.length ≤ sizeLine
  ob : ∃ (o : Obj) (es : Array DictEntry) (ep : Nat) (xs : List (NestedKey × Addr × Value)), H a = some (ExO o a) ∧ o.ExactDict ∧ o.data = .dict es ep ∧ es.toList = xs.map (entryOfKey (nestedKind P w)) ∧ (xs.map (·.1)).Nodup ∧ Paired (NPair K H) kvs xs
theorem npair_mono {K : PySem.W.Frag} {H H' : Hp} (m : ∀ (d : PyData) (v : V), noL d = true → Dp K H v d → Dp K H' v d) : ∀ {kvs : List (NestedKey × V)} {xs : List (NestedKey × Addr × Value)}, Paired (NPair K H) kvs xs → Paired (NPair K H') kvs xs
  | _, _, .nil => .nil
  | _, _, .cons h t => .cons ⟨h.1, m _ _ (noL_nk _) h.2.1, h.2.2.1, h.2.2.2⟩ (npair_mono m t)
theorem DN.same {P : Program} {w : World} {K : PySem.W.Frag} {H H' : Hp} {a : Addr} {kvs : List (NestedKey × V)} (D : DN P w K H a kvs) (s : Same H H') : DN P w K H' a kvs := by
  obtain ⟨o, es, ep, xs, e, h1, h2, h3, h4, r⟩ := D.ob
  exact ⟨D.sm, D.ln, o, es, ep, xs, s _ _ e, h1, h2, h3, h4, npair_mono (fun d v _ h => dp_same s d v h) r⟩
/-- a list elsewhere has changed -/
theorem DN.but {P : Program} {w : World} {K : PySem.W.Frag} {H H' : Hp} {a h : Addr} {ys : List V} {kvs : List (NestedKey × V)} (D : DN P w K H a kvs) (hl : H h = some (.lst ys)) (s : But h H H') : DN P w K H' a kvs := by
  obtain ⟨o, es, ep, xs, e, h1, h2, h3, h4, r⟩ := D.ob
  refine ⟨D.sm, D.ln, o, es, ep, xs, s _ _ (fun q => ?_) e, h1, h2, h3, h4, npair_mono (fun d v n hd => dp_but hl s d v n hd) r⟩
  rw [q, hl] at e
  cases e
theorem npair_is {X : Cx} {pins : List (Addr × Obj)} {σ : L2.St} {H : Hp} {s : Shared} (I : Inv X pins σ H s) : ∀ {kvs : List (NestedKey × V)} {xs : List (NestedKey × Addr × Value)}, Paired (NPair X.K H) kvs xs → ∀ x, x ∈ xs → (nestedKind X.prog X.w).is s.heap x.1 x.2.1
  | _, _, .nil, _, hx => nomatch hx
  | _, _, .cons h t, x, hx => by
    rcases List.mem_cons.mp hx with rfl | hx
    · obtain ⟨e, hd, hp, _⟩ := h
      rw [e] at hd hp
      exact ⟨nest_of I _ _ _ hd rfl, hp⟩
    · exact npair_is I t x hx
theorem dn_of {X : Cx} {pins : List (Addr × Obj)} {σ : L2.St} {H : Hp} {s : Shared} {a : Addr} {kvs : List (NestedKey × V)} (I : Inv X pins σ H s) (D : DN X.prog X.w X.K H a kvs) : ∃ xs, Paired (NPair X.K H) kvs xs ∧ s.heap.DictOfH (nestedKind X.prog X.w) a xs := by
  obtain ⟨o, es, ep, xs, e, h1, h2, h3, h4, r⟩ := D.ob
  obtain ⟨g, _, _⟩ := (show ObjOk X.prog X.w H s.heap a (ExO o a) from I.hok a _ e)
  exact ⟨xs, r, o, es, ep, g, h1, h2, h3, npair_is I r, h4⟩
theorem npair_val {K : PySem.W.Frag} {H : Hp} (k : NestedKey) : ∀ {kvs : List (NestedKey × V)} {xs : List (NestedKey × Addr × Value)}, Paired (NPair K H) kvs xs → RelO (valV kvs k) ((atKey xs k).map (·.2))
  | _, _, .nil => trivial
  | p :: ps, q :: qs, .cons h t => by
    by_cases e : p.1 = k
    · have b : atKey (q :: qs) k = some q.2 := by simp [atKey, List.find?_cons, h.1.symm.trans e]
      rw [valV_pos e, b]
      exact h.2.2.2
    · have e2 : ¬ q.1 = k := fun z => e (h.1.trans z)
      have b : atKey (q :: qs) k = atKey qs k := by simp [atKey, List.find?_cons, e2]
      rw [valV_neg e, b]
      exact npair_val k t
theorem npair_put {K : PySem.W.Frag} {H : Hp} {k : NestedKey} {b : Addr} {y : V} {u : Value} (hd : Dp K H (.ref b) k.data) (hp : k.depth ≤ 8) (ry : RelV y u) {kvs : List (NestedKey × V)} {xs : List (NestedKey × Addr × Value)} (r : Paired (NPair K H) kvs xs) : Paired (NPair K H) (putK kvs k y) (storedH xs k b u) := by
  have e : (kvs.any fun kv => decide (kv.1 = k)) = (atKey xs k).isSome := by
    rw [valV_any, (npair_val k r).isSome_eq, Option.isSome_map]
  unfold putK storedH
  rw [e]
  by_cases hq : (atKey xs k).isSome = true
  · rw [if_pos hq, if_pos hq]
    clear e hq
    induction r with
    | nil => exact .nil
    | @cons p q ps qs h t ih =>
      refine .cons ?_ ih
      obtain ⟨h1, h2, h3, h4⟩ := h
      show NPair K H (if p.1 = k then (p.1, y) else p) (if q.1 = k then (q.1, q.2.1, u) else q)
      by_cases e : p.1 = k
      · rw [if_pos e, if_pos (h1.symm.trans e)]
        exact ⟨h1, h2, h3, ry⟩
      · rw [if_neg e, if_neg (fun z => e (h1.trans z))]
        exact ⟨h1, h2, h3, h4⟩
  · rw [if_neg hq, if_neg hq]
    clear e hq
    induction r with
    | nil => exact .cons ⟨rfl, hd, hp, ry⟩ .nil
    | cons h t ih => exact .cons h ih
theorem paired_len {α β : Type} {R : α → β → Prop} : ∀ {xs : List α} {ys : List β}, Paired R xs ys → xs.length = ys.length
  | _, _, .nil => rfl
  | _, _, .cons _ t => congrArg Nat.succ (paired_len t)
theorem putN_len (c : List (NestedKey × V)) (k : NestedKey) (x : V) : (putK c k x).length ≤ c.length + 1 := by
  unfold putK
  split
  · rw [List.length_map]
    omega
  · rw [List.length_append]
    exact Nat.le_refl _
theorem dp_ext {K : PySem.W.Frag} {H : Hp} {a : Addr} {o : Obj} {u : HO} (e : H a = some (ExO o a)) (d : PyData) (v : V) (n : noL d = true) (h : Dp K H v d) : Dp K (upd H a u) v d :=
  dp_tups (fun b xs hs => by
    have ne : ∀ {z : HO}, H b = some z → z ≠ ExO o a → b ≠ a := fun h1 h2 q => by
      rw [q, e] at h1
      exact h2 (Option.some.inj h1).symm
    rcases hs with (hs | ⟨p, hs⟩) | hs
    · exact .inl (.inl ((upd_ne (ne hs (fun q => nomatch q))).trans hs))
    · exact .inl (.inr ⟨p, (upd_ne (ne hs (fun q => nomatch q))).trans hs⟩)
    · exact .inr hs) d v n h
theorem nk_is {X : Cx} {pins : List (Addr × Obj)} {σ : L2.St} {H : Hp} {s : Shared} (I : Inv X pins σ H s) {k : NestedKey} {b : Addr} (hd : Dp X.K H (.ref b) k.data) (hp : k.depth ≤ 8) : (nestedKind X.prog X.w).is s.heap k b := ⟨nest_of I _ _ _ hd rfl, hp⟩
theorem nk_room1 {X : Cx} (hu : X.A.units + 65 < cLine) : (nestedKind X.prog X.w).room X.A.in1 := by
  show X.A.units + 1 + 8 < cLine
  omega
theorem nk_room {X : Cx} (hu : X.A.units + 65 < cLine) : (nestedKind X.prog X.w).room X.A := by
  show X.A.units + 8 < cLine
  omega
section
variable {X : Cx}
/-- d[k], there -/
def rIxN (P : Program) (w : World) (K : PySem.W.Frag) : R2 := fun x y H Q => ∃ (a b : Addr) (kvs : List (NestedKey × V)) (k : NestedKey) (v : V), x = .ref a ∧ y = .ref b ∧ DN P w K H a kvs ∧ Dp K H (.ref b) k.data ∧ k.depth ≤ 8 ∧ valV kvs k = some v ∧ Q v H
theorem ix_nest (hu : X.A.units + 65 < cLine) : IxR X (rIxN X.prog X.w X.K) := by
  intro value slice pins s σ H x y v u Q I rx ry h hs
  obtain ⟨a, b, kvs, k, r, rfl, rfl, D, hd, hp, hv, q⟩ := h
  cases rx
  cases ry
  obtain ⟨xs, rel, dd⟩ := dn_of I D
  have rv := npair_val k rel
  rw [hv] at rv
  obtain ⟨w', hw, rw'⟩ := RelO.some_of rv
  obtain ⟨p, hp1, hp2⟩ := Option.map_eq_some_iff.mp hw
  refine tail_any dd.typeIs slot_dict_getitem.lookup (wpAny_getItem_heap (nk_room1 hu) (nk_is I hd hp) dd hp1 ?_) hs
  rw [hp2]
  exact ⟨r, H, I.tok _, rw', q⟩
/-- k not in d -/
def rNotN (P : Program) (w : World) (K : PySem.W.Frag) : R2 := fun x y H Q => ∃ (b a : Addr) (kvs : List (NestedKey × V)) (k : NestedKey), x = .ref b ∧ y = .ref a ∧ DN P w K H a kvs ∧ Dp K H (.ref b) k.data ∧ k.depth ≤ 8 ∧ Q (.bl (!(valV kvs k).isSome)) H
theorem op_notN' (hu : X.A.units + 65 < cLine) : OpR X (compareOp .NotIn) (rNotN X.prog X.w X.K) := by
  intro pins s σ H x y v u Q I rx ry h
  obtain ⟨b, a, kvs, k, rfl, rfl, D, hd, hp, q⟩ := h
  cases rx
  cases ry
  obtain ⟨xs, rel, dd⟩ := dn_of I D
  refine wpAny_notIn_heap (nk_room1 hu) (nk_is I hd hp) D.sm dd ?_
  have e := (npair_val k rel).isSome_eq
  rw [Option.isSome_map] at e
  rw [← e]
  exact ⟨.bl _, H, I.tok _, rfl, q⟩
theorem dn_put {pins : List (Addr × Obj)} {σ : L2.St} {H : Hp} {s : Shared} {a b : Addr} {kvs : List (NestedKey × V)} {xs : List (NestedKey × Addr × Value)} {k : NestedKey} {y : V} {u : Value} {h' : Heap} {tk : Nat} (I : Inv X pins σ H s) (D : DN X.prog X.w X.K H a kvs) (rel : Paired (NPair X.K H) kvs xs)
    (hd : Dp X.K H (.ref b) k.data) (hp : k.depth ≤ 8) (ry : RelV y u) (hz : kvs.length < sizeLine) (dd : h'.DictOfH (nestedKind X.prog X.w) a (storedH xs k b u)) (sb : Heap.SameBut a s.heap h') :
    ∃ o', Inv X pins σ (upd H a (ExO o' a)) { s with heap := h', toks := tk } ∧ DN X.prog X.w X.K (upd H a (ExO o' a)) a (putK kvs k y) := by
  obtain ⟨o, es, ep, xs0, e, _⟩ := D.ob
  obtain ⟨o', es', ep', g1, g2, g3, g4, _, g5⟩ := dd
  have mv : ∀ (d : PyData) (v : V), noL d = true → Dp X.K H v d → Dp X.K (upd H a (ExO o' a)) v d := fun d v n hv => dp_ext e d v n hv
  refine ⟨o', d_write I (by rw [e]; exact True.intro) sb ⟨o', g1⟩ ⟨g1, ⟨o', g1⟩, fun h1 h2 k1 k2 => k2 _ k1⟩, D.sm, ?_, o', es', ep', _, upd_same, g2, g3, g4, g5, npair_mono mv (npair_put hd hp ry rel)⟩
  have := putN_len kvs k y
  omega
/-- d[k] = y -/
def rSetN (P : Program) (w : World) (K : PySem.W.Frag) : TSet := fun o i v H Q => ∃ (a b : Addr) (kvs : List (NestedKey × V)) (k : NestedKey), o = .ref a ∧ i = .ref b ∧ DN P w K H a kvs ∧ Dp K H (.ref b) k.data ∧ k.depth ≤ 8 ∧ kvs.length < sizeLine ∧
  ∀ o', DN P w K (upd H a (ExO o' a)) a (putK kvs k v) → Q (upd H a (ExO o' a))
theorem set_nest (hu : X.A.units + 65 < cLine) : PSet X (rSetN X.prog X.w X.K) := by
  intro pins s σ H o i v ov iv u Q I ro ri rv h
  obtain ⟨a, b, kvs, k, rfl, rfl, D, hd, hp, hz, q⟩ := h
  cases ro
  cases ri
  obtain ⟨xs, rel, dd⟩ := dn_of I D
  refine wpAny_setItem_heap (hsz := by rw [← paired_len rel]; omega) (nk_room1 hu) (nk_is I hd hp) dd fun h' dd' sb => ?_
  obtain ⟨o', I', D'⟩ := dn_put I D rel hd hp rv hz dd' sb
  exact ⟨_, I', q o' D'⟩
/-- d[k] = y, in a comprehension -/
theorem dn_comp {pins : List (Addr × Obj)} {σ : L2.St} {H : Hp} {s : Shared} {E : Value → Shared → Prop} {a b : Addr} {kvs : List (NestedKey × V)} {k : NestedKey} {y : V} {u : Value} {Q : Unit → Shared → Prop} (hu : X.A.units + 65 < cLine) (I : Inv X pins σ H s) (D : DN X.prog X.w X.K H a kvs) (hd : Dp X.K H (.ref b) k.data) (hp : k.depth ≤ 8) (rv : RelV y u) (hz : kvs.length < sizeLine)
    (q : ∀ o' s', DN X.prog X.w X.K (upd H a (ExO o' a)) a (putK kvs k y) → Inv X pins σ (upd H a (ExO o' a)) s' → Q () s') : wpAny (model X.prog X.w) X.A (dictSet a (.ref b) u) Q E s := by
  obtain ⟨xs, rel, dd⟩ := dn_of I D
  refine wpAny_dictSet_heap (hsz := by rw [← paired_len rel]; omega) (nk_room hu) (nk_is I hd hp) dd fun h' dd' sb => ?_
  obtain ⟨o', I', D'⟩ := dn_put I D rel hd hp rv hz dd' sb
  exact q o' _ D' I'
end
end SW

namespace SW
open PySem PySem.Spec PyProof.Rows L2
/-! ### comprehensions by their values -/
theorem lc_vals {J : It} {n : Nat} {G : Hp → Prop} {Y : Nat → Hp → V → Hp → Prop} (w : Walk J n G Y) {g : TG} {te : TE} {vs : List Nat} {σ : L2.St} {H1 : Hp} {D : Addr} {Qd : Hp → Prop} (hD : H1 D = none) (f : Nat → V) (hn : n ≤ 100000) (hG : ∀ H, Same H1 H → G H)
    (hs : ∀ (i : Nat) (x : V) (H H' : Hp) (Q : V → Hp → Prop), i < n → Same H1 H → Y i H x H' → (∀ H4, Same H H4 → Q (f i) H4) → g x (wipe σ vs) H' fun σ2 H2 => wipe σ2 vs = wipe σ vs ∧ te σ2 H2 Q)
    (hd : ∀ H, Same H1 H → H D = some (.lst ((List.range n).map f)) → Qd H) :
    ∃ W : Nat → Nat → Hp → Prop, (∃ m, W 0 m (upd H1 D (.lst []))) ∧ ∀ i m H, W i m H → (J.stop i H ∧ Qd H) ∨ (J.go i H ∧ ∃ Nx : Hp → Prop, (∀ H', Nx H' → ∃ m', m' < m ∧ W (i + 1) m' H') ∧
      ∀ x H', J.yld i H x H' → g x (wipe σ vs) H' fun σ2 H2 => wipe σ2 vs = wipe σ vs ∧ tYes σ2 H2 fun b H3 => if b = true then te σ2 H3 fun y H4 => ∃ acc, H4 D = some (.lst acc) ∧ acc.length < sizeLine ∧ Nx (upd H4 D (.lst (acc ++ [y]))) else Nx H3) := by
  let Pv : Nat → Hp → Prop := fun i H => Same H1 H ∧ H D = some (.lst ((List.range i).map f))
  refine ⟨fun i m H => m = n - i ∧ i ≤ n ∧ Pv i H, ⟨n, rfl, Nat.zero_le _, same_new hD, upd_same⟩, ?_⟩
  rintro i m H ⟨rfl, hi, s1, e⟩
  by_cases hlt : i < n
  · refine .inr ⟨w.goes i H hlt (hG H s1), Pv (i + 1), fun H' p => ⟨n - (i + 1), by omega, rfl, hlt, p⟩, fun x H' y => ?_⟩
    refine hs i x H H' _ hlt s1 (w.yields i H x H' hlt (hG H s1) y) fun H4 s4 => ?_
    refine ⟨_, s4 _ _ e, ?_, same_mut (s1.trans s4) hD, ?_⟩
    · rw [List.length_map, List.length_range]
      exact small_sz5 (by omega)
    · rw [List.range_succ, List.map_append, upd_same]
      rfl
  · have : i = n := by omega
    subst this
    exact .inl ⟨w.stops H (hG H s1), hd H s1 e⟩
/-- over a range, each item drawn from the hand -/
theorem lc_drawn {α : Type} {K : PySem.W.Frag} {lo : Int} {n : Nat} {h d : Addr} {ds : List Int} {g : TG} {te : TE} {vs : List Nat} {σ : L2.St} {H1 : Hp} {D : Addr} {Qd : Hp → Prop} (enc : α → PyData) (R : α → Prop) (hE : ∀ e, R e → noL (enc e) = true) (hn : n ≤ 1000) (hH : Hand H1 h d ds) (hD : H1 D = none)
    (hs : ∀ (i : Nat) (x : V) (H : Hp) (Q : V → Hp → Prop), i < n → But h H1 H → Hand H h d ds → x = .int (lo + i) → (∀ y e H4, But h H H4 → Hand H4 h d ds → R e → Dp K H4 y (enc e) → Q y H4) → g x (wipe σ vs) H fun σ2 H2 => wipe σ2 vs = wipe σ vs ∧ te σ2 H2 Q)
    (hd : ∀ H ys (es : List α), But h H1 H → Hand H h d ds → H D = some (.lst ys) → D ≠ h → D ≠ d → DpAll K H ys (es.map enc) → es.length = n → (∀ e, e ∈ es → R e) → Qd H) :
    ∃ W : Nat → Nat → Hp → Prop, (∃ m, W 0 m (upd H1 D (.lst []))) ∧ ∀ i m H, W i m H → ((Itr lo n).stop i H ∧ Qd H) ∨ ((Itr lo n).go i H ∧ ∃ Nx : Hp → Prop, (∀ H', Nx H' → ∃ m', m' < m ∧ W (i + 1) m' H') ∧
      ∀ x H', (Itr lo n).yld i H x H' → g x (wipe σ vs) H' fun σ2 H2 => wipe σ2 vs = wipe σ vs ∧ tYes σ2 H2 fun b H3 => if b = true then te σ2 H3 fun y H4 => ∃ acc, H4 D = some (.lst acc) ∧ acc.length < sizeLine ∧ Nx (upd H4 D (.lst (acc ++ [y]))) else Nx H3) := by
  have w : Walk (Itr lo n) n (fun _ => True) (YFn fun i => .int (lo + i)) := walk_range
  have hDh := hand_ne hH hD
  have hDd := hand_ne2 hH hD
  let Pv : Nat → Hp → Prop := fun i H => But h H1 H ∧ Hand H h d ds ∧ ∃ (ys : List V) (es : List α), H D = some (.lst ys) ∧ DpAll K H ys (es.map enc) ∧ es.length = i ∧ ∀ e, e ∈ es → R e
  refine ⟨fun i m H => m = n - i ∧ i ≤ n ∧ Pv i H, ⟨n, rfl, Nat.zero_le _, (But.refl h H1).new hD, hH.upd hDh hDd, [], [], upd_same, .nil, rfl, fun _ h => nomatch h⟩, ?_⟩
  rintro i m H ⟨rfl, hi, b1, hh, ys, es, e, ha, hl, hR⟩
  by_cases hlt : i < n
  · refine .inr ⟨w.goes i H hlt trivial, Pv (i + 1), fun H' p => ⟨n - (i + 1), by omega, rfl, hlt, p⟩, fun x H' y => ?_⟩
    obtain ⟨rfl, hx⟩ := w.yields i H x H' hlt trivial y
    refine hs i x _ _ hlt b1 hh hx fun y e4 H4 b4 hh4 hr4 h4 => ?_
    have e5 := b4 _ _ hDh e
    obtain ⟨k, hk⟩ := hh.at_
    have all : ∀ es : List α, (∀ e, e ∈ es → R e) → noLs (es.map enc) = true := fun es => by
      induction es with
      | nil => exact fun _ => rfl
      | cons a r ih =>
        intro hr
        show (noL (enc a) && noLs (r.map enc)) = true
        rw [hE a (hr a List.mem_cons_self), ih fun e he => hr e (List.mem_cons_of_mem _ he)]
        rfl
    have hbut : But D H4 (upd H4 D (.lst (ys ++ [y]))) := fun b o hne e => (upd_ne hne).trans e
    refine ⟨ys, e5, ?_, (b1.trans b4).new hD, hh4.upd hDh hDd, ys ++ [y], es ++ [e4], upd_same, ?_, by rw [List.length_append, hl]; rfl, fun e he => ?_⟩
    · rw [dpa_len ha, List.length_map]
      exact small_sz5 (by omega)
    · rw [List.map_append]
      exact dpa_snoc (dpa_but e5 hbut _ _ (all es hR) (dpa_but hk b4 _ _ (all es hR) ha)) (dp_but e5 hbut _ _ (hE _ hr4) h4)
    · rcases List.mem_append.mp he with he | he
      · exact hR e he
      · rw [List.mem_singleton.mp he]
        exact hr4
  · have : i = n := by omega
    subst this
    exact .inl ⟨w.stops H trivial, hd H ys es b1 hh e hDh hDd ha hl hR⟩
theorem dp_mem {K : PySem.W.Frag} {H : Hp} {xs : List V} {α : Type} {es : List α} {enc : α → PyData} {j : Nat} (ha : DpAll K H xs (es.map enc)) (hj : j < es.length) : ∃ v, xs[j]? = some v ∧ Dp K H v (enc es[j]) :=
  dpa_get' (j := j) ha (by rw [List.getElem?_map, List.getElem?_eq_getElem hj]; rfl)
theorem range_fn {α β : Type} (xs : List α) (g : α → β) : (List.range xs.length).map (fun i => if h : i < xs.length then some (g xs[i]) else none) = xs.map fun x => some (g x) :=
  range_map xs (fun x => some (g x)) _ fun i x h => by
    obtain ⟨h1, h2⟩ := List.getElem?_eq_some_iff.mp h
    rw [dif_pos h1, h2]
end SW

namespace SW
open PySem PySem.Spec PyProof.Rows L2
/-! ### t + u and t[a:b] of tuples, whatever object comes of it -/
section
variable {X : Cx}
def rCatB (K : PySem.W.Frag) : R2 := fun x y H Q => ∃ a b xs ys, x = .ref a ∧ y = .ref b ∧ SqT K H a xs ∧ SqT K H b ys ∧ xs.length + ys.length ≤ sizeLine ∧ ∀ p H', Same H H' → SqT K H' p (xs ++ ys) → Q (.ref p) H'
theorem op_catB : OpR X (binaryOp .Add) (rCatB X.K) := by
  intro pins s σ H x y v u Q I rx ry h
  obtain ⟨a, b, xs, ys, h1, h2, h3, h4, h5, q⟩ := h
  refine op_catA pins s σ H x y v u Q I rx ry ⟨a, b, xs, ys, h1, h2, h3, h4, h5, fun e => ?_, fun _ e => ?_, fun _ _ p np => ?_⟩
  · subst e
    exact q b H (Same.refl _) h4
  · subst e
    refine q a H (Same.refl _) ?_
    rw [List.append_nil]
    exact h3
  · exact q p _ (same_new np) (SqT.of upd_same)
def rSlB (K : PySem.W.Frag) : V → Option Int → Option Int → Hp → VK → Prop := fun x lo hi H Q => ∃ a xs, x = .ref a ∧ SqT K H a xs ∧ ∀ p H', Same H H' → SqT K H' p (cutV xs lo hi) → Q (.ref p) H'
theorem sl_tupB : SlR X (rSlB X.K) := by
  intro pins s σ H x v vl vu lo hi sl Q I rx hs pl pu h
  obtain ⟨a, xs, h1, h2, q⟩ := h
  refine sl_tupA pins s σ H x v vl vu lo hi sl Q I rx hs pl pu ⟨a, xs, h1, h2, fun e => ?_, fun _ p np => ?_⟩
  · refine q a H (Same.refl _) ?_
    unfold cutV
    rw [e.1, e.2, List.drop_zero, Nat.sub_zero, List.take_length]
    exact h2
  · exact q p _ (same_new np) (SqT.of upd_same)
end
theorem cut_m1 (xs : List V) (v : V) : cutV (xs ++ [v]) none (some (-1)) = xs := by
  unfold cutV
  have e : HT.sIx (xs ++ [v]).length (xs ++ [v]).length (some (-1)) = xs.length := by
    show (if (-1 : Int) < 0 then ((-1 : Int) + ((xs ++ [v]).length : Int)).toNat else min (-1 : Int).toNat (xs ++ [v]).length) = _
    rw [if_pos (by decide), List.length_append]
    show ((-1 : Int) + ((xs.length + 1 : Nat) : Int)).toNat = _
    omega
  rw [e, HT.sIx_none, List.drop_zero, Nat.sub_zero, List.take_left]
theorem dpa_split {K : PySem.W.Frag} {H : Hp} : ∀ {ds es : List PyData} {xs : List V}, DpAll K H xs (ds ++ es) → ∃ ys zs, xs = ys ++ zs ∧ DpAll K H ys ds ∧ DpAll K H zs es
  | [], _, xs, h => ⟨[], xs, rfl, .nil, h⟩
  | d :: ds, es, _, .cons h1 h2 => by
    obtain ⟨ys, zs, e, h3, h4⟩ := dpa_split h2
    exact ⟨_ :: ys, zs, by rw [e]; rfl, .cons h1 h3, h4⟩
end SW

namespace SW
open PySem PySem.Spec PyProof.Rows L2
/-! ### tuple * 0, tuple * 1; list.remove of a text; list[::-1] -/
theorem tuple_mul0 (l : Addr) (items : Array Value) (n : Nat) (dd : Option Addr) (sl : Array (Option Value)) (u : Tok) (hne : items.isEmpty = false) :
    Meets (Builtin.«tuple.__mul__» ⟨[.ref l, .int 0 u], []⟩) (fun _ R s => s.heap.get? l = some { cls := .type "tuple", dict := dd, data := .seq items n, slots := sl } ∧
      R (.ok (.ret (Value.ref s.heap.objs.size))) { s with heap := s.heap.push { cls := Value.type "tuple", data := Data.seq #[] }, toks := s.toks }) :=
  .of_wp fun prog w A R s h => by
    obtain ⟨hp, g, d, tk, os⟩ := s
    obtain ⟨hl, h⟩ := h
    have f1 := AutoSeq1.idx_int
    have c0 : (decide ((0 : Int) < -(2 ^ 63)) || decide ((0 : Int) ≥ 2 ^ 63)) = false := by decide
    have c1 : (items.isEmpty || (0 : Int) == 1) = false := by
      rw [hne]
      rfl
    wp_walk using wpAny_loadPart' hl
    repeat (first
      | (refine wpAny_ite_false (decide_eq_false (by rw [c0]; exact Bool.false_ne_true)) ?_; wp_walk using wpAny_loadPart' hl)
      | (refine wpAny_ite_false (decide_eq_false (by rw [c1]; exact Bool.false_ne_true)) ?_; wp_walk using wpAny_loadPart' hl)
      | (refine wpAny_ite_true (decide_eq_true (by rfl)) ?_; wp_walk using wpAny_loadPart' hl))
    exact ⟨_, rfl, h⟩
theorem tuple_mul1 (l : Addr) (items : Array Value) (n : Nat) (dd : Option Addr) (sl : Array (Option Value)) (u : Tok) (hne : items.isEmpty = false) :
    Meets (Builtin.«tuple.__mul__» ⟨[.ref l, .int 1 u], []⟩) (fun _ R s => s.heap.get? l = some { cls := .type "tuple", dict := dd, data := .seq items n, slots := sl } ∧
      R (.ok (.ret (Value.ref l))) s) :=
  .of_wp fun prog w A R s h => by
    obtain ⟨hp, g, d, tk, os⟩ := s
    obtain ⟨hl, h⟩ := h
    have f1 := AutoSeq1.idx_int
    have c0 : (decide ((1 : Int) < -(2 ^ 63)) || decide ((1 : Int) ≥ 2 ^ 63)) = false := by decide
    have c1 : (items.isEmpty || (1 : Int) == 1) = true := by
      rw [hne]
      rfl
    wp_walk using wpAny_loadPart' hl
    repeat (first
      | (refine wpAny_ite_false (decide_eq_false (by rw [c0]; exact Bool.false_ne_true)) ?_; wp_walk using wpAny_loadPart' hl)
      | (refine wpAny_ite_true (decide_eq_true (by rw [c1])) ?_; wp_walk using wpAny_loadPart' hl))
    exact ⟨_, rfl, h⟩
def rRep01 (K : PySem.W.Frag) : R2 := fun x y H Q => ∃ (l : Addr) (k : Int) (xs : List V), x = .ref l ∧ y = .int k ∧ SqT K H l xs ∧ xs ≠ [] ∧ (k = 0 ∨ k = 1) ∧ ∀ (p : Addr) (ys : List V) (H' : Hp), Same H H' → SqT K H' p ys → (ys = [] ∨ ys = xs) → Q (.ref p) H'
section
variable {X : Cx}
theorem op_rep01 : OpR X (binaryOp .Mult) (rRep01 X.K) := by
  intro pins s σ H x y v u Q I rx ry h
  obtain ⟨l, k, xs, rfl, rfl, hT, hne, hk, q⟩ := h
  cases rx
  obtain ⟨t, rfl⟩ := ry
  obtain ⟨its, r, ⟨⟨cls, dd, data, sl⟩, ho, hc, n, hd⟩, hs⟩ := I.tuple hT
  simp only at hc hd
  subst hc hd
  have hn : its ≠ [] := fun e => hne (by
    have hle : its.length = xs.length := r.length.symm
    rw [e] at hle
    exact List.eq_nil_of_length_eq_zero hle.symm)
  have hi : its.toArray.isEmpty = false := by
    cases its with
    | nil => exact absurd rfl hn
    | cons a b => rfl
  rcases hk with rfl | rfl
  · refine wpAny_binaryOp_repeat_ref (T := "tuple") (U := "int") (by decide) ⟨_, ho, rfl⟩ (fun s' => typeIs_int s' 0 t) noFill_tuple_mul F.fills_int_mul F.slot_int_rmul repeat_tuple F.slot_int_index.lookup
      (call_meets F.slot_int_rmul (typeIs_int s 0 t) F.entry_int_rmul (F.args_int_rmul_2 _ _) (int_rmul_tuple 0 t l its.toArray n dd sl)
        ⟨ho, rfl, ⟨_, ho, rfl⟩, call_meets F.slot_tuple_mul ⟨_, ho, rfl⟩ F.entry_tuple_mul (F.args_tuple_mul_2 _ _) (tuple_mul0 l its.toArray n dd sl t hi) ⟨ho, ?_⟩⟩)
    refine ⟨.ref s.heap.objs.size, _, I.laid (t' := s.toks) (o := .tup []) (fun b ob q => Heap.get?_push_of_some _ q) (Nat.le_refl _) ?_, rfl, q _ [] _ (same_new (I.hok.fresh (Nat.le_refl _))) (SqT.of upd_same) (.inl rfl)⟩
    exact ⟨Nat.zero_le _, [], .nil, IsTup.new _ _⟩
  · refine wpAny_binaryOp_repeat_ref (T := "tuple") (U := "int") (by decide) ⟨_, ho, rfl⟩ (fun s' => typeIs_int s' 1 t) noFill_tuple_mul F.fills_int_mul F.slot_int_rmul repeat_tuple F.slot_int_index.lookup
      (call_meets F.slot_int_rmul (typeIs_int s 1 t) F.entry_int_rmul (F.args_int_rmul_2 _ _) (int_rmul_tuple 1 t l its.toArray n dd sl)
        ⟨ho, rfl, ⟨_, ho, rfl⟩, call_meets F.slot_tuple_mul ⟨_, ho, rfl⟩ F.entry_tuple_mul (F.args_tuple_mul_2 _ _) (tuple_mul1 l its.toArray n dd sl t hi) ⟨ho, ?_⟩⟩)
    exact ⟨.ref l, H, I, rfl, q _ xs _ (Same.refl _) hT (.inr rfl)⟩
theorem erase_map {α β : Type} (f : α → β) : ∀ (l : List α) (j : Nat), (l.map f).eraseIdx j = (l.eraseIdx j).map f
  | [], j => by simp
  | a :: r, 0 => by simp
  | a :: r, j + 1 => by
    have ih := erase_map f r j
    simp [ih]
theorem first_at {ws : List PySem.Str} {k : PySem.Str} (h : k ∈ ws) : ∃ j : Nat, ws[j]? = some k ∧ ∀ m : Nat, m < j → ws[m]? ≠ some k := by
  induction ws with
  | nil => exact (List.not_mem_nil h).elim
  | cons a r ih =>
    by_cases e : a = k
    · exact ⟨0, by rw [e]; rfl, fun m hm => absurd hm (Nat.not_lt_zero _)⟩
    · obtain ⟨j, h1, h2⟩ := ih ((List.mem_cons.mp h).resolve_left fun h => e h.symm)
      refine ⟨j + 1, h1, fun m hm => ?_⟩
      cases m with
      | zero => exact fun h => e (Option.some.inj h)
      | succ m => exact h2 m (by omega)
theorem strs_get : ∀ {us : List Value} {ws : List PySem.Str}, StrsAre us ws → ∀ (j : Nat) (k : PySem.Str), ws[j]? = some k → ∃ t, us[j]? = some (.str k t)
  | _, _, .nil, j, k, h => by cases h
  | _, _, .cons x t r, 0, k, h => by
    cases h
    exact ⟨t, rfl⟩
  | _, _, .cons x t r, j + 1, k, h => strs_get r j k h
def rRemS : V → List V → Hp → VK → Prop := fun x xs H Q => ∃ (l : Addr) (ws : List PySem.Str) (k : PySem.Str), x = .ref l ∧ xs = [.str k] ∧ H l = some (.lst (ws.map V.str)) ∧ k ∈ ws ∧ ∀ us : List PySem.Str, (∀ z, z ∈ us → z ∈ ws) → us.length ≤ ws.length → Q .non (upd H l (.lst (us.map V.str)))
theorem mt_removeS : MtM X "list.remove" rRemS := by
  intro pins s σ H x xs v us Q I rx rxs h
  obtain ⟨l, ns, k, rfl, rfl, hH, hm, q⟩ := h
  obtain ⟨j, hj, hno⟩ := first_at hm
  cases rx
  obtain ⟨u, rfl, ru⟩ := rxs.one
  obtain ⟨t, rfl⟩ := ru
  obtain ⟨z, its, n, r, hl, e⟩ := I.lstM hH
  have hi := strs_of_vals r
  rw [List.length_map] at hl z
  have hjn : j < ns.length := (List.getElem?_eq_some_iff.mp hj).1
  have hjl : j < its.toArray.size := by rw [List.size_toArray]; omega
  refine call_meets PySem.F.slot_list_remove ⟨_, e, rfl⟩ PySem.F.entry_list_remove (PySem.F.args_list_remove_2 _ _)
    (MeetsSeq.list_remove l its.toArray n (.str k t) (isStrOf k) (fun y hy => eq_isStrOf k t hi y (by simpa using hy)) j hjl ?_ ?_ (by rw [List.size_toArray]; omega)) ⟨e, ?_⟩
  · obtain ⟨tj, hjt⟩ := strs_get hi j k hj
    obtain ⟨h1, h2⟩ := List.getElem?_eq_some_iff.mp hjt
    have e1 : its.toArray[j] = .str k tj := by simpa using h2
    rw [e1]
    exact beq_self_eq_true k
  · intro m hm hmj
    have hmn : m < ns.length := by omega
    obtain ⟨tm, hmt⟩ := strs_get hi m _ (List.getElem?_eq_getElem hmn)
    obtain ⟨h1, h2⟩ := List.getElem?_eq_some_iff.mp hmt
    have e1 : its.toArray[m] = .str ns[m] tm := by simpa using h2
    rw [e1]
    refine beq_eq_false_iff_ne.mpr fun e2 => hno m hmj ?_
    rw [List.getElem?_eq_getElem hmn, e2]
  · have rr := r.eraseIdx j
    rw [erase_map] at rr
    have hlen : (ns.eraseIdx j).length ≤ ns.length := List.length_eraseIdx_le ns j
    refine ⟨.non, _, I.lset (its' := its.eraseIdx j) (t' := s.toks) hH e ?_ rr ?_, rfl, q _ (fun z hz => List.mem_of_mem_eraseIdx hz) hlen⟩
    · show its.toArray.eraseIdxIfInBounds j = (its.eraseIdx j).toArray
      rw [List.eraseIdxIfInBounds_toArray]
    · rw [List.length_map]
      omega
def tRev (K : PySem.W.Frag) (te : TE) (ts : TO) : TE := fun σ H Q => te σ H fun x H1 => ts σ H1 fun st H2 => ∃ (a : Addr) (xs : List V), x = .ref a ∧ st = some (-1) ∧ SqL K H2 a xs ∧ ∀ p, H2 p = none → Q (.ref p) (upd H2 p (.lst xs.reverse))
theorem pe_rev {e st : Expr} {te : TE} {ts : TO} {pos p2 : Pos} (he : PE X e te) (hs : PO X (some st) ts) : PE X (.Subscript e (.Slice none none (some st) p2) pos) (tRev X.K te ts) := by
  refine ⟨fun pins s σ H Q I h => ?_⟩
  refine Subscript_ (thn (he.run pins s σ H _ I h) fun v s1 ⟨x, H1, I1, r1, q1⟩ => ?_)
  refine wpAny_Slice ?_
  rw [evalPart_none]
  refine wpAny_pure ?_
  refine wpAny_pure ?_
  refine thn (hs.run pins s1 σ H1 _ I1 q1) fun vs s3 ⟨u, H3, I3, ps, q3⟩ => ?_
  obtain ⟨a, xs, rfl, rfl, hx, q⟩ := q3
  cases r1
  have I4 : Inv X pins σ H3 { s3 with heap := s3.heap.push { cls := .type "slice", data := .fields #[.none, .none, vs] } } := I3.kept (t' := s3.toks) fun b ob q => Heap.get?_push_of_some _ q
  obtain ⟨its, r, ht, hz⟩ := I4.list hx
  show wpAny (model X.prog X.w) X.A (subscriptTail e (.Slice none none (some st) p2) (.ref a) (.ref s3.heap.objs.size)) (EP X pins σ Q) X.xe { s3 with heap := s3.heap.push { cls := .type "slice", data := .fields #[.none, .none, vs] } }
  refine tail_any (ops := [.ref a, .ref s3.heap.objs.size]) ht.isList.typeIs slot_list_getitem.lookup ?_ (by with_unfolding_all rfl)
  refine wpAny_getItem_list_slice ht.isList (Heap.IsSliceOf.new ..) .none .none ps (by decide) ?_ (by rw [List.size_toArray]; have := r.length; omega)
  rw [PySem.W.krv_pick]
  refine ⟨.ref _, _, I4.laid (t' := s3.toks) (o := .lst xs.reverse) (fun b ob q => Heap.get?_push_of_some _ q) (Nat.le_refl _) ?_, rfl, q _ (I4.hok.fresh (Nat.le_refl _))⟩
  exact ⟨by rw [List.length_reverse]; exact hz, _, 0, r.reverse, Heap.get?_push_size _ rfl⟩
end
end SW

namespace SW
open PySem PySem.Spec PyProof.Rows L2
abbrev s_l_cell : Stmt := topS 5
theorem sc_l_cell : FnScope ["script", "k"] ["script", "k"] (defScope s_l_cell) := ⟨rfl, rfl, rfl, by decide +kernel, rfl, by decide +kernel, by decide +kernel⟩

abbrev s_l_draws : Stmt := topS 6
theorem sc_l_draws : FnScope ["script", "place", "sizes", "primes", "cell", "rest", "draws", "k", "first", "mixed"] ["script", "place", "sizes"] (defScope s_l_draws) := ⟨rfl, rfl, rfl, by decide +kernel, rfl, by decide +kernel, by decide +kernel⟩

section
variable {P : Program} {w : World} {K : PySem.W.Frag} {mg : PySem.Str → Option Value} {base : Heap}
def spCell (K : PySem.W.Frag) : Sp := fun vs H Q _ => ∃ (a : Addr) (ns : List Int) (k : Int), vs = [.ref a, .int k] ∧ SqL K H a (ns.map V.int) ∧ ∀ r : Int, Q (.int r) H
theorem ok_l_cell (T : TxB mg) (D_l_cell : Df K mg "_law_cell" s_l_cell ["script", "k"]) : FnOk P w K mg base CX0 1 D_l_cell.f D_l_cell.fd ["script", "k"] (spCell K) := by
  refine D_l_cell.F.ok sc_l_cell (fun vs H Q E h => ?_) (fun cdv A outer s H vs Q E hr h => ?_)
  · obtain ⟨a, ns, k, rfl, _⟩ := h
    rfl
  · obtain ⟨a, ns, k, rfl, hS, q⟩ := h
    refine ⟨_, (pss_cons (ps_if (pt_cmpR op_gt (pe_callB call_len_seq (by rfl) T.n_len PySem.boot_len (pa_cons (pv 0) pa_nil)) pe_int (nomark _))
    (pss_one (ps_ret (pe_ix ix_list (pv 0) (pe_op op_mod (pe_callTy call_int1 (by rfl) T.n_int (by decide +kernel) (pa_cons (pv 1) pa_nil)) (pe_callB call_len_seq (by rfl) T.n_len PySem.boot_len (pa_cons (pv 0) pa_nil))) (fun _ _ => rfl))))
    pss_nil)
    (pss_one (ps_ret pe_int))), ?_⟩
    refine ⟨_, rfl, a, _, rfl, .inl hS, _, _, rfl, rfl, _, rfl, ite2 (fun e => ?_) (fun e => q 0)⟩
    have e := of_decide_eq_true e
    rw [List.length_map] at e
    refine ⟨_, rfl, _, rfl, .inl ⟨_, rfl, _, rfl, a, _, rfl, .inl hS, _, _, rfl, rfl, by rw [List.length_map]; exact e, ?_⟩⟩
    rw [List.length_map]
    have hk0 : 0 ≤ k % (ns.length : Int) := Int.emod_nonneg _ (by omega)
    have hk1 : k % (ns.length : Int) < ns.length := Int.emod_lt_of_pos _ (by omega)
    dsimp only
    generalize k % (ns.length : Int) = z at hk0 hk1
    obtain ⟨j, rfl⟩ : ∃ j : Nat, z = j := ⟨z.toNat, by omega⟩
    exact ⟨a, _, _, _, rfl, rfl, hS, ints_at (by omega), q _⟩
def primesL : List V := [.int 2147483647, .int 998244353, .int 1000000007, .int 1000000009, .int 4294967291, .int 1073741789, .int 536870909, .int 2305843009213693951]
theorem prime_at {z : Int} (h0 : 0 ≤ z) (h1 : z < 8) : ∃ p : Int, atI primesL z = some (.int p) ∧ 0 < p ∧ p < 2 ^ 62 := by
  obtain ⟨j, rfl⟩ : ∃ j : Nat, z = j := ⟨z.toNat, by omega⟩
  match j, h1 with
  | 0, _ => exact ⟨_, atI_nat rfl, by decide, by decide⟩
  | 1, _ => exact ⟨_, atI_nat rfl, by decide, by decide⟩
  | 2, _ => exact ⟨_, atI_nat rfl, by decide, by decide⟩
  | 3, _ => exact ⟨_, atI_nat rfl, by decide, by decide⟩
  | 4, _ => exact ⟨_, atI_nat rfl, by decide, by decide⟩
  | 5, _ => exact ⟨_, atI_nat rfl, by decide, by decide⟩
  | 6, _ => exact ⟨_, atI_nat rfl, by decide, by decide⟩
  | 7, _ => exact ⟨_, atI_nat rfl, by decide, by decide⟩
  | n + 8, h => exact absurd h (by omega)
/-- each draw lies below its size -/
def Below (ds ss : List Int) : Prop := ∀ (j : Nat) (d s : Int), ds[j]? = some d → ss[j]? = some s → 0 ≤ d ∧ d < s
def spDr (K : PySem.W.Frag) : Sp := fun vs H Q _ => ∃ (a z : Addr) (ns ss : List Int) (p : Int), vs = [.ref a, .int p, .ref z] ∧ SqL K H a (ns.map V.int) ∧ 0 ≤ p ∧ p ≤ 100 ∧ SqL K H z (ss.map V.int) ∧ ss.length ≤ 1000 ∧ (∀ s, s ∈ ss → 0 < s ∧ s.natAbs < 2 ^ 200) ∧
  ∀ D ds H', ds.length = ss.length → Below ds ss → Same H H' → H D = none → H' D = some (.lst (ds.map V.int)) → Q (.ref D) H'
theorem ok_l_draws (T : TxB mg) (D_l_draws : Df K mg "_law_draws" s_l_draws ["script", "place", "sizes"]) (D_l_cell : Df K mg "_law_cell" s_l_cell ["script", "k"]) (G_l_cell : FnOk P w K mg base CX0 1 D_l_cell.f D_l_cell.fd ["script", "k"] (spCell K)) : FnOk P w K mg base CX0 2 D_l_draws.f D_l_draws.fd ["script", "place", "sizes"] (spDr K) := by
  refine D_l_draws.F.ok sc_l_draws (fun vs H Q E h => ?_) (fun cdv A outer s H vs Q E hr h => ?_)
  · obtain ⟨a, z, ns, ss, p, rfl, _⟩ := h
    rfl
  · obtain ⟨a, z, ns, ss, p, rfl, hS, hp0, hp7, hz, hzl, hsz, q⟩ := h
    have hml : (ss.map V.int).length = ss.length := List.length_map _
    refine ⟨_, (pss_cons (ps_set (i := 3) sc_l_draws.nd rfl (.inl rfl) (pe_lst (pa_cons pe_int (pa_cons pe_int (pa_cons pe_int (pa_cons pe_int (pa_cons pe_int (pa_cons pe_int (pa_cons pe_int (pa_cons pe_int pa_nil))))))))))
    (pss_cons (ps_set (i := 4) sc_l_draws.nd rfl (.inl rfl) (pe_callB call_abs (by rfl) T.n_abs (by decide +kernel) (pa_cons (pe_call G_l_cell (hr.mono (by decide)) (by rfl) D_l_cell.g D_l_cell.F.kp D_l_cell.b .nil pass0 (pa_cons (pv 0) (pa_cons (pv 1) pa_nil))) pa_nil)))
    (pss_cons (ps_set (i := 5) sc_l_draws.nd rfl (.inl rfl) pe_int)
    (Evl.pss_cut (ps_if (pt_cmpR op_ge (pv 4) (pe_op op_pow pe_int pe_int) (nomark _))
    (pss_one (ps_set (i := 5) sc_l_draws.nd rfl (.inl rfl) (pv 4)))
    pss_nil)
    (pss_cons (ps_set (i := 6) sc_l_draws.nd rfl (.inl rfl) (pe_lst pa_nil))
    (pss_cons (ps_for PassesOwn.never rfl (pi_range1 (by rfl) T.n_range (pa_cons (pe_callB call_len_seq (by rfl) T.n_len PySem.boot_len (pa_cons (pv 2) pa_nil)) pa_nil)) (pg_name (i := 7) sc_l_draws.nd rfl (.inl rfl))
    (pss_one (ps_if (pt_cmpR op_gt (pv 5) pe_int (nomark _))
    (pss_cons (ps_expr (pe_bm PySem.F.plainAttrs_list PySem.F.slot_list_append PySem.F.type_list_append mt_append (pv 6) (pa_cons (pe_op op_mod (pe_callTy call_int1 (by rfl) T.n_int (by decide +kernel) (pa_cons (pv 5) pa_nil)) (pe_ix ix_list (pv 2) (pv 7) (fun _ _ => rfl))) pa_nil)))
    (pss_one (ps_set (i := 5) sc_l_draws.nd rfl (.inl rfl) (pe_op op_fdivW (pv 5) (pe_ix ix_list (pv 2) (pv 7) (fun _ _ => rfl))))))
    (pss_cons (ps_set (i := 8) sc_l_draws.nd rfl (.inl rfl) (pe_op op_mod (pe_callTy call_int1 (by rfl) T.n_int (by decide +kernel) (pa_cons (pe_op op_add (pe_op op_mul (pe_op op_add (pe_op op_add (pe_op op_add (pv 4) pe_int) (pe_op op_mul pe_int (pv 1))) (pv 7)) pe_int) (pe_op op_mul pe_int (pv 7))) pa_nil)) (pe_ix ix_list (pv 3) (pe_op op_mod (pv 7) pe_int) (fun _ _ => rfl))))
    (pss_cons (ps_set (i := 9) sc_l_draws.nd rfl (.inl rfl) (pe_op op_mod (pe_callTy call_int1 (by rfl) T.n_int (by decide +kernel) (pa_cons (pe_op op_add (pe_op op_add (pe_op op_mul (pv 8) (pv 8)) (pe_op op_mul pe_int (pv 7))) (pv 1)) pa_nil)) (pe_ix ix_list (pv 3) (pe_op op_mod (pe_op op_add (pv 7) pe_int) pe_int) (fun _ _ => rfl))))
    (pss_cons (ps_set (i := 9) sc_l_draws.nd rfl (.inl rfl) (pe_op op_mod (pe_callTy call_int1 (by rfl) T.n_int (by decide +kernel) (pa_cons (pe_op op_add (pe_op op_add (pe_op op_mul (pv 9) pe_int) (pe_op op_mul (pv 8) pe_int)) (pv 7)) pa_nil)) (pe_ix ix_list (pv 3) (pe_op op_mod (pe_op op_add (pv 7) pe_int) pe_int) (fun _ _ => rfl))))
    (pss_one (ps_expr (pe_bm PySem.F.plainAttrs_list PySem.F.slot_list_append PySem.F.type_list_append mt_append (pv 6) (pa_cons (pe_op op_mod (pe_callTy call_int1 (by rfl) T.n_int (by decide +kernel) (pa_cons (pe_op op_fdivW (pv 9) pe_int) pa_nil)) (pe_ix ix_list (pv 2) (pv 7) (fun _ _ => rfl))) pa_nil))))))))))
    (pss_one (ps_ret (pv 6))))))))), ?_⟩
    -- primes
    refine ⟨by show 8 ≤ sizeLine; decide, fun pr hpr => ?_⟩
    have s1 := same_new (o := .lst primesL) hpr
    -- cell, rest
    refine ⟨_, rfl, _, rfl, a, ns, p, rfl, s1.seq hS, fun r => ⟨r, rfl, ?_⟩⟩
    generalize (if r < 0 then -r else r) = c
    refine ⟨fun σ' H' => ∃ y5 : Int, σ' = [some (.ref a), some (.int p), some (.ref z), some (.ref pr), some (.int c), some (.int y5), none, none, none, none] ∧ H' = upd H pr (.lst primesL), ?_, ?_⟩
    · refine ⟨_, rfl, _, _, rfl, rfl, ⟨by decide, by decide, by decide⟩, _, _, rfl, rfl, _, rfl, ite2 (fun e => ?_) (fun e => ?_)⟩
      · exact ⟨_, rfl, _, rfl, rfl⟩
      · exact ⟨_, rfl, rfl⟩
    · intro σ' H' hN
      obtain ⟨y5, rfl, rfl⟩ := hN
      -- draws = []
      refine ⟨Nat.zero_le _, fun D hD => ?_⟩
      have s2 := s1.trans (same_new (o := .lst []) hD)
      have hDH : H D = none := s1.free hD
      refine ⟨_, rfl, z, _, rfl, .inl (s2.seq hz), _, rfl, by omega, by rw [hml]; omega, ?_⟩
      rw [hml]
      have ne : pr ≠ D := ne_of_none upd_same hD
      refine for_range (lo := 0) (n := ((ss.length : Nat) : Int).toNat) (fun i σ H2 => ∃ (y5 : Int) (y7 y8 y9 : Option V) (ds : List Int), σ = [some (.ref a), some (.int p), some (.ref z), some (.ref pr), some (.int c), some (.int y5), some (.ref D), y7, y8, y9] ∧ ds.length = i ∧ Below ds ss ∧ Same H H2 ∧ H2 pr = some (.lst primesL) ∧ H2 D = some (.lst (ds.map V.int)))
        ⟨y5, _, _, _, [], rfl, rfl, (fun _ _ _ h _ => nomatch h : Below [] ss), s2, (upd_ne ne).trans upd_same, upd_same⟩ (fun i σ H2 hi hP => ?_) (fun σ H2 hP => ?_)
      · obtain ⟨y5, y7, y8, y9, ds, rfl, hl, hb, s3, e3, e4⟩ := hP
        have hi' : i < ss.length := by omega
        have ei : (0 : Int) + (i : Nat) = (i : Nat) := by omega
        have hz2 := s3.seq hz
        have zat : atI (ss.map V.int) ((0 : Int) + (i : Nat)) = some (.int ss[i]) := by
          rw [ei]
          exact ints_at hi'
        obtain ⟨p0, p1⟩ := hsz _ (List.getElem_mem hi')
        have grow : ∀ d : Int, 0 ≤ d → d < ss[i] → Below (ds ++ [d]) ss := fun d d0 d1 j d' s' g1 g2 => by
          by_cases hj : j < ds.length
          · rw [List.getElem?_append_left hj] at g1
            exact hb j d' s' g1 g2
          · rw [List.getElem?_append_right (by omega)] at g1
            have hj0 : j = ds.length := by
              refine Classical.byContradiction fun hne => ?_
              obtain ⟨m, hm⟩ : ∃ m, j - ds.length = m + 1 := ⟨j - ds.length - 1, by omega⟩
              rw [hm] at g1
              cases g1
            subst hj0
            rw [Nat.sub_self] at g1
            cases g1
            have g2' : ss[ds.length]? = some ss[i] := by
              rw [hl]
              exact List.getElem?_eq_getElem hi'
            rw [g2'] at g2
            cases g2
            exact ⟨d0, d1⟩
        refine ⟨_, rfl, _, _, rfl, rfl, _, rfl, ite2 (fun e => ?_) (fun e => ?_)⟩
        · refine ⟨_, rfl, .inl ⟨rfl, _, SqL.of e4⟩, _, rfl, .inl ⟨_, rfl, _, rfl, _, rfl, z, _, _, _, rfl, rfl, hz2, zat, _, _, rfl, rfl, p0, ?_⟩⟩
          refine ⟨D, _, _, rfl, rfl, e4, by rw [List.length_map]; exact small_sz5 (by omega), ?_⟩
          have b1 : 0 ≤ y5 % ss[i] := Int.emod_nonneg _ (by omega)
          have b2 : y5 % ss[i] < ss[i] := Int.emod_lt_of_pos _ p0
          dsimp only
          generalize y5 % ss[i] = d at b1 b2
          have s4 : Same H (upd H2 D (.lst (ds.map V.int ++ [.int d]))) := same_mut s3 hDH
          refine ⟨_, rfl, _, rfl, _, rfl, z, _, _, _, rfl, rfl, s4.seq hz, zat, _, _, rfl, rfl, wide_div p0 p1 (by decide) (by decide), ?_⟩
          exact ⟨_, _, _, _, ds ++ [d], rfl, by rw [List.length_append, hl]; rfl, grow d b1 b2, s4, (upd_ne ne).trans e3, by rw [upd_same, List.map_append]; rfl⟩
        · have hp : SqL K H2 pr primesL := SqL.of e3
          have m8 : ∀ x : Int, 0 ≤ x % 8 ∧ x % 8 < 8 := fun x => ⟨Int.emod_nonneg _ (by decide), Int.emod_lt_of_pos _ (by decide)⟩
          obtain ⟨q1, qa, qb, qc⟩ := prime_at (m8 (0 + (i : Nat))).1 (m8 _).2
          obtain ⟨q2, qd, qe, qf⟩ := prime_at (m8 (0 + (i : Nat) + 3)).1 (m8 _).2
          obtain ⟨q3, qg, qh, qi⟩ := prime_at (m8 (0 + (i : Nat) + 5)).1 (m8 _).2
          refine ⟨_, rfl, _, _, rfl, rfl, _, rfl, _, _, rfl, rfl, .inl ⟨by decide, by decide⟩, _, _, rfl, rfl, _, rfl, _, _, rfl, rfl, _, _, rfl, rfl, .inr ⟨by decide, by decide⟩, _, rfl, _, _, rfl, rfl, .inl ⟨by decide, by decide⟩, _, _, rfl, rfl, .inl ⟨_, rfl, ?_⟩⟩
          refine ⟨_, rfl, _, rfl, _, _, rfl, rfl, (by show (0 : Int) < _; decide), pr, _, _, _, rfl, rfl, hp, qa, _, _, rfl, rfl, qb, ?_⟩
          have a1 := Int.emod_nonneg ((c + 1 + 31 * p + (0 + (i : Nat))) * 48271 + 69621 * (0 + (i : Nat))) (show q1 ≠ 0 by omega)
          have a2 := Int.emod_lt_of_pos ((c + 1 + 31 * p + (0 + (i : Nat))) * 48271 + 69621 * (0 + (i : Nat))) qb
          dsimp only
          generalize ((c + 1 + 31 * p + (0 + (i : Nat))) * 48271 + 69621 * (0 + (i : Nat))) % q1 = x at a1 a2
          -- mixed
          refine ⟨_, rfl, _, rfl, _, _, rfl, rfl, .inl ⟨by omega, by omega⟩, _, rfl, _, _, rfl, rfl, .inl ⟨by decide, by decide⟩, _, _, rfl, rfl, _, rfl, _, _, rfl, rfl, .inl ⟨_, rfl, ?_⟩⟩
          refine ⟨_, rfl, _, rfl, _, _, rfl, rfl, _, _, rfl, rfl, (by show (0 : Int) < _; decide), pr, _, _, _, rfl, rfl, hp, qd, _, _, rfl, rfl, qe, ?_⟩
          dsimp only
          generalize (x * x + 16807 * (0 + (i : Nat)) + p) % q2 = y
          refine ⟨_, rfl, _, _, rfl, rfl, .inr ⟨by decide, by decide⟩, _, rfl, _, _, rfl, rfl, .inr ⟨by decide, by decide⟩, _, _, rfl, rfl, _, rfl, _, _, rfl, rfl, .inl ⟨_, rfl, ?_⟩⟩
          refine ⟨_, rfl, _, rfl, _, _, rfl, rfl, _, _, rfl, rfl, (by show (0 : Int) < _; decide), pr, _, _, _, rfl, rfl, hp, qg, _, _, rfl, rfl, qh, ?_⟩
          dsimp only
          generalize (y * 69621 + x * 16807 + (0 + (i : Nat))) % q3 = u
          refine ⟨_, rfl, .inl ⟨rfl, _, SqL.of e4⟩, _, rfl, _, _, rfl, rfl, wide_div (b := 5) (by decide) (by decide) (by decide) (by decide), .inl ⟨_, rfl, ?_⟩⟩
          refine ⟨_, rfl, _, rfl, z, _, _, _, rfl, rfl, hz2, zat, _, _, rfl, rfl, p0, ?_⟩
          refine ⟨D, _, _, rfl, rfl, e4, by rw [List.length_map]; exact small_sz5 (by omega), ?_⟩
          have b1 : 0 ≤ u / 16 % ss[i] := Int.emod_nonneg _ (by omega)
          have b2 : u / 16 % ss[i] < ss[i] := Int.emod_lt_of_pos _ p0
          exact ⟨_, _, _, _, ds ++ [u / 16 % ss[i]], rfl, by rw [List.length_append, hl]; rfl, grow _ b1 b2, same_mut s3 hDH, (upd_ne ne).trans e3, by rw [upd_same, List.map_append]; rfl⟩
      · obtain ⟨y5, y7, y8, y9, ds, rfl, hl, hb, s3, e3, e4⟩ := hP
        exact ⟨_, rfl, q D ds H2 (by omega) hb s3 hDH e4⟩
end
end SW

namespace SW
open PySem PySem.Spec PyProof.Rows L2
/-! ### heapq.heappush, heapq.heappop of pairs of whole numbers: the pure part -/
def lt2 (a b : Int × Int) : Bool := decide (a.1 < b.1 ∨ (a.1 = b.1 ∧ a.2 < b.2))
def le2 (a b : Int × Int) : Prop := lt2 b a = false
theorem le2_iff {a b : Int × Int} : le2 a b ↔ (a.1 < b.1 ∨ (a.1 = b.1 ∧ a.2 ≤ b.2)) := by
  unfold le2 lt2
  rw [decide_eq_false_iff_not]
  omega
theorem lt2_iff {a b : Int × Int} : lt2 a b = true ↔ (a.1 < b.1 ∨ (a.1 = b.1 ∧ a.2 < b.2)) := by
  unfold lt2
  rw [decide_eq_true_iff]
theorem le2_refl (a : Int × Int) : le2 a a := le2_iff.mpr (.inr ⟨rfl, Int.le_refl _⟩)
theorem le2_trans {a b c : Int × Int} (h : le2 a b) (h2 : le2 b c) : le2 a c := by
  rw [le2_iff] at *
  omega
theorem le2_of_lt {a b : Int × Int} (h : lt2 a b = true) : le2 a b := by
  rw [le2_iff]
  rw [lt2_iff] at h
  omega
def HpF (f : Nat → Int × Int) (n : Nat) : Prop := ∀ i, 0 < i → i < n → le2 (f ((i - 1) / 2)) (f i)
structure HpD (f : Nat → Int × Int) (n p : Nat) : Prop where
  rel : ∀ i, 0 < i → i < n → i ≠ p → (i - 1) / 2 ≠ p → le2 (f ((i - 1) / 2)) (f i)
  gr : ∀ i, 0 < i → i < n → (i - 1) / 2 = p → 0 < p → le2 (f ((p - 1) / 2)) (f i)
structure HpU (f : Nat → Int × Int) (n p : Nat) : Prop where
  rel : ∀ i, 0 < i → i < n → i ≠ p → le2 (f ((i - 1) / 2)) (f i)
  gr : ∀ i, 0 < i → i < n → (i - 1) / 2 = p → 0 < p → le2 (f ((p - 1) / 2)) (f i)
def swF (f : Nat → Int × Int) (i j : Nat) : Nat → Int × Int := fun m => if m = i then f j else if m = j then f i else f m
theorem swF_l (f : Nat → Int × Int) (i j : Nat) : swF f i j i = f j := if_pos rfl
theorem swF_r {f : Nat → Int × Int} {i j : Nat} (h : j ≠ i) : swF f i j j = f i := (if_neg h).trans (if_pos rfl)
theorem swF_o {f : Nat → Int × Int} {i j m : Nat} (h : m ≠ i) (h2 : m ≠ j) : swF f i j m = f m := (if_neg h).trans (if_neg h2)
theorem hpd_step {f : Nat → Int × Int} {n p c : Nat} (h : HpD f n p) (c0 : 0 < c) (cn : c < n) (cp : (c - 1) / 2 = p) (hm : ∀ s, 0 < s → s < n → (s - 1) / 2 = p → le2 (f c) (f s)) : HpD (swF f c p) n c := by
  have hcp : c ≠ p := by omega
  refine ⟨fun i i0 i1 ic ipc => ?_, fun i i0 i1 ip _ => ?_⟩
  · by_cases hip : i = p
    · subst hip
      rw [swF_r (f := f) (i := c) (j := i) (by omega), swF_o (f := f) (m := (i - 1) / 2) (by omega) (by omega)]
      exact h.gr c c0 cn cp i0
    · by_cases hq : (i - 1) / 2 = p
      · rw [hq, swF_r (f := f) (i := c) (j := p) (by omega), swF_o (f := f) (m := i) ic hip]
        exact hm i i0 i1 hq
      · rw [swF_o (f := f) (m := (i - 1) / 2) ipc hq, swF_o (f := f) (m := i) ic hip]
        exact h.rel i i0 i1 hip hq
  · rw [cp, swF_r (f := f) (i := c) (j := p) (by omega), swF_o (f := f) (m := i) (by omega) (by omega)]
    have := h.rel i i0 i1 (by omega) (by omega)
    rw [ip] at this
    exact this
theorem hpd_leaf {f : Nat → Int × Int} {n p : Nat} (h : HpD f n p) (hl : ∀ i, 0 < i → i < n → (i - 1) / 2 ≠ p) : HpU f n p :=
  ⟨fun i i0 i1 ip => h.rel i i0 i1 ip (hl i i0 i1), h.gr⟩
theorem hpu_step {f : Nat → Int × Int} {n p : Nat} (h : HpU f n p) (p0 : 0 < p) (pn : p < n) (lt : lt2 (f p) (f ((p - 1) / 2)) = true) : HpU (swF f ((p - 1) / 2) p) n ((p - 1) / 2) := by
  refine ⟨fun i i0 i1 iq => ?_, fun i i0 i1 iq q0 => ?_⟩
  · by_cases hip : i = p
    · subst hip
      rw [swF_l, swF_r (f := f) (by omega)]
      exact le2_of_lt lt
    · by_cases hs : (i - 1) / 2 = (p - 1) / 2
      · rw [hs, swF_l, swF_o (f := f) (m := i) iq hip]
        have := h.rel i i0 i1 hip
        rw [hs] at this
        exact le2_trans (le2_of_lt lt) this
      · by_cases hc : (i - 1) / 2 = p
        · rw [hc, swF_r (f := f) (by omega), swF_o (f := f) (m := i) iq hip]
          exact h.gr i i0 i1 hc p0
        · rw [swF_o (f := f) (m := (i - 1) / 2) hs hc, swF_o (f := f) (m := i) iq hip]
          exact h.rel i i0 i1 hip
  · have hr : le2 (f (((p - 1) / 2 - 1) / 2)) (f ((p - 1) / 2)) := h.rel ((p - 1) / 2) q0 (by omega) (by omega)
    rw [swF_o (f := f) (m := ((p - 1) / 2 - 1) / 2) (by omega) (by omega)]
    by_cases hip : i = p
    · subst hip
      rw [swF_r (f := f) (by omega)]
      exact hr
    · rw [swF_o (f := f) (m := i) (by omega) hip]
      have := h.rel i i0 i1 hip
      rw [iq] at this
      exact le2_trans hr this
theorem hpu_stop {f : Nat → Int × Int} {n p : Nat} (h : HpU f n p) (hs : p = 0 ∨ le2 (f ((p - 1) / 2)) (f p)) : HpF f n := fun i i0 i1 => by
  by_cases hip : i = p
  · subst hip
    rcases hs with hs | hs
    · omega
    · exact hs
  · exact h.rel i i0 i1 hip
theorem hpf_min {f : Nat → Int × Int} {n : Nat} (h : HpF f n) : ∀ (m i : Nat), i ≤ m → i < n → le2 (f 0) (f i)
  | m, 0, _, _ => le2_refl _
  | 0, i + 1, hm, _ => by omega
  | m + 1, i + 1, hm, hi => le2_trans (hpf_min h m ((i + 1 - 1) / 2) (by omega) (by omega)) (h (i + 1) (by omega) hi)
/-- the keys of a list -/
def kF (k : V → Int × Int) (xs : List V) : Nat → Int × Int := fun i => k (xs.getD i .non)
def swL (xs : List V) (i j : Nat) : List V := (xs.set i (xs.getD j .non)).set j (xs.getD i .non)
theorem swL_len (xs : List V) (i j : Nat) : (swL xs i j).length = xs.length := by
  unfold swL
  rw [List.length_set, List.length_set]
theorem swL_get {xs : List V} {i j m : Nat} (hi : i < xs.length) (hj : j < xs.length) (hij : i ≠ j) : (swL xs i j).getD m .non = if m = i then xs.getD j .non else if m = j then xs.getD i .non else xs.getD m .non := by
  unfold swL
  rw [List.getD_eq_getElem?_getD, List.getElem?_set, List.getElem?_set, List.length_set]
  by_cases h1 : m = i
  · subst h1
    rw [if_neg (by omega), if_pos rfl, if_pos hi, if_pos rfl]
    rfl
  · by_cases h2 : m = j
    · subst h2
      rw [if_pos rfl, if_pos hj, if_neg h1, if_pos rfl]
      rfl
    · rw [if_neg (Ne.symm h2), if_neg (Ne.symm h1), if_neg h1, if_neg h2, List.getD_eq_getElem?_getD]
theorem kF_sw {k : V → Int × Int} {xs : List V} {i j : Nat} (hi : i < xs.length) (hj : j < xs.length) (hij : i ≠ j) : kF k (swL xs i j) = swF (kF k xs) i j := by
  funext m
  unfold kF swF
  rw [swL_get hi hj hij]
  split
  · rfl
  · split <;> rfl
theorem swL_perm {xs : List V} {i j : Nat} (hi : i < xs.length) (hj : j < xs.length) : (swL xs i j).Perm xs := by
  unfold swL
  rw [List.getD_eq_getElem?_getD, List.getD_eq_getElem?_getD, List.getElem?_eq_getElem hi, List.getElem?_eq_getElem hj]
  exact List.set_set_perm hi hj
end SW

namespace SW
open PySem PySem.Spec PyProof.Rows L2
theorem entry_sift : entryFor table "_heapq.heapify.sift" = some Builtin.«_heapq.heapify.sift» := entryFor_of_fast (by kernel_rfl)
theorem entry_hpush : entryFor table "_heapq.heappush" = some Builtin.«_heapq.heappush» := entryFor_of_fast (by kernel_rfl)
theorem entry_hpop : entryFor table "_heapq.heappop" = some Builtin.«_heapq.heappop» := entryFor_of_fast (by kernel_rfl)
theorem plain_sift : plainId "_heapq.heapify.sift" = true := by decide +kernel
theorem plain_hpush : plainId "_heapq.heappush" = true := by decide +kernel
theorem plain_hpop : plainId "_heapq.heappop" = true := by decide +kernel
theorem kind_hpush : builtinKind "_heapq.heappush" = none := by decide +kernel
theorem kind_hpop : builtinKind "_heapq.heappop" = none := by decide +kernel
theorem args_hpush (a v : Value) : argsOk "_heapq.heappush" ⟨[a, v], []⟩ := by unfold argsOk; kernel_rfl
theorem args_hpop (a : Value) : argsOk "_heapq.heappop" ⟨[a], []⟩ := by unfold argsOk; kernel_rfl
section
variable {X : Cx} {pins : List (Addr × Obj)} {s : Shared} {σ : L2.St} {H : Hp}
theorem hq_lt (I : Inv X pins σ H s) {A : Around} (hA : A.units < cLine) {t u : Addr} {a b : Int × Int} (ht : H t = some (.tup [.int a.1, .int a.2])) (hu : H u = some (.tup [.int b.1, .int b.2])) : Ob.RcOp .Lt A s (.ref t) (.ref u) (lt2 a b) := by
  obtain ⟨its, r, p, _⟩ := I.tuple (SqT.of (K := X.K) ht)
  obtain ⟨its2, r2, p2, _⟩ := I.tuple (SqT.of (K := X.K) hu)
  obtain ⟨w1, w2, rfl, e1, e2⟩ := vals2 r
  obtain ⟨z1, z2, rfl, f1, f2⟩ := vals2 r2
  obtain ⟨k1, rfl⟩ := e1
  obtain ⟨k2, rfl⟩ := e2
  obtain ⟨k3, rfl⟩ := f1
  obtain ⟨k4, rfl⟩ := f2
  have h := Ob.RcOp.tuples_lt (A := A) (e := fun j => if j = 0 then a.1 == b.1 else a.2 == b.2) (r := fun j => if j = 0 then decide (a.1 < b.1) else decide (a.2 < b.2)) p p2 hA (fun j h1 h2 => ?_) (fun j h1 h2 _ => ?_)
  · have e : Ob.lexAt (fun j => if j = 0 then a.1 == b.1 else a.2 == b.2) (fun j => if j = 0 then decide (a.1 < b.1) else decide (a.2 < b.2)) (decide (2 < 2)) 0 (min 2 2) = lt2 a b := by
      show (if (a.1 == b.1) = true then (if (a.2 == b.2) = true then false else decide (a.2 < b.2)) else decide (a.1 < b.1)) = lt2 a b
      unfold lt2
      by_cases h1 : a.1 = b.1
      · rw [if_pos (beq_iff_eq.mpr h1)]
        by_cases h2 : a.2 = b.2
        · rw [if_pos (beq_iff_eq.mpr h2)]
          exact (decide_eq_false (by omega)).symm
        · rw [if_neg (fun h => h2 (beq_iff_eq.mp h))]
          exact decide_eq_decide.mpr (by omega)
      · rw [if_neg (fun h => h1 (beq_iff_eq.mp h))]
        exact decide_eq_decide.mpr (by omega)
    rw [← e]
    exact h
  · match j, h1, h2 with
    | 0, _, _ => exact SeqAt.EqAt.int_int _ _ _ _
    | 1, _, _ => exact SeqAt.EqAt.int_int _ _ _ _
    | j + 2, h, _ => exact absurd h (by show ¬ j + 2 < 2; omega)
  · match j, h1, h2 with
    | 0, _, _ => exact Ob.RcOp.lt_int _ _ _ _
    | 1, _, _ => exact Ob.RcOp.lt_int _ _ _ _
    | j + 2, h, _ => exact absurd h (by show ¬ j + 2 < 2; omega)
/-- a heap's list: pairs, each a tuple that stands apart from it -/
def HqP (H : Hp) (a : Addr) (k : V → Int × Int) (xs : List V) : Prop := ∀ x ∈ xs, ∃ t, x = .ref t ∧ t ≠ a ∧ H t = some (.tup [.int (k x).1, .int (k x).2])
variable {a : Addr} {k : V → Int × Int} {res : Value} {R : Result → Shared → Prop} {P0 : Program} {w0 : World} {A0 : Around}
def hqIt (l : Addr) : Sem (Array Value) := do
  let some ys ← seqItems? (.ref l) | unsupported "internal:_heapq"
  return ys
def hqAt (ys : Array Value) (j : Nat) : Sem Value :=
  match ys[j]? with
  | some u => pure u
  | none => unsupported "internal:_heapq.index"
def hqSw (l : Addr) (m n : Nat) : Sem Unit := do
  let ys ← hqIt l
  let u ← hqAt ys m
  let v ← hqAt ys n
  updateSeq l fun zs => (zs.setIfInBounds m v).setIfInBounds n u
def hqLs (l : Addr) (n : Nat) (u v : Value) : Sem Bool := do
  let b ← holding [u, v] (do truthOfDropped (← richCompare .Lt u v))
  if (← hqIt l).size != n then rule "_heapq.size-changed"; raiseError "RuntimeError" "list changed size during iteration"
  return b
section
variable {M : Model} {A : Around} {E : Value → Shared → Prop} {arr : Array Value} {c : Nat}
theorem wp_it {m : Sem (Array Value)} {Q : Array Value → Shared → Prop} (hm : m = hqIt a) (e : s.heap.get? a = some { cls := .type "list", data := .seq arr c }) (h : Q arr s) : wpAny M A m Q E s := by
  subst hm
  exact wpAny_bind (wpAny_seqItems e rfl (wpAny_pure h))
theorem wp_at {m : Sem Value} {j : Nat} {u : Value} {Q : Value → Shared → Prop} (hm : m = hqAt arr j) (e : arr[j]? = some u) (h : Q u s) : wpAny M A m Q E s := by
  subst hm
  unfold hqAt
  rw [e]
  exact wpAny_pure h
theorem wp_less {prog : Program} {w : World} {m : Sem Bool} {n : Nat} {u v : Value} {b : Bool} {Q : Bool → Shared → Prop} (hm : m = hqLs a n u v) (lt : Ob.RcOp .Lt A s u v b) (e : s.heap.get? a = some { cls := .type "list", data := .seq arr c }) (hn : arr.size = n) (h : Q b s) : wpAny (model prog w) A m Q E s := by
  subst hm
  refine wpAny_bind (wpAny_holding (wpAny_bind (lt _ _ _ _ (wpAny_truthy_bool ?_))))
  refine wpAny_bind (wp_it rfl e ?_)
  rw [hn, bne_self_eq_false, if_neg Bool.false_ne_true]
  exact wpAny_pure h
end
/-- two cells exchanged -/
theorem wp_swap {m : Sem Unit} {i j : Nat} {xs : List V} {A : Around} {E : Value → Shared → Prop} {Q : Unit → Shared → Prop} (hm : m = hqSw a i j) (I : Inv X pins σ (upd H a (.lst xs)) s) (hi : i < xs.length) (hj : j < xs.length)
    (h : ∀ s', Inv X pins σ (upd H a (.lst (swL xs i j))) s' → Q () s') : wpAny (model P0 w0) A m Q E s := by
  subst hm
  obtain ⟨z, its, c, r, hl, e⟩ := I.lstM upd_same
  have hxi : xs[i]? = some xs[i] := List.getElem?_eq_getElem hi
  have hxj : xs[j]? = some xs[j] := List.getElem?_eq_getElem hj
  obtain ⟨u, hu, ru⟩ := r.get hxi
  obtain ⟨v, hv, rv⟩ := r.get hxj
  refine wpAny_bind (wp_it rfl e ?_)
  refine wpAny_bind (wp_at rfl (u := u) (by simpa using hu) ?_)
  refine wpAny_bind (wp_at rfl (u := v) (by simpa using hv) ?_)
  have hsw : swL xs i j = (xs.set i xs[j]).set j xs[i] := by
    unfold swL
    rw [List.getD_eq_getElem?_getD, List.getD_eq_getElem?_getD, hxi, hxj]
    rfl
  have I2 := I.lset (its' := (its.set i v).set j u) (f := fun zs => (zs.setIfInBounds i v).setIfInBounds j u) (t' := s.toks) upd_same e (by simp) (Vals.set ru j (Vals.set rv i r)) (by rw [List.length_set, List.length_set]; exact z)
  rw [upd_upd, ← hsw] at I2
  refine wpAny_updateSeq e rfl (h _ I2) (by rw [List.size_toArray, ← hl]; exact z) ?_
  rw [Array.size_setIfInBounds, Array.size_setIfInBounds, List.size_toArray, ← hl]
  omega
theorem HqP.perm {xs ys : List V} (h : HqP H a k xs) (p : ys.Perm xs) : HqP H a k ys := fun x hx => h x (p.mem_iff.mp hx)
theorem HqP.at {xs : List V} (h : HqP H a k xs) {i : Nat} (hi : i < xs.length) (I : Inv X pins σ (upd H a (.lst xs)) s) {its : List Value} (r : Vals xs its) : ∃ t, xs.getD i .non = .ref t ∧ its.toArray[i]? = some (.ref t) ∧ upd H a (.lst xs) t = some (.tup [.int (kF k xs i).1, .int (kF k xs i).2]) := by
  have hxi : xs[i]? = some xs[i] := List.getElem?_eq_getElem hi
  obtain ⟨t, e1, e2, e3⟩ := h _ (List.getElem_mem hi)
  obtain ⟨u, hu, ru⟩ := r.get hxi
  have hg : xs.getD i .non = xs[i] := by
    rw [List.getD_eq_getElem?_getD, hxi]
    rfl
  rw [e1] at ru
  cases ru
  refine ⟨t, hg.trans e1, by simpa using hu, ?_⟩
  rw [upd_ne e2]
  unfold kF
  rw [hg]
  exact e3
theorem sift_up (hu : A0.units + 8 < cLine) (n : Nat) : ∀ (m p : Nat) (xs : List V) (s : Shared), p ≤ m → Inv X pins σ (upd H a (.lst xs)) s → HqP H a k xs → xs.length = n → p < n → HpU (kF k xs) n p →
    (∀ xs' s', Inv X pins σ (upd H a (.lst xs')) s' → xs'.Perm xs → HpF (kF k xs') n → R (.ok (.ret res)) s') →
    codeAny (model P0 w0) A0 (.builtin "_heapq.heapify.sift" ⟨[.ref a, .bool false, .bool false, rawInt p, rawInt ((0 : Nat) : Int), res, rawInt (-1)], []⟩) R s := by
  intro m
  induction m with
  | zero =>
    intro p xs s hm I hP hn hp hU q
    obtain rfl : p = 0 := by omega
    refine codeAny_builtin entry_sift ?_
    rw [Around.under_plainId plain_sift _]
    obtain ⟨z, its, c, r, hl, e⟩ := I.lstM upd_same
    refine wpAny_bind (wp_it rfl e ?_)
    show wpAny _ A0.in1 (ret res) _ _ s
    exact wpAny_pure (q xs s I (List.Perm.refl _) (hpu_stop hU (.inl rfl)))
  | succ m ih =>
    intro p xs s hm I hP hn hp hU q
    refine codeAny_builtin entry_sift ?_
    rw [Around.under_plainId plain_sift _]
    obtain ⟨z, its, c, r, hl, e⟩ := I.lstM upd_same
    refine wpAny_bind (wp_it rfl e ?_)
    by_cases hp0 : p = 0
    · subst hp0
      show wpAny _ A0.in1 (ret res) _ _ s
      exact wpAny_pure (q xs s I (List.Perm.refl _) (hpu_stop hU (.inl rfl)))
    · dsimp only
      rw [if_neg Bool.false_ne_true]
      rw [if_pos (show ((p : Nat) : Int).toNat > (((0 : Nat) : Int)).toNat by show 0 < p; omega)]
      obtain ⟨t, g1, g2, g3⟩ := hP.at (i := p) (by omega) I r
      obtain ⟨t2, f1, f2, f3⟩ := hP.at (i := (p - 1) / 2) (by omega) I r
      refine wpAny_bind (wp_at rfl (j := p) g2 ?_)
      refine wpAny_bind (wp_at rfl (j := (p - 1) / 2) f2 ?_)
      rw [if_neg Bool.false_ne_true]
      refine wpAny_bind (wp_less rfl (hq_lt I (by show A0.units + 1 < cLine; omega) g3 f3) e rfl ?_)
      by_cases hlt : lt2 (kF k xs p) (kF k xs ((p - 1) / 2)) = true
      · rw [hlt, if_pos rfl]
        refine wpAny_bind (wp_swap (i := (p - 1) / 2) (j := p) rfl I (by omega) (by omega) fun s' I' => ?_)
        have hpm : (swL xs ((p - 1) / 2) p).Perm xs := swL_perm (by omega) (by omega)
        refine wpAny_pure ⟨plainId_quiet plain_sift _, ih ((p - 1) / 2) _ s' (by omega) I' (hP.perm hpm) (by rw [swL_len]; exact hn) (by omega) ?_ fun xs' s'' I'' pm hh => q xs' s'' I'' (pm.trans hpm) hh⟩
        rw [kF_sw (by omega) (by omega) (by omega)]
        exact hpu_step hU (by omega) hp hlt
      · rw [if_neg hlt]
        show wpAny _ A0.in1 (ret res) _ _ s
        refine wpAny_pure (q xs s I (List.Perm.refl _) (hpu_stop hU (.inr ?_)))
        exact Bool.eq_false_iff.mpr hlt
end
end SW

namespace SW
open PySem PySem.Spec PyProof.Rows L2
section
variable {X : Cx} {pins : List (Addr × Obj)} {s : Shared} {σ : L2.St} {H : Hp} {a : Addr} {k : V → Int × Int} {res : Value} {R : Result → Shared → Prop} {P0 : Program} {w0 : World} {A0 : Around}
theorem sift_down (hu : A0.units + 8 < cLine) (n : Nat) : ∀ (m p : Nat) (xs : List V) (s : Shared), n ≤ p + m → Inv X pins σ (upd H a (.lst xs)) s → HqP H a k xs → xs.length = n → p < n → HpD (kF k xs) n p →
    (∀ xs' s', Inv X pins σ (upd H a (.lst xs')) s' → xs'.Perm xs → HpF (kF k xs') n → R (.ok (.ret res)) s') →
    codeAny (model P0 w0) A0 (.builtin "_heapq.heapify.sift" ⟨[.ref a, .bool false, .bool true, rawInt p, rawInt ((0 : Nat) : Int), res, rawInt (-1)], []⟩) R s := by
  intro m
  induction m with
  | zero =>
    intro p xs s hm I hP hn hp hU q
    omega
  | succ m ih =>
    intro p xs s hm I hP hn hp hU q
    refine codeAny_builtin entry_sift ?_
    rw [Around.under_plainId plain_sift _]
    obtain ⟨z, its, c, r, hl, e⟩ := I.lstM upd_same
    have hsz : its.toArray.size = n := by rw [List.size_toArray, ← hl]; exact hn
    refine wpAny_bind (wp_it rfl e ?_)
    dsimp only
    rw [if_pos rfl, hsz]
    by_cases hc : p < n / 2
    · rw [if_pos (show ((p : Nat) : Int).toNat < n / 2 from hc)]
      -- the child that is less goes up
      have go : ∀ c, 0 < c → c < n → (c - 1) / 2 = p → (∀ s, 0 < s → s < n → (s - 1) / 2 = p → le2 (kF k xs c) (kF k xs s)) → ∀ {t : Sem PySem.Fin}, t = (hqSw a c p >>= fun _ => again (.builtin "_heapq.heapify.sift" ⟨[.ref a, .bool false, .bool true, rawInt c, rawInt ((0 : Nat) : Int), res, rawInt (-1)], []⟩)) →
          wpAny (model P0 w0) A0.in1 t (fun fin s' => match fin with | .done f => R (.ok f) s' | .again c' => c'.quiet = true ∧ codeAny (model P0 w0) A0 c' R s') (fun e s' => R (.error e) s') s := fun c c0 cn cp hmin t ht => by
        subst ht
        refine wpAny_bind (wp_swap rfl I (by omega) (by omega) fun s' I' => ?_)
        have hpm : (swL xs c p).Perm xs := swL_perm (by omega) (by omega)
        refine wpAny_pure ⟨plainId_quiet plain_sift _, ih c _ s' (by omega) I' (hP.perm hpm) (by rw [swL_len]; exact hn) cn ?_ fun xs' s'' I'' pm hh => q xs' s'' I'' (pm.trans hpm) hh⟩
        rw [kF_sw (by omega) (by omega) (by omega)]
        exact hpd_step hU c0 cn cp hmin
      have only : ∀ s, 0 < s → s < n → (s - 1) / 2 = p → s = 2 * p + 1 ∨ s = 2 * p + 2 := fun s h1 h2 h3 => by omega
      by_cases h2 : 2 * p + 1 + 1 < n
      · rw [if_pos (show 2 * ((p : Nat) : Int).toNat + 1 + 1 < n from h2)]
        obtain ⟨t, g1, g2, g3⟩ := hP.at (i := 2 * p + 1) (by omega) I r
        obtain ⟨t2, f1, f2, f3⟩ := hP.at (i := 2 * p + 2) (by omega) I r
        refine wpAny_bind (wp_at rfl (j := 2 * p + 1) g2 ?_)
        refine wpAny_bind (wp_at rfl (j := 2 * p + 2) f2 ?_)
        rw [if_neg Bool.false_ne_true]
        refine wpAny_bind (wp_less rfl (hq_lt I (by show A0.units + 1 < cLine; omega) g3 f3) e hsz ?_)
        by_cases hlt : lt2 (kF k xs (2 * p + 1)) (kF k xs (2 * p + 2)) = true
        · rw [hlt]
          refine go (2 * p + 1) (by omega) (by omega) (by omega) (fun s h1 h2 h3 => ?_) rfl
          rcases only s h1 h2 h3 with rfl | rfl
          · exact le2_refl _
          · exact le2_of_lt hlt
        · rw [Bool.eq_false_iff.mpr hlt]
          refine go (2 * p + 2) (by omega) (by omega) (by omega) (fun s h1 h2 h3 => ?_) rfl
          rcases only s h1 h2 h3 with rfl | rfl
          · exact Bool.eq_false_iff.mpr hlt
          · exact le2_refl _
      · rw [if_neg (show ¬ 2 * ((p : Nat) : Int).toNat + 1 + 1 < n from h2)]
        refine go (2 * p + 1) (by omega) (by omega) (by omega) (fun s h1 h2 h3 => ?_) rfl
        rcases only s h1 h2 h3 with rfl | rfl
        · exact le2_refl _
        · omega
    · rw [if_neg (show ¬ ((p : Nat) : Int).toNat < n / 2 from hc)]
      refine wpAny_pure ⟨plainId_quiet plain_sift _, sift_up hu n p p xs s (Nat.le_refl _) I hP hn hp (hpd_leaf hU fun i h1 h2 h3 => by omega) q⟩
end
/-- a heap's list -/
structure Hq (H : Hp) (a : Addr) (k : V → Int × Int) (xs : List V) : Prop where
  at_ : H a = some (.lst xs)
  tup : HqP H a k xs
  hp : HpF (kF k xs) xs.length
section
variable {X : Cx}
theorem upd_self {H : Hp} {a : Addr} {o : HO} (h : H a = some o) : upd H a o = H := by
  funext b
  by_cases hb : b = a
  · rw [hb, upd_same, h]
  · rw [upd_ne hb]
theorem hp_push {f g : Nat → Int × Int} {n : Nat} (h : HpF f n) (e : ∀ i, i < n → g i = f i) : HpU g (n + 1) n := by
  refine ⟨fun i i0 i1 ip => ?_, fun i i0 i1 ip => ?_⟩
  · rw [e i (by omega), e ((i - 1) / 2) (by omega)]
    exact h i i0 (by omega)
  · omega
theorem hp_pop {f g : Nat → Int × Int} {n : Nat} (h : HpF f (n + 1)) (e : ∀ i, 0 < i → i < n → g i = f i) : HpD g n 0 := by
  refine ⟨fun i i0 i1 ip iq => ?_, fun i i0 i1 ip p0 => absurd p0 (Nat.lt_irrefl 0)⟩
  rw [e i i0 i1, e ((i - 1) / 2) (by omega) (by omega)]
  exact h i i0 (by omega)
def rHPush (k : V → Int × Int) : List V → Hp → VK → Prop := fun vs H Q => ∃ (a t : Addr) (xs : List V) (i j : Int), vs = [.ref a, .ref t] ∧ Hq H a k xs ∧ t ≠ a ∧ H t = some (.tup [.int i, .int j]) ∧ k (.ref t) = (i, j) ∧ xs.length < sizeLine ∧ ∀ ys, ys.Perm (.ref t :: xs) → Hq (upd H a (.lst ys)) a k ys → Q .non (upd H a (.lst ys))
theorem cr_hpush {k : V → Int × Int} (hu : X.A.units + 8 < cLine) : CallR X (.builtin "_heapq.heappush") (rHPush k) := by
  intro pins s σ H vs us Q I r h
  obtain ⟨a, t, xs, i, j, rfl, hq, hta, ht, hk, hz, q⟩ := h
  obtain ⟨w1, w2, rfl, e1, e2⟩ := vals2 r
  cases e1
  cases e2
  refine call_function_meets (S := fun A R s => A = X.A ∧ R = wants (EP X pins σ Q) X.xe ∧ Inv X pins σ H s) kind_hpush plain_hpush entry_hpush (args_hpush _ _) ?_ ⟨rfl, rfl, I⟩
  rintro prog w A R s ⟨rfl, rfl, I⟩
  obtain ⟨z, its, n, r, hl, e⟩ := I.lstM hq.at_
  have hT : s.TypeIs (.ref a) "list" := ⟨_, e, rfl⟩
  show wpAny _ X.A.in1 (((isInstance (.ref a) (.type "list") >>= _) >>= _) >>= _) _ _ s
  refine wpAny_bind (wpAny_bind (wpAny_bind (wpAny_isInstance (b := true) hT (by kernel_rfl) ?_)))
  show wpAny _ X.A.in1 (pure a) _ _ s
  refine wpAny_pure (wpAny_pure ?_)
  show wpAny _ X.A.in1 (updateSeq a _ >>= _) _ _ s
  have hl2 : (xs ++ [V.ref t]).length = xs.length + 1 := by rw [List.length_append, List.length_singleton]
  have I2 := I.lset (its' := its ++ [.ref t]) (f := (·.push (.ref t))) (t' := s.toks) hq.at_ e (by simp) (r.append (.cons (show RelV (.ref t) (.ref t) from rfl) .nil)) (by rw [hl2]; exact hz)
  refine wpAny_bind (wpAny_updateSeq e rfl ?_ (by rw [List.size_toArray, ← hl]; exact z) (by rw [Array.size_push, List.size_toArray, ← hl]; omega))
  obtain ⟨z2, its2, n2, r2, hl3, e2⟩ := I2.lstM upd_same
  refine wpAny_bind (wp_it rfl e2 ?_)
  have hs : its2.toArray.size - 1 = xs.length := by
    rw [List.size_toArray, ← hl3, hl2]
    rfl
  refine wpAny_pure ⟨plainId_quiet plain_sift _, ?_⟩
  rw [hs]
  refine sift_up (k := k) hu (xs.length + 1) xs.length xs.length _ _ (Nat.le_refl _) I2 (fun x hx => ?_) hl2 (Nat.lt_succ_self _) (hp_push hq.hp fun i hi => ?_) (fun xs' s' I' pm hh => ?_)
  · rcases List.mem_append.mp hx with hx | hx
    · exact hq.tup x hx
    · rw [List.mem_singleton.mp hx]
      exact ⟨t, rfl, hta, by rw [hk]; exact ht⟩
  · unfold kF
    rw [List.getD_eq_getElem?_getD, List.getD_eq_getElem?_getD, List.getElem?_append_left hi]
  · have pm2 : xs'.Perm (.ref t :: xs) := pm.trans List.perm_append_comm
    refine ⟨.non, _, I', rfl, q xs' pm2 ⟨upd_same, fun x hx => ?_, ?_⟩⟩
    · obtain ⟨u, e1, e2, e3⟩ : ∃ u, x = .ref u ∧ u ≠ a ∧ H u = some (.tup [.int (k x).1, .int (k x).2]) := by
        rcases List.mem_cons.mp (pm2.mem_iff.mp hx) with rfl | hx
        · exact ⟨t, rfl, hta, by rw [hk]; exact ht⟩
        · exact hq.tup x hx
      exact ⟨u, e1, e2, (upd_ne e2).trans e3⟩
    · rw [pm.length_eq, hl2]
      exact hh
def rHPop (k : V → Int × Int) : List V → Hp → VK → Prop := fun vs H Q => ∃ (a : Addr) (xs : List V), vs = [.ref a] ∧ Hq H a k xs ∧ xs ≠ [] ∧ ∀ x ys, (x :: ys).Perm xs → (∀ y ∈ ys, le2 (k x) (k y)) → Hq (upd H a (.lst ys)) a k ys → Q x (upd H a (.lst ys))
theorem vals_last {xs : List V} {its : List Value} (r : Vals xs its) : ∀ {m : List V} {l : V}, xs = m ++ [l] → ∃ (mi : List Value) (u : Value), its = mi ++ [u] ∧ Vals m mi ∧ RelV l u := by
  intro m
  induction m generalizing xs its with
  | nil =>
    intro l e
    subst e
    cases r with
    | cons r1 r2 =>
      cases r2
      exact ⟨[], _, rfl, .nil, r1⟩
  | cons y m ih =>
    intro l e
    subst e
    cases r with
    | cons r1 r2 =>
      obtain ⟨mi, u, rfl, h1, h2⟩ := ih r2 rfl
      exact ⟨_ :: mi, u, rfl, .cons r1 h1, h2⟩
theorem cr_hpop {k : V → Int × Int} (hu : X.A.units + 8 < cLine) : CallR X (.builtin "_heapq.heappop") (rHPop k) := by
  intro pins s σ H vs us Q I r h
  obtain ⟨a, xs, rfl, hq, hne, q⟩ := h
  obtain rfl := Vals.ref1 r
  refine call_function_meets (S := fun A R s => A = X.A ∧ R = wants (EP X pins σ Q) X.xe ∧ Inv X pins σ H s) kind_hpop plain_hpop entry_hpop (args_hpop _) ?_ ⟨rfl, rfl, I⟩
  rintro prog w A R s ⟨rfl, rfl, I⟩
  obtain ⟨z, its, n, r, hl, e⟩ := I.lstM hq.at_
  have hT : s.TypeIs (.ref a) "list" := ⟨_, e, rfl⟩
  show wpAny _ X.A.in1 (((isInstance (.ref a) (.type "list") >>= _) >>= _) >>= _) _ _ s
  refine wpAny_bind (wpAny_bind (wpAny_bind (wpAny_isInstance (b := true) hT (by kernel_rfl) ?_)))
  show wpAny _ X.A.in1 (pure a) _ _ s
  refine wpAny_pure (wpAny_pure ?_)
  dsimp only
  refine wpAny_bind (wp_it rfl e ?_)
  obtain ⟨m, l, rfl⟩ : ∃ m l, xs = m ++ [l] := ⟨xs.dropLast, xs.getLast hne, (List.dropLast_concat_getLast hne).symm⟩
  obtain ⟨mi, u, rfl, rm, rl⟩ := vals_last r rfl
  have hb : (mi ++ [u]).toArray.back? = some u := by simp
  rw [hb]
  dsimp only
  have zl : m.length + 1 ≤ sizeLine := by
    rw [List.length_append, List.length_singleton] at z
    exact z
  have hml := rm.length
  have I2 := I.lset (its' := mi) (f := (·.pop)) (t' := s.toks) hq.at_ e (by simp) rm (by omega)
  refine wpAny_bind (wpAny_updateSeq e rfl ?_ (by rw [List.size_toArray, ← hl]; exact z) (by rw [Array.size_pop, List.size_toArray, ← hl]; omega))
  cases m with
  | nil =>
    cases rm
    rw [if_pos (by rfl)]
    refine wpAny_pure ⟨l, _, I2, rl, q l [] (List.Perm.refl _) (fun y hy => absurd hy List.not_mem_nil) ⟨upd_same, fun x hx => absurd hx List.not_mem_nil, fun i i0 i1 => absurd i1 (Nat.not_lt_zero i)⟩⟩
  | cons x m =>
    obtain ⟨v, mi, rfl⟩ : ∃ v mi', mi = v :: mi' := by
      cases rm with
      | cons r1 r2 => exact ⟨_, _, rfl⟩
    have hx : RelV x v := by
      cases rm with
      | cons r1 r2 => exact r1
    obtain ⟨t0, rfl, ht0, hk0⟩ := hq.tup x (by simp)
    have hv : v = .ref t0 := hx
    subst hv
    rw [if_neg (by
      rw [List.size_toArray, beq_iff_eq, List.length_append, List.length_cons, List.length_singleton]
      omega)]
    refine wpAny_bind (wp_at (arr := (Value.ref t0 :: mi ++ [u]).toArray) (j := 0) (u := .ref t0) rfl rfl ?_)
    obtain ⟨z2, its2, n2, r2, hl3, e2⟩ := I2.lstM upd_same
    have I3 := I2.lset (its' := its2.set 0 u) (f := (·.setIfInBounds 0 u)) (t' := s.toks) upd_same e2 (by simp) (Vals.set rl 0 r2) (by rw [List.length_set]; exact z2)
    rw [upd_upd] at I3
    have I3 : Inv X pins σ (upd H a (.lst (l :: m))) _ := I3
    refine wpAny_bind (wpAny_updateSeq e2 rfl ?_ (by rw [List.size_toArray, ← hl3]; exact z2) (by rw [Array.size_setIfInBounds, List.size_toArray, ← hl3]; omega))
    refine wpAny_pure ⟨plainId_quiet plain_sift _, ?_⟩
    have mem : ∀ y, y ∈ (l :: m) → y ∈ (.ref t0 :: m) ++ [l] := fun y hy => by
      rcases List.mem_cons.mp hy with rfl | hy
      · simp
      · simp [hy]
    refine sift_down (k := k) hu (m.length + 1) (m.length + 1) 0 _ _ (by omega) I3 (fun y hy => hq.tup y (mem y hy)) rfl (Nat.succ_pos _) (hp_pop (f := kF k ((.ref t0 :: m) ++ [l])) ?_ fun i i0 i1 => ?_) (fun xs' s' I' pm hh => ?_)
    · have := hq.hp
      rw [List.length_append, List.length_cons, List.length_singleton] at this
      exact this
    · unfold kF
      obtain ⟨j, rfl⟩ : ∃ j, i = j + 1 := ⟨i - 1, by omega⟩
      rw [List.getD_eq_getElem?_getD, List.getD_eq_getElem?_getD, List.getElem?_append_left (by rw [List.length_cons]; omega), List.getElem?_cons_succ, List.getElem?_cons_succ]
    · have pm2 : (V.ref t0 :: xs').Perm ((.ref t0 :: m) ++ [l]) := (List.Perm.cons _ pm).trans (List.Perm.cons _ (List.perm_append_comm (l₁ := [l])))
      have hmin : ∀ y ∈ (V.ref t0 :: m) ++ [l], le2 (k (.ref t0)) (k y) := fun y hy => by
        obtain ⟨i, hi, rfl⟩ := List.getElem_of_mem hy
        have h1 := hpf_min hq.hp i i (Nat.le_refl _) hi
        have e0 : kF k ((V.ref t0 :: m) ++ [l]) 0 = k (.ref t0) := rfl
        have e1 : kF k ((V.ref t0 :: m) ++ [l]) i = k ((V.ref t0 :: m) ++ [l])[i] := by
          unfold kF
          rw [List.getD_eq_getElem?_getD, List.getElem?_eq_getElem hi]
          rfl
        rw [e0, e1] at h1
        exact h1
      refine ⟨.ref t0, _, I', rfl, q (.ref t0) xs' pm2 (fun y hy => hmin y (pm2.mem_iff.mp (List.mem_cons_of_mem _ hy))) ⟨upd_same, fun y hy => ?_, ?_⟩⟩
      · obtain ⟨w, e1, e2, e3⟩ := hq.tup y (mem y (pm.mem_iff.mp hy))
        exact ⟨w, e1, e2, (upd_ne e2).trans e3⟩
      · rw [pm.length_eq, List.length_cons]
        exact hh
/-- f(e, ..), f a name of the module that stands for a built-in function -/
theorem pe_callGB {x : PySem.Str} {p pos : Pos} {e : Expr} {es : List Expr} {t : TA} {id : String} {r : List V → Hp → VK → Prop} (hc : CallR X (.builtin id) r) (hg : Gl X x) (hm : X.mg x = some (.builtin id)) (ha : PA X (e :: es) t) (hdb : (x == ("__debug__" : PySem.Str)) = false := by decide)
    (he : starEach (e :: es) X.env = (false, eval e X.env) :: starEach es X.env := by rfl) (hpl : (backTo pos (starEach es X.env)).any (·.1) = false := by rfl) : PE X (.Call (.Name x p) (e :: es) [] pos) (tCB r t) := by
  refine ⟨fun pins s σ H Q I h => ?_⟩
  refine wpAny_Call_Name_kw (ld_glob I hg hm ?_ hdb)
  exact PyProof.Rows.callWith_builtin1 (thn (ha.run pos pins s σ H _ I h) fun us s1 ⟨vs, H1, I1, r1, q1⟩ => hc pins s1 σ H1 vs us Q I1 r1 q1) he hpl
end
end SW

namespace SW
open PySem PySem.Spec PyProof.Rows L2
/-! ### differences and heights -/
abbrev D3 : Type := Nat × Nat × Int
def Feas (ds : List D3) (h : Nat → Int) : Prop := ∀ d, d ∈ ds → h d.1 - h d.2.1 ≤ d.2.2
def LowH (h : Nat → Int) : Prop := ∀ u, h u ≤ 0
/-- the greatest heights not above 0 that keep all -/
structure TopH (ds : List D3) (h : Nat → Int) : Prop where
  fe : Feas ds h
  le : LowH h
  top : ∀ s, Feas ds s → LowH s → ∀ u, s u ≤ h u
def roomD : List D3 → Int
  | [] => 0
  | d :: r => (d.2.2.natAbs : Int) + roomD r
theorem roomD_nn : ∀ ds : List D3, 0 ≤ roomD ds
  | [] => Int.le_refl _
  | d :: r => by
    have := roomD_nn r
    show 0 ≤ (d.2.2.natAbs : Int) + roomD r
    omega
theorem roomD_app : ∀ a b : List D3, roomD (a ++ b) = roomD a + roomD b
  | [], b => (Int.zero_add _).symm
  | d :: a, b => by
    show (d.2.2.natAbs : Int) + roomD (a ++ b) = (d.2.2.natAbs : Int) + roomD a + roomD b
    rw [roomD_app a b]
    omega
/-- how many of n whole numbers from x on are such -/
def cn (f : Int → Bool) : Int → Nat → Int
  | _, 0 => 0
  | x, n + 1 => (if f x = true then 1 else 0) + cn f (x + 1) n
theorem cn_add (f : Int → Bool) : ∀ (m n : Nat) (x : Int), cn f x (m + n) = cn f x m + cn f (x + m) n
  | 0, n, x => by
    rw [Nat.zero_add]
    show _ = 0 + cn f (x + ((0 : Nat) : Int)) n
    rw [Int.zero_add, show x + ((0 : Nat) : Int) = x from Int.add_zero x]
  | m + 1, n, x => by
    rw [show m + 1 + n = (m + n) + 1 by omega]
    show _ + cn f (x + 1) (m + n) = (_ + cn f (x + 1) m) + cn f (x + ((m + 1 : Nat) : Int)) n
    rw [cn_add f m n (x + 1), show x + 1 + (m : Int) = x + ((m + 1 : Nat) : Int) by omega]
    omega
theorem cn_nn (f : Int → Bool) : ∀ (n : Nat) (x : Int), 0 ≤ cn f x n
  | 0, _ => Int.le_refl _
  | n + 1, x => by
    have := cn_nn f n (x + 1)
    show 0 ≤ (if f x = true then 1 else 0) + cn f (x + 1) n
    split <;> omega
theorem cn_le (f : Int → Bool) : ∀ (n : Nat) (x : Int), cn f x n ≤ n
  | 0, _ => Int.le_refl _
  | n + 1, x => by
    have := cn_le f n (x + 1)
    show (if f x = true then (1 : Int) else 0) + cn f (x + 1) n ≤ ((n + 1 : Nat) : Int)
    split <;> omega
theorem cn_all {f : Int → Bool} : ∀ (n : Nat) (x : Int), (∀ k : Int, x ≤ k → k < x + n → f k = true) → cn f x n = n
  | 0, _, _ => rfl
  | n + 1, x, h => by
    have := cn_all n (x + 1) fun k h1 h2 => h k (by omega) (by omega)
    show (if f x = true then (1 : Int) else 0) + cn f (x + 1) n = ((n + 1 : Nat) : Int)
    rw [if_pos (h x (Int.le_refl _) (by omega)), this]
    omega
theorem cn_mono {f g : Int → Bool} (h : ∀ k, f k = true → g k = true) : ∀ (n : Nat) (x : Int), cn f x n ≤ cn g x n
  | 0, _ => Int.le_refl _
  | n + 1, x => by
    have := cn_mono h n (x + 1)
    show (if f x = true then (1 : Int) else 0) + cn f (x + 1) n ≤ (if g x = true then (1 : Int) else 0) + cn g (x + 1) n
    by_cases e : f x = true
    · rw [if_pos e, if_pos (h x e)]
      omega
    · rw [if_neg e]
      split <;> omega
theorem cn_or (f g : Int → Bool) : ∀ (n : Nat) (x : Int), cn (fun k => f k || g k) x n ≤ cn f x n + cn g x n
  | 0, _ => Int.le_refl _
  | n + 1, x => by
    have := cn_or f g n (x + 1)
    show (if (f x || g x) = true then (1 : Int) else 0) + cn (fun k => f k || g k) (x + 1) n ≤ ((if f x = true then (1 : Int) else 0) + cn f (x + 1) n) + ((if g x = true then (1 : Int) else 0) + cn g (x + 1) n)
    cases f x <;> cases g x <;> simp <;> omega
/-- an interval's share is not longer than it -/
theorem cn_int (a : Int) (l : Nat) : ∀ (n : Nat) (x : Int), cn (fun k => decide (a ≤ k) && decide (k < a + l)) x n ≤ (if a + l ≤ x then 0 else if x ≤ a then (l : Int) else a + l - x)
  | 0, x => by
    show (0 : Int) ≤ _
    split
    · exact Int.le_refl _
    · split <;> omega
  | n + 1, x => by
    have := cn_int a l n (x + 1)
    show (if (decide (a ≤ x) && decide (x < a + l)) = true then (1 : Int) else 0) + cn (fun k => decide (a ≤ k) && decide (k < a + l)) (x + 1) n ≤ _
    by_cases h1 : a ≤ x
    · by_cases h2 : x < a + l
      · rw [decide_eq_true h1, decide_eq_true h2]
        simp only [Bool.and_self, if_true]
        split at this <;> split <;> (try split) <;> (try split at this) <;> omega
      · rw [decide_eq_true h1, decide_eq_false h2]
        simp only [Bool.and_false, Bool.false_eq_true, if_false]
        split at this <;> split <;> (try split) <;> (try split at this) <;> omega
    · rw [decide_eq_false h1]
      simp only [Bool.false_and, Bool.false_eq_true, if_false]
      split at this <;> split <;> (try split) <;> (try split at this) <;> omega
theorem cn_int' (a : Int) (l n : Nat) (x : Int) : cn (fun k => decide (a ≤ k) && decide (k < a + l)) x n ≤ l := by
  have := cn_int a l n x
  split at this
  · omega
  · split at this <;> omega
/-- the levels that a difference below 0 needs -/
def need1 (h : Nat → Int) (d : D3) (k : Int) : Bool := decide (d.2.2 < 0) && (decide (h d.2.1 + d.2.2 ≤ k) && decide (k < h d.2.1 + d.2.2 + (d.2.2.natAbs : Int)))
def needs (h : Nat → Int) : List D3 → Int → Bool
  | [], _ => false
  | d :: r, k => need1 h d k || needs h r k
theorem needs_room (h : Nat → Int) : ∀ (ds : List D3) (x : Int) (n : Nat), cn (needs h ds) x n ≤ roomD ds
  | [], x, n => by
    have : cn (needs h []) x n = 0 := by
      have : ∀ (n : Nat) (x : Int), cn (needs h []) x n = 0 := by
        intro n
        induction n with
        | zero => exact fun _ => rfl
        | succ n ih =>
          intro x
          show (if (false : Bool) = true then (1 : Int) else 0) + cn (needs h []) (x + 1) n = 0
          rw [ih (x + 1)]
          rfl
      exact this n x
    rw [this]
    exact Int.le_refl _
  | d :: r, x, n => by
    have h1 := cn_or (need1 h d) (needs h r) n x
    have h2 := needs_room h r x n
    have h3 : cn (need1 h d) x n ≤ (d.2.2.natAbs : Int) := by
      have h4 := cn_int' (h d.2.1 + d.2.2) d.2.2.natAbs n x
      have h5 := cn_mono (f := need1 h d) (g := fun k => decide (h d.2.1 + d.2.2 ≤ k) && decide (k < h d.2.1 + d.2.2 + (d.2.2.natAbs : Int))) (fun k hk => by
        unfold need1 at hk
        rw [Bool.and_eq_true] at hk
        exact hk.2) n x
      omega
    show cn (fun k => need1 h d k || needs h r k) x n ≤ (d.2.2.natAbs : Int) + roomD r
    omega
theorem needs_of {h : Nat → Int} {d : D3} {k : Int} (hk : need1 h d k = true) : ∀ {ds : List D3}, d ∈ ds → needs h ds k = true
  | e :: r, hm => by
    show (need1 h e k || needs h r k) = true
    rcases List.mem_cons.mp hm with rfl | hm
    · rw [hk]
      rfl
    · rw [needs_of hk hm, Bool.or_true]
/-- heights brought together: only levels that are needed count -/
def shr (f : Int → Bool) (x : Int) : Int := - cn f x (0 - x).toNat
theorem shr_gap (f : Int → Bool) {x y : Int} (h : x ≤ y) (hy : y ≤ 0) : shr f x = shr f y - cn f x (y - x).toNat := by
  unfold shr
  rw [show (0 - x).toNat = (y - x).toNat + (0 - y).toNat by omega, cn_add, show x + ((y - x).toNat : Int) = y by omega]
  omega
theorem shr_feas {ds : List D3} {h : Nat → Int} (hf : Feas ds h) (hl : LowH h) : Feas ds fun u => shr (needs h ds) (h u) := by
  intro d hd
  obtain ⟨u, v, c⟩ := d
  have h1 : h u - h v ≤ c := hf _ hd
  show shr (needs h ds) (h u) - shr (needs h ds) (h v) ≤ c
  by_cases huv : h u ≤ h v
  · rw [shr_gap _ huv (hl v)]
    have h2 := cn_nn (needs h ds) (h v - h u).toNat (h u)
    by_cases hc : 0 ≤ c
    · omega
    · have hn : ((c.natAbs : Nat) : Int) = -c := by omega
      have h3 : (h v - h u).toNat = (h v - h u + c).toNat + c.natAbs := by omega
      have h4 := cn_add (needs h ds) (h v - h u + c).toNat c.natAbs (h u)
      rw [← h3, show h u + ((h v - h u + c).toNat : Int) = h v + c by omega] at h4
      have h5 := cn_nn (needs h ds) (h v - h u + c).toNat (h u)
      have h6 : cn (needs h ds) (h v + c) c.natAbs = c.natAbs := cn_all _ _ fun k k1 k2 => needs_of (d := (u, v, c)) (by
        unfold need1
        rw [decide_eq_true (show c < 0 by omega), decide_eq_true (show h v + c ≤ k from k1), decide_eq_true (show k < h v + c + (c.natAbs : Int) from k2)]
        rfl) hd
      omega
  · rw [shr_gap _ (show h v ≤ h u by omega) (hl u)]
    have h2 := cn_le (needs h ds) (h u - h v).toNat (h v)
    omega
theorem shr_low (f : Int → Bool) (x : Int) : shr f x ≤ 0 := by
  have := cn_nn f (0 - x).toNat x
  unfold shr
  omega
theorem TopH.bound {ds : List D3} {h : Nat → Int} (t : TopH ds h) (u : Nat) : -roomD ds ≤ h u := by
  have h1 := t.top _ (shr_feas t.fe t.le) (fun v => shr_low _ _) u
  have h2 := needs_room h ds (h u) (0 - h u).toNat
  have h3 : shr (needs h ds) (h u) ≤ h u := h1
  unfold shr at h3
  omega
theorem top_nil : TopH [] fun _ => 0 := ⟨fun _ h => absurd h List.not_mem_nil, fun _ => Int.le_refl _, fun _ _ h => h⟩
end SW

namespace SW
open PySem PySem.Spec PyProof.Rows L2
/-! ### how heights are lowered for one more difference -/
def faD (fa : Nat → Option Int) (u : Nat) : Int := (fa u).getD 0
theorem faD_some {fa : Nat → Option Int} {u : Nat} {f : Int} (h : fa u = some f) : faD fa u = f := by
  unfold faD
  rw [h]
  rfl
theorem faD_none {fa : Nat → Option Int} {u : Nat} (h : fa u = none) : faD fa u = 0 := by
  unfold faD
  rw [h]
  rfl
def fput {β : Type} (fa : Nat → Option β) (u : Nat) (f : β) : Nat → Option β := fun x => if x = u then some f else fa x
theorem fput_same {β : Type} {fa : Nat → Option β} {u : Nat} {f : β} : fput fa u f u = some f := if_pos rfl
theorem fput_ne {β : Type} {fa : Nat → Option β} {u x : Nat} {f : β} (h : x ≠ u) : fput fa u f x = fa x := if_neg h
/-- a walk along differences, and its sum -/
inductive Wk3 (ds : List D3) (a : Nat) : Nat → List Nat → Int → Prop where
  | nil : Wk3 ds a a [] 0
  | snoc {b v es s e c} : Wk3 ds a b es s → ds[e]? = some (b, v, c) → Wk3 ds a v (es ++ [e]) (s + c)
theorem Wk3.feas {ds : List D3} {a b : Nat} {es : List Nat} {t : Int} {s : Nat → Int} (w : Wk3 ds a b es t) (h : Feas ds s) : s a - s b ≤ t := by
  induction w with
  | nil => omega
  | @snoc b v es t e c w e1 ih =>
    have h2 : s b - s v ≤ c := h _ (List.mem_of_getElem? e1)
    omega
theorem Wk3.app {ds : List D3} {a b : Nat} {es : List Nat} {t : Int} (w : Wk3 ds a b es t) (more : List D3) : Wk3 (ds ++ more) a b es t := by
  induction w with
  | nil => exact .nil
  | snoc w e ih => exact .snoc ih (by rw [List.getElem?_append_left (List.getElem?_eq_some_iff.mp e).1]; exact e)
structure Dj (old : List D3) (n N first second : Nat) (most : Int) (h : Nat → Int) (fa : Nat → Option Int) (ca : Nat → Option Nat) (dn : List Nat) (q : List (Int × Nat)) : Prop where
  fs : first ≠ second
  fst : fa first = some (h second + most - h first)
  neg : ∀ x f, fa x = some f → f < 0
  nsec : fa second = none
  que : ∀ p, p ∈ q → ∃ f, fa p.2 = some f ∧ f ≤ p.1
  inq : ∀ x f, fa x = some f → x ∈ dn ∨ (f, x) ∈ q
  dnf : ∀ x, x ∈ dn → ∃ f, fa x = some f
  mono : ∀ x, x ∈ dn → ∀ f, fa x = some f → ∀ p, p ∈ q → f ≤ p.1
  cau : ∀ x f, fa x = some f → (x = first ∧ ca x = some N) ∨ (x ≠ first ∧ ∃ e v c fv, ca x = some e ∧ old[e]? = some (x, v, c) ∧ v ∈ dn ∧ fa v = some fv ∧ f = fv + (c + h v - h x))
  rank : ∀ (i x : Nat), dn[i]? = some x → x ≠ first → ∃ (e v : Nat) (c : Int) (j : Nat), ca x = some e ∧ old[e]? = some (x, v, c) ∧ j < i ∧ dn[j]? = some v
  nd : dn.Nodup
  rng : ∀ x f, fa x = some f → x < n
  top : ∀ s, Feas (old ++ [(first, second, most)]) s → LowH s → ∀ x f, fa x = some f → s x ≤ h x + f
/-- of such differences: the lower end is low enough -/
def RelD (old : List D3) (h : Nat → Int) (fa : Nat → Option Int) (E : Nat → Prop) : Prop := ∀ e, E e → ∀ u v c fv, old[e]? = some (u, v, c) → fa v = some fv → faD fa u ≤ fv + (c + h v - h u)
section
variable {old : List D3} {n N first second : Nat} {most : Int} {h : Nat → Int} {fa : Nat → Option Int} {ca : Nat → Option Nat} {dn : List Nat} {q q' : List (Int × Nat)}
theorem dj_start (t : TopH old h) (fs : first ≠ second) (fn : first < n) (hb : most < h first - h second) : Dj old n N first second most h (fput (fun _ => none) first (h second + most - h first)) (fput (fun _ => none) first N) [] [(h second + most - h first, first)] := by
  have key : ∀ x f, fput (fun _ => none) first (h second + most - h first) x = some f → x = first ∧ f = h second + most - h first := fun x f e => by
    unfold fput at e
    split at e
    · exact ⟨‹_›, (Option.some.inj e).symm⟩
    · cases e
  refine ⟨fs, fput_same, fun x f e => ?_, fput_ne (Ne.symm fs), fun p hp => ?_, fun x f e => ?_, fun x hx => absurd hx List.not_mem_nil, fun x hx => absurd hx List.not_mem_nil, fun x f e => ?_, fun i x e => ?_, List.nodup_nil, fun x f e => ?_, fun s hs hl x f e => ?_⟩
  · obtain ⟨_, rfl⟩ := key x f e
    omega
  · rw [List.mem_singleton.mp hp]
    exact ⟨_, fput_same, Int.le_refl _⟩
  · obtain ⟨rfl, rfl⟩ := key x f e
    exact .inr List.mem_cons_self
  · obtain ⟨rfl, rfl⟩ := key x f e
    exact .inl ⟨rfl, fput_same⟩
  · cases e
  · obtain ⟨rfl, rfl⟩ := key x f e
    exact fn
  · obtain ⟨rfl, rfl⟩ := key x f e
    have h1 : s x - s second ≤ most := hs (x, second, most) (List.mem_append_right _ List.mem_cons_self)
    have h2 := t.top s (fun d hd => hs d (List.mem_append_left _ hd)) hl second
    omega
theorem dj_skip (D : Dj old n N first second most h fa ca dn q) {f : Int} {x : Nat} (p : ((f, x) :: q').Perm q) (hx : x ∈ dn) : Dj old n N first second most h fa ca dn q' := by
  have sub : ∀ y, y ∈ q' → y ∈ q := fun y hy => p.mem_iff.mp (List.mem_cons_of_mem _ hy)
  refine ⟨D.fs, D.fst, D.neg, D.nsec, fun y hy => D.que y (sub y hy), fun y g e => ?_, D.dnf, fun y hy g e z hz => D.mono y hy g e z (sub z hz), D.cau, D.rank, D.nd, D.rng, D.top⟩
  rcases D.inq y g e with h1 | h1
  · exact .inl h1
  · rcases List.mem_cons.mp (p.mem_iff.mpr h1) with h2 | h2
    · injection h2 with h3 h4
      rw [h4]
      exact .inl hx
    · exact .inr h2
theorem dj_pop (D : Dj old n N first second most h fa ca dn q) {f : Int} {x : Nat} (p : ((f, x) :: q').Perm q) (hx : ¬ x ∈ dn) (hm : ∀ y, y ∈ q' → f ≤ y.1) : fa x = some f ∧ Dj old n N first second most h fa ca (dn ++ [x]) q' := by
  have sub : ∀ y, y ∈ q' → y ∈ q := fun y hy => p.mem_iff.mp (List.mem_cons_of_mem _ hy)
  have hfx : (f, x) ∈ q := p.mem_iff.mp List.mem_cons_self
  obtain ⟨g, hg, hgf⟩ := D.que _ hfx
  have hg : fa x = some g := hg
  have hgf : g ≤ f := hgf
  have efg : g = f := by
    rcases D.inq x g hg with h1 | h1
    · exact absurd h1 hx
    · rcases List.mem_cons.mp (p.mem_iff.mpr h1) with h2 | h2
      · injection h2
      · have := hm _ h2
        have : f ≤ g := this
        omega
  subst efg
  refine ⟨hg, D.fs, D.fst, D.neg, D.nsec, fun y hy => D.que y (sub y hy), fun y k e => ?_, fun y hy => ?_, fun y hy k e z hz => ?_, fun y k e => ?_, fun i y e hy => ?_, ?_, D.rng, D.top⟩
  · rcases D.inq y k e with h1 | h1
    · exact .inl (List.mem_append_left _ h1)
    · rcases List.mem_cons.mp (p.mem_iff.mpr h1) with h2 | h2
      · injection h2 with h3 h4
        rw [h4]
        exact .inl (List.mem_append_right _ List.mem_cons_self)
      · exact .inr h2
  · rcases List.mem_append.mp hy with hy | hy
    · exact D.dnf y hy
    · rw [List.mem_singleton.mp hy]
      exact ⟨_, hg⟩
  · rcases List.mem_append.mp hy with hy | hy
    · exact D.mono y hy k e z (sub z hz)
    · rw [List.mem_singleton.mp hy, hg] at e
      cases e
      exact hm z hz
  · rcases D.cau y k e with h1 | ⟨h1, e2, v, c, fv, h2, h3, h4, h5, h6⟩
    · exact .inl h1
    · exact .inr ⟨h1, e2, v, c, fv, h2, h3, List.mem_append_left _ h4, h5, h6⟩
  · by_cases hi : i < dn.length
    · rw [List.getElem?_append_left hi] at e
      obtain ⟨e2, v, c, j, h1, h2, h3, h4⟩ := D.rank i y e hy
      exact ⟨e2, v, c, j, h1, h2, h3, by rw [List.getElem?_append_left (by omega)]; exact h4⟩
    · rw [List.getElem?_append_right (by omega)] at e
      obtain ⟨hlt, e1⟩ := List.getElem?_eq_some_iff.mp e
      rw [List.length_singleton] at hlt
      have ex : y = x := by
        rw [← e1]
        simp
      subst ex
      rcases D.cau y g hg with ⟨h1, _⟩ | ⟨_, e2, v, c, fv, h2, h3, h4, _, _⟩
      · exact absurd h1 hy
      · obtain ⟨j, hj, ej⟩ := List.getElem_of_mem h4
        exact ⟨e2, v, c, j, h2, h3, by omega, by rw [List.getElem?_append_left hj, List.getElem?_eq_getElem hj, ej]⟩
  · rw [List.nodup_append]
    refine ⟨D.nd, by simp, fun a ha b hb e => ?_⟩
    rw [List.mem_singleton.mp hb] at e
    exact hx (e ▸ ha)
/-- nothing to lower by this difference -/
theorem rel_keep {E : Nat → Prop} (R : RelD old h fa E) {e u v : Nat} {c f : Int} (he : old[e]? = some (u, v, c)) (hv : fa v = some f) (hn : ¬ f + (c + h v - h u) < faD fa u) : RelD old h fa fun z => E z ∨ z = e := by
  intro z hz u2 v2 c2 fv2 h1 h2
  rcases hz with hz | rfl
  · exact R z hz u2 v2 c2 fv2 h1 h2
  · rw [he] at h1
    cases h1
    rw [hv] at h2
    cases h2
    omega
theorem dj_new (D : Dj old n N first second most h fa ca dn q) (feo : Feas old h) {e u v : Nat} {c f : Int} (he : old[e]? = some (u, v, c)) (hvd : v ∈ dn) (hv : fa v = some f) (hmax : ∀ x, x ∈ dn → ∀ g, fa x = some g → g ≤ f) (hlt : f + (c + h v - h u) < faD fa u) : ¬ u ∈ dn ∧ f + (c + h v - h u) < 0 ∧ f ≤ f + (c + h v - h u) := by
  have h0 : h u - h v ≤ c := feo _ (List.mem_of_getElem? he)
  have hle : faD fa u ≤ 0 := by
    cases e2 : fa u with
    | none => rw [faD_none e2]; exact Int.le_refl _
    | some g =>
      have := D.neg u g e2
      rw [faD_some e2]
      omega
  refine ⟨fun hu => ?_, by omega, by omega⟩
  obtain ⟨g, hg⟩ := D.dnf u hu
  have := hmax u hu g hg
  rw [faD_some hg] at hlt
  omega
theorem dj_put (D : Dj old n N first second most h fa ca dn q) (feo : Feas old h) {e u v : Nat} {c f : Int} (he : old[e]? = some (u, v, c)) (hun : u < n) (hvd : v ∈ dn) (hv : fa v = some f) (hmax : ∀ x, x ∈ dn → ∀ g, fa x = some g → g ≤ f) (hlt : f + (c + h v - h u) < faD fa u) (hus : u ≠ second) (hfd : first ∈ dn)
    (p : q'.Perm ((f + (c + h v - h u), u) :: q)) : Dj old n N first second most h (fput fa u (f + (c + h v - h u))) (fput ca u e) dn q' := by
  obtain ⟨hud, hneg, hge⟩ := dj_new D feo he hvd hv hmax hlt
  have ne : ∀ x, x ∈ dn → x ≠ u := fun x hx e => hud (e ▸ hx)
  have hfu : first ≠ u := ne _ hfd
  have old_ : ∀ x, x ∈ dn → fput fa u (f + (c + h v - h u)) x = fa x := fun x hx => fput_ne (ne x hx)
  refine ⟨D.fs, (fput_ne hfu).trans D.fst, fun x g ex => ?_, (fput_ne (Ne.symm hus)).trans D.nsec, fun y hy => ?_, fun x g ex => ?_, fun x hx => ?_, fun x hx g ex y hy => ?_, fun x g ex => ?_, fun i x ei hx => ?_, D.nd, fun x g ex => ?_, fun s hs hl x g ex => ?_⟩
  · by_cases hxu : x = u
    · rw [hxu, fput_same] at ex
      cases ex
      exact hneg
    · rw [fput_ne hxu] at ex
      exact D.neg x g ex
  · rcases List.mem_cons.mp (p.mem_iff.mp hy) with rfl | hy
    · exact ⟨_, fput_same, Int.le_refl _⟩
    · obtain ⟨g, h1, h2⟩ := D.que y hy
      by_cases hyu : y.2 = u
      · refine ⟨_, by rw [hyu]; exact fput_same, ?_⟩
        rw [hyu] at h1
        rw [faD_some h1] at hlt
        omega
      · exact ⟨g, (fput_ne hyu).trans h1, h2⟩
  · by_cases hxu : x = u
    · rw [hxu, fput_same] at ex
      cases ex
      rw [hxu]
      exact .inr (p.mem_iff.mpr List.mem_cons_self)
    · rw [fput_ne hxu] at ex
      rcases D.inq x g ex with h1 | h1
      · exact .inl h1
      · exact .inr (p.mem_iff.mpr (List.mem_cons_of_mem _ h1))
  · rw [old_ x hx]
    exact D.dnf x hx
  · rw [old_ x hx] at ex
    rcases List.mem_cons.mp (p.mem_iff.mp hy) with rfl | hy
    · have := hmax x hx g ex
      show g ≤ f + (c + h v - h u)
      omega
    · exact D.mono x hx g ex y hy
  · by_cases hxu : x = u
    · subst hxu
      rw [fput_same] at ex
      cases ex
      exact .inr ⟨Ne.symm hfu, e, v, c, f, fput_same, he, hvd, (old_ v hvd).trans hv, rfl⟩
    · rw [fput_ne hxu] at ex
      rw [fput_ne hxu]
      rcases D.cau x g ex with h1 | ⟨h1, e2, v2, c2, fv, h2, h3, h4, h5, h6⟩
      · exact .inl h1
      · exact .inr ⟨h1, e2, v2, c2, fv, h2, h3, h4, (old_ v2 h4).trans h5, h6⟩
  · rw [fput_ne (ne x (List.mem_of_getElem? ei))]
    exact D.rank i x ei hx
  · by_cases hxu : x = u
    · rw [hxu]
      exact hun
    · rw [fput_ne hxu] at ex
      exact D.rng x g ex
  · by_cases hxu : x = u
    · subst hxu
      rw [fput_same] at ex
      cases ex
      have h1 := D.top s hs hl v f hv
      have h2 : s x - s v ≤ c := hs _ (List.mem_append_left _ (List.mem_of_getElem? he))
      omega
    · rw [fput_ne hxu] at ex
      exact D.top s hs hl x g ex
theorem rel_put {E : Nat → Prop} (R : RelD old h fa E) {e u v : Nat} {c f : Int} (he : old[e]? = some (u, v, c)) (hv : fa v = some f) (hvu : v ≠ u) (hE : ∀ z u2 c2, E z → old[z]? = some (u2, u, c2) → False) (hlt : f + (c + h v - h u) < faD fa u) :
    RelD old h (fput fa u (f + (c + h v - h u))) fun z => E z ∨ z = e := by
  have low : ∀ x, faD (fput fa u (f + (c + h v - h u))) x ≤ faD fa x := fun x => by
    by_cases hx : x = u
    · rw [hx, faD_some fput_same]
      omega
    · unfold faD
      rw [fput_ne hx]
      exact Int.le_refl _
  intro z hz u2 v2 c2 fv2 h1 h2
  rcases hz with hz | rfl
  · have hv2 : v2 ≠ u := fun e2 => by
      rw [e2] at h1
      exact hE z u2 c2 hz h1
    rw [fput_ne hv2] at h2
    exact Int.le_trans (low u2) (R z hz u2 v2 c2 fv2 h1 h2)
  · rw [he] at h1
    cases h1
    rw [fput_ne hvu, hv] at h2
    cases h2
    rw [faD_some fput_same]
    exact Int.le_refl _
/-- all is done: the lowered heights are the greatest -/
theorem dj_end (D : Dj old n N first second most h fa ca dn []) (t : TopH old h) (R : RelD old h fa fun e => ∃ u v c, old[e]? = some (u, v, c) ∧ v ∈ dn) : TopH (old ++ [(first, second, most)]) fun x => h x + faD fa x := by
  have hle : ∀ x, faD fa x ≤ 0 := fun x => by
    cases e2 : fa x with
    | none => rw [faD_none e2]; exact Int.le_refl _
    | some g =>
      have := D.neg x g e2
      rw [faD_some e2]
      omega
  refine ⟨fun d hd => ?_, fun x => ?_, fun s hs hl x => ?_⟩
  · rcases List.mem_append.mp hd with hd | hd
    · obtain ⟨e, he, ed⟩ := List.getElem_of_mem hd
      obtain ⟨u, v, c⟩ := d
      have e2 : old[e]? = some (u, v, c) := by rw [List.getElem?_eq_getElem he, ed]
      show h u + faD fa u - (h v + faD fa v) ≤ c
      cases ev : fa v with
      | none =>
        have h1 : h u - h v ≤ c := t.fe _ hd
        have := hle u
        rw [faD_none ev]
        omega
      | some fv =>
        have hvd : v ∈ dn := by
          rcases D.inq v fv ev with h1 | h1
          · exact h1
          · cases h1
        have := R e ⟨u, v, c, e2, hvd⟩ u v c fv e2 ev
        rw [faD_some ev]
        omega
    · rw [List.mem_singleton.mp hd]
      show h first + faD fa first - (h second + faD fa second) ≤ most
      rw [faD_some D.fst, faD_none D.nsec]
      omega
  · have := hle x
    have := t.le x
    show h x + faD fa x ≤ 0
    omega
  · show s x ≤ h x + faD fa x
    cases e2 : fa x with
    | none =>
      have := t.top s (fun d hd => hs d (List.mem_append_left _ hd)) hl x
      rw [faD_none e2]
      omega
    | some g =>
      rw [faD_some e2]
      exact D.top s hs hl x g e2
/-- already kept -/
theorem top_more (t : TopH old h) (hb : h first - h second ≤ most) : TopH (old ++ [(first, second, most)]) h := by
  refine ⟨fun d hd => ?_, t.le, fun s hs hl => t.top s (fun d hd => hs d (List.mem_append_left _ hd)) hl⟩
  rcases List.mem_append.mp hd with hd | hd
  · exact t.fe d hd
  · rw [List.mem_singleton.mp hd]
    exact hb
end
/-- so many different numbers below n -/
theorem nodup_le : ∀ (n : Nat) (l : List Nat), l.Nodup → (∀ x, x ∈ l → x < n) → l.length ≤ n
  | 0, l, _, h => by
    cases l with
    | nil => exact Nat.le_refl _
    | cons x r => exact absurd (h x List.mem_cons_self) (Nat.not_lt_zero x)
  | n + 1, l, nd, h => by
    by_cases hn : n ∈ l
    · have h1 := nodup_le n (l.erase n) (nd.erase n) fun x hx => by
        have h2 := (List.Nodup.mem_erase_iff nd).mp hx
        have := h x h2.2
        have := h2.1
        omega
      rw [List.length_erase_of_mem hn] at h1
      omega
    · have h1 := nodup_le n l nd fun x hx => by
        have := h x hx
        have : x ≠ n := fun e => hn (e ▸ hx)
        omega
      omega
end SW

namespace SW
open PySem PySem.Spec PyProof.Rows L2
theorem hu8 {k : Nat} {A : Around} (r : Room k A) : A.units + 8 < cLine := by
  have := r.un
  omega
/-! ### the queue -/
def rHPushE : List V → Hp → VK → Prop := fun vs H Q => ∃ k, rHPush k vs H Q
def rHPopE : List V → Hp → VK → Prop := fun vs H Q => ∃ k, rHPop k vs H Q
theorem cr_hpushE {X : Cx} (hu : X.A.units + 8 < cLine) : CallR X (.builtin "_heapq.heappush") rHPushE := fun pins s σ H vs us Q I r h => by
  obtain ⟨k, h⟩ := h
  exact cr_hpush hu pins s σ H vs us Q I r h
theorem cr_hpopE {X : Cx} (hu : X.A.units + 8 < cLine) : CallR X (.builtin "_heapq.heappop") rHPopE := fun pins s σ H vs us Q I r h => by
  obtain ⟨k, h⟩ := h
  exact cr_hpop hu pins s σ H vs us Q I r h
def qk (p : Int × Nat) : Int × Int := (p.1, (p.2 : Int))
theorem qk_inj {a b : Int × Nat} (h : qk a = qk b) : a = b := by
  obtain ⟨a1, a2⟩ := a
  obtain ⟨b1, b2⟩ := b
  unfold qk at h
  injection h with h1 h2
  have h1 : a1 = b1 := h1
  have h2 : (a2 : Int) = (b2 : Int) := h2
  rw [h1, show a2 = b2 by omega]
def QAt (H : Hp) (a : Addr) (q : List (Int × Nat)) : Prop := ∃ (k : V → Int × Int) (xs : List V), Hq H a k xs ∧ (xs.map k).Perm (q.map qk)
theorem QAt.len {H : Hp} {a : Addr} {q : List (Int × Nat)} (h : QAt H a q) : ∃ xs, H a = some (.lst xs) ∧ xs.length = q.length := by
  obtain ⟨k, xs, hq, p⟩ := h
  refine ⟨xs, hq.at_, ?_⟩
  have := p.length_eq
  rw [List.length_map, List.length_map] at this
  exact this
theorem QAt.move {H G : Hp} {a : Addr} {q : List (Int × Nat)} (h : QAt H a q) (m : ∀ b o, H b = some o → (b = a ∨ ∃ xs, o = .tup xs) → G b = some o) : QAt G a q := by
  obtain ⟨k, xs, hq, p⟩ := h
  refine ⟨k, xs, ⟨m _ _ hq.at_ (.inl rfl), fun x hx => ?_, hq.hp⟩, p⟩
  obtain ⟨t, e, n, h1⟩ := hq.tup x hx
  exact ⟨t, e, n, m _ _ h1 (.inr ⟨_, rfl⟩)⟩
theorem QAt.same {H G : Hp} {a : Addr} {q : List (Int × Nat)} (h : QAt H a q) (s : Same H G) : QAt G a q := h.move fun b o e _ => s b o e
theorem QAt.but {H G : Hp} {a c : Addr} {q : List (Int × Nat)} (h : QAt H a q) (s : But c H G) {ob : HO} (e : H c = some ob) (nt : ∀ xs, ob ≠ .tup xs) (na : c ≠ a) : QAt G a q := h.move fun b o e1 h1 => s b o (fun hb => by
  rcases h1 with h1 | ⟨xs, h1⟩
  · exact na (hb.symm.trans h1)
  · rw [hb, e, h1] at e1
    cases e1
    exact nt xs rfl) e1
theorem QAt.one {H : Hp} {a t : Addr} {f : Int} {u : Nat} (e : H a = some (.lst [.ref t])) (n : t ≠ a) (et : H t = some (.tup [.int f, .int (u : Nat)])) : QAt H a [(f, u)] :=
  ⟨fun _ => (f, (u : Int)), [.ref t], ⟨e, fun x hx => ⟨t, List.mem_singleton.mp hx, n, et⟩, fun i h0 h1 => by
    have : i < 1 := h1
    omega⟩, List.Perm.refl _⟩
theorem qPush {G : Hp} {a t : Addr} {f : Int} {u : Nat} {q : List (Int × Nat)} {Q : VK} (h : QAt G a q) (hz : q.length < sizeLine) (nt : G t = none) (hQ : ∀ G2, But a (upd G t (.tup [.int f, .int (u : Nat)])) G2 → QAt G2 a ((f, u) :: q) → Q .non G2) : rHPushE [.ref a, .ref t] (upd G t (.tup [.int f, .int (u : Nat)])) Q := by
  obtain ⟨k, xs, hq, p⟩ := h
  have hl : xs.length = q.length := by
    have := p.length_eq
    rw [List.length_map, List.length_map] at this
    exact this
  have nta : t ≠ a := fun e => by
    rw [e, hq.at_] at nt
    cases nt
  have hne : ∀ x ∈ xs, x ≠ V.ref t := fun x hx e => by
    obtain ⟨b, e1, _, e2⟩ := hq.tup x hx
    rw [e] at e1
    cases e1
    rw [nt] at e2
    cases e2
  have hk : ∀ x ∈ xs, (fun y : V => if y = V.ref t then (f, (u : Int)) else k y) x = k x := fun x hx => if_neg (hne x hx)
  have ht : (fun y : V => if y = V.ref t then (f, (u : Int)) else k y) (.ref t) = (f, (u : Int)) := if_pos rfl
  refine ⟨fun y => if y = V.ref t then (f, (u : Int)) else k y, a, t, xs, f, (u : Int), rfl, ⟨(upd_ne (Ne.symm nta)).trans hq.at_, fun x hx => ?_, ?_⟩, nta, upd_same, ht, by rw [hl]; exact hz, fun ys pm hh => hQ _ (fun b o hb e => (upd_ne hb).trans e) ⟨_, ys, hh, ?_⟩⟩
  · obtain ⟨b, e1, e2, e3⟩ := hq.tup x hx
    refine ⟨b, e1, e2, ?_⟩
    rw [upd_ne (ne_of_none e3 nt), if_neg (hne x hx)]
    exact e3
  · have e : kF (fun y => if y = V.ref t then (f, (u : Int)) else k y) xs = fun i => if i < xs.length then kF k xs i else kF (fun y => if y = V.ref t then (f, (u : Int)) else k y) xs i := by
      funext i
      by_cases hi : i < xs.length
      · rw [if_pos hi]
        unfold kF
        rw [List.getD_eq_getElem?_getD, List.getElem?_eq_getElem hi]
        exact hk _ (List.getElem_mem hi)
      · rw [if_neg hi]
    intro i i0 i1
    rw [e]
    show le2 (if (i - 1) / 2 < xs.length then _ else _) (if i < xs.length then _ else _)
    rw [if_pos i1, if_pos (by omega)]
    exact hq.hp i i0 i1
  · refine (pm.map _).trans ?_
    rw [List.map_cons]
    show ((fun y : V => if y = V.ref t then (f, (u : Int)) else k y) (.ref t) :: _).Perm _
    rw [ht, List.map_congr_left hk]
    exact List.Perm.cons _ p
theorem qPop {G : Hp} {a : Addr} {q : List (Int × Nat)} {Q : VK} (h : QAt G a q) (hn : q ≠ []) (hQ : ∀ (f : Int) (x : Nat) (t : Addr) (q' : List (Int × Nat)) (G2 : Hp), ((f, x) :: q').Perm q → (∀ y, y ∈ q' → f ≤ y.1) → But a G G2 → G2 t = some (.tup [.int f, .int (x : Nat)]) → QAt G2 a q' → Q (.ref t) G2) : rHPopE [.ref a] G Q := by
  obtain ⟨k, xs, hq, p⟩ := h
  refine ⟨k, a, xs, rfl, hq, fun e => ?_, fun x ys pm mn hh => ?_⟩
  · rw [e] at p
    have := p.length_eq
    rw [List.length_map, List.length_map] at this
    exact hn (List.length_eq_zero_iff.mp this.symm)
  · have p2 : (k x :: ys.map k).Perm (q.map qk) := ((pm.map k).trans p)
    obtain ⟨y, hy, ey⟩ := List.mem_map.mp (p2.mem_iff.mp List.mem_cons_self)
    have p3 := List.perm_cons_erase hy
    have p4 : (ys.map k).Perm ((q.erase y).map qk) := by
      have h4 := p2.trans (p3.map qk)
      rw [List.map_cons, ey] at h4
      exact List.Perm.cons_inv h4
    have hx : x ∈ xs := pm.mem_iff.mp List.mem_cons_self
    obtain ⟨t, rfl, nta, et⟩ := hq.tup x hx
    refine hQ y.1 y.2 t (q.erase y) _ p3.symm (fun z hz => ?_) (fun b o hb e => (upd_ne hb).trans e) ?_ ⟨k, ys, hh, p4⟩
    · obtain ⟨w, hw, ew⟩ := List.mem_map.mp (p4.mem_iff.mpr (List.mem_map.mpr ⟨z, hz, rfl⟩))
      have h5 := le2_iff.mp (mn w hw)
      rw [ew, ← ey] at h5
      have h5 : y.1 < z.1 ∨ (y.1 = z.1 ∧ (y.2 : Int) ≤ (z.2 : Int)) := h5
      omega
    · rw [upd_ne nta, et]
      rw [← ey]
      rfl
/-! ### all as it was, but at some places -/
def Chg (S : List Addr) (H H' : Hp) : Prop := ∀ b o, b ∉ S → H b = some o → H' b = some o
theorem Chg.trans {S : List Addr} {H H1 H2 : Hp} (a : Chg S H H1) (b : Chg S H1 H2) : Chg S H H2 := fun c o n e => b c o n (a c o n e)
theorem Chg.sub {S T : List Addr} {H H1 : Hp} (a : Chg S H H1) (s : ∀ x, x ∈ S → x ∈ T) : Chg T H H1 := fun c o n e => a c o (fun h => n (s c h)) e
theorem chg_of {S : List Addr} {H H1 : Hp} (s : Same H H1) : Chg S H H1 := fun c o _ e => s c o e
theorem chg_but {S : List Addr} {H H1 : Hp} {a : Addr} (s : But a H H1) (h : a ∈ S) : Chg S H H1 := fun c o n e => s c o (fun q => n (q ▸ h)) e
def NT (H : Hp) (c : Addr) : Prop := ∃ o, H c = some o ∧ (∀ xs, o ≠ .tup xs) ∧ ∀ q xs, o ≠ .frz q (.tup xs)
theorem NT.lst {H : Hp} {c : Addr} {xs : List V} (h : H c = some (.lst xs)) : NT H c := ⟨_, h, fun _ q => (nomatch q), fun _ _ q => (nomatch q)⟩
theorem chg_sqt {K : PySem.W.Frag} {H H' : Hp} {S : List Addr} (n : ∀ c, c ∈ S → NT H c) (g : Chg S H H') {b : Addr} {xs : List V} (h : SqT K H b xs) : SqT K H' b xs := by
  have ne : ∀ {o : HO}, H b = some o → (o = .tup xs ∨ ∃ q, o = .frz q (.tup xs)) → b ∉ S := fun h1 h2 hb => by
    obtain ⟨o', g1, g2, g3⟩ := n b hb
    rw [h1] at g1
    cases g1
    rcases h2 with h2 | ⟨q, h2⟩
    · exact g2 xs h2
    · exact g3 q xs h2
  rcases h with (h | ⟨q, h⟩) | h
  · exact .inl (.inl (g _ _ (ne h (.inl rfl)) h))
  · exact .inl (.inr ⟨q, g _ _ (ne h (.inr ⟨q, rfl⟩)) h⟩)
  · exact .inr h
theorem chg_dp {K : PySem.W.Frag} {H H' : Hp} {S : List Addr} (n : ∀ c, c ∈ S → NT H c) (g : Chg S H H') (d : PyData) (v : V) (hd : noL d = true) (h : Dp K H v d) : Dp K H' v d := dp_tups (fun _ _ hs => chg_sqt n g hs) d v hd h
theorem chg_dpa {K : PySem.W.Frag} {H H' : Hp} {S : List Addr} (n : ∀ c, c ∈ S → NT H c) (g : Chg S H H') (ds : List PyData) (vs : List V) (hd : noLs ds = true) (h : DpAll K H vs ds) : DpAll K H' vs ds := dpa_tups (fun _ _ hs => chg_sqt n g hs) ds vs hd h
/-! ### a Heights, as an object -/
def d3 (d : D3) : PyData := .tuple [.int (d.1 : Nat), .int (d.2.1 : Nat), .int d.2.2]
theorem noLs_d3 : ∀ ds : List D3, noLs (ds.map d3) = true
  | [] => rfl
  | _ :: r => noLs_d3 r
structure Hk where
  p : Addr
  ad : Addr
  ah : Addr
  ab : Addr
  bl : List Addr
def Hk.own (k : Hk) : List Addr := k.p :: k.ad :: k.ah :: k.ab :: k.bl
def hF (ad ah ab : Addr) : List (PySem.Str × V) := putF "_below" (.ref ab) (putF "_heights" (.ref ah) (putF "differences" (.ref ad) []))
theorem hF_d (ad ah ab : Addr) : (hF ad ah ab).lookup ("differences" : PySem.Str) = some (.ref ad) := by
  unfold hF
  rw [lookup_putF, if_neg (by decide +kernel), lookup_putF, if_neg (by decide +kernel), lookup_putF, if_pos rfl]
theorem hF_h (ad ah ab : Addr) : (hF ad ah ab).lookup ("_heights" : PySem.Str) = some (.ref ah) := by
  unfold hF
  rw [lookup_putF, if_neg (by decide +kernel), lookup_putF, if_pos rfl]
theorem hF_b (ad ah ab : Addr) : (hF ad ah ab).lookup ("_below" : PySem.Str) = some (.ref ab) := by
  unfold hF
  rw [lookup_putF, if_pos rfl]
theorem hF_no (ad ah ab : Addr) {x : PySem.Str} (h : x ∉ (["differences", "_heights", "_below"] : List PySem.Str)) : (hF ad ah ab).lookup x = none := by
  unfold hF
  rw [lookup_putF, if_neg (fun e => h (by rw [e]; simp)), lookup_putF, if_neg (fun e => h (by rw [e]; simp)), lookup_putF, if_neg (fun e => h (by rw [e]; simp))]
  rfl
def nV (ns : List Nat) : List V := ns.map fun n => V.int (n : Nat)
def Blw (H : Hp) (ds : List D3) (v : Nat) (b : Addr) : Prop := ∃ ns : List Nat, H b = some (.lst (nV ns)) ∧ (∀ e, e ∈ ns ↔ ∃ u c, ds[e]? = some (u, v, c)) ∧ ns.length ≤ ds.length
structure HAt (K : PySem.W.Frag) (C : Addr) (H : Hp) (k : Hk) (ds : List D3) (hs : List Int) : Prop where
  ob : ∃ dx, H k.p = some (.ins C dx (hF k.ad k.ah k.ab))
  d : ∃ xd, H k.ad = some (.lst xd) ∧ DpAll K H xd (ds.map d3)
  h : H k.ah = some (.lst (hs.map V.int))
  b : H k.ab = some (.lst (k.bl.map V.ref))
  bs : ∀ (v : Nat) (b : Addr), k.bl[v]? = some b → Blw H ds v b
  nd : k.own.Nodup
  bl : k.bl.length = hs.length
theorem HAt.nt {K : PySem.W.Frag} {C : Addr} {H : Hp} {k : Hk} {ds : List D3} {hs : List Int} (a : HAt K C H k ds hs) : ∀ c, c ∈ k.own → NT H c := fun c hc => by
  rcases List.mem_cons.mp hc with rfl | hc
  · obtain ⟨dx, e⟩ := a.ob
    exact ⟨_, e, fun _ q => (nomatch q), fun _ _ q => (nomatch q)⟩
  · rcases List.mem_cons.mp hc with rfl | hc
    · obtain ⟨xd, e, _⟩ := a.d
      exact NT.lst e
    · rcases List.mem_cons.mp hc with rfl | hc
      · exact NT.lst a.h
      · rcases List.mem_cons.mp hc with rfl | hc
        · exact NT.lst a.b
        · obtain ⟨v, hv, ev⟩ := List.getElem_of_mem hc
          obtain ⟨ns, e, _⟩ := a.bs v c (by rw [List.getElem?_eq_getElem hv, ev])
          exact NT.lst e
theorem HAt.had {K : PySem.W.Frag} {C : Addr} {H : Hp} {k : Hk} {ds : List D3} {hs : List Int} (a : HAt K C H k ds hs) {c : Addr} (hc : c ∈ k.own) : H c ≠ none := fun e => by
  obtain ⟨o, e2, _⟩ := a.nt c hc
  rw [e] at e2
  cases e2
theorem HAt.same {K : PySem.W.Frag} {C : Addr} {H H' : Hp} {k : Hk} {ds : List D3} {hs : List Int} (a : HAt K C H k ds hs) (s : Same H H') : HAt K C H' k ds hs := by
  obtain ⟨dx, e⟩ := a.ob
  obtain ⟨xd, e1, e2⟩ := a.d
  refine ⟨⟨dx, s _ _ e⟩, ⟨xd, s _ _ e1, dpa_same s _ _ e2⟩, s _ _ a.h, s _ _ a.b, fun v b hb => ?_, a.nd, a.bl⟩
  obtain ⟨ns, h1, h2⟩ := a.bs v b hb
  exact ⟨ns, s _ _ h1, h2⟩
theorem HAt.chg {K : PySem.W.Frag} {C : Addr} {H H' : Hp} {S : List Addr} {k : Hk} {ds : List D3} {hs : List Int} (a : HAt K C H k ds hs) (n : ∀ c, c ∈ S → NT H c) (g : Chg S H H') (na : ∀ c, c ∈ k.own → c ∉ S) : HAt K C H' k ds hs := by
  obtain ⟨dx, e⟩ := a.ob
  obtain ⟨xd, e1, e2⟩ := a.d
  refine ⟨⟨dx, g _ _ (na _ (by simp [Hk.own])) e⟩, ⟨xd, g _ _ (na _ (by simp [Hk.own])) e1, chg_dpa n g _ _ (noLs_d3 _) e2⟩, g _ _ (na _ (by simp [Hk.own])) a.h, g _ _ (na _ (by simp [Hk.own])) a.b, fun v b hb => ?_, a.nd, a.bl⟩
  obtain ⟨ns, h1, h2⟩ := a.bs v b hb
  have hm := List.mem_of_getElem? hb
  exact ⟨ns, g _ _ (na _ (by simp [Hk.own, hm])) h1, h2⟩
/-- the e-th difference, as a tuple -/
theorem HAt.get {K : PySem.W.Frag} {C : Addr} {H : Hp} {k : Hk} {ds : List D3} {hs : List Int} (a : HAt K C H k ds hs) {e u v : Nat} {c : Int} (he : ds[e]? = some (u, v, c)) : ∃ (xd : List V) (t : Addr), H k.ad = some (.lst xd) ∧ xd[e]? = some (.ref t) ∧ SqT K H t [.int (u : Nat), .int (v : Nat), .int c] := by
  obtain ⟨xd, e1, e2⟩ := a.d
  obtain ⟨hl, h2⟩ := List.getElem?_eq_some_iff.mp he
  obtain ⟨x, g1, g2⟩ := dp_mem e2 hl
  rw [h2] at g2
  obtain ⟨t, v1, v2, v3, rfl, ht, w1, w2, w3⟩ := dp_inv3 g2
  cases dp_int_inv w1
  cases dp_int_inv w2
  cases dp_int_inv w3
  exact ⟨xd, t, e1, g1, ht⟩
def hsF (hs : List Int) : Nat → Int := fun u => hs.getD u 0
/-- of so many unknowns -/
structure HOk (n : Nat) (ds : List D3) (hs : List Int) : Prop where
  len : hs.length = n
  rng : ∀ d, d ∈ ds → d.1 < n ∧ d.2.1 < n
  dl : ds.length ≤ 100
  nl : n ≤ 100
  top : TopH ds (hsF hs)
structure TxH (K : PySem.W.Frag) (mg : PySem.Str → Option Value) (C : Addr) : Prop extends TxB mg where
  cl : Cls K C
  nD : NoAttr K C "differences"
  nH : NoAttr K C "_heights"
  nB : NoAttr K C "_below"
  mg_Heights : mg "Heights" = some (.ref C)
  m_heappush : mg "heappush" = some (.builtin "_heapq.heappush")
  m_heappop : mg "heappop" = some (.builtin "_heapq.heappop")
end SW

namespace SW
open PySem PySem.Spec PyProof.Rows L2
abbrev s_Heights___init__ : Stmt := inClass (topS 3) 0
theorem sc_Heights___init__ : FnScope ["self", "many", "_"] ["self", "many"] (defScope s_Heights___init__) := ⟨rfl, rfl, rfl, by decide +kernel, rfl, by decide +kernel, by decide +kernel⟩
abbrev s_Heights_tie : Stmt := inClass (topS 3) 1
theorem sc_Heights_tie : FnScope ["self", "difference", "number", "first", "second", "most"] ["self", "difference"] (defScope s_Heights_tie) := ⟨rfl, rfl, rfl, by decide +kernel, rfl, by decide +kernel, by decide +kernel⟩
abbrev s_Heights_kept : Stmt := inClass (topS 3) 2
theorem sc_Heights_kept : FnScope ["self", "ground", "height"] ["self"] (defScope s_Heights_kept) := ⟨rfl, rfl, rfl, by decide +kernel, rfl, by decide +kernel, by decide +kernel⟩
abbrev s_Heights_grow : Stmt := inClass (topS 3) 3
theorem sc_Heights_grow : FnScope ["self", "many", "_"] ["self", "many"] (defScope s_Heights_grow) := ⟨rfl, rfl, rfl, by decide +kernel, rfl, by decide +kernel, by decide +kernel⟩
abbrev s_Heights_twin : Stmt := inClass (topS 3) 4
theorem sc_Heights_twin : FnScope ["self", "other", "numbers"] ["self"] (defScope s_Heights_twin) := ⟨rfl, rfl, rfl, by decide +kernel, rfl, by decide +kernel, by decide +kernel⟩
abbrev s_Heights__lower : Stmt := inClass (topS 3) 8
theorem sc_Heights__lower : FnScope ["self", "number", "first", "second", "most", "fall", "falls", "causes", "queue", "done", "unknown", "cause", "other", "_", "slack", "height"] ["self", "number"] (defScope s_Heights__lower) := ⟨rfl, rfl, rfl, by decide +kernel, rfl, by decide +kernel, by decide +kernel⟩
abbrev s_Heights__ring : Stmt := inClass (topS 3) 9
theorem sc_Heights__ring : FnScope ["self", "number", "causes", "first", "unknown", "_", "ring"] ["self", "number", "causes"] (defScope s_Heights__ring) := ⟨rfl, rfl, rfl, by decide +kernel, rfl, by decide +kernel, by decide +kernel⟩
/-! ### the ring of the causes -/
inductive Chn (ds : List D3) (kvs : List (Key × V)) (first : Nat) : Nat → Int → Nat → Prop where
  | base : Chn ds kvs first first 0 0
  | step {x v s m e c} : x ≠ first → valV kvs (.inl (x : Nat)) = some (.int (e : Nat)) → ds[e]? = some (x, v, c) → Chn ds kvs first v s m → Chn ds kvs first x (s + c) (m + 1)
def spRing (K : PySem.W.Frag) (C : Addr) : Sp := fun vs H Q _ => ∃ (k : Hk) (cd : Addr) (N first second m : Nat) (most s : Int) (ds : List D3) (hs : List Int) (kvs : List (Key × V)), vs = [.ref k.p, .int (N : Nat), .ref cd] ∧ HAt K C H k ds hs ∧ ds[N]? = some (first, second, most) ∧ H cd = some (.dK kvs) ∧ Chn ds kvs first second s m ∧ m ≤ 1000 ∧
  ∀ R es H', Same H H' → H R = none → H' R = some (.tup (nV es)) → Wk3 ds first first es (most + s) → (es ≠ [] ∧ es.length ≤ 1001) → Q (.ref R) H'
section
variable {P : Program} {w : World} {K : PySem.W.Frag} {mg : PySem.Str → Option Value} {base : Heap} {C : Addr}
theorem ok_ring {f : Addr} {fd : FuncData} (F : Fun K "_ring" "Heights._ring" s_Heights__ring f fd) (T : TxH K mg C) : FnOk P w K mg base CX0 1 f fd ["self", "number", "causes"] (spRing K C) := by
  refine F.ok sc_Heights__ring (fun vs H Q E h => ?_) (fun cdv A outer s H vs Q E hr h => ?_)
  · obtain ⟨k, cd, N, first, second, m, most, s, ds, hs, kvs, rfl, _⟩ := h
    rfl
  · obtain ⟨k, cd, N, first, second, m, most, s, ds, hs, kvs, rfl, ha, hN, hcd, ch, hm, q⟩ := h
    refine ⟨_, (pss_cons (ps_asg (pe_ix ix_list (pe_fld (pv 0) rfl) (pv 1) (fun _ _ => rfl)) (pg_tup (by rfl) (pgs_cons (pg_name (i := 3) sc_Heights__ring.nd rfl (.inl rfl)) (pgs_cons (pg_name (i := 4) sc_Heights__ring.nd rfl (.inl rfl)) (pgs_cons (pg_name (i := 5) sc_Heights__ring.nd rfl (.inl rfl)) pgs_nil)))))
    (pss_cons (ps_set (i := 6) sc_Heights__ring.nd rfl (.inl rfl) (pe_lst (pa_cons (pv 1) pa_nil)))
    (pss_cons (ps_while PassesOwn.never (pt_cmpR op_ne (pv 4) (pv 3) (nomark _))
    (pss_cons (ps_expr (pe_bm PySem.F.plainAttrs_list PySem.F.slot_list_append PySem.F.type_list_append mt_append (pv 6) (pa_cons (pe_dget (hu_of hr) (pv 2) (pv 4) (fun _ _ => rfl)) pa_nil)))
    (pss_one (ps_set (i := 4) sc_Heights__ring.nd rfl (.inl rfl) (pe_ix ix_tup (pe_ix ix_list (pe_fld (pv 0) rfl) (pe_dget (hu_of hr) (pv 2) (pv 4) (fun _ _ => rfl)) (fun _ _ => rfl)) pe_int (fun _ _ => rfl))))))
    (pss_one (ps_ret (pe_callTy call_tuple_of (by rfl) T.n_tuple (by decide +kernel) (pa_cons (pv 6) pa_nil))))))), ?_⟩
    obtain ⟨dx, e⟩ := ha.ob
    obtain ⟨xd, t, g1, g2, g3⟩ := ha.get hN
    refine ⟨_, rfl, k.p, C, dx, _, _, rfl, e, T.cl, T.nD, hF_d _ _ _, _, rfl, k.ad, _, _, _, rfl, rfl, SqL.of g1, atI_nat g2, t, _, rfl, g3, rfl, _, _, rfl, _, _, rfl, _, _, rfl, rfl, ?_⟩
    refine ⟨_, rfl, by show 1 ≤ sizeLine; decide, fun L nL => ?_⟩
    generalize hG : upd H L _ = G
    obtain ⟨s1, e1⟩ := new_of nL hG
    refine ⟨fun n σ G => ∃ (x : Nat) (s' t' : Int) (es : List Nat), Chn ds kvs first x s' n ∧ Wk3 ds first x es t' ∧ t' + s' = most + s ∧ es.length + n ≤ 1 + m ∧ es ≠ [] ∧ σ = [some (.ref k.p), some (.int (N : Nat)), some (.ref cd), some (.int (first : Nat)), some (.int (x : Nat)), some (.int most), some (.ref L)] ∧ Same H G ∧ G L = some (.lst (nV es)),
      ⟨m, second, s, most, [N], ch, (by
        have := Wk3.snoc (.nil (ds := ds) (a := first)) hN
        rw [Int.zero_add] at this
        exact this), rfl, by rw [List.length_singleton]; exact Nat.le_refl _, by simp, rfl, s1, e1⟩, fun n σ G hW => ?_⟩
    obtain ⟨x, s', t', es, hc, hw, hsum, hlen, hne, rfl, sG, eL⟩ := hW
    refine ⟨_, rfl, _, rfl, rfl, _, rfl, ite2 (fun e2 => ?_) (fun e2 => ?_)⟩
    · have hx : x ≠ first := fun h => by
        rw [h] at e2
        simp at e2
      cases hc with
      | base => exact absurd rfl hx
      | @step _ v s0 m' ec c _ hv hd hc =>
        have hcd2 := sG _ _ hcd
        have hget : DGet G cd (V.int (x : Nat)) (some (.int (ec : Nat))) := by
          rw [← hv]
          exact DGet.k (k := Sum.inl ((x : Nat) : Int)) hcd2
        refine ⟨fun σ G2 => ∃ (v : Nat) (s' t' : Int) (es : List Nat), Chn ds kvs first v s' m' ∧ Wk3 ds first v es t' ∧ t' + s' = most + s ∧ es.length + m' ≤ 1 + m ∧ es ≠ [] ∧ σ = [some (.ref k.p), some (.int (N : Nat)), some (.ref cd), some (.int (first : Nat)), some (.int (v : Nat)), some (.int most), some (.ref L)] ∧ Same H G2 ∧ G2 L = some (.lst (nV es)), fun σ' G' hN => ⟨m', Nat.lt_succ_self _, hN⟩, ?_⟩
        have hez : (nV es).length = es.length := List.length_map _
        refine ⟨_, rfl, .inl ⟨rfl, _, SqL.of eL⟩, _, rfl, _, rfl, cd, _, rfl, hget, L, _, _, rfl, rfl, eL, by rw [hez]; exact small_sz5 (by omega), ?_⟩
        have b2 := same_mut (o := .lst (nV es ++ [.int (ec : Nat)])) sG nL
        have eL2 : upd G L (.lst (nV es ++ [.int (ec : Nat)])) L = some (.lst (nV (es ++ [ec]))) := by
          rw [upd_same, nV, nV, List.map_append]
          rfl
        generalize upd G L _ = G2 at b2 eL2
        have hcd3 := b2 _ _ hcd
        have hget2 : DGet G2 cd (V.int (x : Nat)) (some (.int (ec : Nat))) := by
          rw [← hv]
          exact DGet.k (k := Sum.inl ((x : Nat) : Int)) hcd3
        obtain ⟨dx2, eo2⟩ := (ha.same b2).ob
        obtain ⟨xd2, t2, g4, g5, g6⟩ := (ha.same b2).get hd
        refine ⟨_, rfl, k.p, C, dx2, _, _, rfl, eo2, T.cl, T.nD, hF_d _ _ _, _, rfl, _, rfl, cd, _, rfl, hget2, k.ad, _, _, _, rfl, rfl, SqL.of g4, atI_nat g5, t2, _, _, _, rfl, rfl, g6, atI_nat (j := 1) rfl, ?_⟩
        exact ⟨v, s0, t' + c, es ++ [ec], hc, .snoc hw hd, by omega, by rw [List.length_append, List.length_singleton]; omega, by simp, rfl, b2, eL2⟩
    · have hx : x = first := by
        simp at e2
        omega
      subst hx
      have hs0 : s' = 0 := by
        cases hc with
        | base => rfl
        | step h _ _ _ => exact absurd rfl h
      subst hs0
      refine ⟨_, rfl, L, _, rfl, .inl ⟨SqL.of eL, fun R nR => ?_⟩⟩
      generalize hG2 : upd G R _ = G2
      obtain ⟨s3, e3⟩ := new_of nR hG2
      refine q R es G2 (sG.trans s3) (sG.free nR) e3 ?_ ⟨hne, by omega⟩
      rw [← hsum, Int.add_zero]
      exact hw
end
end SW

namespace SW
open PySem PySem.Spec PyProof.Rows L2
theorem but_upd2 {H : Hp} {p : Addr} {o : HO} : But p H (upd H p o) := fun b x hb e => (upd_ne hb).trans e
theorem fld_step {G : Hp} {p a : Addr} {o u z : HO} (hp : G p = some o) (na : G a = none) : a ≠ p ∧ (∀ b y, b ≠ p → G b = some y → upd (upd G a z) p u b = some y) ∧ upd (upd G a z) p u p = some u ∧ upd (upd G a z) p u a = some z := by
  have ne : a ≠ p := (ne_of_none hp na).symm
  exact ⟨ne, fun b y hb e => (upd_ne hb).trans ((upd_ne (ne_of_none e na)).trans e), upd_same, (upd_ne ne).trans upd_same⟩
theorem was_none {H G : Hp} {p a : Addr} (k : ∀ b y, b ≠ p → H b = some y → G b = some y) (ne : a ≠ p) (na : G a = none) : H a = none := by
  cases e : H a with
  | none => rfl
  | some y =>
    rw [k a y ne e] at na
    cases na
def keptL (hs : List Int) : List Int := hs.tail.map fun h => h - hs.headD 0
def spKept (K : PySem.W.Frag) (C : Addr) : Sp := fun vs H Q _ => ∃ (k : Hk) (ds : List D3) (hs : List Int), vs = [.ref k.p] ∧ HAt K C H k ds hs ∧ hs ≠ [] ∧ hs.length ≤ 1000 ∧ ∀ R H', Same H H' → H R = none → H' R = some (.lst ((keptL hs).map V.int)) → Q (.ref R) H'
def spGrow (K : PySem.W.Frag) (C : Addr) : Sp := fun vs H Q _ => ∃ (k : Hk) (ds : List D3) (hs : List Int) (many : Nat), vs = [.ref k.p, .int (many : Nat)] ∧ HAt K C H k ds hs ∧ (∀ d, d ∈ ds → d.2.1 < hs.length) ∧ hs.length ≤ 1000 ∧ many ≤ 1000 ∧
  ∀ more H', Chg [k.ah, k.ab] H H' → (∀ b, b ∈ more → H b = none) → HAt K C H' { k with bl := k.bl ++ more } ds (hs ++ List.replicate (many + 1 - hs.length) 0) → Q .non H'
def spInit (K : PySem.W.Frag) (C : Addr) : Sp := fun vs H Q _ => ∃ (p dx : Addr) (many : Nat), vs = [.ref p, .int (many : Nat)] ∧ H p = some (.ins C dx []) ∧ many ≤ 1000 ∧
  ∀ k H', k.p = p → But p H H' → (∀ b, b ∈ k.own → b = p ∨ H b = none) → HAt K C H' k [] (List.replicate (many + 1) 0) → Q .non H'
section
variable {P : Program} {w : World} {K : PySem.W.Frag} {mg : PySem.Str → Option Value} {base : Heap} {C : Addr}
theorem ok_kept {f : Addr} {fd : FuncData} (F : Fun K "kept" "Heights.kept" s_Heights_kept f fd) (T : TxH K mg C) : FnOk P w K mg base CX0 1 f fd ["self"] (spKept K C) := by
  refine F.ok sc_Heights_kept (fun vs H Q E h => ?_) (fun cdv A outer s H vs Q E hr h => ?_)
  · obtain ⟨k, ds, hs, rfl, _⟩ := h
    rfl
  · obtain ⟨k, ds, hs, rfl, ha, hne, hl, q⟩ := h
    refine ⟨_, (pss_cons (ps_set (i := 1) sc_Heights_kept.nd rfl (.inr rfl) (pe_ix ix_list (pe_fld (pv 0) rfl) pe_int (fun _ _ => rfl)))
    (pss_one (ps_ret (pe_lc (own := [("height", 2)]) (g := gName 2) (by rfl) sc_Heights_kept.nd (pi_list (pe_slice sl_list (pe_fld (pv 0) rfl) (po_some pe_int) po_none)) (blkOk_by (own := [("height", 2)]) (N := ["self", "ground", "height"]) (sc := defScope s_Heights_kept) (by decide +kernel)) (fun _ _ _ _ _ => pg_name (i := 2) sc_Heights_kept.nd rfl (Or.inl rfl)) (fun _ _ _ _ _ => pts_nil) (fun _ _ _ _ _ => (pe_op op_sub (pv 2) (pv 1))))))), ?_⟩
    obtain ⟨dx, e⟩ := ha.ob
    have eh := ha.h
    obtain ⟨h0, r, rfl⟩ : ∃ h0 r, hs = h0 :: r := by
      cases hs with
      | nil => exact absurd rfl hne
      | cons a b => exact ⟨a, b, rfl⟩
    refine ⟨_, rfl, k.p, C, dx, _, _, rfl, e, T.cl, T.nH, hF_h _ _ _, k.ah, _, _, _, rfl, rfl, SqL.of eh, atI_nat (j := 0) rfl, ?_⟩
    refine ⟨_, rfl, k.p, C, dx, _, _, rfl, e, T.cl, T.nH, hF_h _ _ _, _, rfl, k.ah, _, rfl, SqL.of eh, fun p np => ?_⟩
    have hcut : cutV ((h0 :: r).map V.int) (some 1) none = r.map V.int := by
      show (((h0 :: r).map V.int).drop (HT.sIx _ 0 (some ((1 : Nat) : Int)))).take _ = _
      rw [HT.sIx_nat, List.length_map, List.length_cons, show min 1 (r.length + 1) = 1 by omega]
      show (r.map V.int).take (r.length + 1 - 1) = r.map V.int
      rw [List.take_of_length_le (by rw [List.length_map]; omega)]
    rw [hcut]
    generalize hG : upd H p _ = G
    obtain ⟨s1, e1⟩ := new_of np hG
    refine ⟨p, rfl, ⟨_, SqL.of e1⟩, fun D hD => ?_⟩
    refine lc_list (K := K) (a := p) (xs := r.map V.int) (fun i H1 => Same G H1 ∧ H1 D = some (.lst (((r.take i).map fun h => h - h0).map V.int))) ⟨same_new hD, upd_same⟩ (fun i H1 _ h => h.1.seq (SqL.of e1)) (fun i x H1 hx hP => ?_) (fun H1 hP => ?_)
    · obtain ⟨s2, e2⟩ := hP
      rw [List.getElem?_map] at hx
      cases hni : r[i]? with
      | none =>
        rw [hni] at hx
        cases hx
      | some n =>
        rw [hni] at hx
        cases hx
        have hlt : i < r.length := (List.getElem?_eq_some_iff.mp hni).1
        refine ⟨rfl, ?_⟩
        refine ⟨_, rfl, _, rfl, _, _, rfl, rfl, _, e2, ?_, same_mut s2 hD, ?_⟩
        · rw [List.length_map, List.length_map, List.length_take]
          rw [List.length_cons] at hl
          exact small_sz5 (by omega)
        · rw [upd_same, List.take_succ_eq_append_getElem hlt, List.map_append, List.map_append]
          rw [(List.getElem?_eq_some_iff.mp hni).2]
          rfl
    · obtain ⟨s2, e2⟩ := hP
      rw [List.length_map, List.take_length] at e2
      exact q D H1 (s1.trans s2) (s1.free hD) e2
theorem ok_grow {f : Addr} {fd : FuncData} (F : Fun K "grow" "Heights.grow" s_Heights_grow f fd) (T : TxH K mg C) : FnOk P w K mg base CX0 1 f fd ["self", "many"] (spGrow K C) := by
  refine F.ok sc_Heights_grow (fun vs H Q E h => ?_) (fun cdv A outer s H vs Q E hr h => ?_)
  · obtain ⟨k, ds, hs, many, rfl, _⟩ := h
    rfl
  · obtain ⟨k, ds, hs, many, rfl, ha, hrg, hl, hm, q⟩ := h
    refine ⟨_, (pss_one (ps_for PassesOwn.never rfl (pi_range1 (by rfl) T.n_range (pa_cons (pe_op op_sub (pe_op op_add (pv 1) pe_int) (pe_callB call_len_seq (by rfl) T.n_len PySem.boot_len (pa_cons (pe_fld (pv 0) rfl) pa_nil))) pa_nil)) (pg_name (i := 2) sc_Heights_grow.nd rfl (.inl rfl))
    (pss_cons (ps_expr (pe_bm PySem.F.plainAttrs_list PySem.F.slot_list_append PySem.F.type_list_append mt_append (pe_fld (pv 0) rfl) (pa_cons pe_int pa_nil)))
    (pss_one (ps_expr (pe_bm PySem.F.plainAttrs_list PySem.F.slot_list_append PySem.F.type_list_append mt_append (pe_fld (pv 0) rfl) (pa_cons (pe_lst pa_nil) pa_nil))))))), ?_⟩
    obtain ⟨dx, e⟩ := ha.ob
    have hsl : (hs.map V.int).length = hs.length := List.length_map _
    refine ⟨_, rfl, _, _, rfl, rfl, _, rfl, k.p, C, dx, _, _, rfl, e, T.cl, T.nH, hF_h _ _ _, k.ah, _, rfl, .inl (SqL.of ha.h), _, _, rfl, rfl, _, rfl, by omega, by omega, ?_⟩
    have hn : ((many : Int) + 1 - ((hs.map V.int).length : Nat)).toNat = many + 1 - hs.length := by omega
    rw [hn]
    refine for_range (lo := 0) (n := many + 1 - hs.length) (fun i σ G => (∃ y : Option V, σ = [some (.ref k.p), some (.int (many : Nat)), y]) ∧ Chg [k.ah, k.ab] H G ∧ ∃ more : List Addr, more.length = i ∧ (∀ b, b ∈ more → H b = none) ∧ HAt K C G { k with bl := k.bl ++ more } ds (hs ++ List.replicate i 0)) ⟨⟨_, rfl⟩, fun _ _ _ e => e, [], rfl, fun b hb => absurd hb List.not_mem_nil, by
      rw [List.append_nil, List.replicate_zero, List.append_nil]
      exact ha⟩ (fun i σ G hi hP => ?_) (fun σ G hP => ?_)
    · obtain ⟨⟨y, rfl⟩, g, more, hml, hmn, hA⟩ := hP
      obtain ⟨dx1, e1⟩ := hA.ob
      have nd := hA.nd
      unfold Hk.own at nd
      simp only [List.nodup_cons, List.mem_cons, not_or] at nd
      obtain ⟨⟨n1, n2, n3, n4⟩, ⟨n5, n6, n7⟩, ⟨n8, n9⟩, n10, n11⟩ := nd
      have hal : ((hs ++ List.replicate i 0).map V.int).length = hs.length + i := by rw [List.length_map, List.length_append, List.length_replicate]
      refine ⟨_, rfl, k.p, C, dx1, _, _, rfl, e1, T.cl, T.nH, hF_h _ _ _, .inl ⟨rfl, _, SqL.of hA.h⟩, k.ah, _, _, rfl, rfl, hA.h, by rw [hal]; exact small_sz5 (by omega), ?_⟩
      have b1 := but_upd2 (H := G) (p := k.ah) (o := .lst ((hs ++ List.replicate i 0).map V.int ++ [.int 0]))
      have f1 : upd G k.ah (.lst ((hs ++ List.replicate i 0).map V.int ++ [.int 0])) k.ah = some (.lst ((hs ++ List.replicate (i + 1) 0).map V.int)) := by
        rw [upd_same, List.replicate_succ', ← List.append_assoc, List.map_append (l₂ := [0])]
        rfl
      generalize upd G k.ah _ = G1 at b1 f1
      obtain ⟨xd, g1, g2⟩ := hA.d
      have hb1 : G1 k.ab = some (.lst ((k.bl ++ more).map V.ref)) := b1 _ _ (Ne.symm n8) hA.b
      have e2 := b1 _ _ n2 e1
      refine ⟨_, rfl, k.p, C, dx1, _, _, rfl, e2, T.cl, T.nB, hF_b _ _ _, .inl ⟨rfl, _, SqL.of hb1⟩, Nat.zero_le _, fun R nR => ?_⟩
      generalize hG2 : upd G1 R _ = G2
      obtain ⟨s2, f2⟩ := new_of nR hG2
      have hb2 := s2 _ _ hb1
      have hbl := hA.bl
      have hbl : (k.bl ++ more).length = (hs ++ List.replicate i 0).length := hbl
      rw [List.length_append (as := hs), List.length_replicate] at hbl
      refine ⟨k.ab, _, _, rfl, rfl, hb2, by rw [List.length_map, hbl]; exact small_sz5 (by omega), ?_⟩
      have b3 := but_upd2 (H := G2) (p := k.ab) (o := .lst ((k.bl ++ more).map V.ref ++ [.ref R]))
      have f3 : upd G2 k.ab (.lst ((k.bl ++ more).map V.ref ++ [.ref R])) k.ab = some (.lst ((k.bl ++ (more ++ [R])).map V.ref)) := by
        rw [upd_same, ← List.append_assoc, List.map_append (l₂ := [R])]
        rfl
      generalize upd G2 k.ab _ = G3 at b3 f3
      have mv : ∀ b o, b ≠ k.ah → b ≠ k.ab → G b = some o → G3 b = some o := fun b o h1 h2 h3 => b3 _ _ h2 (s2 _ _ (b1 _ _ h1 h3))
      have nRG : ∀ b, b ∈ Hk.own { k with bl := k.bl ++ more } → R ≠ b := fun b hb h => by
        obtain ⟨o, h1, _⟩ := hA.nt b hb
        by_cases hh : b = k.ah
        · rw [h, hh, f1] at nR
          cases nR
        · rw [h, b1 _ _ hh h1] at nR
          cases nR
      have nRH : H R = none := by
        cases hr2 : H R with
        | none => rfl
        | some o =>
          have h1 : R ≠ k.ah := nRG _ (by simp [Hk.own])
          have h2 : R ≠ k.ab := nRG _ (by simp [Hk.own])
          rw [b1 _ _ h1 (g _ _ (by simp [h1, h2]) hr2)] at nR
          cases nR
      have chg : Chg [k.ah, k.ab] G G3 := fun b o hb h => by
        simp only [List.mem_cons, List.not_mem_nil, or_false, not_or] at hb
        exact mv b o hb.1 hb.2 h
      refine ⟨⟨_, rfl⟩, g.trans chg, more ++ [R], by rw [List.length_append, hml]; rfl, fun b hb => ?_, ?_⟩
      · rcases List.mem_append.mp hb with hb | hb
        · exact hmn b hb
        · rw [List.mem_singleton.mp hb]
          exact nRH
      · have nt : ∀ c, c ∈ ([k.ah, k.ab] : List Addr) → NT G c := fun c hc => by
          simp only [List.mem_cons, List.not_mem_nil, or_false] at hc
          rcases hc with rfl | rfl
          · exact NT.lst hA.h
          · exact NT.lst hA.b
        refine ⟨⟨dx1, mv _ _ n2 n3 e1⟩, ⟨xd, mv _ _ n5 n6 g1, chg_dpa nt chg _ _ (noLs_d3 _) g2⟩, b3 _ _ n8 (s2 _ _ f1), f3, fun v b hv => ?_, ?_, ?_⟩
        · have hv : (k.bl ++ (more ++ [R]))[v]? = some b := hv
          rw [← List.append_assoc] at hv
          by_cases hlt : v < (k.bl ++ more).length
          · rw [List.getElem?_append_left hlt] at hv
            obtain ⟨ns, h1, h2⟩ := hA.bs v b hv
            have hm := List.mem_of_getElem? hv
            exact ⟨ns, mv _ _ (fun h => n9 (h ▸ hm)) (fun h => n10 (h ▸ hm)) h1, h2⟩
          · rw [List.getElem?_append_right (by omega)] at hv
            obtain ⟨hlt2, h1⟩ := List.getElem?_eq_some_iff.mp hv
            rw [List.length_singleton] at hlt2
            have hbR : b = R := by
              rw [← h1]
              simp
            subst hbR
            refine ⟨[], b3 _ _ (nRG _ (by simp [Hk.own])) f2, fun e => ⟨fun h => absurd h List.not_mem_nil, fun h => ?_⟩, Nat.zero_le _⟩
            obtain ⟨u, c, h⟩ := h
            have h3 : v < hs.length := hrg _ (List.mem_of_getElem? h)
            omega
        · have := hA.nd
          unfold Hk.own at this ⊢
          show (k.p :: k.ad :: k.ah :: k.ab :: (k.bl ++ (more ++ [R]))).Nodup
          rw [← List.append_assoc, show k.p :: k.ad :: k.ah :: k.ab :: (k.bl ++ more ++ [R]) = (k.p :: k.ad :: k.ah :: k.ab :: (k.bl ++ more)) ++ [R] from rfl, List.nodup_append]
          exact ⟨this, by simp, fun x hx y hy h => nRG x hx (by rw [h, List.mem_singleton.mp hy])⟩
        · show (k.bl ++ (more ++ [R])).length = _
          rw [← List.append_assoc, List.length_append (as := k.bl ++ more), hbl, List.length_append, List.length_replicate]
          rfl
    · obtain ⟨_, g, more, _, hmn, hA⟩ := hP
      exact q more G g hmn hA
theorem ok_init {f : Addr} {fd : FuncData} (F : Fun K "__init__" "Heights.__init__" s_Heights___init__ f fd) (T : TxH K mg C) : FnOk P w K mg base CX0 1 f fd ["self", "many"] (spInit K C) := by
  refine F.ok sc_Heights___init__ (fun vs H Q E h => ?_) (fun cdv A outer s H vs Q E hr h => ?_)
  · obtain ⟨p, dx, many, rfl, _⟩ := h
    rfl
  · obtain ⟨p, dx, many, rfl, hp, hm, q⟩ := h
    refine ⟨_, (pss_cons (ps_fld (pv 0) (pe_lst pa_nil) rfl)
    (pss_cons (ps_fld (pv 0) (pe_op op_rep (pe_lst (pa_cons pe_int pa_nil)) (pe_op op_add (pv 1) pe_int)) rfl)
    (pss_one (ps_fld (pv 0) (pe_lc (own := [("_", 2)]) (g := gName 2) (by rfl) sc_Heights___init__.nd (pi_range1 (by rfl) T.n_range (pa_cons (pe_op op_add (pv 1) pe_int) pa_nil)) (blkOk_by (own := [("_", 2)]) (N := ["self", "many", "_"]) (sc := defScope s_Heights___init__) (by decide +kernel)) (fun _ _ _ _ _ => pg_name (i := 2) sc_Heights___init__.nd rfl (Or.inl rfl)) (fun _ _ _ _ _ => pts_nil) (fun _ _ _ _ _ => (pe_lst pa_nil))) rfl)))), ?_⟩
    refine ⟨Nat.zero_le _, fun ad nd => ⟨_, rfl, p, C, dx, _, rfl, (upd_ne (ne_of_none hp nd)).trans hp, T.cl, T.nD, by show 0 < 1000; decide, ?_⟩⟩
    have k1 : But p H (upd (upd H ad (.lst [])) p (.ins C dx (putF "differences" (.ref ad) []))) := fun b y hb e => (upd_ne hb).trans ((upd_ne (ne_of_none e nd)).trans e)
    have e1 : upd (upd H ad (.lst [])) p (.ins C dx (putF "differences" (.ref ad) [])) p = some (.ins C dx (putF "differences" (.ref ad) [])) := upd_same
    have d1 : upd (upd H ad (.lst [])) p (.ins C dx (putF "differences" (.ref ad) [])) ad = some (.lst []) := (upd_ne (Ne.symm (ne_of_none hp nd))).trans upd_same
    generalize upd (upd H ad (.lst [])) p _ = G1 at k1 e1 d1
    refine ⟨by show 1 ≤ sizeLine; decide, fun z nz => ?_⟩
    generalize hG2 : upd G1 z _ = G2
    obtain ⟨s2, f2⟩ := new_of nz hG2
    have e2 := s2 _ _ e1
    have d2 := s2 _ _ d1
    refine ⟨_, rfl, _, _, rfl, rfl, z, _, _, rfl, rfl, f2, by omega, by omega, by show 1 * ((many : Int) + 1).toNat ≤ sizeLine; exact Nat.le_trans (show 1 * ((many : Int) + 1).toNat ≤ 100000 by omega) (by decide), fun ah nh => ?_⟩
    have hrep : (List.replicate ((many : Int) + 1).toNat [V.int 0]).flatten = (List.replicate (many + 1) (0 : Int)).map V.int := by
      rw [show ((many : Int) + 1).toNat = many + 1 by omega]
      generalize many + 1 = n
      induction n with
      | zero => rfl
      | succ n ih =>
        rw [List.replicate_succ, List.replicate_succ, List.flatten_cons, ih]
        rfl
    rw [hrep]
    refine ⟨_, rfl, p, C, dx, _, rfl, (upd_ne (ne_of_none e2 nh)).trans e2, T.cl, T.nH, by show 1 < 1000; decide, ?_⟩
    obtain ⟨n3, s3, e3, h3⟩ := fld_step (u := .ins C dx (putF "_heights" (.ref ah) (putF "differences" (.ref ad) []))) (z := .lst ((List.replicate (many + 1) (0 : Int)).map V.int)) e2 nh
    have d3' := s3 _ _ (ne_of_none hp nd).symm d2
    have nz3 : ah ≠ z := (ne_of_none f2 nh).symm
    have na3 : ah ≠ ad := (ne_of_none d2 nh).symm
    have k3 : But p H _ := fun b y hb e => s3 b y hb (s2 _ _ (k1 b y hb e))
    have hnh := was_none (fun b y hb e => s2 _ _ (k1 b y hb e)) n3 nh
    generalize upd (upd G2 ah _) p _ = G3 at s3 e3 h3 d3' k3
    refine ⟨_, rfl, _, _, rfl, rfl, _, rfl, by omega, by omega, fun D nD => ?_⟩
    rw [show ((many : Int) + 1).toNat = many + 1 by omega]
    refine lc_range (lo := 0) (n := many + 1) (fun i H1 => Same G3 H1 ∧ ∃ bl : List Addr, bl.length = i ∧ H1 D = some (.lst (bl.map V.ref)) ∧ bl.Nodup ∧ ∀ b, b ∈ bl → G3 b = none ∧ b ≠ D ∧ H1 b = some (.lst [])) ⟨same_new nD, [], rfl, upd_same, List.nodup_nil, fun b hb => absurd hb List.not_mem_nil⟩ (fun i H1 hi hP => ?_) (fun H1 hP => ?_)
    · obtain ⟨sG, bl, hl, eD, hnd, hb⟩ := hP
      refine ⟨rfl, Nat.zero_le _, fun R nR => ?_⟩
      have hRD : R ≠ D := fun h => by
        rw [h, eD] at nR
        cases nR
      have hRb : ∀ b, b ∈ bl → b ≠ R := fun b h1 h2 => by
        rw [← h2, (hb b h1).2.2] at nR
        cases nR
      refine ⟨bl.map V.ref, (upd_ne (Ne.symm hRD)).trans eD, by rw [List.length_map, hl]; exact small_sz5 (by omega), same_mut (sG.trans (same_new nR)) nD, bl ++ [R], by rw [List.length_append, hl]; rfl, by rw [upd_same, List.map_append]; rfl, ?_, fun b h => ?_⟩
      · rw [List.nodup_append]
        exact ⟨hnd, by simp, fun x hx y hy h => hRb x hx (by rw [h, List.mem_singleton.mp hy])⟩
      · rcases List.mem_append.mp h with h | h
        · obtain ⟨h1, h2, h3⟩ := hb b h
          exact ⟨h1, h2, (upd_ne h2).trans ((upd_ne (hRb b h)).trans h3)⟩
        · rw [List.mem_singleton.mp h]
          exact ⟨sG.free nR, hRD, (upd_ne hRD).trans upd_same⟩
    · obtain ⟨sG, bl, hl, eD, hnd, hb⟩ := hP
      have e4 := sG _ _ e3
      refine ⟨_, rfl, p, C, dx, _, rfl, e4, T.cl, T.nB, by show 2 < 1000; decide, ?_⟩
      have b5 := but_upd2 (H := H1) (p := p) (o := .ins C dx (putF "_below" (.ref D) (putF "_heights" (.ref ah) (putF "differences" (.ref ad) []))))
      have e5 : upd H1 p (.ins C dx (putF "_below" (.ref D) (putF "_heights" (.ref ah) (putF "differences" (.ref ad) [])))) p = some (.ins C dx (hF ad ah D)) := upd_same
      generalize upd H1 p _ = G5 at b5 e5
      have nDp : D ≠ p := (ne_of_none e3 nD).symm
      have nDad : D ≠ ad := (ne_of_none d3' nD).symm
      have nDah : D ≠ ah := (ne_of_none h3 nD).symm
      have nb : ∀ {a : Addr} {o : HO}, G3 a = some o → ∀ b, b ∈ bl → b ≠ a := fun h b h1 h2 => by
        rw [← h2, (hb b h1).1] at h
        cases h
      have fr : ∀ b, b ≠ p → G3 b = none → H b = none := fun b h1 h2 => was_none k3 h1 h2
      have hadp : ad ≠ p := (ne_of_none hp nd).symm
      refine q ⟨p, ad, ah, D, bl⟩ G5 rfl (fun b o h1 h2 => b5 _ _ h1 (sG _ _ (k3 b o h1 h2))) (fun b h => ?_) ⟨⟨dx, e5⟩, ⟨[], b5 _ _ hadp (sG _ _ d3'), .nil⟩, b5 _ _ n3 (sG _ _ h3), b5 _ _ nDp eD, fun v b hv => ?_, ?_, ?_⟩
      · have h : b ∈ p :: ad :: ah :: D :: bl := h
        simp only [List.mem_cons] at h
        rcases h with rfl | rfl | rfl | rfl | h
        · exact .inl rfl
        · exact .inr nd
        · exact .inr hnh
        · exact .inr (fr _ nDp nD)
        · exact .inr (fr _ (nb e3 b h) (hb b h).1)
      · have hm : b ∈ bl := List.mem_of_getElem? hv
        exact ⟨[], b5 _ _ (nb e3 b hm) (hb b hm).2.2, fun e => ⟨fun h => absurd h List.not_mem_nil, fun ⟨_, _, h⟩ => by simp at h⟩, Nat.le_refl _⟩
      · show (p :: ad :: ah :: D :: bl).Nodup
        simp only [List.nodup_cons, List.mem_cons, not_or]
        exact ⟨⟨Ne.symm hadp, Ne.symm n3, Ne.symm nDp, fun h => nb e3 p h rfl⟩, ⟨Ne.symm na3, Ne.symm nDad, fun h => nb d3' ad h rfl⟩, ⟨Ne.symm nDah, fun h => nb h3 ah h rfl⟩, fun h => (hb D h).2.1 rfl, hnd⟩
      · rw [List.length_replicate]
        exact hl
end
end SW

namespace SW
open PySem PySem.Spec PyProof.Rows L2
theorem hF_eq (ad ah ab : Addr) : hF ad ah ab = ([("differences", .ref ad), ("_heights", .ref ah), ("_below", .ref ab)] : List (PySem.Str × V)) := by
  have ne : ∀ {x y : PySem.Str} {v u : V} {r : List (PySem.Str × V)}, ¬ x = y → putF y v ((x, u) :: r) = (x, u) :: putF y v r := fun {x y v u r} h => by
    show (if x = y then (x, v) :: r else (x, u) :: putF y v r) = _
    rw [if_neg h]
  unfold hF
  have e : ∀ (y : PySem.Str) (v : V), putF y v [] = [(y, v)] := fun _ _ => rfl
  repeat (first | rw [e] | rw [ne (by decide +kernel)])
theorem hF_pd (ad ah ab a : Addr) : putF "differences" (.ref a) (hF ad ah ab) = hF a ah ab := by
  rw [hF_eq, hF_eq]
  show (if ("differences" : PySem.Str) = "differences" then _ else _) = _
  rw [if_pos rfl]
theorem hF_ph (ad ah ab a : Addr) : putF "_heights" (.ref a) (hF ad ah ab) = hF ad a ab := by
  rw [hF_eq, hF_eq]
  show (if ("differences" : PySem.Str) = "_heights" then _ else (_ :: if ("_heights" : PySem.Str) = "_heights" then _ else _)) = _
  rw [if_neg (by decide +kernel), if_pos rfl]
theorem hF_pb (ad ah ab a : Addr) : putF "_below" (.ref a) (hF ad ah ab) = hF ad ah a := by
  rw [hF_eq, hF_eq]
  show (if ("differences" : PySem.Str) = "_below" then _ else (_ :: if ("_heights" : PySem.Str) = "_below" then _ else (_ :: if ("_below" : PySem.Str) = "_below" then _ else _))) = _
  rw [if_neg (by decide +kernel), if_neg (by decide +kernel), if_pos rfl]
theorem hF_len (ad ah ab : Addr) : (hF ad ah ab).length < 1000 := by
  rw [hF_eq]
  show 3 < 1000
  decide
def rListK (K : PySem.W.Frag) : List V → Hp → VK → Prop := fun xs H Q => ∃ p ys, xs = [V.ref p] ∧ (SqL K H p ys ∨ SqT K H p ys) ∧ ∀ l, H l = none → Q (.ref l) (upd H l (.lst ys))
def spTwin (K : PySem.W.Frag) (C : Addr) : Sp := fun vs H Q _ => ∃ (k : Hk) (ds : List D3) (hs : List Int), vs = [.ref k.p] ∧ HAt K C H k ds hs ∧ ds.length ≤ 1000 ∧ hs.length ≤ 1000 ∧ ∀ k' H', Same H H' → (∀ c, c ∈ k'.own → H c = none) → HAt K C H' k' ds hs → Q (.ref k'.p) H'
section
variable {P : Program} {w : World} {K : PySem.W.Frag} {mg : PySem.Str → Option Value} {base : Heap} {C : Addr}
theorem ok_twin {f fH : Addr} {fd fdH : FuncData} (F : Fun K "twin" "Heights.twin" s_Heights_twin f fd) (T : TxH K mg C) (M_Heights : Mk K C fH) (G_Heights : FnOk P w K mg base CX0 1 fH fdH ["self", "many"] (spInit K C)) (b_Heights : Binds K fdH ["self", "many"] []) : FnOk P w K mg base CX0 3 f fd ["self"] (spTwin K C) := by
  refine F.ok sc_Heights_twin (fun vs H Q E h => ?_) (fun cdv A outer s H vs Q E hr h => ?_)
  · obtain ⟨k, ds, hs, rfl, _⟩ := h
    rfl
  · obtain ⟨k, ds, hs, rfl, ha, hdl, hhl, q⟩ := h
    refine ⟨_, (pss_cons (ps_set (i := 1) sc_Heights_twin.nd rfl (.inl rfl) (pe_make M_Heights G_Heights (hr.mono (by decide)) rfl T.mg_Heights b_Heights .nil pass0 (pa_cons pe_int pa_nil)))
    (pss_cons (ps_fld (pv 1) (pe_callTy call_list_of (by rfl) T.n_list (by decide +kernel) (pa_cons (pe_fld (pv 0) rfl) pa_nil)) rfl)
    (pss_cons (ps_fld (pv 1) (pe_callTy call_list_of (by rfl) T.n_list (by decide +kernel) (pa_cons (pe_fld (pv 0) rfl) pa_nil)) rfl)
    (pss_cons (ps_fld (pv 1) (pe_lc (own := [("numbers", 2)]) (g := gName 2) (by rfl) sc_Heights_twin.nd (pi_list (pe_fld (pv 0) rfl)) (blkOk_by (own := [("numbers", 2)]) (N := ["self", "other", "numbers"]) (sc := defScope s_Heights_twin) (by decide +kernel)) (fun _ _ _ _ _ => pg_name (i := 2) sc_Heights_twin.nd rfl (Or.inl rfl)) (fun _ _ _ _ _ => pts_nil) (fun _ _ _ _ _ => (pe_callTy (show CallR _ (.type "list") (rListK K) from call_list_of) (by rfl) T.n_list (by decide +kernel) (pa_cons (pv 2) pa_nil)))) rfl)
    (pss_one (ps_ret (pv 1))))))), ?_⟩
    intro x dx nx ndx dxx
    refine ⟨x, dx, 0, rfl, upd_same, Nat.zero_le _, fun k0 G1 ek bt own0 h0 => ⟨rfl, ?_⟩⟩
    subst ek
    have s1 : Same H G1 := fun b o e => bt _ _ (ne_of_none e nx) (by rw [upd_ne (ne_of_none e nx), upd_ne (ne_of_none e ndx)]; exact e)
    clear bt own0
    obtain ⟨dy, e1⟩ := h0.ob
    generalize hp : k0.p = p at nx e1 dxx
    obtain ⟨dz, e⟩ := ha.ob
    obtain ⟨xd, g1, g2⟩ := ha.d
    have e0 := s1 _ _ e
    -- differences
    refine ⟨_, rfl, k.p, C, dz, _, _, rfl, e0, T.cl, T.nD, hF_d _ _ _, k.ad, xd, rfl, .inl (SqL.of (s1 _ _ g1)), fun ad nd => ⟨_, rfl, p, C, dy, _, rfl, (upd_ne (ne_of_none e1 nd)).trans e1, T.cl, T.nD, hF_len _ _ _, ?_⟩⟩
    rw [hF_pd]
    obtain ⟨n2, s2, e2, d2⟩ := fld_step (u := .ins C dy (hF ad k0.ah k0.ab)) (z := .lst xd) e1 nd
    have k2 : ∀ b y, b ≠ p → H b = some y → _ := fun b y hb e => s2 b y hb (s1 b y e)
    have hnd : H ad = none := s1.free nd
    generalize upd (upd G1 ad _) p _ = G2 at s2 e2 d2 k2
    have old : ∀ {b : Addr} {o : HO}, H b = some o → b ≠ p := fun h1 h2 => by
      rw [h2, nx] at h1
      cases h1
    -- heights
    refine ⟨_, rfl, k.p, C, dz, _, _, rfl, k2 _ _ (old e) e, T.cl, T.nH, hF_h _ _ _, k.ah, _, rfl, .inl (SqL.of (k2 _ _ (old ha.h) ha.h)), fun ah nh => ⟨_, rfl, p, C, dy, _, rfl, (upd_ne (ne_of_none e2 nh)).trans e2, T.cl, T.nH, hF_len _ _ _, ?_⟩⟩
    rw [hF_ph]
    obtain ⟨n3, s3, e3, h3⟩ := fld_step (u := .ins C dy (hF ad ah k0.ab)) (z := .lst (hs.map V.int)) e2 nh
    have k3 : ∀ b y, b ≠ p → H b = some y → _ := fun b y hb e => s3 b y hb (k2 b y hb e)
    have hnh : H ah = none := was_none k2 n3 nh
    have nah : ah ≠ ad := (ne_of_none d2 nh).symm
    have d3' := s3 _ _ n2 d2
    generalize upd (upd G2 ah _) p _ = G3 at s3 e3 h3 d3' k3
    -- below
    have eb := k3 _ _ (old ha.b) ha.b
    refine ⟨_, rfl, k.p, C, dz, _, _, rfl, k3 _ _ (old e) e, T.cl, T.nB, hF_b _ _ _, k.ab, rfl, ⟨_, SqL.of eb⟩, fun D nD => ?_⟩
    refine lc_list (K := K) (a := k.ab) (xs := k.bl.map V.ref) (fun i H1 => Same G3 H1 ∧ ∃ bl : List Addr, bl.length = i ∧ H1 D = some (.lst (bl.map V.ref)) ∧ bl.Nodup ∧ ∀ (v : Nat) (b : Addr), bl[v]? = some b → G3 b = none ∧ b ≠ D ∧ Blw H1 ds v b) ⟨same_new nD, [], rfl, upd_same, List.nodup_nil, fun v b hb => by simp at hb⟩ (fun i H1 _ h => h.1.seq (SqL.of eb)) (fun i x H1 hx hP => ?_) (fun H1 hP => ?_)
    · obtain ⟨sG, bl, hl, eD, hnd2, hb⟩ := hP
      rw [List.getElem?_map] at hx
      cases hni : k.bl[i]? with
      | none =>
        rw [hni] at hx
        cases hx
      | some b0 =>
      rw [hni] at hx
      cases hx
      obtain ⟨ns, q1, q2, q3⟩ := ha.bs i b0 hni
      have hlt : i < k.bl.length := (List.getElem?_eq_some_iff.mp hni).1
      have hkl := ha.bl
      have e6 : H1 b0 = some (.lst (nV ns)) := sG _ _ (k3 _ _ (old q1) q1)
      refine ⟨rfl, _, rfl, b0, nV ns, rfl, .inl (SqL.of e6), fun R nR => ?_⟩
      have hRD : R ≠ D := fun h => by
        rw [h, eD] at nR
        cases nR
      have hRb : ∀ b, b ∈ bl → b ≠ R := fun b h1 h2 => by
        obtain ⟨v, hv, ev⟩ := List.getElem_of_mem h1
        obtain ⟨_, _, ms, h3, _⟩ := hb v b (by rw [List.getElem?_eq_getElem hv, ev])
        rw [← h2, h3] at nR
        cases nR
      refine ⟨bl.map V.ref, (upd_ne (Ne.symm hRD)).trans eD, by rw [List.length_map, hl]; exact small_sz5 (by omega), same_mut (sG.trans (same_new nR)) nD, bl ++ [R], by rw [List.length_append, hl]; rfl, by rw [upd_same, List.map_append]; rfl, ?_, fun v b h => ?_⟩
      · rw [List.nodup_append]
        exact ⟨hnd2, by simp, fun x hx y hy h => hRb x hx (by rw [h, List.mem_singleton.mp hy])⟩
      · by_cases hv : v < bl.length
        · rw [List.getElem?_append_left hv] at h
          obtain ⟨h1, h2, ms, h3, h4⟩ := hb v b h
          exact ⟨h1, h2, ms, (upd_ne h2).trans ((upd_ne (hRb b (List.mem_of_getElem? h))).trans h3), h4⟩
        · rw [List.getElem?_append_right (by omega)] at h
          obtain ⟨hlt2, h1⟩ := List.getElem?_eq_some_iff.mp h
          rw [List.length_singleton] at hlt2
          have hbR : b = R := by
            rw [← h1]
            simp
          subst hbR
          have hvi : v = i := by omega
          subst hvi
          exact ⟨sG.free nR, hRD, ns, (upd_ne hRD).trans upd_same, q2, q3⟩
    · obtain ⟨sG, bl, hl, eD, hnd2, hb⟩ := hP
      rw [List.length_map] at hl
      have e4 := sG _ _ e3
      refine ⟨_, rfl, p, C, dy, _, rfl, e4, T.cl, T.nB, hF_len _ _ _, ?_⟩
      rw [hF_pb]
      have b5 := but_upd2 (H := H1) (p := p) (o := .ins C dy (hF ad ah D))
      have e5 : upd H1 p (.ins C dy (hF ad ah D)) p = some (.ins C dy (hF ad ah D)) := upd_same
      generalize upd H1 p _ = G5 at b5 e5
      have nDp : D ≠ p := (ne_of_none e3 nD).symm
      have nDad : D ≠ ad := (ne_of_none d3' nD).symm
      have nDah : D ≠ ah := (ne_of_none h3 nD).symm
      have hm : ∀ b, b ∈ bl → G3 b = none ∧ b ≠ D := fun b h1 => by
        obtain ⟨v, hv, ev⟩ := List.getElem_of_mem h1
        obtain ⟨h2, h3, _⟩ := hb v b (by rw [List.getElem?_eq_getElem hv, ev])
        exact ⟨h2, h3⟩
      have nb : ∀ {a : Addr} {o : HO}, G3 a = some o → ∀ b, b ∈ bl → b ≠ a := fun h b h1 h2 => by
        rw [← h2, (hm b h1).1] at h
        cases h
      have fr : ∀ b, b ≠ p → G3 b = none → H b = none := fun b h1 h2 => was_none k3 h1 h2
      have sF : Same H G5 := fun b o h => b5 _ _ (old h) (sG _ _ (k3 _ _ (old h) h))
      refine ⟨_, rfl, q ⟨p, ad, ah, D, bl⟩ G5 sF (fun b h => ?_) ⟨⟨dy, e5⟩, ⟨xd, b5 _ _ n2 (sG _ _ d3'), dpa_same sF _ _ g2⟩, b5 _ _ n3 (sG _ _ h3), b5 _ _ nDp eD, fun v b hv => ?_, ?_, ?_⟩⟩
      · have h : b ∈ p :: ad :: ah :: D :: bl := h
        simp only [List.mem_cons] at h
        rcases h with rfl | rfl | rfl | rfl | h
        · exact nx
        · exact hnd
        · exact hnh
        · exact fr _ nDp nD
        · exact fr _ (nb e3 b h) (hm b h).1
      · obtain ⟨_, _, ms, h3, h4⟩ := hb v b hv
        exact ⟨ms, b5 _ _ (nb e3 b (List.mem_of_getElem? hv)) h3, h4⟩
      · show (p :: ad :: ah :: D :: bl).Nodup
        simp only [List.nodup_cons, List.mem_cons, not_or]
        exact ⟨⟨Ne.symm n2, Ne.symm n3, Ne.symm nDp, fun h => nb e3 p h rfl⟩, ⟨Ne.symm nah, Ne.symm nDad, fun h => nb d3' ad h rfl⟩, ⟨Ne.symm nDah, fun h => nb h3 ah h rfl⟩, fun h => (hm D h).2 rfl, hnd2⟩
      · show bl.length = hs.length
        rw [hl]
        exact ha.bl
end
end SW

namespace SW
open PySem PySem.Spec PyProof.Rows L2
/-! ### lowering: what the dicts hold -/
def dnK (h : Nat → Int) (fa : Nat → Option Int) (dn : List Nat) : List (Key × V) := dn.map fun x => (.inl (x : Nat), .int (h x + faD fa x))
theorem dnK_val (h : Nat → Int) (fa : Nat → Option Int) : ∀ (dn : List Nat) (x : Nat), valV (dnK h fa dn) (.inl ((x : Nat) : Int)) = if x ∈ dn then some (.int (h x + faD fa x)) else none
  | [], x => by
    rw [if_neg List.not_mem_nil]
    rfl
  | y :: r, x => by
    show valV (((.inl ((y : Nat) : Int) : Key), V.int (h y + faD fa y)) :: dnK h fa r) _ = _
    by_cases e : y = x
    · rw [valV_pos (by rw [e]), e, if_pos List.mem_cons_self]
    · rw [valV_neg (fun h => e (by injection h with h; omega)), dnK_val h fa r x]
      by_cases hx : x ∈ r
      · rw [if_pos hx, if_pos (List.mem_cons_of_mem _ hx)]
      · rw [if_neg hx, if_neg (fun h2 => (List.mem_cons.mp h2).elim (fun q => e q.symm) hx)]
theorem dnK_put {h : Nat → Int} {fa : Nat → Option Int} {dn : List Nat} {x : Nat} (hx : ¬ x ∈ dn) : putK (dnK h fa dn) (.inl ((x : Nat) : Int)) (.int (h x + faD fa x)) = dnK h fa (dn ++ [x]) := by
  rw [putK_new _ (by rw [dnK_val, if_neg hx])]
  unfold dnK
  rw [List.map_append]
  rfl
theorem dnK_fput {h : Nat → Int} {fa : Nat → Option Int} {dn : List Nat} {u : Nat} {f : Int} (hu : ¬ u ∈ dn) : dnK h (fput fa u f) dn = dnK h fa dn := by
  unfold dnK
  refine List.map_congr_left fun x hx => ?_
  have : x ≠ u := fun e => hu (e ▸ hx)
  unfold faD
  rw [fput_ne this]
theorem dnK_len (h : Nat → Int) (fa : Nat → Option Int) (dn : List Nat) : (dnK h fa dn).length = dn.length := List.length_map _
def KvF (kf : List (Key × V)) (fa : Nat → Option Int) : Prop := ∀ x : Nat, valV kf (.inl ((x : Nat) : Int)) = (fa x).map V.int
def KvC (kc : List (Key × V)) (ca : Nat → Option Nat) : Prop := ∀ x : Nat, valV kc (.inl ((x : Nat) : Int)) = (ca x).map fun e => V.int (e : Nat)
theorem kvf_put {kf : List (Key × V)} {fa : Nat → Option Int} (h : KvF kf fa) (u : Nat) (f : Int) : KvF (putK kf (.inl ((u : Nat) : Int)) (.int f)) (fput fa u f) := fun x => by
  rw [valV_put]
  by_cases e : x = u
  · rw [if_pos (by rw [e]), e, fput_same]
    rfl
  · rw [if_neg (fun h => e (by injection h with h; omega)), fput_ne e]
    exact h x
theorem kvc_put {kc : List (Key × V)} {ca : Nat → Option Nat} (h : KvC kc ca) (u e : Nat) : KvC (putK kc (.inl ((u : Nat) : Int)) (.int (e : Nat))) (fput ca u e) := fun x => by
  rw [valV_put]
  by_cases e1 : x = u
  · rw [if_pos (by rw [e1]), e1, fput_same]
    rfl
  · rw [if_neg (fun h => e1 (by injection h with h; omega)), fput_ne e1]
    exact h x
theorem kvf_one (u : Nat) (f : Int) : KvF [(.inl ((u : Nat) : Int), .int f)] (fput (fun _ => none) u f) := fun x => by
  by_cases e : x = u
  · rw [e, valV_pos rfl, fput_same]
    rfl
  · rw [valV_neg (fun h => e (by injection h with h; omega)), fput_ne e]
    rfl
theorem kvc_one (u e : Nat) : KvC [(.inl ((u : Nat) : Int), .int (e : Nat))] (fput (fun _ => none) u e) := fun x => by
  by_cases e1 : x = u
  · rw [e1, valV_pos rfl, fput_same]
    rfl
  · rw [valV_neg (fun h => e1 (by injection h with h; omega)), fput_ne e1]
    rfl
section
variable {old : List D3} {n N first second : Nat} {most : Int} {h : Nat → Int} {fa : Nat → Option Int} {ca : Nat → Option Nat} {dn : List Nat} {q q' : List (Int × Nat)}
/-- the causes lead to the first -/
theorem dj_chn (D : Dj old n N first second most h fa ca dn q) {ds : List D3} {kc : List (Key × V)} (hds : ∀ (e : Nat) d, old[e]? = some d → ds[e]? = some d) (hk : ∀ x e, x ∈ dn → ca x = some e → valV kc (.inl ((x : Nat) : Int)) = some (.int (e : Nat))) :
    ∀ (b i x : Nat) (f : Int), i ≤ b → dn[i]? = some x → fa x = some f → ∃ m, m ≤ i ∧ Chn ds kc first x (f + h x - (h second + most)) m
  | b, i, x, f, hib, hi, hf => by
    by_cases hx : x = first
    · subst hx
      rw [D.fst] at hf
      cases hf
      refine ⟨0, Nat.zero_le _, ?_⟩
      rw [show h second + most - h x + h x - (h second + most) = 0 by omega]
      exact .base
    · obtain ⟨e, v, c, j, h1, h2, h3, h4⟩ := D.rank i x hi hx
      rcases D.cau x f hf with ⟨h5, _⟩ | ⟨_, e', v', c', fv, h6, h7, h8, h9, h10⟩
      · exact absurd h5 hx
      · rw [h1] at h6
        cases h6
        rw [h2] at h7
        cases h7
        match b with
        | 0 => omega
        | b + 1 =>
          obtain ⟨m, hm, ch⟩ := dj_chn D hds hk b j v fv (by omega) h4 h9
          refine ⟨m + 1, by omega, ?_⟩
          rw [show f + h x - (h second + most) = (fv + h v - (h second + most)) + c by omega]
          exact .step hx (hk x e (List.mem_of_getElem? hi) h1) (hds _ _ h2) ch
end
end SW

set_option maxHeartbeats 8000000
namespace SW
open PySem PySem.Spec PyProof.Rows L2
def spLower (K : PySem.W.Frag) (C : Addr) : Sp := fun vs H Q _ => ∃ (k : Hk) (n first second : Nat) (most : Int) (old : List D3) (hs : List Int), vs = [.ref k.p, .int (old.length : Nat)] ∧ HAt K C H k (old ++ [(first, second, most)]) hs ∧ HOk n old hs ∧ old.length < 100 ∧ first < n ∧ second < n ∧ first ≠ second ∧ most < hsF hs first - hsF hs second ∧
  (∀ hs' H', Chg [k.ah] H H' → HAt K C H' k (old ++ [(first, second, most)]) hs' → hs'.length = n → TopH (old ++ [(first, second, most)]) (hsF hs') → Q .non H') ∧
  ∀ R es t H', Same H H' → H R = none → H' R = some (.tup (nV es)) → Wk3 (old ++ [(first, second, most)]) first first es t → t < 0 → (es ≠ [] ∧ es.length ≤ 1001) → Q (.ref R) H'
theorem hs_at {hs : List Int} {n u : Nat} (hl : hs.length = n) (hu : u < n) : atI (hs.map V.int) ((u : Nat) : Int) = some (.int (hsF hs u)) := by
  refine atI_nat ?_
  rw [List.getElem?_map, List.getElem?_eq_getElem (by omega)]
  unfold hsF
  rw [List.getD_eq_getElem?_getD, List.getElem?_eq_getElem (by omega)]
  rfl
structure LoL (H G : Hp) (h : Nat → Int) (fd cd aq dd : Addr) (fa : Nat → Option Int) (ca : Nat → Option Nat) (dn : List Nat) (q : List (Int × Nat)) (b : Nat) : Prop where
  sG : Same H G
  f : ∃ kf, G fd = some (.dK kf) ∧ KvF kf fa ∧ kf.length ≤ b
  c : ∃ kc, G cd = some (.dK kc) ∧ KvC kc ca ∧ kc.length ≤ b
  qa : QAt G aq q
  ql : q.length ≤ b
  d : G dd = some (.dK (dnK h fa dn))
theorem HAt.setH {K : PySem.W.Frag} {C : Addr} {H H' : Hp} {k : Hk} {ds : List D3} {hs hs' : List Int} (a : HAt K C H k ds hs) (g : Chg [k.ah] H H') (e : H' k.ah = some (.lst (hs'.map V.int))) (l : hs'.length = hs.length) : HAt K C H' k ds hs' := by
  obtain ⟨dx, e0⟩ := a.ob
  obtain ⟨xd, e1, e2⟩ := a.d
  have nd := a.nd
  unfold Hk.own at nd
  simp only [List.nodup_cons, List.mem_cons, not_or] at nd
  obtain ⟨⟨n1, n2, n3, n4⟩, ⟨n5, n6, n7⟩, ⟨n8, n9⟩, n10, n11⟩ := nd
  have nt : ∀ c, c ∈ ([k.ah] : List Addr) → NT H c := fun c hc => by
    rw [List.mem_singleton.mp hc]
    exact NT.lst a.h
  have g' : ∀ {b : Addr} {o : HO}, b ≠ k.ah → H b = some o → H' b = some o := fun h1 h2 => g _ _ (fun h => h1 (List.mem_singleton.mp h)) h2
  refine ⟨⟨dx, g' n2 e0⟩, ⟨xd, g' n5 e1, chg_dpa nt g _ _ (noLs_d3 _) e2⟩, e, g' (Ne.symm n8) a.b, fun v b hb => ?_, a.nd, a.bl.trans l.symm⟩
  obtain ⟨ns, h1, h2⟩ := a.bs v b hb
  exact ⟨ns, g' (fun h => n9 (h ▸ List.mem_of_getElem? hb)) h1, h2⟩
structure LoN (H : Hp) (fd cd aq dd : Addr) : Prop where
  nf : H fd = none
  nc : H cd = none
  nq : H aq = none
  nd : H dd = none
  fc : fd ≠ cd
  fq : fd ≠ aq
  fd_ : fd ≠ dd
  cq : cd ≠ aq
  cd_ : cd ≠ dd
  qd : aq ≠ dd
section
variable {P : Program} {w : World} {K : PySem.W.Frag} {mg : PySem.Str → Option Value} {base : Heap} {C : Addr}
theorem ok_lower {f fR : Addr} {fdF fdR : FuncData} (F : Fun K "_lower" "Heights._lower" s_Heights__lower f fdF) (T : TxH K mg C) (m__ring : Meth K C "_ring" fR) (G__ring : FnOk P w K mg base CX0 1 fR fdR ["self", "number", "causes"] (spRing K C)) (b__ring : Binds K fdR ["self", "number", "causes"] []) : FnOk P w K mg base CX0 2 f fdF ["self", "number"] (spLower K C) := by
  refine F.ok sc_Heights__lower (fun vs H Q E h => ?_) (fun cdv A outer s H vs Q E hr h => ?_)
  · obtain ⟨k, n, first, second, most, old, hs, rfl, _⟩ := h
    rfl
  · obtain ⟨k, n, first, second, most, old, hs, rfl, ha, ho, hol, hf1, hs1, hfs, hmost, qn, qr⟩ := h
    refine ⟨_, (pss_cons (ps_asg (pe_ix ix_list (pe_fld (pv 0) rfl) (pv 1) (fun _ _ => rfl)) (pg_tup (by rfl) (pgs_cons (pg_name (i := 2) sc_Heights__lower.nd rfl (.inl rfl)) (pgs_cons (pg_name (i := 3) sc_Heights__lower.nd rfl (.inl rfl)) (pgs_cons (pg_name (i := 4) sc_Heights__lower.nd rfl (.inl rfl)) pgs_nil)))))
    (pss_cons (ps_set (i := 5) sc_Heights__lower.nd rfl (.inl rfl) (pe_op op_sub (pe_op op_add (pe_ix ix_list (pe_fld (pv 0) rfl) (pv 3) (fun _ _ => rfl)) (pv 4)) (pe_ix ix_list (pe_fld (pv 0) rfl) (pv 2) (fun _ _ => rfl))))
    (pss_cons (ps_set (i := 6) sc_Heights__lower.nd rfl (.inl rfl) (pe_disp (pps_cons (pv 2) (pv 5) pps_nil) (by rfl) (by rfl) (fun z => by cases z) (by decide)))
    (pss_cons (ps_set (i := 7) sc_Heights__lower.nd rfl (.inl rfl) (pe_disp (pps_cons (pv 2) (pv 1) pps_nil) (by rfl) (by rfl) (fun z => by cases z) (by decide)))
    (pss_cons (ps_set (i := 8) sc_Heights__lower.nd rfl (.inl rfl) (pe_lst (pa_cons (pe_tup (pa_cons (pv 5) (pa_cons (pv 2) pa_nil))) pa_nil)))
    (pss_cons (ps_set (i := 9) sc_Heights__lower.nd rfl (.inl rfl) pe_dnewK)
    (pss_cons (ps_while PassesOwn.never (pt_truth (pv 8) (by intro _; rfl))
    (pss_cons (ps_asg (pe_callGB (cr_hpopE (hu8 hr)) (by rfl) T.m_heappop (pa_cons (pv 8) pa_nil)) (pg_tup (by rfl) (pgs_cons (pg_name (i := 5) sc_Heights__lower.nd rfl (.inl rfl)) (pgs_cons (pg_name (i := 10) sc_Heights__lower.nd rfl (.inl rfl)) pgs_nil))))
    (pss_cons (ps_if (pt_cmp (pc_din (hu_of hr) (pv 10) (pv 9)))
    (pss_one ps_continue)
    pss_nil)
    (pss_cons (ps_dput (hu_of hr) (pv 9) (pv 10) (pe_op op_add (pe_ix ix_list (pe_fld (pv 0) rfl) (pv 10) (fun _ _ => rfl)) (pv 5)) rfl)
    (pss_one (ps_for PassesOwn.never rfl (pi_list (pe_ix ix_list (pe_fld (pv 0) rfl) (pv 10) (fun _ _ => rfl))) (pg_name (i := 11) sc_Heights__lower.nd rfl (.inl rfl))
    (pss_cons (ps_asg (pe_ix ix_list (pe_fld (pv 0) rfl) (pv 11) (fun _ _ => rfl)) (pg_tup (by rfl) (pgs_cons (pg_name (i := 12) sc_Heights__lower.nd rfl (.inl rfl)) (pgs_cons (pg_name (i := 13) sc_Heights__lower.nd rfl (.inl rfl)) (pgs_cons (pg_name (i := 14) sc_Heights__lower.nd rfl (.inl rfl)) pgs_nil)))))
    (pss_cons (ps_set (i := 5) sc_Heights__lower.nd rfl (.inl rfl) (pe_op op_sub (pe_op op_add (pe_dget (hu_of hr) (pv 9) (pv 10) (fun _ _ => rfl)) (pv 14)) (pe_ix ix_list (pe_fld (pv 0) rfl) (pv 12) (fun _ _ => rfl))))
    (pss_one (ps_if (pt_cmpR op_lt (pv 5) (pe_dget2 (hu_of hr) (pv 6) (pv 12) pe_int ⟨rfl, rfl, rfl, rfl⟩) (nomark _))
    (pss_cons (ps_dput (hu_of hr) (pv 6) (pv 12) (pv 5) rfl)
    (pss_cons (ps_dput (hu_of hr) (pv 7) (pv 12) (pv 11) rfl)
    (pss_cons (ps_if (pt_cmpR op_eq (pv 12) (pv 3) (nomark _))
    (pss_one (ps_ret (pe_meth (pv 0) T.cl m__ring G__ring (hr.mono (by decide)) b__ring .nil pass0 (pa_cons (pv 1) (pa_cons (pv 7) pa_nil)))))
    pss_nil)
    (pss_one (ps_expr (pe_callGB (cr_hpushE (hu8 hr)) (by rfl) T.m_heappush (pa_cons (pv 8) (pa_cons (pe_tup (pa_cons (pv 5) (pa_cons (pv 12) pa_nil))) pa_nil))))))))
    pss_nil))))))))))
    (pss_cons (ps_lock (ps_for PassesOwn.never rfl (pi_items (pv 9)) (pg_tup (by rfl) (pgs_cons (pg_name (i := 10) sc_Heights__lower.nd rfl (.inl rfl)) (pgs_cons (pg_name (i := 15) sc_Heights__lower.nd rfl (.inl rfl)) pgs_nil)))
    (pss_one (ps_asg (pv 15) (pg_sub (pe_fld (pv 0) rfl) (pv 10) set_list)))))
    (pss_one (ps_ret pe_non)))))))))), ?_⟩
    obtain ⟨dx, e⟩ := ha.ob
    have hN : (old ++ [(first, second, most)])[old.length]? = some (first, second, most) := by
      rw [List.getElem?_append_right (Nat.le_refl _), Nat.sub_self]
      rfl
    obtain ⟨xd, t, g1, g2, g3⟩ := ha.get hN
    refine ⟨_, rfl, k.p, C, dx, _, _, rfl, e, T.cl, T.nD, hF_d _ _ _, _, rfl, k.ad, _, _, _, rfl, rfl, SqL.of g1, atI_nat g2, t, _, rfl, g3, rfl, _, _, rfl, _, _, rfl, _, _, rfl, rfl, ?_⟩
    -- fall
    refine ⟨_, rfl, k.p, C, dx, _, _, rfl, e, T.cl, T.nH, hF_h _ _ _, _, rfl, k.ah, _, _, _, rfl, rfl, SqL.of ha.h, hs_at ho.len hs1, _, rfl, _, _, rfl, rfl, ?_⟩
    refine ⟨_, rfl, k.p, C, dx, _, _, rfl, e, T.cl, T.nH, hF_h _ _ _, _, rfl, k.ah, _, _, _, rfl, rfl, SqL.of ha.h, hs_at ho.len hf1, _, _, rfl, rfl, ?_⟩
    -- falls
    intro fd nf
    refine ⟨_, rfl, _, rfl, upd_same, [(.inl ((first : Nat) : Int), .int (hsF hs second + most - hsF hs first))], rfl, by show 1 ≤ 15; decide, ?_⟩
    generalize hG : upd _ fd (.dK (mergeK [] _)) = G1
    have s1 : Same H G1 := by
      rw [← hG]
      exact same_mut (same_new nf) nf
    have ef : G1 fd = some (.dK [(.inl ((first : Nat) : Int), .int (hsF hs second + most - hsF hs first))]) := by
      rw [← hG]
      exact upd_same
    clear hG
    -- causes
    intro cd nc
    refine ⟨_, rfl, _, rfl, upd_same, [(.inl ((first : Nat) : Int), .int (old.length : Nat))], rfl, by show 1 ≤ 15; decide, ?_⟩
    generalize hG : upd _ cd (.dK (mergeK [] _)) = G2
    have s2 : Same G1 G2 := by
      rw [← hG]
      exact same_mut (same_new nc) nc
    have ec : G2 cd = some (.dK [(.inl ((first : Nat) : Int), .int (old.length : Nat))]) := by
      rw [← hG]
      exact upd_same
    clear hG
    -- queue
    refine ⟨_, rfl, _, rfl, by show 2 ≤ sizeLine; decide, fun t0 nt0 => ⟨by show 1 ≤ sizeLine; decide, fun aq nq => ?_⟩⟩
    generalize hG : upd G2 t0 _ = G3 at nq ⊢
    obtain ⟨s3, et⟩ := new_of nt0 hG
    generalize hG4 : upd G3 aq _ = G4
    obtain ⟨s4, eq⟩ := new_of nq hG4
    have nta : t0 ≠ aq := ne_of_none et nq
    have hq4 : QAt G4 aq [(hsF hs second + most - hsF hs first, first)] := QAt.one eq nta (s4 _ _ et)
    clear hG hG4
    intro dd ndd
    generalize hG : upd G4 dd _ = G5
    obtain ⟨s5, ed⟩ := new_of ndd hG
    clear hG
    have s45 := s4.trans s5
    have s35 := s3.trans s45
    have s25 := s2.trans s35
    have hL : LoN H fd cd aq dd := ⟨nf, s1.free nc, s1.free (s2.free (s3.free nq)), s1.free (s2.free (s3.free (s4.free ndd))), ne_of_none ef nc, ne_of_none (s3 _ _ (s2 _ _ ef)) nq, ne_of_none (s4 _ _ (s3 _ _ (s2 _ _ ef))) ndd, ne_of_none (s3 _ _ ec) nq, ne_of_none (s4 _ _ (s3 _ _ ec)) ndd, ne_of_none eq ndd⟩
    have hI : LoL H G5 (hsF hs) fd cd aq dd (fput (fun _ => none) first (hsF hs second + most - hsF hs first)) (fput (fun _ => none) first old.length) [] [(hsF hs second + most - hsF hs first, first)] 1 :=
      ⟨s1.trans s25, ⟨_, s25 _ _ ef, kvf_one _ _, Nat.le_refl _⟩, ⟨_, s35 _ _ ec, kvc_one _ _, Nat.le_refl _⟩, hq4.same s5, Nat.le_refl _, ed⟩
    have D0 := dj_start (n := n) (N := old.length) ho.top hfs hf1 hmost
    clear s45 s35 s25 s1 s2 s3 s4 s5 ef ec et eq hq4 ed nq nt0 nc ndd nta
    refine ⟨fun m σ G => ∃ (fa : Nat → Option Int) (ca : Nat → Option Nat) (dn : List Nat) (q : List (Int × Nat)) (y5 y10 y11 y12 y13 y14 : Option V), σ = [some (.ref k.p), some (.int (old.length : Nat)), some (.int (first : Nat)), some (.int (second : Nat)), some (.int most), y5, some (.ref fd), some (.ref cd), some (.ref aq), some (.ref dd), y10, y11, y12, y13, y14, none] ∧ LoL H G (hsF hs) fd cd aq dd fa ca dn q (1 + dn.length * (old.length + 1)) ∧ Dj old n old.length first second most (hsF hs) fa ca dn q ∧ RelD old (hsF hs) fa (fun e => ∃ u v c, old[e]? = some (u, v, c) ∧ v ∈ dn) ∧ (first ∈ dn ∨ (dn = [] ∧ ∀ p, p ∈ q → p.2 = first)) ∧ m = (n - dn.length) * (old.length + 2) + q.length,
      ⟨_, _, _, _, _, _, _, _, _, _, _, rfl, by
        rw [List.length_nil, Nat.zero_mul]
        exact hI, D0, fun e he => by
        obtain ⟨u, v, c, _, hv⟩ := he
        exact absurd hv List.not_mem_nil, .inr ⟨rfl, fun p hp => by rw [List.mem_singleton.mp hp]⟩, rfl⟩, fun m σ G hW => ?_⟩
    clear hI D0
    obtain ⟨fa, ca, dn, q, y5, y10, y11, y12, y13, y14, rfl, L, D, R, hfd, hm⟩ := hW
    obtain ⟨xs, ex, hxl⟩ := L.qa.len
    have hdn : dn.length ≤ n := nodup_le n dn D.nd fun x hx => by
      obtain ⟨g, hg⟩ := D.dnf x hx
      exact D.rng x g hg
    have hnl := ho.nl
    have hb0 : dn.length * (old.length + 1) ≤ 100 * 100 := Nat.mul_le_mul (by omega) (by omega)
    refine ⟨_, rfl, _, .inl ⟨xs, SqL.of ex, rfl⟩, ite2 (fun ee => ?_) (fun ee => ?_)⟩
    · have hne : q ≠ [] := fun h => by
        rw [h, List.length_nil] at hxl
        rw [List.length_eq_zero_iff.mp hxl] at ee
        cases ee
      clear ex hxl ee xs
      refine ⟨fun σ' G' => ∃ m', m' < m ∧ ∃ (fa : Nat → Option Int) (ca : Nat → Option Nat) (dn : List Nat) (q : List (Int × Nat)) (y5 y10 y11 y12 y13 y14 : Option V), σ' = [some (.ref k.p), some (.int (old.length : Nat)), some (.int (first : Nat)), some (.int (second : Nat)), some (.int most), y5, some (.ref fd), some (.ref cd), some (.ref aq), some (.ref dd), y10, y11, y12, y13, y14, none] ∧ LoL H G' (hsF hs) fd cd aq dd fa ca dn q (1 + dn.length * (old.length + 1)) ∧ Dj old n old.length first second most (hsF hs) fa ca dn q ∧ RelD old (hsF hs) fa (fun e => ∃ u v c, old[e]? = some (u, v, c) ∧ v ∈ dn) ∧ (first ∈ dn ∨ (dn = [] ∧ ∀ p, p ∈ q → p.2 = first)) ∧ m' = (n - dn.length) * (old.length + 2) + q.length, fun _ _ hh => hh, ?_⟩
      refine ⟨_, rfl, qPop L.qa hne (fun fl x tq q' G2 pm mn bt et hq2 => ?_)⟩
      have hql : q.length = q'.length + 1 := by
        rw [← pm.length_eq]
        rfl
      obtain ⟨kf, ef, hkf, hfl⟩ := L.f
      obtain ⟨kc, ec, hkc, hcl⟩ := L.c
      have ef2 := bt _ _ hL.fq ef
      have ec2 := bt _ _ hL.cq ec
      have ed2 := bt _ _ (Ne.symm hL.qd) L.d
      have sG2 : Same H G2 := fun b o h1 => bt _ _ (ne_of_none h1 hL.nq) (L.sG _ _ h1)
      refine ⟨tq, _, rfl, SqT.of et, rfl, _, _, rfl, _, _, rfl, rfl, ?_⟩
      refine ⟨_, rfl, _, rfl, dd, _, rfl, DGet.k (k := Sum.inl ((x : Nat) : Int)) ed2, _, rfl, ite2 (fun e2 => ?_) (fun e2 => ?_)⟩
      · rw [dnK_val] at e2
        have hx : x ∈ dn := by
          by_cases hx : x ∈ dn
          · exact hx
          · rw [if_neg hx] at e2
            cases e2
        refine ⟨_, by rw [hm, hql]; exact Nat.lt_succ_self _, fa, ca, dn, q', _, _, _, _, _, _, rfl, ⟨sG2, ⟨kf, ef2, hkf, hfl⟩, ⟨kc, ec2, hkc, hcl⟩, hq2, by have := L.ql; omega, ed2⟩, dj_skip D pm hx, R, ?_, rfl⟩
        rcases hfd with h1 | ⟨h1, h2⟩
        · exact .inl h1
        · rw [h1] at hx
          exact absurd hx List.not_mem_nil
      · rw [dnK_val] at e2
        have hx : ¬ x ∈ dn := fun hx => by
          rw [if_pos hx] at e2
          exact e2 rfl
        obtain ⟨hfx, D2⟩ := dj_pop D pm hx mn
        have hmax : ∀ y, y ∈ dn ++ [x] → ∀ g, fa y = some g → g ≤ fl := fun y hy g hg => by
          rcases List.mem_append.mp hy with hy | hy
          · exact D.mono y hy g hg (fl, x) (pm.mem_iff.mp List.mem_cons_self)
          · rw [List.mem_singleton.mp hy, hfx] at hg
            cases hg
            exact Int.le_refl _
        have hfd2 : first ∈ dn ++ [x] := by
          rcases hfd with h1 | ⟨_, h2⟩
          · exact List.mem_append_left _ h1
          · have := h2 (fl, x) (pm.mem_iff.mp List.mem_cons_self)
            have : x = first := this
            rw [this]
            exact List.mem_append_right _ List.mem_cons_self
        have hdn2 : (dn ++ [x]).length ≤ n := nodup_le n _ D2.nd fun y hy => by
          obtain ⟨g, hg⟩ := D2.dnf y hy
          exact D2.rng y g hg
        rw [List.length_append, List.length_singleton] at hdn2
        have hxn : x < n := D.rng x fl hfx
        have hxs : x ≠ second := fun h => by
          rw [h, D.nsec] at hfx
          cases hfx
        have hA2 := ha.same sG2
        obtain ⟨dx2, eo2⟩ := hA2.ob
        -- done[unknown] = ..
        refine ⟨_, rfl, k.p, C, dx2, _, _, rfl, eo2, T.cl, T.nH, hF_h _ _ _, _, rfl, k.ah, _, _, _, rfl, rfl, SqL.of hA2.h, hs_at ho.len hxn, _, rfl, _, _, rfl, rfl, _, rfl, _, rfl, dd, _, rfl, DPut.k (k := Sum.inl ((x : Nat) : Int)) ed2 (by rw [dnK_len]; exact small_sz5 (by omega)), ?_⟩
        have hput : putK (dnK (hsF hs) fa dn) (.inl ((x : Nat) : Int)) (.int (hsF hs x + fl)) = dnK (hsF hs) fa (dn ++ [x]) := by
          rw [← dnK_put hx, faD_some hfx]
        rw [hput]
        have b3 := but_upd2 (H := G2) (p := dd) (o := .dK (dnK (hsF hs) fa (dn ++ [x])))
        have ed3 : upd G2 dd (.dK (dnK (hsF hs) fa (dn ++ [x]))) dd = some (.dK (dnK (hsF hs) fa (dn ++ [x]))) := upd_same
        generalize upd G2 dd _ = G3 at b3 ed3
        have sG3 : Same H G3 := fun b o h1 => b3 _ _ (ne_of_none h1 hL.nd) (sG2 _ _ h1)
        have hA3 := ha.same sG3
        obtain ⟨dx3, eo3⟩ := hA3.ob
        have hvb : x < k.bl.length := by
          rw [hA3.bl, ho.len]
          exact hxn
        obtain ⟨ns, ebH, hns, hnsl⟩ := ha.bs x _ (List.getElem?_eq_getElem hvb)
        have eb := sG3 _ _ ebH
        rw [List.length_append, List.length_singleton] at hnsl
        refine ⟨_, rfl, k.p, C, dx3, _, _, rfl, eo3, T.cl, T.nB, hF_b _ _ _, _, rfl, k.ab, _, _, _, rfl, rfl, SqL.of hA3.b, atI_nat (by rw [List.getElem?_map, List.getElem?_eq_getElem hvb]; rfl), _, rfl, ⟨_, SqL.of eb⟩, ?_⟩
        have hnv : (nV ns).length = ns.length := List.length_map _
        refine for_list (K := K) (a := k.bl[x]) (xs := nV ns) (fun i σ G => ∃ (fa : Nat → Option Int) (ca : Nat → Option Nat) (q : List (Int × Nat)) (y5 y11 y12 y13 y14 : Option V), σ = [some (.ref k.p), some (.int (old.length : Nat)), some (.int (first : Nat)), some (.int (second : Nat)), some (.int most), y5, some (.ref fd), some (.ref cd), some (.ref aq), some (.ref dd), some (.int (x : Nat)), y11, y12, y13, y14, none] ∧ LoL H G (hsF hs) fd cd aq dd fa ca (dn ++ [x]) q (1 + dn.length * (old.length + 1) + i) ∧ Dj old n old.length first second most (hsF hs) fa ca (dn ++ [x]) q ∧ RelD old (hsF hs) fa (fun e => (∃ u v c, old[e]? = some (u, v, c) ∧ v ∈ dn) ∨ e ∈ ns.take i) ∧ fa x = some fl ∧ (∀ y, y ∈ dn ++ [x] → ∀ g, fa y = some g → g ≤ fl) ∧ q.length ≤ q'.length + i)
          ⟨fa, ca, q', _, _, _, _, _, rfl, ⟨sG3, ⟨kf, b3 _ _ hL.fd_ ef2, hkf, hfl⟩, ⟨kc, b3 _ _ hL.cd_ ec2, hkc, hcl⟩, hq2.but b3 ed2 (fun _ h => nomatch h) (Ne.symm hL.qd), by have := L.ql; omega, ed3⟩, D2, fun e he => R e (he.elim id (fun h => by rw [List.take_zero] at h; exact absurd h List.not_mem_nil)), hfx, hmax, Nat.le_refl _⟩ (fun i σ G _ hP => ?_) (fun i z σ G hz hP => ?_) (fun σ G hP => ?_)
        · obtain ⟨_, _, _, _, _, _, _, _, _, L4, _⟩ := hP
          exact SqL.of (L4.sG _ _ ebH)
        · obtain ⟨fa, ca, q, y5, y11, y12, y13, y14, rfl, L4, D4, R4, hfx4, hmax4, hq4l⟩ := hP
          clear hput hkf hkc ef ec ef2 ec2 ed2 ed3 b3 hq2 hmax hfx D D2 R L pm mn bt et
          have hil : i < ns.length := by
            have := (List.getElem?_eq_some_iff.mp hz).1
            omega
          obtain ⟨c0, rfl, hci⟩ : ∃ c0 : Nat, z = .int (c0 : Nat) ∧ ns[i] = c0 := by
            refine ⟨ns[i], ?_, rfl⟩
            unfold nV at hz
            rw [List.getElem?_map, List.getElem?_eq_getElem hil] at hz
            cases hz
            rfl
          obtain ⟨u, c, hdc⟩ := (hns c0).mp (by rw [← hci]; exact List.getElem_mem hil)
          have hco : old[c0]? = some (u, x, c) := by
            by_cases hlt : c0 < old.length
            · rw [List.getElem?_append_left hlt] at hdc
              exact hdc
            · rw [List.getElem?_append_right (by omega)] at hdc
              obtain ⟨hl2, hd2⟩ := List.getElem?_eq_some_iff.mp hdc
              rw [List.length_singleton] at hl2
              have hd3 : (first, second, most) = (u, x, c) := by
                rw [← hd2]
                simp
              injection hd3 with _ hd4
              injection hd4 with hd5 _
              exact absurd hd5.symm hxs
          have hun : u < n := (ho.rng _ (List.mem_of_getElem? hco)).1
          have hA4 := ha.same L4.sG
          obtain ⟨dx4, eo4⟩ := hA4.ob
          obtain ⟨xd4, t4, g4, g5, g6⟩ := hA4.get hdc
          obtain ⟨kf, ef, hkf, hfl⟩ := L4.f
          obtain ⟨kc, ec, hkc, hcl⟩ := L4.c
          have ed := L4.d
          have hvx : x ∈ dn ++ [x] := List.mem_append_right _ List.mem_cons_self
          have hget : DGet G dd (V.int ((x : Nat) : Int)) (some (.int (hsF hs x + fl))) := by
            have := DGet.k (k := Sum.inl ((x : Nat) : Int)) ed
            rw [dnK_val, if_pos hvx, faD_some hfx4] at this
            exact this
          refine ⟨_, rfl, k.p, C, dx4, _, _, rfl, eo4, T.cl, T.nD, hF_d _ _ _, _, rfl, k.ad, _, _, _, rfl, rfl, SqL.of g4, atI_nat g5, t4, _, rfl, g6, rfl, _, _, rfl, _, _, rfl, _, _, rfl, rfl, ?_⟩
          refine ⟨_, rfl, _, rfl, dd, _, rfl, hget, _, rfl, _, _, rfl, rfl, _, rfl, k.p, C, dx4, _, _, rfl, eo4, T.cl, T.nH, hF_h _ _ _, _, rfl, k.ah, _, _, _, rfl, rfl, SqL.of hA4.h, hs_at ho.len hun, _, _, rfl, rfl, ?_⟩
          have hz2 : hsF hs x + fl + c - hsF hs u = fl + (c + hsF hs x - hsF hs u) := by omega
          dsimp only
          rw [hz2]
          have hgd : (valV kf (.inl ((u : Nat) : Int))).getD (.int 0) = .int (faD fa u) := by
            rw [hkf u]
            unfold faD
            cases fa u <;> rfl
          refine ⟨_, rfl, _, rfl, fd, rfl, .inl ⟨kf, .inl ef⟩, _, rfl, _, DGet.k (k := Sum.inl ((u : Nat) : Int)) ef, _, _, rfl, hgd, _, rfl, ite2 (fun e5 => ?_) (fun e5 => ?_)⟩
          · have hlt := of_decide_eq_true e5
            have hnew := dj_new D4 ho.top.fe hco hvx hfx4 hmax4 hlt
            have hux : x ≠ u := fun h => hnew.1 (h ▸ hvx)
            -- falls, causes
            refine ⟨_, rfl, _, rfl, _, rfl, fd, _, rfl, DPut.k (k := Sum.inl ((u : Nat) : Int)) ef (small_sz5 (by omega)), ?_⟩
            have b5 := but_upd2 (H := G) (p := fd) (o := .dK (putK kf (.inl ((u : Nat) : Int)) (.int (fl + (c + hsF hs x - hsF hs u)))))
            have ef5 : upd G fd (.dK (putK kf (.inl ((u : Nat) : Int)) (.int (fl + (c + hsF hs x - hsF hs u))))) fd = some (.dK (putK kf (.inl ((u : Nat) : Int)) (.int (fl + (c + hsF hs x - hsF hs u))))) := upd_same
            generalize upd G fd _ = G5 at b5 ef5
            have ec5 := b5 _ _ (Ne.symm hL.fc) ec
            refine ⟨_, rfl, _, rfl, _, rfl, cd, _, rfl, DPut.k (k := Sum.inl ((u : Nat) : Int)) ec5 (small_sz5 (by omega)), ?_⟩
            have b6 := but_upd2 (H := G5) (p := cd) (o := .dK (putK kc (.inl ((u : Nat) : Int)) (.int (c0 : Nat))))
            have ec6 : upd G5 cd (.dK (putK kc (.inl ((u : Nat) : Int)) (.int (c0 : Nat)))) cd = some (.dK (putK kc (.inl ((u : Nat) : Int)) (.int (c0 : Nat)))) := upd_same
            generalize upd G5 cd _ = G6 at b6 ec6
            have sG6 : Same H G6 := fun b o h1 => b6 _ _ (ne_of_none h1 hL.nc) (b5 _ _ (ne_of_none h1 hL.nf) (L4.sG _ _ h1))
            have ef6 := b6 _ _ hL.fc ef5
            have ed6 := b6 _ _ (Ne.symm hL.cd_) (b5 _ _ (Ne.symm hL.fd_) ed)
            have hq6 : QAt G6 aq q := (L4.qa.but b5 ef (fun _ h => nomatch h) hL.fq).but b6 ec5 (fun _ h => nomatch h) hL.cq
            have kf6 := kvf_put hkf u (fl + (c + hsF hs x - hsF hs u))
            have kc6 := kvc_put hkc u c0
            refine ⟨_, rfl, _, rfl, rfl, _, rfl, ite2 (fun e6 => ?_) (fun e6 => ?_)⟩
            · have hus : u = second := by
                have := of_decide_eq_true e6
                injection this with this
                omega
              obtain ⟨j, hj, ej⟩ := List.getElem_of_mem hvx
              obtain ⟨m1, hm1, ch⟩ := dj_chn D4 (ds := old ++ [(first, second, most)]) (kc := putK kc (.inl ((u : Nat) : Int)) (.int (c0 : Nat))) (fun e d h1 => by rw [List.getElem?_append_left (List.getElem?_eq_some_iff.mp h1).1]; exact h1) (fun y e h1 h2 => by
                have hyu : y ≠ u := fun h => hnew.1 (h ▸ h1)
                rw [kc6 y, fput_ne hyu, h2]
                rfl) j j x fl (Nat.le_refl _) (by rw [List.getElem?_eq_getElem hj, ej]) hfx4
              rw [List.length_append, List.length_singleton] at hj
              have hA6 := ha.same sG6
              obtain ⟨dx6, eo6⟩ := hA6.ob
              have hcs : Chn (old ++ [(first, second, most)]) (putK kc (.inl ((u : Nat) : Int)) (.int (c0 : Nat))) first second (fl + hsF hs x - (hsF hs second + most) + c) (m1 + 1) := by
                refine .step (fun h => hfs h.symm) ?_ (hus ▸ hdc) ch
                rw [kc6 second, ← hus, fput_same]
                rfl
              refine ⟨_, rfl, k.p, dx6, _, rfl, eo6, hF_no _ _ _ (by decide +kernel), _, rfl, _, rfl, k, cd, old.length, first, second, m1 + 1, most, _, old ++ [(first, second, most)], hs, _, rfl, hA6, hN, ec6, hcs, by omega, fun Rr es H' sR nR eR w hne => ?_⟩
              refine qr Rr es _ H' (sG6.trans sR) (sG6.free nR) eR w ?_ hne
              rw [← hus]
              omega
            · have hus : u ≠ second := fun h => e6 (decide_eq_true (by rw [h]))
              refine ⟨_, rfl, _, rfl, _, rfl, by show 2 ≤ sizeLine; decide, fun tn ntn => qPush hq6 (small_sz5 (by have := L4.ql; omega)) ntn (fun G7 b7 hq7 => ?_)⟩
              have m7 : ∀ b o, b ≠ aq → G6 b = some o → G7 b = some o := fun b o h1 h2 => b7 _ _ h1 (by rw [upd_ne (ne_of_none h2 ntn)]; exact h2)
              refine ⟨fput fa u (fl + (c + hsF hs x - hsF hs u)), fput ca u c0, (fl + (c + hsF hs x - hsF hs u), u) :: q, _, _, _, _, _, rfl, ⟨fun b o h1 => m7 _ _ (ne_of_none h1 hL.nq) (sG6 _ _ h1), ⟨_, m7 _ _ hL.fq ef6, kf6, Nat.le_trans (length_putK _ _ _) (by omega)⟩, ⟨_, m7 _ _ hL.cq ec6, kc6, Nat.le_trans (length_putK _ _ _) (by omega)⟩, hq7, by rw [List.length_cons]; have := L4.ql; omega, by rw [dnK_fput hnew.1]; exact m7 _ _ (Ne.symm hL.qd) ed6⟩, dj_put D4 ho.top.fe hco hun hvx hfx4 hmax4 hlt hus hfd2 (List.Perm.refl _), ?_, (fput_ne hux).trans hfx4, fun y hy g hg => ?_, by rw [List.length_cons]; omega⟩
              · have R5 := rel_put R4 hco hfx4 hux (fun z u2 c2 hz3 h1 => by
                  rcases hz3 with ⟨u3, v3, c3, h2, h3⟩ | h2
                  · rw [h1] at h2
                    cases h2
                    exact hnew.1 (List.mem_append_left _ h3)
                  · obtain ⟨u3, c3, h3⟩ := (hns z).mp (List.mem_of_mem_take h2)
                    rw [List.getElem?_append_left (List.getElem?_eq_some_iff.mp h1).1, h1] at h3
                    cases h3
                    exact hux rfl) hlt
                intro z hz3
                rw [List.take_succ_eq_append_getElem hil, hci] at hz3
                exact R5 z (hz3.elim (fun h => .inl (.inl h)) fun h => (List.mem_append.mp h).elim (fun h => .inl (.inr h)) fun h => .inr (List.mem_singleton.mp h))
              · have hyu : y ≠ u := fun h => hnew.1 (h ▸ hy)
                rw [fput_ne hyu] at hg
                exact hmax4 y hy g hg
          · have R5 := rel_keep R4 hco hfx4 (fun h => e5 (decide_eq_true h))
            refine ⟨fa, ca, q, _, _, _, _, _, rfl, ⟨L4.sG, ⟨kf, ef, hkf, by omega⟩, ⟨kc, ec, hkc, by omega⟩, L4.qa, by have := L4.ql; omega, ed⟩, D4, ?_, hfx4, hmax4, by omega⟩
            intro z hz3
            rw [List.take_succ_eq_append_getElem hil, hci] at hz3
            exact R5 z (hz3.elim (fun h => .inl (.inl h)) fun h => (List.mem_append.mp h).elim (fun h => .inl (.inr h)) fun h => .inr (List.mem_singleton.mp h))
        · obtain ⟨fa, ca, q, y5, y11, y12, y13, y14, rfl, L4, D4, R4, hfx4, hmax4, hq4l⟩ := hP
          rw [hnv] at L4 R4 hq4l
          rw [List.take_length] at R4
          have hb9 : 1 + dn.length * (old.length + 1) + ns.length ≤ 1 + (dn ++ [x]).length * (old.length + 1) := by
            rw [List.length_append, List.length_singleton, Nat.succ_mul]
            omega
          refine ⟨_, ?_, fa, ca, dn ++ [x], q, _, _, _, _, _, _, rfl, ⟨L4.sG, ?_, ?_, L4.qa, Nat.le_trans L4.ql hb9, L4.d⟩, D4, fun e he => ?_, .inl hfd2, rfl⟩
          · rw [hm, hql, List.length_append, List.length_singleton, show n - dn.length = (n - (dn.length + 1)) + 1 by omega, Nat.succ_mul]
            omega
          · obtain ⟨kf, h1, h2, h3⟩ := L4.f
            exact ⟨kf, h1, h2, Nat.le_trans h3 hb9⟩
          · obtain ⟨kc, h1, h2, h3⟩ := L4.c
            exact ⟨kc, h1, h2, Nat.le_trans h3 hb9⟩
          · obtain ⟨u, v, c, h1, h2⟩ := he
            refine R4 e ?_
            rcases List.mem_append.mp h2 with h2 | h2
            · exact .inl ⟨u, v, c, h1, h2⟩
            · rw [List.mem_singleton.mp h2] at h1
              exact .inr ((hns e).mpr ⟨u, c, by rw [List.getElem?_append_left (List.getElem?_eq_some_iff.mp h1).1]; exact h1⟩)
    · have hq0 : q = [] := by
        have : xs = [] := by
          cases xs with
          | nil => rfl
          | cons _ _ => exact absurd rfl ee
        rw [this] at hxl
        exact List.length_eq_zero_iff.mp hxl.symm
      subst hq0
      clear hxl ee ex hb0 hm
      have key : ∀ u, ¬ u ∈ dn → faD fa u = 0 := fun u hu => by
        cases e1 : fa u with
        | none => exact faD_none e1
        | some g =>
          rcases D.inq u g e1 with h1 | h1
          · exact absurd h1 hu
          · cases h1
      have rngd : ∀ u, u ∈ dn → u < n := fun u hu => by
        obtain ⟨g, hg⟩ := D.dnf u hu
        exact D.rng u g hg
      have hE := dj_end D ho.top R
      refine ⟨dd, _, L.d, trivial, fun od => ?_⟩
      have bL := but_upd2 (H := G) (p := dd) (o := .frz od (.dK (dnK (hsF hs) fa dn)))
      have eL : upd G dd (.frz od (.dK (dnK (hsF hs) fa dn))) dd = some (.frz od (.dK (dnK (hsF hs) fa dn))) := upd_same
      generalize upd G dd (.frz od _) = G1 at bL eL
      have sG1 : Same H G1 := fun b o h1 => bL _ _ (ne_of_none h1 hL.nd) (L.sG _ _ h1)
      refine ⟨_, rfl, dd, od, _, rfl, eL, ?_⟩
      refine for_it walk_items (fun i σ G2 => (∃ y5 y10 y11 y12 y13 y14 y15 : Option V, σ = [some (.ref k.p), some (.int (old.length : Nat)), some (.int (first : Nat)), some (.int (second : Nat)), some (.int most), y5, some (.ref fd), some (.ref cd), some (.ref aq), some (.ref dd), y10, y11, y12, y13, y14, y15]) ∧ Chg [k.ah] G1 G2 ∧ ∃ hs2 : List Int, G2 k.ah = some (.lst (hs2.map V.int)) ∧ hs2.length = n ∧ ∀ u, hsF hs2 u = if u ∈ dn.take i then hsF hs u + faD fa u else hsF hs u)
        ⟨⟨_, _, _, _, _, _, _, rfl⟩, fun _ _ _ h => h, hs, sG1 _ _ ha.h, ho.len, fun u => by rw [List.take_zero, if_neg List.not_mem_nil]⟩ (fun i σ G2 _ hP => ?_) (fun i z σ G2 G3 hi hP y => ?_) (fun σ G2 hP => ?_)
      · exact hP.2.1 _ _ (fun h => by
          have h2 := List.mem_singleton.mp h
          have := ha.h
          rw [← h2, hL.nd] at this
          cases this) eL
      · obtain ⟨⟨y5, y10, y11, y12, y13, y14, y15, rfl⟩, g, hs2, eh, hl2, hv⟩ := hP
        obtain ⟨Tt, a, b, rfl, nT, rfl, ya, yb⟩ := y
        have hid : i < dn.length := by
          rw [dnK_len] at hi
          exact hi
        have hdi : (dnK (hsF hs) fa dn)[i]? = some (.inl ((dn[i] : Nat) : Int), .int (hsF hs dn[i] + faD fa dn[i])) := by
          unfold dnK
          rw [List.getElem?_map, List.getElem?_eq_getElem hid]
          rfl
        dsimp only at ya yb
        rw [hdi] at ya yb
        cases ya
        cases yb
        have s3 := same_new (o := .tup [kV (.inl ((dn[i] : Nat) : Int)), .int (hsF hs dn[i] + faD fa dn[i])]) nT
        have e3 : upd G2 Tt (.tup [kV (.inl ((dn[i] : Nat) : Int)), .int (hsF hs dn[i] + faD fa dn[i])]) Tt = some (.tup [.int ((dn[i] : Nat) : Int), .int (hsF hs dn[i] + faD fa dn[i])]) := upd_same
        generalize upd G2 Tt _ = G3 at s3 e3
        obtain ⟨dxz, eo⟩ := ha.ob
        have nd := ha.nd
        unfold Hk.own at nd
        simp only [List.nodup_cons, List.mem_cons, not_or] at nd
        have eo3 := s3 _ _ (g _ _ (fun h => nd.1.2.1 (List.mem_singleton.mp h)) (sG1 _ _ eo))
        have eh3 := s3 _ _ eh
        have hdn3 := rngd _ (List.getElem_mem hid)
        refine ⟨Tt, _, rfl, SqT.of e3, rfl, _, _, rfl, _, _, rfl, rfl, ?_⟩
        refine ⟨_, rfl, _, rfl, k.p, C, dxz, _, _, rfl, eo3, T.cl, T.nH, hF_h _ _ _, _, rfl, k.ah, _, _, dn[i], rfl, rfl, eh3, by rw [List.length_map, hl2]; exact ixN_nat hdn3, ?_⟩
        have b4 := but_upd2 (H := G3) (p := k.ah) (o := .lst ((hs2.map V.int).set dn[i] (.int (hsF hs dn[i] + faD fa dn[i]))))
        have e4 : upd G3 k.ah (.lst ((hs2.map V.int).set dn[i] (.int (hsF hs dn[i] + faD fa dn[i])))) k.ah = some (.lst ((hs2.set dn[i] (hsF hs dn[i] + faD fa dn[i])).map V.int)) := by
          rw [upd_same, List.map_set]
        generalize upd G3 k.ah _ = G4 at b4 e4
        refine ⟨⟨_, _, _, _, _, _, _, rfl⟩, fun b o h1 h2 => b4 _ _ (fun h => h1 (List.mem_singleton.mpr h)) (s3 _ _ (g _ _ h1 h2)), _, e4, by rw [List.length_set]; exact hl2, fun u => ?_⟩
        rw [List.take_succ_eq_append_getElem hid]
        have hnot : ¬ dn[i] ∈ dn.take i := fun h => by
          have h1 := D.nd
          rw [← List.take_append_drop i dn, List.nodup_append] at h1
          exact h1.2.2 _ h _ (by rw [List.drop_eq_getElem_cons hid]; exact List.mem_cons_self) rfl
        by_cases hu : u = dn[i]
        · rw [if_pos (List.mem_append_right _ (by rw [hu]; exact List.mem_cons_self)), hu]
          unfold hsF
          rw [List.getD_eq_getElem?_getD, List.getElem?_set_self (by omega)]
          rfl
        · have h2 : hsF (hs2.set dn[i] (hsF hs dn[i] + faD fa dn[i])) u = hsF hs2 u := by
            unfold hsF
            rw [List.getD_eq_getElem?_getD, List.getElem?_set_ne (Ne.symm hu), List.getD_eq_getElem?_getD]
          rw [h2, hv u]
          by_cases hm : u ∈ dn.take i
          · rw [if_pos hm, if_pos (List.mem_append_left _ hm)]
          · rw [if_neg hm, if_neg (fun h => (List.mem_append.mp h).elim hm fun h => hu (List.mem_singleton.mp h))]
      · obtain ⟨⟨y5, y10, y11, y12, y13, y14, y15, rfl⟩, g, hs2, eh, hl2, hv⟩ := hP
        rw [dnK_len, List.take_length] at hv
        have hah : k.ah ≠ dd := fun h => by
          have := ha.h
          rw [h, hL.nd] at this
          cases this
        refine ⟨g _ _ (fun h => hah (List.mem_singleton.mp h).symm) eL, ?_⟩
        have hfin : hsF hs2 = fun u => hsF hs u + faD fa u := by
          funext u
          rw [hv u]
          by_cases hu : u ∈ dn
          · rw [if_pos hu]
          · rw [if_neg hu, key u hu, Int.add_zero]
        have chg : Chg [k.ah] H (upd G2 dd (.dK (dnK (hsF hs) fa dn))) := fun b o h1 h2 => by
          rw [upd_ne (ne_of_none h2 hL.nd)]
          exact g _ _ h1 (sG1 _ _ h2)
        refine qn hs2 _ chg (ha.setH chg ((upd_ne hah).trans eh) (hl2.trans ho.len.symm)) hl2 ?_
        rw [hfin]
        exact hE
end
end SW

set_option maxHeartbeats 8000000
namespace SW
open PySem PySem.Spec PyProof.Rows L2
def spTie (K : PySem.W.Frag) (C : Addr) : Sp := fun vs H Q _ => ∃ (k : Hk) (t : Addr) (n first second : Nat) (most : Int) (ds : List D3) (hs : List Int), vs = [.ref k.p, .ref t] ∧ HAt K C H k ds hs ∧ SqT K H t [.int (first : Nat), .int (second : Nat), .int most] ∧ HOk n ds hs ∧ ds.length < 100 ∧ first < n ∧ second < n ∧
  (∀ hs' H', Chg k.own H H' → HAt K C H' k (ds ++ [(first, second, most)]) hs' → hs'.length = n → TopH (ds ++ [(first, second, most)]) (hsF hs') → Q .non H') ∧
  ∀ R es z H', Chg k.own H H' → (∀ c, c ∈ k.own → H' c ≠ none) → H R = none → H' R = some (.tup (nV es)) → Wk3 (ds ++ [(first, second, most)]) first first es z → z < 0 → (es ≠ [] ∧ es.length ≤ 1001) → Q (.ref R) H'
theorem blw_keep {H G : Hp} {ds : List D3} {d : D3} {v : Nat} {b : Addr} (h : Blw H ds v b) (hv : d.2.1 ≠ v) (m : ∀ o, H b = some o → G b = some o) : Blw G (ds ++ [d]) v b := by
  obtain ⟨ns, h1, h2, h3⟩ := h
  refine ⟨ns, m _ h1, fun e => ⟨fun he => ?_, fun ⟨u, c, he⟩ => ?_⟩, by rw [List.length_append]; omega⟩
  · obtain ⟨u, c, he⟩ := (h2 e).mp he
    exact ⟨u, c, by rw [List.getElem?_append_left (List.getElem?_eq_some_iff.mp he).1]; exact he⟩
  · refine (h2 e).mpr ⟨u, c, ?_⟩
    by_cases hlt : e < ds.length
    · rw [List.getElem?_append_left hlt] at he
      exact he
    · rw [List.getElem?_append_right (by omega)] at he
      obtain ⟨hl2, hd2⟩ := List.getElem?_eq_some_iff.mp he
      rw [List.length_singleton] at hl2
      have hd3 : d = (u, v, c) := by
        rw [← hd2]
        simp
      rw [hd3] at hv
      exact absurd rfl hv
theorem blw_add {G : Hp} {ds : List D3} {d : D3} {b : Addr} {ns : List Nat} (h2 : ∀ e, e ∈ ns ↔ ∃ u c, ds[e]? = some (u, d.2.1, c)) (h3 : ns.length ≤ ds.length) (h : G b = some (.lst (nV (ns ++ [ds.length])))) : Blw G (ds ++ [d]) d.2.1 b := by
  refine ⟨ns ++ [ds.length], h, fun e => ⟨fun he => ?_, fun ⟨u, c, he⟩ => ?_⟩, by rw [List.length_append, List.length_append]; exact Nat.succ_le_succ h3⟩
  · rcases List.mem_append.mp he with he | he
    · obtain ⟨u, c, he⟩ := (h2 e).mp he
      exact ⟨u, c, by rw [List.getElem?_append_left (List.getElem?_eq_some_iff.mp he).1]; exact he⟩
    · rw [List.mem_singleton.mp he]
      exact ⟨d.1, d.2.2, by rw [List.getElem?_append_right (Nat.le_refl _), Nat.sub_self]; rfl⟩
  · by_cases hlt : e < ds.length
    · rw [List.getElem?_append_left hlt] at he
      exact List.mem_append_left _ ((h2 e).mpr ⟨u, c, he⟩)
    · rw [List.getElem?_append_right (by omega)] at he
      obtain ⟨hl2, _⟩ := List.getElem?_eq_some_iff.mp he
      rw [List.length_singleton] at hl2
      exact List.mem_append_right _ (List.mem_singleton.mpr (by omega))
section
variable {P : Program} {w : World} {K : PySem.W.Frag} {mg : PySem.Str → Option Value} {base : Heap} {C : Addr}
theorem ok_tie {f fL : Addr} {fd fdL : FuncData} (F : Fun K "tie" "Heights.tie" s_Heights_tie f fd) (T : TxH K mg C) (m__lower : Meth K C "_lower" fL) (G__lower : FnOk P w K mg base CX0 2 fL fdL ["self", "number"] (spLower K C)) (b__lower : Binds K fdL ["self", "number"] []) : FnOk P w K mg base CX0 3 f fd ["self", "difference"] (spTie K C) := by
  refine F.ok sc_Heights_tie (fun vs H Q E h => ?_) (fun cdv A outer s H vs Q E hr h => ?_)
  · obtain ⟨k, t, n, first, second, most, ds, hs, rfl, _⟩ := h
    rfl
  · obtain ⟨k, t, n, first, second, most, ds, hs, rfl, ha, ht, ho, hdl, hf1, hs1, qn, qr⟩ := h
    refine ⟨_, (pss_cons (ps_set (i := 2) sc_Heights_tie.nd rfl (.inl rfl) (pe_callB call_len_seq (by rfl) T.n_len PySem.boot_len (pa_cons (pe_fld (pv 0) rfl) pa_nil)))
    (pss_cons (ps_asg (pv 1) (pg_tup (by rfl) (pgs_cons (pg_name (i := 3) sc_Heights_tie.nd rfl (.inl rfl)) (pgs_cons (pg_name (i := 4) sc_Heights_tie.nd rfl (.inl rfl)) (pgs_cons (pg_name (i := 5) sc_Heights_tie.nd rfl (.inl rfl)) pgs_nil)))))
    (pss_cons (ps_expr (pe_bm PySem.F.plainAttrs_list PySem.F.slot_list_append PySem.F.type_list_append mt_append (pe_fld (pv 0) rfl) (pa_cons (pv 1) pa_nil)))
    (pss_cons (ps_expr (pe_bm PySem.F.plainAttrs_list PySem.F.slot_list_append PySem.F.type_list_append mt_append (pe_ix ix_list (pe_fld (pv 0) rfl) (pv 4) (fun _ _ => rfl)) (pa_cons (pv 2) pa_nil)))
    (pss_cons (ps_if (pt_cmpR op_le (pe_op op_sub (pe_ix ix_list (pe_fld (pv 0) rfl) (pv 3) (fun _ _ => rfl)) (pe_ix ix_list (pe_fld (pv 0) rfl) (pv 4) (fun _ _ => rfl))) (pv 5) (nomark _))
    (pss_one (ps_ret pe_non))
    pss_nil)
    (pss_cons (ps_if (pt_cmpR op_eq (pv 3) (pv 4) (nomark _))
    (pss_one (ps_ret (pe_tup (pa_cons (pv 2) pa_nil))))
    pss_nil)
    (pss_one (ps_ret (pe_meth (pv 0) T.cl m__lower G__lower (hr.mono (by decide)) b__lower .nil pass0 (pa_cons (pv 2) pa_nil)))))))))), ?_⟩
    obtain ⟨dx, e⟩ := ha.ob
    obtain ⟨xd, g1, g2⟩ := ha.d
    have hxl : xd.length = ds.length := by rw [dpa_len g2, List.length_map]
    have nd := ha.nd
    unfold Hk.own at nd
    simp only [List.nodup_cons, List.mem_cons, not_or] at nd
    obtain ⟨⟨n1, n2, n3, n4⟩, ⟨n5, n6, n7⟩, ⟨n8, n9⟩, n10, n11⟩ := nd
    refine ⟨_, rfl, k.p, C, dx, _, _, rfl, e, T.cl, T.nD, hF_d _ _ _, k.ad, _, rfl, .inl (SqL.of g1), ?_⟩
    refine ⟨_, rfl, t, _, rfl, ht, rfl, _, _, rfl, _, _, rfl, _, _, rfl, rfl, ?_⟩
    refine ⟨_, rfl, k.p, C, dx, _, _, rfl, e, T.cl, T.nD, hF_d _ _ _, .inl ⟨rfl, _, SqL.of g1⟩, _, rfl, k.ad, _, _, rfl, rfl, g1, by rw [hxl]; exact small_sz5 (by omega), ?_⟩
    have b1 := but_upd2 (H := H) (p := k.ad) (o := .lst (xd ++ [.ref t]))
    have f1 : upd H k.ad (.lst (xd ++ [.ref t])) k.ad = some (.lst (xd ++ [.ref t])) := upd_same
    generalize upd H k.ad (.lst (xd ++ [.ref t])) = G1 at b1 f1
    have hvb : second < k.bl.length := by
      rw [ha.bl, ho.len]
      exact hs1
    obtain ⟨ns, eb, hns, hnsl⟩ := ha.bs second _ (List.getElem?_eq_getElem hvb)
    have hbm : k.bl[second] ∈ k.bl := List.getElem_mem hvb
    have e1 := b1 _ _ n1 e
    have eab := b1 _ _ (Ne.symm n6) ha.b
    have eb1 := b1 _ _ (fun h => n7 (h ▸ hbm)) eb
    have hnv : (nV ns).length = ns.length := List.length_map _
    have hat : atI (k.bl.map V.ref) ((second : Nat) : Int) = some (.ref k.bl[second]) := atI_nat (by rw [List.getElem?_map, List.getElem?_eq_getElem hvb]; rfl)
    refine ⟨_, rfl, k.p, C, dx, _, _, rfl, e1, T.cl, T.nB, hF_b _ _ _, _, rfl, k.ab, _, _, _, rfl, rfl, SqL.of eab, hat, .inl ⟨rfl, _, SqL.of eb1⟩, _, rfl, k.bl[second], _, _, rfl, rfl, eb1, by rw [hnv]; exact small_sz5 (by omega), ?_⟩
    have b2 := but_upd2 (H := G1) (p := k.bl[second]) (o := .lst (nV ns ++ [.int (xd.length : Nat)]))
    have f2 : upd G1 k.bl[second] (.lst (nV ns ++ [.int (xd.length : Nat)])) k.bl[second] = some (.lst (nV (ns ++ [ds.length]))) := by
      rw [upd_same, hxl]
      unfold nV
      rw [List.map_append]
      rfl
    generalize upd G1 k.bl[second] _ = G2 at b2 f2
    have mv : ∀ b o, b ≠ k.ad → b ≠ k.bl[second] → H b = some o → G2 b = some o := fun b o h1 h2 h3 => b2 _ _ h2 (b1 _ _ h1 h3)
    have chg : Chg [k.ad, k.bl[second]] H G2 := fun b o hb h => by
      simp only [List.mem_cons, List.not_mem_nil, or_false, not_or] at hb
      exact mv b o hb.1 hb.2 h
    have nt : ∀ c, c ∈ ([k.ad, k.bl[second]] : List Addr) → NT H c := fun c hc => by
      simp only [List.mem_cons, List.not_mem_nil, or_false] at hc
      rcases hc with rfl | rfl
      · exact NT.lst g1
      · exact NT.lst eb
    have ne : ∀ b, b ∉ k.bl → b ≠ k.bl[second] := fun b h1 h2 => h1 (h2 ▸ hbm)
    have hA : HAt K C G2 k (ds ++ [(first, second, most)]) hs := by
      refine ⟨⟨dx, mv _ _ n1 (ne _ n4) e⟩, ⟨_, b2 _ _ (ne _ n7) f1, ?_⟩, mv _ _ (Ne.symm n5) (ne _ n9) ha.h, mv _ _ (Ne.symm n6) (ne _ n10) ha.b, fun v b hv => ?_, ha.nd, ha.bl⟩
      · rw [List.map_append]
        exact dpa_snoc (chg_dpa nt chg _ _ (noLs_d3 _) g2) (.tup (chg_sqt nt chg ht) (.cons (.int _) (.cons (.int _) (.cons (.int _) .nil))))
      · by_cases hvs : second = v
        · subst hvs
          have hbe : k.bl[second] = b := by
            rw [List.getElem?_eq_getElem hvb] at hv
            exact Option.some.inj hv
          subst hbe
          exact blw_add (d := (first, second, most)) hns hnsl f2
        · have hvl := (List.getElem?_eq_some_iff.mp hv)
          obtain ⟨hvl, hve⟩ := hvl
          have hbn : b ≠ k.bl[second] := fun h => by
            rw [← hve] at h
            have h9 := List.pairwise_iff_getElem.mp n11
            rcases Nat.lt_trichotomy v second with h8 | h8 | h8
            · exact h9 v second hvl hvb h8 h
            · exact hvs h8.symm
            · exact h9 second v hvb hvl h8 h.symm
          exact blw_keep (d := (first, second, most)) (ha.bs v b hv) hvs fun o ho => mv _ _ (fun h => n7 (h ▸ List.mem_of_getElem? hv)) hbn ho
    have chgO : Chg k.own H G2 := chg.sub fun x hx => by
      simp only [List.mem_cons, List.not_mem_nil, or_false] at hx
      unfold Hk.own
      rcases hx with rfl | rfl
      · simp
      · simp [hbm]
    have hN : (ds ++ [(first, second, most)])[ds.length]? = some (first, second, most) := by
      rw [List.getElem?_append_right (Nat.le_refl _), Nat.sub_self]
      rfl
    clear b1 b2 f1 f2 mv chg nt ne eb eb1 eab e1
    obtain ⟨dx2, e2⟩ := hA.ob
    refine ⟨_, rfl, k.p, C, dx2, _, _, rfl, e2, T.cl, T.nH, hF_h _ _ _, _, rfl, k.ah, _, _, _, rfl, rfl, SqL.of hA.h, hs_at ho.len hf1, ?_⟩
    refine ⟨_, rfl, k.p, C, dx2, _, _, rfl, e2, T.cl, T.nH, hF_h _ _ _, _, rfl, k.ah, _, _, _, rfl, rfl, SqL.of hA.h, hs_at ho.len hs1, _, _, rfl, rfl, _, rfl, _, _, rfl, rfl, _, rfl, ite2 (fun e3 => ?_) (fun e3 => ?_)⟩
    · exact qn hs G2 chgO hA ho.len (top_more ho.top (of_decide_eq_true e3))
    · have h3 : most < hsF hs first - hsF hs second := Int.not_le.mp fun h => e3 (decide_eq_true h)
      refine ⟨_, rfl, _, rfl, rfl, _, rfl, ite2 (fun e4 => ?_) (fun e4 => ?_)⟩
      · have h4 : first = second := by
          have := of_decide_eq_true e4
          injection this with this
          omega
        subst h4
        refine ⟨_, rfl, by show 1 ≤ sizeLine; decide, fun R nR => ?_⟩
        generalize hG3 : upd G2 R _ = G3
        obtain ⟨s3, e5⟩ := new_of nR hG3
        have nRH : H R = none := by
          by_cases hR : R ∈ k.own
          · exact absurd nR (hA.had hR)
          · cases h : H R with
            | none => rfl
            | some o =>
              rw [chgO _ _ hR h] at nR
              cases nR
        refine qr R [ds.length] most G3 (chgO.trans (chg_of s3)) (fun c hc => (hA.same s3).had hc) nRH (by rw [e5, hxl]; rfl) ?_ (by omega) ⟨by simp, by simp⟩
        have := Wk3.snoc (.nil (ds := ds ++ [(first, first, most)]) (a := first)) hN
        rw [Int.zero_add] at this
        exact this
      · have h4 : first ≠ second := fun h => e4 (decide_eq_true (by rw [h]))
        rw [hxl]
        refine ⟨_, rfl, k.p, dx2, _, rfl, e2, hF_no _ _ _ (by decide +kernel), _, rfl, k, n, first, second, most, ds, hs, rfl, hA, ho, hdl, hf1, hs1, h4, h3, fun hs' H' g hB hl ht2 => ?_, fun R es z H' s3 nR eR wk hz hne => ?_⟩
        · exact qn hs' H' (chgO.trans (g.sub fun x hx => by rw [List.mem_singleton.mp hx]; simp [Hk.own])) hB hl ht2
        · have nRH : H R = none := by
            by_cases hR : R ∈ k.own
            · exact absurd nR (hA.had hR)
            · cases h : H R with
              | none => rfl
              | some o =>
                rw [chgO _ _ hR h] at nR
                cases nR
          exact qr R es z H' (chgO.trans (chg_of s3)) (fun c hc => (hA.same s3).had hc) nRH eR wk hz hne
end
end SW

set_option maxHeartbeats 8000000
namespace SW
open PySem PySem.Spec PyProof.Rows L2
abbrev s_l_is_integer : Stmt := topS 7
theorem sc_l_is_integer : FnScope ["value"] ["value"] (defScope s_l_is_integer) := ⟨rfl, rfl, rfl, by decide +kernel, rfl, by decide +kernel, by decide +kernel⟩

abbrev s_l_weight : Stmt := topS 10
theorem sc_l_weight : FnScope ["draw", "kind", "rest"] ["draw"] (defScope s_l_weight) := ⟨rfl, rfl, rfl, by decide +kernel, rfl, by decide +kernel, by decide +kernel⟩

abbrev s_l_sum : Stmt := topS 8
theorem sc_l_sum : FnScope ["differences", "numbers", "total", "k"] ["differences", "numbers"] (defScope s_l_sum) := ⟨rfl, rfl, rfl, by decide +kernel, rfl, by decide +kernel, by decide +kernel⟩

abbrev s_l_kept : Stmt := topS 9
theorem sc_l_kept : FnScope ["differences", "values", "level", "u", "v", "c"] ["differences", "values"] (defScope s_l_kept) := ⟨rfl, rfl, rfl, by decide +kernel, rfl, by decide +kernel, by decide +kernel⟩

abbrev s_l_is_ring : Stmt := topS 12
theorem sc_l_is_ring : FnScope ["differences", "ring", "number", "total"] ["differences", "ring"] (defScope s_l_is_ring) := ⟨rfl, rfl, rfl, by decide +kernel, rfl, by decide +kernel, by decide +kernel⟩

theorem kit_int {K : PySem.W.Frag} : PySem.W.kitOne K (.type "int") (.type "int") = some true := kit_ty (by decide +kernel)
theorem kit_intb {K : PySem.W.Frag} : PySem.W.kitOne K (.type "int") (.type "bool") = some false := kit_ty (by decide +kernel)
theorem kit_tup {K : PySem.W.Frag} : PySem.W.kitOne K (.type "tuple") (.type "tuple") = some true := kit_ty (by decide +kernel)
theorem kit_lst {K : PySem.W.Frag} : PySem.W.kitOne K (.type "list") (.type "list") = some true := kit_ty (by decide +kernel)
theorem sqt_ty {K : PySem.W.Frag} {H : Hp} {a : Addr} {xs : List V} (h : SqT K H a xs) : TyX K H (.ref a) (.type "tuple") := by
  rcases h with (h | ⟨o, h⟩) | ⟨o, its, n, h1, h2, _⟩
  · exact .base (.tup h)
  · exact .fTuple h
  · exact .kTuple h1 h2
/-! ### walks, index by index -/
theorem wk3_inv {ds : List D3} {a v : Nat} {l : List Nat} {e : Nat} {t : Int} (w : Wk3 ds a v (l ++ [e]) t) : ∃ b s c, Wk3 ds a b l s ∧ ds[e]? = some (b, v, c) ∧ t = s + c := by
  generalize hl : l ++ [e] = l' at w
  cases w with
  | nil => simp at hl
  | @snoc b _ es s e' c w h =>
    obtain ⟨h1, h2⟩ := List.append_inj' hl rfl
    cases h2
    subst h1
    exact ⟨b, s, c, w, h, rfl⟩
theorem wk3_take {ds : List D3} {a b : Nat} {es : List Nat} {t : Int} (w : Wk3 ds a b es t) : ∀ i, i ≤ es.length → ∃ b' t', Wk3 ds a b' (es.take i) t' := by
  induction w with
  | nil => exact fun i hi => ⟨a, 0, by rw [List.take_nil]; exact .nil⟩
  | @snoc b v es s e c w h ih =>
    intro i hi
    by_cases hi2 : i ≤ es.length
    · rw [List.take_append_of_le_length hi2]
      exact ih i hi2
    · rw [List.take_of_length_le (by rw [List.length_append, List.length_singleton] at hi ⊢; omega)]
      exact ⟨v, _, .snoc w h⟩
theorem wk3_uni {ds : List D3} {a b : Nat} {es : List Nat} {t : Int} (w : Wk3 ds a b es t) : ∀ {b' : Nat} {t' : Int}, Wk3 ds a b' es t' → b = b' ∧ t = t' := by
  induction w with
  | nil =>
    intro b' t' w'
    generalize hl : ([] : List Nat) = l at w'
    cases w' with
    | nil => exact ⟨rfl, rfl⟩
    | snoc _ _ => simp at hl
  | @snoc b v es s e c w h ih =>
    intro b' t' w'
    obtain ⟨b2, s2, c2, w2, h2, rfl⟩ := wk3_inv w'
    obtain ⟨rfl, rfl⟩ := ih w2
    rw [h] at h2
    cases h2
    exact ⟨rfl, rfl⟩
section
variable {P : Program} {w : World} {K : PySem.W.Frag} {mg : PySem.Str → Option Value} {base : Heap} {C : Addr}
def spIsInt : Sp := fun vs H Q _ => ∃ z : Int, vs = [.int z] ∧ Q (.bl true) H
theorem ok_l_is_integer (T : TxB mg) (D_l_is_integer : Df K mg "_law_is_integer" s_l_is_integer ["value"]) : FnOk P w K mg base CX0 1 D_l_is_integer.f D_l_is_integer.fd ["value"] spIsInt := by
  refine D_l_is_integer.F.ok sc_l_is_integer (fun vs H Q E h => ?_) (fun cdv A outer s H vs Q E hr h => ?_)
  · obtain ⟨z, rfl, _⟩ := h
    rfl
  · obtain ⟨z, rfl, q⟩ := h
    refine ⟨_, (pss_one (ps_ret (pe_and (pe_callB call_isi (by rfl) T.n_isinstance (by decide +kernel) (pa_cons (pv 0) (pa_cons (pe_bltn (v := .ty "int") (u := .type "int") (by rfl) T.n_int (by decide +kernel) rfl) pa_nil))) (pe_one (pe_not (pe_callB call_isi (by rfl) T.n_isinstance (by decide +kernel) (pa_cons (pv 0) (pa_cons (pe_bltn (v := .ty "bool") (u := .type "bool") (by rfl) T.n_bool (by decide +kernel) rfl) pa_nil)))))))), ?_⟩
    exact ⟨_, rfl, _, _, _, _, true, rfl, .ty "int", .base (.int _), kit_int, _, rfl, iteT ⟨_, rfl, _, _, _, _, false, rfl, .ty "bool", .base (.int _), kit_intb, _, rfl, q⟩⟩
def spWeight : Sp := fun vs H Q _ => ∃ d : Int, vs = [.int d] ∧ ∀ r : Int, Q (.int r) H
theorem ok_l_weight (T : TxB mg) (D_l_weight : Df K mg "_law_weight" s_l_weight ["draw"]) : FnOk P w K mg base CX0 1 D_l_weight.f D_l_weight.fd ["draw"] spWeight := by
  refine D_l_weight.F.ok sc_l_weight (fun vs H Q E h => ?_) (fun cdv A outer s H vs Q E hr h => ?_)
  · obtain ⟨d, rfl, _⟩ := h
    rfl
  · obtain ⟨d, rfl, q⟩ := h
    refine ⟨_, (pss_cons (ps_set (i := 1) sc_l_weight.nd rfl (.inl rfl) (pe_op op_mod (pe_callTy call_int1 (by rfl) T.n_int (by decide +kernel) (pa_cons (pv 0) pa_nil)) pe_int))
    (pss_cons (ps_set (i := 2) sc_l_weight.nd rfl (.inl rfl) (pe_op op_fdivW (pv 0) pe_int))
    (pss_cons (ps_if (pt_cmpR op_eq (pv 1) pe_int (nomark _))
    (pss_one (ps_ret (pe_op op_mul (pe_op op_sub pe_int (pe_op op_mul pe_int (pe_op op_mod (pe_callTy call_int1 (by rfl) T.n_int (by decide +kernel) (pa_cons (pv 2) pa_nil)) pe_int))) (pe_op op_add (pe_op op_pow pe_int pe_int) (pe_op op_mod (pe_callTy call_int1 (by rfl) T.n_int (by decide +kernel) (pa_cons (pv 2) pa_nil)) (pe_op op_pow pe_int pe_int))))))
    pss_nil)
    (pss_cons (ps_if (pt_cmpR op_eq (pv 1) pe_int (nomark _))
    (pss_one (ps_ret (pe_op op_mul (pe_op op_sub pe_int (pe_op op_mul pe_int (pe_op op_mod (pe_callTy call_int1 (by rfl) T.n_int (by decide +kernel) (pa_cons (pv 2) pa_nil)) pe_int))) (pe_op op_mod (pe_callTy call_int1 (by rfl) T.n_int (by decide +kernel) (pa_cons (pe_op op_fdivW (pv 2) pe_int) pa_nil)) (pe_op op_pow pe_int pe_int)))))
    pss_nil)
    (pss_one (ps_ret (pe_op op_sub (pe_op op_mod (pe_callTy call_int1 (by rfl) T.n_int (by decide +kernel) (pa_cons (pv 2) pa_nil)) pe_int) pe_int))))))), ?_⟩
    refine ⟨_, rfl, .inl ⟨_, rfl, _, _, rfl, rfl, (by show (0 : Int) < _; decide), ?_⟩⟩
    refine ⟨_, rfl, _, _, rfl, rfl, wide_div (b := 5) (by decide) (by decide) (by decide) (by decide), ?_⟩
    dsimp only
    generalize d / 16 = r
    have m0 : 0 ≤ r % 2 := Int.emod_nonneg _ (by decide)
    have m1 : r % 2 < 2 := Int.emod_lt_of_pos _ (by decide)
    have sg : -2 ^ 64 < 1 - 2 * (r % 2) ∧ 1 - 2 * (r % 2) < 2 ^ 64 := ⟨by omega, by omega⟩
    refine ⟨_, rfl, rfl, _, rfl, ite2 (fun e => ?_) (fun e => ?_)⟩
    · refine ⟨_, rfl, .inl ⟨_, rfl, _, _, rfl, rfl, (by show (0 : Int) < _; decide), _, _, rfl, rfl, .inl ⟨by decide, by decide⟩, _, _, rfl, rfl, ?_⟩⟩
      refine ⟨_, _, rfl, rfl, ⟨by decide, by decide, by decide⟩, _, rfl, .inl ⟨_, rfl, ?_⟩⟩
      exact ⟨_, _, rfl, rfl, ⟨by decide, by decide, by decide⟩, _, _, rfl, rfl, (by show (0 : Int) < _; decide), _, _, rfl, rfl, _, _, rfl, rfl, .inl sg, q _⟩
    · refine ⟨_, rfl, rfl, _, rfl, ite2 (fun e => ?_) (fun e => ?_)⟩
      · refine ⟨_, rfl, .inl ⟨_, rfl, _, _, rfl, rfl, (by show (0 : Int) < _; decide), _, _, rfl, rfl, .inl ⟨by decide, by decide⟩, _, _, rfl, rfl, ?_⟩⟩
        refine ⟨_, rfl, _, _, rfl, rfl, wide_div (b := 5) (by decide) (by decide) (by decide) (by decide), .inl ⟨_, rfl, ?_⟩⟩
        exact ⟨_, _, rfl, rfl, ⟨by decide, by decide, by decide⟩, _, _, rfl, rfl, (by show (0 : Int) < _; decide), _, _, rfl, rfl, .inl sg, q _⟩
      · exact ⟨_, rfl, .inl ⟨_, rfl, _, _, rfl, rfl, (by show (0 : Int) < _; decide), _, _, rfl, rfl, q _⟩⟩
/-- a list of differences -/
def DL (K : PySem.W.Frag) (H : Hp) (a : Addr) (ds : List D3) : Prop := ∃ xd, SqL K H a xd ∧ DpAll K H xd (ds.map d3)
theorem DL.same {H H' : Hp} {a : Addr} {ds : List D3} (d : DL K H a ds) (s : Same H H') : DL K H' a ds := by
  obtain ⟨xd, h1, h2⟩ := d
  exact ⟨xd, s.seq h1, dpa_same s _ _ h2⟩
theorem DL.get {H : Hp} {a : Addr} {ds : List D3} (d : DL K H a ds) : ∃ xd, SqL K H a xd ∧ xd.length = ds.length ∧ ∀ (e u v : Nat) (c : Int), ds[e]? = some (u, v, c) → ∃ t, xd[e]? = some (.ref t) ∧ SqT K H t [.int (u : Nat), .int (v : Nat), .int c] := by
  obtain ⟨xd, h1, h2⟩ := d
  refine ⟨xd, h1, by rw [dpa_len h2, List.length_map], fun e u v c he => ?_⟩
  obtain ⟨hl, h3⟩ := List.getElem?_eq_some_iff.mp he
  obtain ⟨x, g1, g2⟩ := dp_mem h2 hl
  rw [h3] at g2
  obtain ⟨t, v1, v2, v3, rfl, ht, w1, w2, w3⟩ := dp_inv3 g2
  cases dp_int_inv w1
  cases dp_int_inv w2
  cases dp_int_inv w3
  exact ⟨t, g1, ht⟩
def spSum (K : PySem.W.Frag) : Sp := fun vs H Q _ => ∃ (a R : Addr) (ds : List D3) (es : List Nat) (u : Nat) (t : Int), vs = [.ref a, .ref R] ∧ DL K H a ds ∧ SqT K H R (nV es) ∧ Wk3 ds u u es t ∧ es ≠ [] ∧ es.length ≤ 1001 ∧ ∀ S H', Same H H' → H' S = some (.tup [.int (u : Nat), .int (u : Nat), .int t]) → Q (.ref S) H'
theorem nV_at {es : List Nat} {k : Nat} (h : k < es.length) : atI (nV es) ((k : Nat) : Int) = some (.int (es[k] : Nat)) := atI_nat (by unfold nV; rw [List.getElem?_map, List.getElem?_eq_getElem h]; rfl)
theorem ok_l_sum (T : TxB mg) (D_l_sum : Df K mg "_law_sum" s_l_sum ["differences", "numbers"]) : FnOk P w K mg base CX0 1 D_l_sum.f D_l_sum.fd ["differences", "numbers"] (spSum K) := by
  refine D_l_sum.F.ok sc_l_sum (fun vs H Q E h => ?_) (fun cdv A outer s H vs Q E hr h => ?_)
  · obtain ⟨a, R, ds, es, u, t, rfl, _⟩ := h
    rfl
  · obtain ⟨a, R, ds, es, u, t, rfl, hd, hR, wk, hne, hel1, q⟩ := h
    refine ⟨_, (pss_cons (ps_if (pt_cmpR op_eq (pe_callB call_len_seq (by rfl) T.n_len PySem.boot_len (pa_cons (pv 1) pa_nil)) pe_int (nomark _))
    (pss_one (ps_ret pe_non))
    pss_nil)
    (pss_cons (ps_set (i := 2) sc_l_sum.nd rfl (.inl rfl) pe_int)
    (pss_cons (ps_for PassesOwn.never rfl (pi_range1 (by rfl) T.n_range (pa_cons (pe_callB call_len_seq (by rfl) T.n_len PySem.boot_len (pa_cons (pv 1) pa_nil)) pa_nil)) (pg_name (i := 3) sc_l_sum.nd rfl (.inl rfl))
    (pss_cons (ps_if (PW.pt (pw_or (pt_cmpR op_lt (pe_ix ix_tup (pv 1) (pv 3) (fun _ _ => rfl)) pe_int (nomark _)) (pw_or1 (pt_cmpR op_ge (pe_ix ix_tup (pv 1) (pv 3) (fun _ _ => rfl)) (pe_callB call_len_seq (by rfl) T.n_len PySem.boot_len (pa_cons (pv 0) pa_nil)) (nomark _)))))
    (pss_one (ps_ret pe_non))
    pss_nil)
    (pss_cons (ps_if (PW.pt (pw_and (pt_cmpR op_gt (pv 3) pe_int (nomark _)) (pw_and1 (pt_cmpR op_ne (pe_ix ix_tup (pe_ix ix_list (pv 0) (pe_ix ix_tup (pv 1) (pe_op op_sub (pv 3) pe_int) (fun _ _ => rfl)) (fun _ _ => rfl)) pe_int (fun _ _ => rfl)) (pe_ix ix_tup (pe_ix ix_list (pv 0) (pe_ix ix_tup (pv 1) (pv 3) (fun _ _ => rfl)) (fun _ _ => rfl)) pe_int (fun _ _ => rfl)) (nomark _)))))
    (pss_one (ps_ret pe_non))
    pss_nil)
    (pss_one (ps_set (i := 2) sc_l_sum.nd rfl (.inl rfl) (pe_op op_add (pv 2) (pe_ix ix_tup (pe_ix ix_list (pv 0) (pe_ix ix_tup (pv 1) (pv 3) (fun _ _ => rfl)) (fun _ _ => rfl)) pe_int (fun _ _ => rfl))))))))
    (pss_one (ps_ret (pe_tup (pa_cons (pe_ix ix_tup (pe_ix ix_list (pv 0) (pe_ix ix_tup (pv 1) pe_int (fun _ _ => rfl)) (fun _ _ => rfl)) pe_int (fun _ _ => rfl)) (pa_cons (pe_ix ix_tup (pe_ix ix_list (pv 0) (pe_ix ix_tup (pv 1) (pe_un un_neg pe_int) (fun _ _ => rfl)) (fun _ _ => rfl)) pe_int (fun _ _ => rfl)) (pa_cons (pv 2) pa_nil))))))))), ?_⟩
    obtain ⟨xd, hs, hxl, hget⟩ := hd.get
    have hel : (nV es).length = es.length := List.length_map _
    have hpos : 0 < es.length := List.length_pos_iff.mpr hne
    refine ⟨_, rfl, R, _, rfl, .inr hR, rfl, _, rfl, ite2 (fun e => ?_) (fun e => ?_)⟩
    · have e := of_decide_eq_true e
      injection e with e
      omega
    refine ⟨_, rfl, R, _, rfl, .inr hR, _, rfl, by omega, by omega, ?_⟩
    rw [hel, show ((es.length : Nat) : Int).toNat = es.length by omega]
    refine for_range (lo := 0) (n := es.length) (fun i σ G => G = H ∧ ∃ (y3 : Option V) (b : Nat) (z : Int), σ = [some (.ref a), some (.ref R), some (.int z), y3] ∧ Wk3 ds u b (es.take i) z) ⟨rfl, _, u, 0, rfl, by rw [List.take_zero]; exact .nil⟩ (fun i σ G hi hP => ?_) (fun σ G hP => ?_)
    · obtain ⟨rfl, y3, b, z, rfl, wi⟩ := hP
      obtain ⟨b2, z2, w2⟩ := wk3_take wk (i + 1) hi
      have htk : es.take (i + 1) = es.take i ++ [es[i]] := List.take_succ_eq_append_getElem hi
      have w3 := w2
      rw [htk] at w3
      obtain ⟨b3, s3, c3, w4, hdi, rfl⟩ := wk3_inv w3
      obtain ⟨rfl, rfl⟩ := wk3_uni wi w4
      have hei : es[i] < ds.length := (List.getElem?_eq_some_iff.mp hdi).1
      obtain ⟨ti, ti1, ti2⟩ := hget _ _ _ _ hdi
      have hzi : (0 : Int) + (i : Int) = ((i : Nat) : Int) := by omega
      have hAt : atI (nV es) (0 + (i : Int)) = some (.int (es[i] : Nat)) := by
        rw [hzi]
        exact nV_at hi
      have fin : ∀ H2, H2 = G → G = G ∧ ∃ (y3 : Option V) (b : Nat) (z' : Int), [some (V.ref a), some (V.ref R), some (V.int (z + c3)), some (V.int (0 + (i : Int)))] = [some (.ref a), some (.ref R), some (.int z'), y3] ∧ Wk3 ds u b (es.take (i + 1)) z' := fun _ _ => ⟨rfl, _, b2, _, rfl, w2⟩
      refine ⟨_, rfl, _, rfl, R, _, _, _, rfl, rfl, hR, hAt, _, _, rfl, rfl, _, rfl, ?_⟩
      refine ite2 (fun e1 => ?_) (fun _ => ?_)
      · have e1 := of_decide_eq_true e1
        omega
      refine ⟨_, rfl, _, rfl, R, _, _, _, rfl, rfl, hR, hAt, _, rfl, a, _, rfl, .inl hs, _, _, rfl, rfl, _, rfl, ite2 (fun e1 => ?_) (fun _ => ?_)⟩
      · have e1 := of_decide_eq_true e1
        omega
      refine ⟨_, rfl, _, _, rfl, rfl, _, rfl, ite2 (fun e1 => ?_) (fun e1 => iteF ?_)⟩
      · have e1 := of_decide_eq_true e1
        obtain ⟨j, rfl⟩ : ∃ j, i = j + 1 := ⟨i - 1, by omega⟩
        have hjl : j < es.length := by omega
        rw [List.take_succ_eq_append_getElem hjl] at wi
        obtain ⟨b5, s5, c5, w5, hdj, _⟩ := wk3_inv wi
        obtain ⟨tj, tj1, tj2⟩ := hget _ _ _ _ hdj
        have hAj : atI (nV es) (0 + ((j + 1 : Nat) : Int) - 1) = some (.int (es[j] : Nat)) := by
          rw [show (0 : Int) + ((j + 1 : Nat) : Int) - 1 = ((j : Nat) : Int) by omega]
          exact nV_at hjl
        refine ⟨_, rfl, _, rfl, _, rfl, _, _, rfl, rfl, R, _, _, _, rfl, rfl, hR, hAj, a, _, _, _, rfl, rfl, hs, atI_nat tj1, tj, _, _, _, rfl, rfl, tj2, atI_nat (j := 1) rfl, _, rfl, _, rfl, _, rfl, R, _, _, _, rfl, rfl, hR, hAt, a, _, _, _, rfl, rfl, hs, atI_nat ti1, ti, _, _, _, rfl, rfl, ti2, atI_nat (j := 0) rfl, rfl, _, rfl, ite2 (fun e2 => ?_) (fun _ => ?_)⟩
        · rw [decide_eq_true rfl] at e2
          cases e2
        · exact ⟨_, rfl, _, rfl, _, rfl, _, rfl, R, _, _, _, rfl, rfl, hR, hAt, a, _, _, _, rfl, rfl, hs, atI_nat ti1, ti, _, _, _, rfl, rfl, ti2, atI_nat (j := 2) rfl, _, _, rfl, rfl, fin G rfl⟩
      · exact ⟨_, rfl, _, rfl, _, rfl, _, rfl, R, _, _, _, rfl, rfl, hR, hAt, a, _, _, _, rfl, rfl, hs, atI_nat ti1, ti, _, _, _, rfl, rfl, ti2, atI_nat (j := 2) rfl, _, _, rfl, rfl, fin G rfl⟩
    · obtain ⟨rfl, y3, b, z, rfl, wi⟩ := hP
      rw [List.take_length] at wi
      obtain ⟨rfl, rfl⟩ := wk3_uni wk wi
      obtain ⟨m, l, rfl⟩ : ∃ m l, es = m ++ [l] := ⟨es.dropLast, es.getLast hne, (List.dropLast_concat_getLast hne).symm⟩
      obtain ⟨b6, s6, c6, w6, hdl, _⟩ := wk3_inv wk
      obtain ⟨tl, tl1, tl2⟩ := hget _ _ _ _ hdl
      have hAl : atI (nV (m ++ [l])) (-1) = some (.int (l : Nat)) := by
        rw [show nV (m ++ [l]) = nV m ++ [.int (l : Nat)] by unfold nV; rw [List.map_append]; rfl]
        exact atI_last _ _
      obtain ⟨f0, hf0, hA0⟩ : ∃ (f0 : D3), (ds[(m ++ [l])[0]]? = some f0) ∧ f0.1 = u := by
        obtain ⟨b7, z7, w7⟩ := wk3_take wk 1 hpos
        rw [show (m ++ [l]).take 1 = [] ++ [(m ++ [l])[0]] from List.take_succ_eq_append_getElem hpos] at w7
        obtain ⟨b8, s8, c8, w8, h8, _⟩ := wk3_inv w7
        refine ⟨_, h8, ?_⟩
        exact (wk3_uni w8 .nil).1
      obtain ⟨t0, t01, t02⟩ := hget _ f0.1 f0.2.1 f0.2.2 hf0
      rw [hA0] at t02
      refine ⟨_, rfl, _, rfl, R, _, _, _, rfl, rfl, hR, nV_at (k := 0) hpos, a, _, _, _, rfl, rfl, hs, atI_nat t01, t0, _, _, _, rfl, rfl, t02, atI_nat (j := 0) rfl, ?_⟩
      refine ⟨_, rfl, _, rfl, _, rfl, R, _, _, _, rfl, rfl, hR, hAl, a, _, _, _, rfl, rfl, hs, atI_nat tl1, tl, _, _, _, rfl, rfl, tl2, atI_nat (j := 1) rfl, ?_⟩
      refine ⟨_, rfl, by show 3 ≤ sizeLine; decide, fun S nS => ?_⟩
      exact q S _ (same_new nS) upd_same
end
end SW

set_option maxHeartbeats 8000000
namespace SW
open PySem PySem.Spec PyProof.Rows L2
theorem hsF_at {hs : List Int} {u : Nat} (hu : u < hs.length) : atI (hs.map V.int) ((u : Nat) : Int) = some (.int (hsF hs u)) := hs_at rfl hu
theorem rep_snoc (n : Nat) : (List.replicate n true).map V.bl ++ [.bl true] = (List.replicate (n + 1) true).map V.bl := by
  rw [List.replicate_succ', List.map_append]
  rfl
theorem rep_all (n : Nat) : (List.replicate n true).all id = true := by
  rw [List.all_eq_true]
  intro x hx
  exact List.eq_of_mem_replicate hx
section
variable {P : Program} {w : World} {K : PySem.W.Frag} {mg : PySem.Str → Option Value} {base : Heap} {C : Addr}
def spKept2 (K : PySem.W.Frag) : Sp := fun vs H Q _ => ∃ (a b : Addr) (ds : List D3) (vals : List Int), vs = [.ref a, .ref b] ∧ DL K H a ds ∧ H b = some (.lst (vals.map V.int)) ∧ vals.length ≤ 1000 ∧ ds.length ≤ 1000 ∧ (∀ d, d ∈ ds → d.1 < vals.length + 1 ∧ d.2.1 < vals.length + 1) ∧ Feas ds (hsF (0 :: vals)) ∧ ∀ H', Same H H' → Q (.bl true) H'
theorem ok_l_kept (T : TxB mg) (D_l_kept : Df K mg "_law_kept" s_l_kept ["differences", "values"]) : FnOk P w K mg base CX0 1 D_l_kept.f D_l_kept.fd ["differences", "values"] (spKept2 K) := by
  refine D_l_kept.F.ok sc_l_kept (fun vs H Q E h => ?_) (fun cdv A outer s H vs Q E hr h => ?_)
  · obtain ⟨a, b, ds, vals, rfl, _⟩ := h
    rfl
  · obtain ⟨a, b, ds, vals, rfl, hd, hb, hvl, hdl, hrg, hfe, q⟩ := h
    refine ⟨_, (pss_cons (ps_set (i := 2) sc_l_kept.nd rfl (.inr rfl) (pe_op op_cat (pe_lst (pa_cons pe_int pa_nil)) (pv 1)))
    (pss_one (ps_ret (pe_callB (cr_all rfl) (by rfl) T.n_all (by decide +kernel) (pa_cons (pe_lc (own := [("u", 3), ("v", 4), ("c", 5)]) (g := gTup K 3 (gCons (gName 3) (gCons (gName 4) (gCons (gName 5) gNil)))) (by rfl) sc_l_kept.nd (pi_list (pv 0)) (blkOk_by (own := [("u", 3), ("v", 4), ("c", 5)]) (N := ["differences", "values", "level", "u", "v", "c"]) (sc := defScope s_l_kept) (by decide +kernel)) (fun _ _ _ _ _ => pg_tup rfl (pgs_cons (pg_name (i := 3) sc_l_kept.nd rfl (Or.inl rfl)) (pgs_cons (pg_name (i := 4) sc_l_kept.nd rfl (Or.inl rfl)) (pgs_cons (pg_name (i := 5) sc_l_kept.nd rfl (Or.inl rfl)) pgs_nil)))) (fun _ _ _ _ _ => pts_nil) (fun _ _ _ _ _ => (pe_cmpR op_le (pe_op op_sub (pe_ix (show IxR _ (rIxL K) from ix_list) (pv 2) (pv 3) (fun _ _ => rfl)) (pe_ix (show IxR _ (rIxL K) from ix_list) (pv 2) (pv 4) (fun _ _ => rfl))) (pv 5) (nomark _)))) pa_nil))))), ?_⟩
    have hml : (vals.map V.int).length = vals.length := List.length_map _
    refine ⟨by show 1 ≤ sizeLine; decide, fun p np => ?_⟩
    generalize hG : upd H p _ = G
    obtain ⟨s1, e1⟩ := new_of np hG
    refine ⟨_, rfl, p, b, _, _, rfl, rfl, e1, s1 _ _ hb, by rw [hml]; exact Nat.le_of_lt (show 1 + vals.length < sizeLine from small_sz5 (by omega)), fun l nl => ?_⟩
    generalize hG2 : upd G l _ = G2
    obtain ⟨s2, e2⟩ := new_of nl hG2
    have e2 : G2 l = some (.lst ((0 :: vals).map V.int)) := e2
    obtain ⟨xd, hs, hxl, hget⟩ := (hd.same (s1.trans s2)).get
    refine ⟨_, rfl, a, rfl, ⟨_, hs⟩, fun D nD => ?_⟩
    refine lc_list (K := K) (a := a) (xs := xd) (fun i H1 => Same G2 H1 ∧ H1 D = some (.lst ((List.replicate i true).map V.bl))) ⟨same_new nD, upd_same⟩ (fun i H1 _ h => h.1.seq hs) (fun i x H1 hx hP => ?_) (fun H1 hP => ?_)
    · obtain ⟨s3, e3⟩ := hP
      have hi : i < ds.length := by
        have := (List.getElem?_eq_some_iff.mp hx).1
        omega
      obtain ⟨t, t1, t2⟩ := hget i ds[i].1 ds[i].2.1 ds[i].2.2 (List.getElem?_eq_getElem hi)
      rw [hx] at t1
      cases t1
      have hm := List.getElem_mem hi
      have hf : hsF (0 :: vals) ds[i].1 - hsF (0 :: vals) ds[i].2.1 ≤ ds[i].2.2 := hfe _ hm
      have el := s3 _ _ e2
      refine ⟨t, _, rfl, sqt_same s3 t2, rfl, _, _, rfl, _, _, rfl, _, _, rfl, rfl, rfl, ?_⟩
      refine ⟨_, rfl, _, rfl, l, _, _, _, rfl, rfl, SqL.of el, hsF_at (hrg _ hm).1, _, rfl, _, rfl, l, _, _, _, rfl, rfl, SqL.of el, hsF_at (hrg _ hm).2, _, _, rfl, rfl, _, rfl, _, _, rfl, rfl, _, e3, by rw [List.length_map, List.length_replicate]; exact small_sz5 (by omega), same_mut s3 nD, ?_⟩
      rw [upd_same]
      dsimp only
      rw [decide_eq_true hf, rep_snoc]
    · obtain ⟨s3, e3⟩ := hP
      refine ⟨D, _, rfl, SqL.of e3, ?_⟩
      rw [rep_all]
      exact q _ ((s1.trans s2).trans s3)
def spIsRing (K : PySem.W.Frag) : Sp := fun vs H Q _ => ∃ (a R : Addr) (ds : List D3) (es : List Nat) (u : Nat) (t : Int), vs = [.ref a, .ref R] ∧ DL K H a ds ∧ SqT K H R (nV es) ∧ Wk3 ds u u es t ∧ es ≠ [] ∧ es.length ≤ 1001 ∧ t < 0 ∧ ∀ H', Same H H' → Q (.bl true) H'
theorem ok_l_is_ring (T : TxB mg) (D_l_is_ring : Df K mg "_law_is_ring" s_l_is_ring ["differences", "ring"]) (D_l_is_integer : Df K mg "_law_is_integer" s_l_is_integer ["value"]) (D_l_sum : Df K mg "_law_sum" s_l_sum ["differences", "numbers"]) (G_l_is_integer : FnOk P w K mg base CX0 1 D_l_is_integer.f D_l_is_integer.fd ["value"] spIsInt) (G_l_sum : FnOk P w K mg base CX0 1 D_l_sum.f D_l_sum.fd ["differences", "numbers"] (spSum K)) : FnOk P w K mg base CX0 2 D_l_is_ring.f D_l_is_ring.fd ["differences", "ring"] (spIsRing K) := by
  refine D_l_is_ring.F.ok sc_l_is_ring (fun vs H Q E h => ?_) (fun cdv A outer s H vs Q E hr h => ?_)
  · obtain ⟨a, R, ds, es, u, t, rfl, _⟩ := h
    rfl
  · obtain ⟨a, R, ds, es, u, t, rfl, hd, hR, wk, hne, hel, ht, q⟩ := h
    refine ⟨_, (pss_cons (ps_if (PW.pt (pw_or (pt_not (pt_val (pe_callB call_isi (by rfl) T.n_isinstance (by decide +kernel) (pa_cons (pv 1) (pa_cons (pe_bltn (v := .ty "tuple") (u := .type "tuple") (by rfl) T.n_tuple (by decide +kernel) rfl) pa_nil))))) (pw_or1 (pt_not (pt_val (pe_callB (cr_all rfl) (by rfl) T.n_all (by decide +kernel) (pa_cons (pe_lc (own := [("number", 2)]) (g := gName 2) (by rfl) sc_l_is_ring.nd (pi_tup (pv 1)) (blkOk_by (own := [("number", 2)]) (N := ["differences", "ring", "number", "total"]) (sc := defScope s_l_is_ring) (by decide +kernel)) (fun _ _ _ _ _ => pg_name (i := 2) sc_l_is_ring.nd rfl (Or.inl rfl)) (fun _ _ _ _ _ => pts_nil) (fun _ _ _ _ _ => (pe_call G_l_is_integer (hr.mono (by decide)) (by rfl) D_l_is_integer.g D_l_is_integer.F.kp D_l_is_integer.b .nil pass0 (pa_cons (pv 2) pa_nil)))) pa_nil)))))))
    (pss_one (ps_ret pe_bl))
    pss_nil)
    (pss_cons (ps_set (i := 3) sc_l_is_ring.nd rfl (.inl rfl) (pe_call G_l_sum (hr.mono (by decide)) (by rfl) D_l_sum.g D_l_sum.F.kp D_l_sum.b .nil pass0 (pa_cons (pv 0) (pa_cons (pv 1) pa_nil))))
    (pss_one (ps_ret (pe_and (pe_cmpR op_notN (pv 3) pe_non (nomark _)) (pe_and (pe_cmpR op_eq (pe_ix ix_tup (pv 3) pe_int (fun _ _ => rfl)) (pe_ix ix_tup (pv 3) pe_int (fun _ _ => rfl)) (nomark _)) (pe_one (pe_cmpR op_lt (pe_ix ix_tup (pv 3) pe_int (fun _ _ => rfl)) pe_int (nomark _))))))))), ?_⟩
    have hnl : (nV es).length = es.length := List.length_map _
    refine ⟨_, rfl, _, _, _, _, true, rfl, .ty "tuple", sqt_ty hR, kit_tup, _, rfl, iteF ?_⟩
    refine ⟨_, rfl, R, rfl, ⟨_, hR⟩, fun D nD => ?_⟩
    refine lc_tup (K := K) (a := R) (xs := nV es) (fun i H1 => Same H H1 ∧ H1 D = some (.lst ((List.replicate i true).map V.bl))) ⟨same_new nD, upd_same⟩ (fun i H1 _ h => sqt_same h.1 hR) (fun i x H1 hx hP => ?_) (fun H1 hP => ?_)
    · obtain ⟨s3, e3⟩ := hP
      have hi : i < es.length := by
        have := (List.getElem?_eq_some_iff.mp hx).1
        omega
      have hx2 : x = .int (es[i] : Nat) := by
        unfold nV at hx
        rw [List.getElem?_map, List.getElem?_eq_getElem hi] at hx
        cases hx
        rfl
      subst hx2
      refine ⟨rfl, _, rfl, _, rfl, _, e3, by rw [List.length_map, List.length_replicate]; exact small_sz5 (by omega), same_mut s3 nD, ?_⟩
      rw [upd_same, rep_snoc]
    · obtain ⟨s3, e3⟩ := hP
      refine ⟨D, _, rfl, SqL.of e3, ?_⟩
      rw [rep_all]
      refine ⟨_, rfl, iteF ?_⟩
      refine ⟨_, rfl, _, rfl, a, R, ds, es, u, t, rfl, hd.same s3, sqt_same s3 hR, wk, hne, hel, fun S H2 s4 eS => ?_⟩
      have hS := SqT.of (K := K) eS
      refine ⟨_, rfl, rfl, ?_⟩
      refine ⟨_, rfl, iteT ?_⟩
      refine ⟨_, rfl, S, _, _, _, rfl, rfl, hS, atI_nat (j := 0) rfl, _, rfl, S, _, _, _, rfl, rfl, hS, atI_nat (j := 1) rfl, rfl, _, rfl, ite2 (fun _ => ?_) (fun e => ?_)⟩
      · refine ⟨_, rfl, S, _, _, _, rfl, rfl, hS, atI_nat (j := 2) rfl, _, _, rfl, rfl, ?_⟩
        dsimp only
        rw [decide_eq_true ht]
        exact q _ (s3.trans s4)
      · rw [decide_eq_true rfl] at e
        exact absurd rfl e
end
end SW

set_option maxHeartbeats 8000000
namespace SW
open PySem PySem.Spec PyProof.Rows L2
abbrev s_l_fits : Stmt := topS 13
theorem sc_l_fits : FnScope ["heights", "differences", "many", "room", "u", "v", "c", "again", "kept", "value"] ["heights", "differences", "many"] (defScope s_l_fits) := ⟨rfl, rfl, rfl, by decide +kernel, rfl, by decide +kernel, by decide +kernel⟩

theorem plain_ds : ∀ ds : List D3, PyData.plainAll (ds.map d3) = true
  | [] => by simp [PyData.plainAll]
  | d :: r => by
    rw [List.map_cons, PyData.plainAll, plain_ds r]
    simp [d3, PyData.plain, PyData.plainAll]
theorem ds_shape : ∀ ds : List D3, PyData.canLayAll0 (ds.map d3) = true ∧ PyData.depthAll (ds.map d3) ≤ 1
  | [] => ⟨rfl, Nat.zero_le _⟩
  | d :: r => by
    obtain ⟨h3, h4⟩ := ds_shape r
    refine ⟨?_, ?_⟩
    · show ((d3 d).canLay0 && PyData.canLayAll0 (r.map d3)) = true
      rw [h3]
      rfl
    · show max (d3 d).depth (PyData.depthAll (r.map d3)) ≤ 1
      have : (d3 d).depth = 1 := rfl
      omega
theorem ds_shaped (ds : List D3) : SeqAt.shaped (.list (ds.map d3)) = true := by
  obtain ⟨h1, h2⟩ := ds_shape ds
  unfold SeqAt.shaped
  rw [Bool.and_eq_true]
  refine ⟨h1, decide_eq_true ?_⟩
  show PyData.depthAll (ds.map d3) + 1 ≤ 64
  omega
theorem abs_sum : ∀ ds : List D3, (ds.map fun d : D3 => if d.2.2 < 0 then -d.2.2 else d.2.2).sum = roomD ds
  | [] => rfl
  | d :: r => by
    rw [List.map_cons, List.sum_cons, abs_sum r]
    show _ = (d.2.2.natAbs : Int) + roomD r
    split <;> omega
theorem kept_at {hs : List Int} (hne : hs ≠ []) {u : Nat} (hu : u < hs.length) : hsF (0 :: keptL hs) u = hsF hs u - hsF hs 0 := by
  obtain ⟨h0, r, rfl⟩ : ∃ h0 r, hs = h0 :: r := by
    cases hs with
    | nil => exact absurd rfl hne
    | cons a b => exact ⟨a, b, rfl⟩
  cases u with
  | zero =>
    show (0 : Int) = h0 - h0
    omega
  | succ u =>
    show (r.map fun h => h - h0).getD u 0 = r.getD u 0 - h0
    have hu : u < r.length := by
      rw [List.length_cons] at hu
      omega
    rw [List.getD_eq_getElem?_getD, List.getD_eq_getElem?_getD, List.getElem?_map, List.getElem?_eq_getElem hu]
    rfl
theorem kept_len {hs : List Int} : (keptL hs).length = hs.length - 1 := by
  unfold keptL
  rw [List.length_map, List.length_tail]
theorem kept_get {hs : List Int} {i : Nat} (hi : i < (keptL hs).length) : (keptL hs)[i] = hsF hs (i + 1) - hsF hs 0 := by
  have hl := kept_len (hs := hs)
  have hne : hs ≠ [] := fun h => by
    rw [h] at hi
    exact absurd hi (Nat.not_lt_zero _)
  rw [← kept_at hne (show i + 1 < hs.length by omega)]
  show _ = (keptL hs).getD i 0
  rw [List.getD_eq_getElem?_getD, List.getElem?_eq_getElem hi]
  rfl
section
variable {P : Program} {w : World} {K : PySem.W.Frag} {mg : PySem.Str → Option Value} {base : Heap} {C : Addr}
def spFits (K : PySem.W.Frag) (C : Addr) : Sp := fun vs H Q _ => ∃ (k : Hk) (a : Addr) (many : Nat) (ds : List D3) (hs : List Int), vs = [.ref k.p, .ref a, .int (many : Nat)] ∧ HAt K C H k ds hs ∧ DL K H a ds ∧ HOk (many + 1) ds hs ∧ ∀ H', Same H H' → Q (.bl true) H'
theorem ok_l_fits (T : TxH K mg C) (D_l_fits : Df K mg "_law_fits" s_l_fits ["heights", "differences", "many"]) (D_l_is_integer : Df K mg "_law_is_integer" s_l_is_integer ["value"]) (D_l_kept : Df K mg "_law_kept" s_l_kept ["differences", "values"]) (G_l_is_integer : FnOk P w K mg base CX0 1 D_l_is_integer.f D_l_is_integer.fd ["value"] spIsInt) (G_l_kept : FnOk P w K mg base CX0 1 D_l_kept.f D_l_kept.fd ["differences", "values"] (spKept2 K)) {fK : Addr} {fdK : FuncData} (m_kept : Meth K C "kept" fK) (G_kept : FnOk P w K mg base CX0 1 fK fdK ["self"] (spKept K C)) (b_kept : Binds K fdK ["self"] []) : FnOk P w K mg base CX0 2 D_l_fits.f D_l_fits.fd ["heights", "differences", "many"] (spFits K C) := by
  refine D_l_fits.F.ok sc_l_fits (fun vs H Q E h => ?_) (fun cdv A outer s H vs Q E hr h => ?_)
  · obtain ⟨k, a, many, ds, hs, rfl, _⟩ := h
    rfl
  · obtain ⟨k, a, many, ds, hs, rfl, ha, hd, ho, q⟩ := h
    refine ⟨_, (pss_cons (ps_if (PW.pt (pw_or (pt_not (pt_val (pe_callB call_isi (by rfl) T.n_isinstance (by decide +kernel) (pa_cons (pe_fld (pv 0) rfl) (pa_cons (pe_bltn (v := .ty "list") (u := .type "list") (by rfl) T.n_list (by decide +kernel) rfl) pa_nil))))) (pw_or1 (pt_cmpR (op_neD hr.units) (pe_fld (pv 0) rfl) (pv 1) (nomark _)))))
    (pss_one (ps_ret pe_bl))
    pss_nil)
    (pss_cons (ps_set (i := 3) sc_l_fits.nd rfl (.inr rfl) (pe_callB (cr_sum rfl) (by rfl) T.n_sum (by decide +kernel) (pa_cons (pe_lc (own := [("u", 4), ("v", 5), ("c", 6)]) (g := gTup K 3 (gCons (gName 4) (gCons (gName 5) (gCons (gName 6) gNil)))) (by rfl) sc_l_fits.nd (pi_list (pv 1)) (blkOk_by (own := [("u", 4), ("v", 5), ("c", 6)]) (N := ["heights", "differences", "many", "room", "u", "v", "c", "again", "kept", "value"]) (sc := defScope s_l_fits) (by decide +kernel)) (fun _ _ _ _ _ => pg_tup rfl (pgs_cons (pg_name (i := 4) sc_l_fits.nd rfl (Or.inl rfl)) (pgs_cons (pg_name (i := 5) sc_l_fits.nd rfl (Or.inl rfl)) (pgs_cons (pg_name (i := 6) sc_l_fits.nd rfl (Or.inl rfl)) pgs_nil)))) (fun _ _ _ _ _ => pts_nil) (fun _ _ _ _ _ => (pe_callB call_abs (by rfl) T.n_abs (by decide +kernel) (pa_cons (pv 6) pa_nil)))) pa_nil)))
    (pss_cons (ps_for PassesOwn.never rfl (pi_range1 (by rfl) T.n_range (pa_cons pe_int pa_nil)) (pg_name (i := 7) sc_l_fits.nd rfl (.inl rfl))
    (pss_cons (ps_set (i := 8) sc_l_fits.nd rfl (.inl rfl) (pe_meth0 (pv 0) T.cl m_kept G_kept (hr.mono (by decide)) b_kept .nil pass0))
    (pss_cons (ps_if (PW.pt (pw_or (pt_not (pt_val (pe_callB call_isi (by rfl) T.n_isinstance (by decide +kernel) (pa_cons (pv 8) (pa_cons (pe_bltn (v := .ty "list") (u := .type "list") (by rfl) T.n_list (by decide +kernel) rfl) pa_nil))))) (pw_or (pt_cmpR op_ne (pe_callB call_len_seq (by rfl) T.n_len PySem.boot_len (pa_cons (pv 8) pa_nil)) (pv 2) (nomark _)) (pw_or1 (pt_not (pt_val (pe_callB (cr_all rfl) (by rfl) T.n_all (by decide +kernel) (pa_cons (pe_lc (own := [("value", 9)]) (g := gName 9) (by rfl) sc_l_fits.nd (pi_list (pv 8)) (blkOk_by (own := [("value", 9)]) (N := ["heights", "differences", "many", "room", "u", "v", "c", "again", "kept", "value"]) (sc := defScope s_l_fits) (by decide +kernel)) (fun _ _ _ _ _ => pg_name (i := 9) sc_l_fits.nd rfl (Or.inl rfl)) (fun _ _ _ _ _ => pts_nil) (fun _ _ _ _ _ => (pe_call G_l_is_integer (hr.mono (by decide)) (by rfl) D_l_is_integer.g D_l_is_integer.F.kp D_l_is_integer.b .nil pass0 (pa_cons (pv 9) pa_nil)))) pa_nil))))))))
    (pss_one (ps_ret pe_bl))
    pss_nil)
    (pss_cons (ps_if (PW.pt (pw_or (pt_not (pt_val (pe_call G_l_kept (hr.mono (by decide)) (by rfl) D_l_kept.g D_l_kept.F.kp D_l_kept.b .nil pass0 (pa_cons (pv 1) (pa_cons (pv 8) pa_nil))))) (pw_or1 (pt_not (pt_val (pe_callB (cr_all rfl) (by rfl) T.n_all (by decide +kernel) (pa_cons (pe_lc (own := [("value", 9)]) (g := gName 9) (by rfl) sc_l_fits.nd (pi_list (pv 8)) (blkOk_by (own := [("value", 9)]) (N := ["heights", "differences", "many", "room", "u", "v", "c", "again", "kept", "value"]) (sc := defScope s_l_fits) (by decide +kernel)) (fun _ _ _ _ _ => pg_name (i := 9) sc_l_fits.nd rfl (Or.inl rfl)) (fun _ _ _ _ _ => pts_nil) (fun _ _ _ _ _ => (pe_cmpR op_le (pe_callB call_abs (by rfl) T.n_abs (by decide +kernel) (pa_cons (pv 9) pa_nil)) (pv 3) (nomark _)))) pa_nil)))))))
    (pss_one (ps_ret pe_bl))
    pss_nil)
    (pss_cons (ps_expr (pe_bm PySem.F.plainAttrs_list PySem.F.slot_list_append PySem.F.type_list_append mt_append (pv 8) (pa_cons pe_int pa_nil)))
    (pss_one (ps_asg (pe_op op_add (pe_op op_add (pe_ix ix_list (pv 8) pe_int (fun _ _ => rfl)) (pv 3)) pe_int) (pg_sub (pv 8) pe_int set_list))))))))
    (pss_one (ps_ret pe_bl))))), ?_⟩
    obtain ⟨dx, e⟩ := ha.ob
    obtain ⟨xd, g1, g2⟩ := ha.d
    obtain ⟨ya, y1, y2⟩ := hd
    have hd : DL K H a ds := ⟨ya, y1, y2⟩
    have hnl := ho.nl
    have hdl := ho.dl
    have hne : hs ≠ [] := fun h => by
      have := ho.len
      rw [h] at this
      cases this
    have heq : PyData.eqv (.list (ds.map d3)) (.list (ds.map d3)) = true := SeqAt.eqv_refl_plain _ (by rw [PyData.plain]; exact plain_ds ds)
    refine ⟨_, rfl, k.p, C, dx, _, _, rfl, e, T.cl, T.nD, hF_d _ _ _, _, _, _, _, true, rfl, .ty "list", .base (.lst g1), kit_lst, _, rfl, iteF ?_⟩
    refine ⟨_, rfl, k.p, C, dx, _, _, rfl, e, T.cl, T.nD, hF_d _ _ _, _, rfl, .list (ds.map d3), .list (ds.map d3), .lst (SqL.of g1) g2, .lst y1 y2, ds_shaped ds, ds_shaped ds, _, rfl, ?_⟩
    rw [heq]
    refine iteF ?_
    -- room
    obtain ⟨xa, hsa, hxl, hget⟩ := hd.get
    refine ⟨_, rfl, a, rfl, ⟨_, hsa⟩, fun D nD => ?_⟩
    refine lc_list (K := K) (a := a) (xs := xa) (fun i H1 => Same H H1 ∧ H1 D = some (.lst (((ds.take i).map fun d : D3 => if d.2.2 < 0 then -d.2.2 else d.2.2).map V.int))) ⟨same_new nD, upd_same⟩ (fun i H1 _ h => h.1.seq hsa) (fun i x H1 hx hP => ?_) (fun H1 hP => ?_)
    · obtain ⟨s3, e3⟩ := hP
      have hi : i < ds.length := by
        have := (List.getElem?_eq_some_iff.mp hx).1
        omega
      obtain ⟨t, t1, t2⟩ := hget i ds[i].1 ds[i].2.1 ds[i].2.2 (List.getElem?_eq_getElem hi)
      rw [hx] at t1
      cases t1
      refine ⟨t, _, rfl, sqt_same s3 t2, rfl, _, _, rfl, _, _, rfl, _, _, rfl, rfl, rfl, ?_⟩
      refine ⟨_, rfl, _, rfl, _, e3, by rw [List.length_map, List.length_map, List.length_take]; exact small_sz5 (by omega), same_mut s3 nD, ?_⟩
      rw [upd_same, List.take_succ_eq_append_getElem hi, List.map_append, List.map_append]
      rfl
    obtain ⟨s1, e1⟩ := hP
    rw [hxl, List.take_length] at e1
    refine ⟨D, _, rfl, SqL.of e1, ?_⟩
    rw [abs_sum]
    clear e1 hget hsa hxl nD
    refine ⟨2, rfl, by decide, by decide, ?_⟩
    refine for_range (lo := 0) (n := 2) (fun i σ G => (∃ y7 y8 : Option V, σ = [some (.ref k.p), some (.ref a), some (.int (many : Nat)), some (.int (roomD ds)), none, none, none, y7, y8, none]) ∧ Same H G) ⟨⟨_, _, rfl⟩, s1⟩ (fun i σ G hi hP => ?_) (fun σ G hP => ?_)
    · obtain ⟨⟨y7, y8, rfl⟩, sG⟩ := hP
      have hA := ha.same sG
      obtain ⟨dxg, eg⟩ := hA.ob
      have hln := ho.len
      refine ⟨_, rfl, k.p, dxg, _, rfl, eg, hF_no _ _ _ (by decide +kernel), k, ds, hs, rfl, hA, hne, by omega, fun R G2 s2 nR eR => ?_⟩
      have hkl := kept_len (hs := hs)
      have hml : ((keptL hs).map V.int).length = (keptL hs).length := List.length_map _
      refine ⟨_, rfl, _, _, _, _, true, rfl, .ty "list", .base (.lst eR), kit_lst, _, rfl, iteF ?_⟩
      refine ⟨_, rfl, R, _, rfl, .inl (SqL.of eR), _, rfl, rfl, _, rfl, ite2 (fun e3 => ?_) (fun _ => ?_)⟩
      · rw [hml, hkl, hln, show many + 1 - 1 = many from rfl, decide_eq_true rfl] at e3
        cases e3
      refine ⟨_, rfl, R, rfl, ⟨_, SqL.of eR⟩, fun D nD => ?_⟩
      refine lc_list (K := K) (a := R) (xs := (keptL hs).map V.int) (fun i H1 => Same G2 H1 ∧ H1 D = some (.lst ((List.replicate i true).map V.bl))) ⟨same_new nD, upd_same⟩ (fun i H1 _ h => h.1.seq (SqL.of eR)) (fun i x H1 hx hP => ?_) (fun H1 hP => ?_)
      · obtain ⟨s3, e3⟩ := hP
        have hi : i < (keptL hs).length := by
          have := (List.getElem?_eq_some_iff.mp hx).1
          omega
        rw [List.getElem?_map, List.getElem?_eq_getElem hi] at hx
        cases hx
        refine ⟨rfl, _, rfl, _, rfl, _, e3, by rw [List.length_map, List.length_replicate]; exact small_sz5 (by omega), same_mut s3 nD, ?_⟩
        rw [upd_same, rep_snoc]
      obtain ⟨s3, e3⟩ := hP
      refine ⟨D, _, rfl, SqL.of e3, ?_⟩
      rw [rep_all]
      refine ⟨_, rfl, iteF ?_⟩
      have s23 := (sG.trans s2).trans s3
      have eR3 := s3 _ _ eR
      have eR4 : H1 R = some (.lst ((keptL hs).map V.int)) := eR3
      clear e3 nD
      refine ⟨_, rfl, _, rfl, a, R, ds, keptL hs, rfl, hd.same s23, eR3, by omega, by omega, fun d hd2 => by have := ho.rng d hd2; omega, fun d hd2 => ?_, fun G4 s4 => ⟨_, rfl, iteF ?_⟩⟩
      · have hr := ho.rng d hd2
        rw [kept_at hne (by omega), kept_at hne (by omega)]
        have := ho.top.fe d hd2
        omega
      have eR5 := s4 _ _ eR3
      refine ⟨_, rfl, R, rfl, ⟨_, SqL.of eR5⟩, fun D nD => ?_⟩
      refine lc_list (K := K) (a := R) (xs := (keptL hs).map V.int) (fun i H1 => Same G4 H1 ∧ H1 D = some (.lst ((List.replicate i true).map V.bl))) ⟨same_new nD, upd_same⟩ (fun i H1 _ h => h.1.seq (SqL.of eR5)) (fun i x H1 hx hP => ?_) (fun H1 hP => ?_)
      · obtain ⟨s3, e3⟩ := hP
        have hi : i < (keptL hs).length := by
          have := (List.getElem?_eq_some_iff.mp hx).1
          omega
        rw [List.getElem?_map, List.getElem?_eq_getElem hi] at hx
        cases hx
        have hb : (if (keptL hs)[i] < 0 then -(keptL hs)[i] else (keptL hs)[i]) ≤ roomD ds := by
          rw [kept_get hi]
          have h1 := ho.top.bound (i + 1)
          have h2 := ho.top.bound 0
          have h3 := ho.top.le (i + 1)
          have h4 := ho.top.le 0
          split <;> omega
        refine ⟨rfl, _, rfl, _, rfl, _, rfl, _, _, rfl, rfl, _, e3, by rw [List.length_map, List.length_replicate]; exact small_sz5 (by omega), same_mut s3 nD, ?_⟩
        rw [upd_same]
        dsimp only
        rw [decide_eq_true hb, rep_snoc]
      obtain ⟨s5, e5⟩ := hP
      refine ⟨D, _, rfl, SqL.of e5, ?_⟩
      rw [rep_all]
      refine ⟨_, rfl, iteF ?_⟩
      have eR6 := s5 _ _ eR5
      have sH : Same H H1 := ((s23.trans s4).trans s5)
      have nRH : H R = none := sG.free nR
      refine ⟨_, rfl, .inl ⟨rfl, _, SqL.of eR6⟩, R, _, _, rfl, rfl, eR6, by rw [hml]; exact small_sz5 (by omega), ?_⟩
      have sM := same_mut (o := .lst ((keptL hs).map V.int ++ [.int 0])) sH nRH
      have eM : upd H1 R (.lst ((keptL hs).map V.int ++ [.int 0])) R = some (.lst ((keptL hs ++ [0]).map V.int)) := by
        rw [upd_same, List.map_append]
        rfl
      generalize upd H1 R _ = G7 at sM eM
      have hpos : 0 < (keptL hs ++ [0]).length := by simp
      refine ⟨_, rfl, R, _, _, _, rfl, rfl, SqL.of eM, ints_at hpos, _, rfl, _, _, rfl, rfl, _, _, rfl, rfl, _, rfl, R, _, _, 0, rfl, rfl, eM, by rw [List.length_map]; exact ixN_nat hpos, ?_⟩
      exact ⟨⟨_, _, rfl⟩, same_mut sM nRH⟩
    · obtain ⟨⟨y7, y8, rfl⟩, sG⟩ := hP
      exact q G sG
end
end SW

set_option maxHeartbeats 8000000
namespace SW
open PySem PySem.Spec PyProof.Rows L2
abbrev s_l_can : Stmt := topS 11
theorem sc_l_can : FnScope ["differences", "many", "level", "k", "step", "moved", "u", "v", "c"] ["differences", "many"] (defScope s_l_can) := ⟨rfl, rfl, rfl, by decide +kernel, rfl, by decide +kernel, by decide +kernel⟩

/-! ### sweeps -/
theorem countP_lt {p q : Nat → Bool} : ∀ {L : List Nat}, (∀ x, x ∈ L → p x = true → q x = true) → (∃ x, x ∈ L ∧ p x = false ∧ q x = true) → L.countP p + 1 ≤ L.countP q
  | [], _, ⟨x, h, _⟩ => absurd h List.not_mem_nil
  | y :: r, h1, ⟨x, hx, h2, h3⟩ => by
    have hm : r.countP p ≤ r.countP q := List.countP_mono_left fun z hz => h1 z (List.mem_cons_of_mem _ hz)
    rw [List.countP_cons, List.countP_cons]
    rcases List.mem_cons.mp hx with rfl | hx
    · rw [h2, h3, if_neg Bool.false_ne_true, if_pos rfl]
      omega
    · have ih := countP_lt (fun z hz => h1 z (List.mem_cons_of_mem _ hz)) ⟨x, hx, h2, h3⟩
      by_cases hp : p y = true
      · rw [if_pos hp, if_pos (h1 y List.mem_cons_self hp)]
        omega
      · rw [if_neg hp]
        split <;> omega
def cntS (n : Nat) (l h : Nat → Int) : Nat := (List.range n).countP fun u => decide (l u = h u)
theorem cntS_le (n : Nat) (l h : Nat → Int) : cntS n l h ≤ n := by
  have := List.countP_le_length (p := fun u => decide (l u = h u)) (l := List.range n)
  rw [List.length_range] at this
  exact this
theorem cntS_lt {n : Nat} {l l' h : Nat → Int} (h1 : ∀ u, u < n → l u = h u → l' u = h u) (h2 : ∃ u, u < n ∧ l u ≠ h u ∧ l' u = h u) : cntS n l h + 1 ≤ cntS n l' h := by
  obtain ⟨u, hu, h3, h4⟩ := h2
  exact countP_lt (fun x hx hp => decide_eq_true (h1 x (List.mem_range.mp hx) (of_decide_eq_true hp))) ⟨u, List.mem_range.mpr hu, decide_eq_false h3, decide_eq_true h4⟩
theorem tight_edge {ds : List D3} {n : Nat} {h l : Nat → Int} (t : TopH ds h) (hr : ∀ d, d ∈ ds → d.1 < n ∧ d.2.1 < n) (hl : ∀ u, u < n → h u ≤ l u ∧ l u ≤ 0) (hn : ∃ u, u < n ∧ l u ≠ h u) : ∃ d, d ∈ ds ∧ l d.1 ≠ h d.1 ∧ l d.2.1 = h d.2.1 ∧ h d.1 = h d.2.1 + d.2.2 := by
  refine Classical.byContradiction fun no => ?_
  obtain ⟨u0, hu0, hu1⟩ := hn
  have key := t.top (fun u => if u < n ∧ l u ≠ h u then h u + 1 else h u) (fun d hd => ?_) (fun u => ?_) u0
  · have key : (if u0 < n ∧ l u0 ≠ h u0 then h u0 + 1 else h u0) ≤ h u0 := key
    rw [if_pos ⟨hu0, hu1⟩] at key
    omega
  · obtain ⟨r1, r2⟩ := hr d hd
    have hf := t.fe d hd
    show (if d.1 < n ∧ l d.1 ≠ h d.1 then h d.1 + 1 else h d.1) - (if d.2.1 < n ∧ l d.2.1 ≠ h d.2.1 then h d.2.1 + 1 else h d.2.1) ≤ d.2.2
    by_cases e1 : l d.1 ≠ h d.1
    · rw [if_pos ⟨r1, e1⟩]
      by_cases e2 : l d.2.1 ≠ h d.2.1
      · rw [if_pos ⟨r2, e2⟩]
        omega
      · rw [if_neg (fun h => e2 h.2)]
        have e3 : h d.1 ≠ h d.2.1 + d.2.2 := fun e => no ⟨d, hd, e1, Classical.not_not.mp e2, e⟩
        omega
    · rw [if_neg (fun h => e1 h.2)]
      split <;> omega
  · show (if u < n ∧ l u ≠ h u then h u + 1 else h u) ≤ 0
    have := t.le u
    split
    · rename_i hc
      have := hl u hc.1
      have := hc.2
      omega
    · exact this
/-- after the first j of the differences -/
structure Swp (ds : List D3) (n : Nat) (l0 lv : List Int) (b : Bool) (j : Nat) : Prop where
  len : lv.length = n
  lo : ∀ h, TopH ds h → ∀ u, u < n → h u ≤ hsF lv u ∧ hsF lv u ≤ hsF l0 u
  ti : ∀ h, TopH ds h → ∀ (e : Nat) u v c, e < j → ds[e]? = some (u, v, c) → hsF l0 v = h v → h u = h v + c → hsF lv u = h u
  st : b = false → lv = l0 ∧ ∀ (e : Nat) u v c, e < j → ds[e]? = some (u, v, c) → hsF l0 u ≤ hsF l0 v + c
  al : ∀ h, TopH ds h → (∀ u, u < n → hsF l0 u = h u) → b = false
theorem hsF_set {lv : List Int} {u : Nat} (hu : u < lv.length) (z : Int) (x : Nat) : hsF (lv.set u z) x = if x = u then z else hsF lv x := by
  unfold hsF
  by_cases e : x = u
  · rw [if_pos e, e, List.getD_eq_getElem?_getD, List.getElem?_set_self hu]
    rfl
  · rw [if_neg e, List.getD_eq_getElem?_getD, List.getElem?_set_ne (Ne.symm e), List.getD_eq_getElem?_getD]
section
variable {ds : List D3} {n j u v : Nat} {c : Int} {l0 lv : List Int} {b : Bool}
theorem swp_keep (S : Swp ds n l0 lv b j) (hr : ∀ d, d ∈ ds → d.1 < n ∧ d.2.1 < n) (hd : ds[j]? = some (u, v, c)) (hn : ¬ hsF lv u > hsF lv v + c) : Swp ds n l0 lv b (j + 1) := by
  obtain ⟨hu, hv⟩ : u < n ∧ v < n := hr _ (List.mem_of_getElem? hd)
  refine ⟨S.len, S.lo, fun h t e u' v' c' he hde h1 h2 => ?_, fun hb => ?_, S.al⟩
  · by_cases hej : e < j
    · exact S.ti h t e u' v' c' hej hde h1 h2
    · have : e = j := by omega
      subst this
      rw [hd] at hde
      cases hde
      have k1 := S.lo h t u hu
      have k2 := S.lo h t v hv
      omega
  · obtain ⟨h1, h2⟩ := S.st hb
    refine ⟨h1, fun e u' v' c' he hde => ?_⟩
    by_cases hej : e < j
    · exact h2 e u' v' c' hej hde
    · have : e = j := by omega
      subst this
      rw [hd] at hde
      cases hde
      rw [h1] at hn
      omega
theorem swp_move (S : Swp ds n l0 lv b j) (hr : ∀ d, d ∈ ds → d.1 < n ∧ d.2.1 < n) (hd : ds[j]? = some (u, v, c)) (hm : hsF lv u > hsF lv v + c) : Swp ds n l0 (lv.set u (hsF lv v + c)) true (j + 1) := by
  obtain ⟨hu, hv⟩ : u < n ∧ v < n := hr _ (List.mem_of_getElem? hd)
  have hul : u < lv.length := by rw [S.len]; exact hu
  have fe : ∀ h, TopH ds h → h u - h v ≤ c := fun h t => t.fe _ (List.mem_of_getElem? hd)
  refine ⟨by rw [List.length_set]; exact S.len, fun h t x hx => ?_, fun h t e u' v' c' he hde h1 h2 => ?_, (fun hb => nomatch hb), fun h t ha => ?_⟩
  · rw [hsF_set hul]
    have k1 := S.lo h t x hx
    have k2 := S.lo h t v hv
    have k3 := fe h t
    by_cases e : x = u
    · rw [if_pos e]
      rw [e] at k1 ⊢
      omega
    · rw [if_neg e]
      exact k1
  · rw [hsF_set hul]
    have k2 := S.lo h t v hv
    have k3 := fe h t
    by_cases hej : e < j
    · have k4 := S.ti h t e u' v' c' hej hde h1 h2
      by_cases e : u' = u
      · rw [if_pos e]
        rw [e] at k4 ⊢
        omega
      · rw [if_neg e]
        exact k4
    · have : e = j := by omega
      subst this
      rw [hd] at hde
      cases hde
      rw [if_pos rfl]
      omega
  · have k1 := S.lo h t u hu
    have k2 := S.lo h t v hv
    have k3 := fe h t
    have k4 := ha u hu
    have k5 := ha v hv
    omega
end
section
variable {P : Program} {w : World} {K : PySem.W.Frag} {mg : PySem.Str → Option Value} {base : Heap} {C : Addr}
def spCan (K : PySem.W.Frag) : Sp := fun vs H Q _ => ∃ (a : Addr) (many : Nat) (ds : List D3), vs = [.ref a, .int (many : Nat)] ∧ DL K H a ds ∧ (∀ d, d ∈ ds → d.1 < many + 1 ∧ d.2.1 < many + 1) ∧ many ≤ 1000 ∧
  ((∃ s, Feas ds s) → ∀ H', Same H H' → Q (.bl true) H') ∧ ((∀ h, ¬ TopH ds h) → ∀ H', Same H H' → Q (.bl false) H')
theorem ok_l_can (T : TxB mg) (D_l_can : Df K mg "_law_can" s_l_can ["differences", "many"]) : FnOk P w K mg base CX0 1 D_l_can.f D_l_can.fd ["differences", "many"] (spCan K) := by
  refine D_l_can.F.ok sc_l_can (fun vs H Q E h => ?_) (fun cdv A outer s H vs Q E hr h => ?_)
  · obtain ⟨a, many, ds, rfl, _⟩ := h
    rfl
  · obtain ⟨a, many, ds, rfl, hd, hrg, hm, qt, qf⟩ := h
    refine ⟨_, (pss_cons (ps_setLc (i := 2) (own := [("k", 3)]) (g := gName 3) (by rfl) sc_l_can.nd rfl rfl (sw_true rfl rfl rfl (by decide +kernel)) (pi_range1 (by rfl) T.n_range (pa_cons (pe_op op_add (pv 1) pe_int) pa_nil)) (blkOk_by (own := [("k", 3)]) (N := ["differences", "many", "level", "k", "step", "moved", "u", "v", "c"]) (sc := defScope s_l_can) (by decide +kernel)) (fun _ _ _ _ _ => pg_name (i := 3) sc_l_can.nd rfl (Or.inl rfl)) (fun _ _ _ _ _ => pts_nil) (fun _ _ _ _ _ => pe_int))
    (pss_cons (ps_for PassesOwn.never rfl (pi_range1 (by rfl) T.n_range (pa_cons (pe_op op_add (pv 1) pe_int) pa_nil)) (pg_name (i := 4) sc_l_can.nd rfl (.inl rfl))
    (pss_cons (ps_set (i := 5) sc_l_can.nd rfl (.inl rfl) pe_bl)
    (pss_cons (ps_for PassesOwn.never rfl (pi_list (pv 0)) (pg_tup (by rfl) (pgs_cons (pg_name (i := 6) sc_l_can.nd rfl (.inl rfl)) (pgs_cons (pg_name (i := 7) sc_l_can.nd rfl (.inl rfl)) (pgs_cons (pg_name (i := 8) sc_l_can.nd rfl (.inl rfl)) pgs_nil))))
    (pss_one (ps_if (pt_cmpR op_gt (pe_ix ix_list (pv 2) (pv 6) (fun _ _ => rfl)) (pe_op op_add (pe_ix ix_list (pv 2) (pv 7) (fun _ _ => rfl)) (pv 8)) (nomark _))
    (pss_cons (ps_asg (pe_op op_add (pe_ix ix_list (pv 2) (pv 7) (fun _ _ => rfl)) (pv 8)) (pg_sub (pv 2) (pv 6) set_list))
    (pss_one (ps_set (i := 5) sc_l_can.nd rfl (.inl rfl) pe_bl)))
    pss_nil)))
    (pss_one (ps_if (pt_not (pt_val (pv 5)))
    (pss_one (ps_ret pe_bl))
    pss_nil)))))
    (pss_one (ps_ret pe_bl)))), ?_⟩
    refine ⟨_, rfl, _, _, rfl, rfl, _, rfl, by omega, by omega, fun L nL => ?_⟩
    rw [show ((many : Int) + 1).toNat = many + 1 by omega]
    refine lc_range (lo := 0) (n := many + 1) (fun i H1 => Same H H1 ∧ H1 L = some (.lst ((List.replicate i (0 : Int)).map V.int))) ⟨same_new nL, upd_same⟩ (fun i H1 hi hP => ?_) (fun H1 hP => ?_)
    · obtain ⟨s3, e3⟩ := hP
      refine ⟨rfl, _, e3, by rw [List.length_map, List.length_replicate]; exact small_sz5 (by omega), same_mut s3 nL, ?_⟩
      rw [upd_same, List.replicate_succ', List.map_append]
      rfl
    obtain ⟨s1, e1⟩ := hP
    obtain ⟨xd, hs, hxl, hget⟩ := hd.get
    refine ⟨_, rfl, _, _, rfl, rfl, _, rfl, by omega, by omega, ?_⟩
    rw [show ((many : Int) + 2).toNat = many + 2 by omega]
    refine for_range (lo := 0) (n := many + 2) (fun i σ G => (∃ y4 y5 y6 y7 y8 : Option V, σ = [some (.ref a), some (.int (many : Nat)), some (.ref L), none, y4, y5, y6, y7, y8]) ∧ Same H G ∧ ∃ l0 : List Int, G L = some (.lst (l0.map V.int)) ∧ l0.length = many + 1 ∧ ∀ h, TopH ds h → (∀ u, u < many + 1 → h u ≤ hsF l0 u ∧ hsF l0 u ≤ 0) ∧ i ≤ cntS (many + 1) (hsF l0) h)
      ⟨⟨_, _, _, _, _, rfl⟩, s1, List.replicate (many + 1) 0, e1, List.length_replicate, fun h t => ⟨fun u hu => ?_, Nat.zero_le _⟩⟩ (fun i σ G hi hP => ?_) (fun σ G hP => ?_)
    · have h0 : hsF (List.replicate (many + 1) (0 : Int)) u = 0 := by
        unfold hsF
        rw [List.getD_eq_getElem?_getD, List.getElem?_replicate, if_pos hu]
        rfl
      rw [h0]
      exact ⟨t.le u, Int.le_refl _⟩
    · obtain ⟨⟨y4, y5, y6, y7, y8, rfl⟩, sG, l0, eL, hl0, hT⟩ := hP
      refine ⟨_, rfl, a, rfl, ⟨_, sG.seq hs⟩, ?_⟩
      refine for_list (K := K) (a := a) (xs := xd) (fun j σ G => ∃ (b : Bool) (lv : List Int) (y4 y6 y7 y8 : Option V), σ = [some (.ref a), some (.int (many : Nat)), some (.ref L), none, y4, some (.bl b), y6, y7, y8] ∧ Same H G ∧ G L = some (.lst (lv.map V.int)) ∧ Swp ds (many + 1) l0 lv b j)
        ⟨false, l0, _, _, _, _, rfl, sG, eL, hl0, fun h t u hu => ⟨((hT h t).1 u hu).1, Int.le_refl _⟩, fun h t e u v c he => absurd he (Nat.not_lt_zero _), fun _ => ⟨rfl, fun e u v c he => absurd he (Nat.not_lt_zero _)⟩, fun _ _ _ => rfl⟩ (fun j σ G _ hP => ?_) (fun j x σ G hx hP => ?_) (fun σ G hP => ?_)
      · obtain ⟨_, _, _, _, _, _, _, sG2, _⟩ := hP
        exact sG2.seq hs
      · obtain ⟨b, lv, y4, y6, y7, y8, rfl, sG2, eL2, S⟩ := hP
        have hj : j < ds.length := by
          have := (List.getElem?_eq_some_iff.mp hx).1
          omega
        have hdj : ds[j]? = some (ds[j].1, ds[j].2.1, ds[j].2.2) := List.getElem?_eq_getElem hj
        obtain ⟨t, t1, t2⟩ := hget j ds[j].1 ds[j].2.1 ds[j].2.2 hdj
        rw [hx] at t1
        cases t1
        have hr := hrg _ (List.getElem_mem hj)
        have hu : ds[j].1 < lv.length := by rw [S.len]; exact hr.1
        have hv : ds[j].2.1 < lv.length := by rw [S.len]; exact hr.2
        refine ⟨t, _, rfl, sqt_same sG2 t2, rfl, _, _, rfl, _, _, rfl, _, _, rfl, rfl, ?_⟩
        refine ⟨_, rfl, _, rfl, L, _, _, _, rfl, rfl, SqL.of eL2, hsF_at hu, _, rfl, _, rfl, L, _, _, _, rfl, rfl, SqL.of eL2, hsF_at hv, _, rfl, _, _, rfl, rfl, _, _, rfl, rfl, _, rfl, ite2 (fun e3 => ?_) (fun e3 => ?_)⟩
        · have e3 := of_decide_eq_true e3
          refine ⟨_, rfl, _, rfl, L, _, _, _, rfl, rfl, SqL.of eL2, hsF_at hv, _, rfl, _, _, rfl, rfl, _, rfl, _, rfl, L, _, _, ds[j].1, rfl, rfl, eL2, by rw [List.length_map]; exact ixN_nat hu, ?_⟩
          refine ⟨true, lv.set ds[j].1 (hsF lv ds[j].2.1 + ds[j].2.2), _, _, _, _, rfl, same_mut sG2 nL, ?_, swp_move S hrg hdj e3⟩
          rw [upd_same, List.map_set]
        · have e3 : ¬ hsF lv ds[j].1 > hsF lv ds[j].2.1 + ds[j].2.2 := fun h => e3 (decide_eq_true h)
          exact ⟨b, lv, _, _, _, _, rfl, sG2, eL2, swp_keep S hrg hdj e3⟩
      · obtain ⟨b, lv, y4, y6, y7, y8, rfl, sG2, eL2, S⟩ := hP
        rw [hxl] at S
        have hallD : ∀ d, d ∈ ds → ∃ e, e < ds.length ∧ ds[e]? = some (d.1, d.2.1, d.2.2) := fun d hd2 => by
          obtain ⟨e, he, ee⟩ := List.getElem_of_mem hd2
          exact ⟨e, he, by rw [List.getElem?_eq_getElem he, ee]⟩
        cases b with
        | false =>
          refine ⟨_, rfl, _, rfl, iteT ?_⟩
          refine qt ⟨hsF l0, fun d hd2 => ?_⟩ G sG2
          obtain ⟨e, he, ee⟩ := hallD d hd2
          have := (S.st rfl).2 e _ _ _ he ee
          omega
        | true =>
          refine ⟨_, rfl, _, rfl, iteF ?_⟩
          refine ⟨⟨_, _, _, _, _, rfl⟩, sG2, lv, eL2, S.len, fun h t => ?_⟩
          obtain ⟨hT1, hT2⟩ := hT h t
          refine ⟨fun u hu => ⟨(S.lo h t u hu).1, Int.le_trans (S.lo h t u hu).2 (hT1 u hu).2⟩, ?_⟩
          have hex : ∃ u, u < many + 1 ∧ hsF l0 u ≠ h u := Classical.byContradiction fun no => by
            have := S.al h t fun u hu => Classical.byContradiction fun hne => no ⟨u, hu, hne⟩
            cases this
          obtain ⟨d, hd2, h1, h2, h3⟩ := tight_edge t hrg hT1 hex
          obtain ⟨e, he, ee⟩ := hallD d hd2
          have h4 := S.ti h t e _ _ _ he ee h2 h3
          have h5 := cntS_lt (n := many + 1) (l := hsF l0) (l' := hsF lv) (h := h) (fun u hu hh => by
            have := S.lo h t u hu
            omega) ⟨d.1, (hrg d hd2).1, h1, h4⟩
          omega
    · obtain ⟨⟨y4, y5, y6, y7, y8, rfl⟩, sG, l0, eL, hl0, hT⟩ := hP
      refine qf (fun h t => ?_) G sG
      have h1 := (hT h t).2
      have h2 := cntS_le (many + 1) (hsF l0) h
      omega
end
end SW

set_option maxHeartbeats 8000000
namespace SW
open PySem PySem.Spec PyProof.Rows L2
abbrev s_l_more : Stmt := topS 14
theorem sc_l_more : FnScope ["script", "place", "count", "many", "values", "draws", "k", "weights", "more", "u", "v", "c"] ["script", "place", "count", "many", "values"] (defScope s_l_more) := ⟨rfl, rfl, rfl, by decide +kernel, rfl, by decide +kernel, by decide +kernel⟩

abbrev s_l_goes : Stmt := topS 15
theorem sc_l_goes : FnScope ["heights", "differences", "more", "many", "difference", "ring"] ["heights", "differences", "more", "many"] (defScope s_l_goes) := ⟨rfl, rfl, rfl, by decide +kernel, rfl, by decide +kernel, by decide +kernel⟩

/-- a list of differences that may be written -/
def DW (K : PySem.W.Frag) (H : Hp) (a : Addr) (ds : List D3) : Prop := ∃ xd, H a = some (.lst xd) ∧ DpAll K H xd (ds.map d3)
theorem DW.dl {K : PySem.W.Frag} {H : Hp} {a : Addr} {ds : List D3} (d : DW K H a ds) : DL K H a ds := by
  obtain ⟨xd, h1, h2⟩ := d
  exact ⟨xd, SqL.of h1, h2⟩
theorem DW.nt {K : PySem.W.Frag} {H : Hp} {a : Addr} {ds : List D3} (d : DW K H a ds) : NT H a := by
  obtain ⟨xd, h1, h2⟩ := d
  exact NT.lst h1
theorem DW.chg {K : PySem.W.Frag} {H H' : Hp} {S : List Addr} {a : Addr} {ds : List D3} (d : DW K H a ds) (n : ∀ c, c ∈ S → NT H c) (g : Chg S H H') (na : a ∉ S) : DW K H' a ds := by
  obtain ⟨xd, h1, h2⟩ := d
  exact ⟨xd, g _ _ na h1, chg_dpa n g _ _ (noLs_d3 _) h2⟩
theorem DW.same {K : PySem.W.Frag} {H H' : Hp} {a : Addr} {ds : List D3} (d : DW K H a ds) (s : Same H H') : DW K H' a ds := by
  obtain ⟨xd, h1, h2⟩ := d
  exact ⟨xd, s _ _ h1, dpa_same s _ _ h2⟩
theorem chg_free {S : List Addr} {H H' : Hp} (g : Chg S H H') (hS : ∀ c, c ∈ S → H' c ≠ none) {R : Addr} (h : H' R = none) : H R = none := by
  cases e : H R with
  | none => rfl
  | some o =>
    by_cases hR : R ∈ S
    · exact absurd h (hS R hR)
    · rw [g _ _ hR e] at h
      cases h
section
variable {P : Program} {w : World} {K : PySem.W.Frag} {mg : PySem.Str → Option Value} {base : Heap} {C : Addr}
def spGoes (K : PySem.W.Frag) (C : Addr) : Sp := fun vs H Q _ => ∃ (k : Hk) (a mo : Addr) (many : Nat) (ds ms : List D3) (hs : List Int), vs = [.ref k.p, .ref a, .ref mo, .int (many : Nat)] ∧ HAt K C H k ds hs ∧ DW K H a ds ∧ a ∉ k.own ∧ HOk (many + 1) ds hs ∧ DW K H mo ms ∧ mo ≠ a ∧ mo ∉ k.own ∧ (∀ d, d ∈ ms → d.1 < many + 1 ∧ d.2.1 < many + 1) ∧ ds.length + ms.length ≤ 100 ∧
  (∀ R hs' H', Chg (a :: k.own) H H' → H R = none → H' R = some (.lst []) → HAt K C H' k (ds ++ ms) hs' → HOk (many + 1) (ds ++ ms) hs' → DW K H' a (ds ++ ms) → Q (.ref R) H') ∧
  ∀ R H', Chg (a :: k.own) H H' → H R = none → H' R = some (.lst [.bl true]) → Q (.ref R) H'
theorem ok_l_goes (T : TxH K mg C) (D_l_goes : Df K mg "_law_goes" s_l_goes ["heights", "differences", "more", "many"]) (D_l_can : Df K mg "_law_can" s_l_can ["differences", "many"]) (D_l_is_ring : Df K mg "_law_is_ring" s_l_is_ring ["differences", "ring"]) (D_l_fits : Df K mg "_law_fits" s_l_fits ["heights", "differences", "many"]) (G_l_can : FnOk P w K mg base CX0 1 D_l_can.f D_l_can.fd ["differences", "many"] (spCan K)) (G_l_is_ring : FnOk P w K mg base CX0 2 D_l_is_ring.f D_l_is_ring.fd ["differences", "ring"] (spIsRing K)) (G_l_fits : FnOk P w K mg base CX0 2 D_l_fits.f D_l_fits.fd ["heights", "differences", "many"] (spFits K C)) {fT : Addr} {fdT : FuncData} (m_tie : Meth K C "tie" fT) (G_tie : FnOk P w K mg base CX0 3 fT fdT ["self", "difference"] (spTie K C)) (b_tie : Binds K fdT ["self", "difference"] []) : FnOk P w K mg base CX0 4 D_l_goes.f D_l_goes.fd ["heights", "differences", "more", "many"] (spGoes K C) := by
  refine D_l_goes.F.ok sc_l_goes (fun vs H Q E h => ?_) (fun cdv A outer s H vs Q E hr h => ?_)
  · obtain ⟨k, a, mo, many, ds, ms, hs, rfl, _⟩ := h
    rfl
  · obtain ⟨k, a, mo, many, ds, ms, hs, rfl, ha, hd, hao, ho, hmo, hma, hmk, hrg, hlen, qa, qb⟩ := h
    refine ⟨_, (pss_cons (ps_for PassesOwn.never rfl (pi_list (pv 2)) (pg_name (i := 4) sc_l_goes.nd rfl (.inl rfl))
    (pss_cons (ps_set (i := 5) sc_l_goes.nd rfl (.inl rfl) (pe_meth (pv 0) T.cl m_tie G_tie (hr.mono (by decide)) b_tie .nil pass0 (pa_cons (pv 4) pa_nil)))
    (pss_cons (ps_expr (pe_bm PySem.F.plainAttrs_list PySem.F.slot_list_append PySem.F.type_list_append mt_append (pv 1) (pa_cons (pv 4) pa_nil)))
    (pss_cons (ps_if (pt_not (pt_val (pe_call G_l_can (hr.mono (by decide)) (by rfl) D_l_can.g D_l_can.F.kp D_l_can.b .nil pass0 (pa_cons (pv 1) (pa_cons (pv 3) pa_nil)))))
    (pss_one (ps_ret (pe_lst (pa_cons (pe_call G_l_is_ring (hr.mono (by decide)) (by rfl) D_l_is_ring.g D_l_is_ring.F.kp D_l_is_ring.b .nil pass0 (pa_cons (pv 1) (pa_cons (pv 5) pa_nil))) pa_nil))))
    pss_nil)
    (pss_one (ps_if (PW.pt (pw_or (pt_cmpR op_notN (pv 5) pe_non (nomark _)) (pw_or1 (pt_not (pt_val (pe_call G_l_fits (hr.mono (by decide)) (by rfl) D_l_fits.g D_l_fits.F.kp D_l_fits.b .nil pass0 (pa_cons (pv 0) (pa_cons (pv 1) (pa_cons (pv 3) pa_nil)))))))))
    (pss_one (ps_ret (pe_lst (pa_cons pe_bl pa_nil))))
    pss_nil))))))
    (pss_one (ps_ret (pe_lst pa_nil)))), ?_⟩
    obtain ⟨xm, em, hxm⟩ := hmo
    have hmo : DW K H mo ms := ⟨xm, em, hxm⟩
    have hxl : xm.length = ms.length := by rw [dpa_len hxm, List.length_map]
    have ntH : ∀ c, c ∈ (a :: k.own) → NT H c := fun c hc => by
      rcases List.mem_cons.mp hc with rfl | hc
      · exact hd.nt
      · exact ha.nt c hc
    have hmS : mo ∉ a :: k.own := fun h => (List.mem_cons.mp h).elim hma hmk
    refine ⟨_, rfl, mo, rfl, ⟨_, SqL.of em⟩, ?_⟩
    refine for_list (K := K) (a := mo) (xs := xm) (fun i σ G => (∃ y4 y5 : Option V, σ = [some (.ref k.p), some (.ref a), some (.ref mo), some (.int (many : Nat)), y4, y5]) ∧ Chg (a :: k.own) H G ∧ ∃ hs2 : List Int, HAt K C G k (ds ++ ms.take i) hs2 ∧ HOk (many + 1) (ds ++ ms.take i) hs2 ∧ DW K G a (ds ++ ms.take i))
      ⟨⟨_, _, rfl⟩, fun _ _ _ h => h, hs, by rw [List.take_zero, List.append_nil]; exact ha, by rw [List.take_zero, List.append_nil]; exact ho, by rw [List.take_zero, List.append_nil]; exact hd⟩ (fun i σ G _ hP => ?_) (fun i x σ G hx hP => ?_) (fun σ G hP => ?_)
    · exact SqL.of (hP.2.1 _ _ hmS em)
    · obtain ⟨⟨y4, y5, rfl⟩, g, hs2, hA, hO, hD⟩ := hP
      have hi : i < ms.length := by
        have := (List.getElem?_eq_some_iff.mp hx).1
        omega
      have hmG := hmo.chg ntH g hmS
      obtain ⟨xm2, em2, hxm2⟩ := hmG
      have : xm2 = xm := by
        have h := g _ _ hmS em
        rw [em2] at h
        cases h
        rfl
      subst this
      obtain ⟨v, g1, g2⟩ := dp_mem hxm2 hi
      rw [hx] at g1
      cases g1
      obtain ⟨t, v1, v2, v3, rfl, ht, w1, w2, w3⟩ := dp_inv3 g2
      cases dp_int_inv w1
      cases dp_int_inv w2
      cases dp_int_inv w3
      have hr := hrg _ (List.getElem_mem hi)
      have htk : ds ++ ms.take (i + 1) = (ds ++ ms.take i) ++ [(ms[i].1, ms[i].2.1, ms[i].2.2)] := by
        rw [List.take_succ_eq_append_getElem hi, List.append_assoc]
      have hln : (ds ++ ms.take i).length < 100 := by
        rw [List.length_append, List.length_take]
        omega
      obtain ⟨dx, eo⟩ := hA.ob
      have chgA : ∀ {G2 G3 : Hp} {z : List V}, Chg k.own G G2 → G3 = upd G2 a (.lst z) → Chg (a :: k.own) G G3 := fun g3 h b o hb e => by
        have hba : b ≠ a := fun q => hb (by rw [q]; exact List.mem_cons_self)
        rw [h, upd_ne hba]
        exact g3 b o (fun q => hb (List.mem_cons_of_mem _ q)) e
      obtain ⟨xd, ed, hxd⟩ := hD
      have hxdl : xd.length = (ds ++ ms.take i).length := by rw [dpa_len hxd, List.length_map]
      refine ⟨_, rfl, k.p, dx, _, rfl, eo, hF_no _ _ _ (by decide +kernel), _, rfl, k, t, many + 1, ms[i].1, ms[i].2.1, ms[i].2.2, ds ++ ms.take i, hs2, rfl, hA, ht, hO, hln, hr.1, hr.2, fun hs3 G2 c2 hA2 hl2 ht2 => ?_, fun R es z G2 c2 own2 nR eR wk hz hne => ?_⟩
      · have ed2 := c2 _ _ hao ed
        refine ⟨_, rfl, .inl ⟨rfl, _, SqL.of ed2⟩, _, rfl, a, _, _, rfl, rfl, ed2, by rw [hxdl]; exact small_sz5 (by omega), ?_⟩
        generalize hG3 : upd G2 a (.lst (xd ++ [.ref t])) = G3
        have ed3 : G3 a = some (.lst (xd ++ [.ref t])) := by
          rw [← hG3]
          exact upd_same
        have c3 : Chg [a] G2 G3 := fun b o hb e => by
          rw [← hG3, upd_ne (fun q => hb (List.mem_singleton.mpr q))]
          exact e
        have nt3 : ∀ c, c ∈ ([a] : List Addr) → NT G2 c := fun c hc => by
          rw [List.mem_singleton.mp hc]
          exact NT.lst ed2
        have hA3 := hA2.chg nt3 c3 (fun c hc h => hao (List.mem_singleton.mp h ▸ hc))
        have hdd : DW K G3 a ((ds ++ ms.take i) ++ [(ms[i].1, ms[i].2.1, ms[i].2.2)]) := by
          refine ⟨_, ed3, ?_⟩
          rw [List.map_append]
          refine dpa_snoc (chg_dpa nt3 c3 _ _ (noLs_d3 _) (chg_dpa hA.nt c2 _ _ (noLs_d3 _) hxd)) (.tup (chg_sqt nt3 c3 (chg_sqt hA.nt c2 ht)) (.cons (.int _) (.cons (.int _) (.cons (.int _) .nil))))
        have hO3 : HOk (many + 1) ((ds ++ ms.take i) ++ [(ms[i].1, ms[i].2.1, ms[i].2.2)]) hs3 := ⟨hl2, fun d hd2 => by
          rcases List.mem_append.mp hd2 with hd2 | hd2
          · exact hO.rng d hd2
          · rw [List.mem_singleton.mp hd2]
            exact hr, by rw [List.length_append, List.length_singleton]; omega, hO.nl, ht2⟩
        have hnl := hO.nl
        refine ⟨_, rfl, _, rfl, a, many, _, rfl, hdd.dl, hO3.rng, by omega, fun _ G4 s4 => ?_, fun hno => absurd ht2 (hno _)⟩
        refine ⟨_, rfl, iteF ?_⟩
        refine ⟨_, rfl, rfl, _, rfl, iteF ?_⟩
        refine ⟨_, rfl, _, rfl, _, rfl, k, a, many, _, hs3, rfl, hA3.same s4, (hdd.same s4).dl, hO3, fun G5 s5 => ⟨_, rfl, iteF ?_⟩⟩
        have cF : Chg (a :: k.own) G G5 := (chgA c2 hG3.symm).trans ((chg_of s4).trans (chg_of s5))
        refine ⟨⟨_, _, rfl⟩, g.trans cF, hs3, ?_⟩
        rw [htk]
        exact ⟨(hA3.same s4).same s5, hO3, (hdd.same s4).same s5⟩
      · have ed2 := c2 _ _ hao ed
        refine ⟨_, rfl, .inl ⟨rfl, _, SqL.of ed2⟩, _, rfl, a, _, _, rfl, rfl, ed2, by rw [hxdl]; exact small_sz5 (by omega), ?_⟩
        generalize hG3 : upd G2 a (.lst (xd ++ [.ref t])) = G3
        have ed3 : G3 a = some (.lst (xd ++ [.ref t])) := by
          rw [← hG3]
          exact upd_same
        have c3 : Chg [a] G2 G3 := fun b o hb e => by
          rw [← hG3, upd_ne (fun q => hb (List.mem_singleton.mpr q))]
          exact e
        have nt3 : ∀ c, c ∈ ([a] : List Addr) → NT G2 c := fun c hc => by
          rw [List.mem_singleton.mp hc]
          exact NT.lst ed2
        have hdd : DW K G3 a ((ds ++ ms.take i) ++ [(ms[i].1, ms[i].2.1, ms[i].2.2)]) := by
          refine ⟨_, ed3, ?_⟩
          rw [List.map_append]
          refine dpa_snoc (chg_dpa nt3 c3 _ _ (noLs_d3 _) (chg_dpa hA.nt c2 _ _ (noLs_d3 _) hxd)) (.tup (chg_sqt nt3 c3 (chg_sqt hA.nt c2 ht)) (.cons (.int _) (.cons (.int _) (.cons (.int _) .nil))))
        have hrg3 : ∀ d, d ∈ (ds ++ ms.take i) ++ [(ms[i].1, ms[i].2.1, ms[i].2.2)] → d.1 < many + 1 ∧ d.2.1 < many + 1 := fun d hd2 => by
          rcases List.mem_append.mp hd2 with hd2 | hd2
          · exact hO.rng d hd2
          · rw [List.mem_singleton.mp hd2]
            exact hr
        have hnl := hO.nl
        have hRa : R ≠ a := fun h => by
          rw [h, ed] at nR
          cases nR
        have eR3 : G3 R = some (.tup (nV es)) := c3 _ _ (fun h => hRa (List.mem_singleton.mp h)) eR
        refine ⟨_, rfl, _, rfl, a, many, _, rfl, hdd.dl, hrg3, by omega, fun hfe => ?_, fun _ G4 s4 => ?_⟩
        · obtain ⟨s0, hs0⟩ := hfe
          have := wk.feas hs0
          omega
        refine ⟨_, rfl, iteT ?_⟩
        refine ⟨_, rfl, _, rfl, a, R, _, es, _, z, rfl, (hdd.same s4).dl, SqT.of (s4 _ _ eR3), wk, hne.1, hne.2, hz, fun G5 s5 => ⟨by show 1 ≤ sizeLine; decide, fun S nS => ?_⟩⟩
        have cF : Chg (a :: k.own) G G5 := (chgA c2 hG3.symm).trans ((chg_of s4).trans (chg_of s5))
        have cS := (g.trans cF).trans (chg_of (same_new (o := .lst [.bl true]) nS))
        refine qb S _ cS (chg_free (g.trans cF) (fun c hc => ?_) nS) upd_same
        rcases List.mem_cons.mp hc with rfl | hc
        · rw [s5 _ _ (s4 _ _ ed3)]
          exact fun h => nomatch h
        · have hca : c ≠ a := fun h => hao (h ▸ hc)
          intro hn
          cases e6 : G2 c with
          | none => exact own2 c hc e6
          | some o =>
            rw [s5 _ _ (s4 _ _ (c3 _ _ (fun h => hca (List.mem_singleton.mp h)) e6))] at hn
            cases hn
    · obtain ⟨⟨y4, y5, rfl⟩, g, hs2, hA, hO, hD⟩ := hP
      rw [hxl, List.take_length] at hA hO hD
      refine ⟨Nat.zero_le _, fun R nR => ?_⟩
      generalize hG3 : upd G R _ = G3
      obtain ⟨s3, e3⟩ := new_of nR hG3
      refine qa R hs2 G3 (g.trans (chg_of s3)) (chg_free g (fun c hc => ?_) nR) e3 (hA.same s3) hO (hD.same s3)
      rcases List.mem_cons.mp hc with rfl | hc
      · obtain ⟨xd, h1, _⟩ := hD
        rw [h1]
        exact fun h => nomatch h
      · exact hA.had hc
end
end SW

set_option maxHeartbeats 8000000
namespace SW
open PySem PySem.Spec PyProof.Rows L2
theorem dw_add {K : PySem.W.Frag} {G : Hp} {M t : Addr} {xs : List V} {ms : List D3} {u v : Nat} {c : Int} (eM : G M = some (.lst xs)) (hxs : DpAll K G xs (ms.map d3)) (nt : G t = none) : DW K (upd (upd G t (.tup [.int (u : Nat), .int (v : Nat), .int c])) M (.lst (xs ++ [.ref t]))) M (ms ++ [(u, v, c)]) := by
  have s1 := same_new (o := .tup [.int (u : Nat), .int (v : Nat), .int c]) nt
  have e1 : upd G t (.tup [.int (u : Nat), .int (v : Nat), .int c]) t = some (.tup [.int (u : Nat), .int (v : Nat), .int c]) := upd_same
  generalize upd G t _ = G1 at s1 e1
  have eM1 := s1 _ _ eM
  have htM : t ≠ M := fun h => by
    rw [h, eM1] at e1
    cases e1
  have c2 : Chg [M] G1 (upd G1 M (.lst (xs ++ [.ref t]))) := fun b o hb e => by
    rw [upd_ne (fun q => hb (List.mem_singleton.mpr q))]
    exact e
  have n2 : ∀ c, c ∈ ([M] : List Addr) → NT G1 c := fun c hc => by
    rw [List.mem_singleton.mp hc]
    exact NT.lst eM1
  refine ⟨_, upd_same, ?_⟩
  rw [List.map_append]
  exact dpa_snoc (chg_dpa n2 c2 _ _ (noLs_d3 _) (dpa_same s1 _ _ hxs)) (.tup (SqT.of (c2 _ _ (fun h => htM (List.mem_singleton.mp h)) e1)) (.cons (.int _) (.cons (.int _) (.cons (.int _) .nil))))
section
variable {P : Program} {w : World} {K : PySem.W.Frag} {mg : PySem.Str → Option Value} {base : Heap} {C : Addr}
def spMore (K : PySem.W.Frag) : Sp := fun vs H Q _ => ∃ (a vl : Addr) (ns vals : List Int) (p : Int) (count many : Nat), vs = [.ref a, .int p, .int (count : Nat), .int (many : Nat), .ref vl] ∧ SqL K H a (ns.map V.int) ∧ SqL K H vl (vals.map V.int) ∧ 0 ≤ p ∧ p ≤ 50 ∧ count ≤ 20 ∧ many ≤ 50 ∧ (vals.length = 0 ∨ many < vals.length) ∧
  ∀ R ms H', Same H H' → H R = none → DW K H' R ms → ms.length = count → (∀ d, d ∈ ms → d.1 < many + 1 ∧ d.2.1 < many + 1) → Q (.ref R) H'
theorem ok_l_more (T : TxB mg) (D_l_more : Df K mg "_law_more" s_l_more ["script", "place", "count", "many", "values"]) (D_l_draws : Df K mg "_law_draws" s_l_draws ["script", "place", "sizes"]) (D_l_weight : Df K mg "_law_weight" s_l_weight ["draw"]) (G_l_draws : FnOk P w K mg base CX0 2 D_l_draws.f D_l_draws.fd ["script", "place", "sizes"] (spDr K)) (G_l_weight : FnOk P w K mg base CX0 1 D_l_weight.f D_l_weight.fd ["draw"] spWeight) : FnOk P w K mg base CX0 3 D_l_more.f D_l_more.fd ["script", "place", "count", "many", "values"] (spMore K) := by
  refine D_l_more.F.ok sc_l_more (fun vs H Q E h => ?_) (fun cdv A outer s H vs Q E hr h => ?_)
  · obtain ⟨a, vl, ns, vals, p, count, many, rfl, _⟩ := h
    rfl
  · obtain ⟨a, vl, ns, vals, p, count, many, rfl, hS, hV, hp0, hp1, hc, hm, hvl, q⟩ := h
    refine ⟨_, (pss_cons (ps_set (i := 5) sc_l_more.nd rfl (.inl rfl) (pe_call G_l_draws (hr.mono (by decide)) (by rfl) D_l_draws.g D_l_draws.F.kp D_l_draws.b .nil pass0 (pa_cons (pv 0) (pa_cons (pv 1) (pa_cons (pe_lc (own := [("k", 6)]) (g := gName 6) (by rfl) sc_l_more.nd (pi_range1 (by rfl) T.n_range (pa_cons (pe_op op_mul pe_int (pv 2)) pa_nil)) (blkOk_by (own := [("k", 6)]) (N := ["script", "place", "count", "many", "values", "draws", "k", "weights", "more", "u", "v", "c"]) (sc := defScope s_l_more) (by decide +kernel)) (fun _ _ _ _ _ => pg_name (i := 6) sc_l_more.nd rfl (Or.inl rfl)) (fun _ _ _ _ _ => pts_nil) (fun _ _ _ _ _ => (pe_op op_add (pv 3) pe_int))) pa_nil)))))
    (pss_cons (ps_set (i := 7) sc_l_more.nd rfl (.inl rfl) (pe_call G_l_draws (hr.mono (by decide)) (by rfl) D_l_draws.g D_l_draws.F.kp D_l_draws.b .nil pass0 (pa_cons (pv 0) (pa_cons (pe_op op_add (pv 1) pe_int) (pa_cons (pe_lc (own := [("k", 6)]) (g := gName 6) (by rfl) sc_l_more.nd (pi_range1 (by rfl) T.n_range (pa_cons (pv 2) pa_nil)) (blkOk_by (own := [("k", 6)]) (N := ["script", "place", "count", "many", "values", "draws", "k", "weights", "more", "u", "v", "c"]) (sc := defScope s_l_more) (by decide +kernel)) (fun _ _ _ _ _ => pg_name (i := 6) sc_l_more.nd rfl (Or.inl rfl)) (fun _ _ _ _ _ => pts_nil) (fun _ _ _ _ _ => (pe_op op_pow pe_int pe_int))) pa_nil)))))
    (pss_cons (ps_set (i := 8) sc_l_more.nd rfl (.inl rfl) (pe_lst pa_nil))
    (pss_cons (ps_for PassesOwn.never rfl (pi_range1 (by rfl) T.n_range (pa_cons (pv 2) pa_nil)) (pg_name (i := 6) sc_l_more.nd rfl (.inl rfl))
    (pss_cons (ps_set (i := 9) sc_l_more.nd rfl (.inl rfl) (pe_ix ix_list (pv 5) (pe_op op_mul pe_int (pv 6)) (fun _ _ => rfl)))
    (pss_cons (ps_set (i := 10) sc_l_more.nd rfl (.inl rfl) (pe_ix ix_list (pv 5) (pe_op op_add (pe_op op_mul pe_int (pv 6)) pe_int) (fun _ _ => rfl)))
    (pss_cons (ps_set (i := 11) sc_l_more.nd rfl (.inl rfl) (pe_call G_l_weight (hr.mono (by decide)) (by rfl) D_l_weight.g D_l_weight.F.kp D_l_weight.b .nil pass0 (pa_cons (pe_ix ix_list (pv 7) (pv 6) (fun _ _ => rfl)) pa_nil)))
    (pss_cons (ps_if (pt_cmpR op_gt (pe_callB call_len_seq (by rfl) T.n_len PySem.boot_len (pa_cons (pv 4) pa_nil)) pe_int (nomark _))
    (pss_one (ps_set (i := 11) sc_l_more.nd rfl (.inl rfl) (pe_callB (call_max2 rfl) (by rfl) T.n_max (by decide +kernel) (pa_cons (pe_callTy call_int1 (by rfl) T.n_int (by decide +kernel) (pa_cons (pv 11) pa_nil)) (pa_cons (pe_callTy call_int1 (by rfl) T.n_int (by decide +kernel) (pa_cons (pe_op op_sub (pe_ix ix_list (pv 4) (pv 9) (fun _ _ => rfl)) (pe_ix ix_list (pv 4) (pv 10) (fun _ _ => rfl))) pa_nil)) pa_nil)))))
    pss_nil)
    (pss_one (ps_expr (pe_bm PySem.F.plainAttrs_list PySem.F.slot_list_append PySem.F.type_list_append mt_append (pv 8) (pa_cons (pe_tup (pa_cons (pv 9) (pa_cons (pv 10) (pa_cons (pv 11) pa_nil)))) pa_nil)))))))))
    (pss_one (ps_ret (pv 8))))))), ?_⟩
    -- draws
    refine ⟨_, rfl, _, rfl, _, rfl, _, _, rfl, rfl, .inl ⟨by decide, by decide⟩, _, rfl, by omega, by omega, fun Z nZ => ?_⟩
    rw [show (2 * ((count : Nat) : Int)).toNat = 2 * count by omega]
    refine lc_range (lo := 0) (n := 2 * count) (fun i H1 => Same H H1 ∧ H1 Z = some (.lst ((List.replicate i ((many : Int) + 1)).map V.int))) ⟨same_new nZ, upd_same⟩ (fun i H1 hi hP => ?_) (fun H1 hP => ?_)
    · obtain ⟨s3, e3⟩ := hP
      refine ⟨rfl, _, rfl, _, _, rfl, rfl, _, e3, by rw [List.length_map, List.length_replicate]; exact small_sz5 (by omega), same_mut s3 nZ, ?_⟩
      rw [upd_same, List.replicate_succ', List.map_append]
      rfl
    obtain ⟨s1, e1⟩ := hP
    refine ⟨a, Z, ns, _, p, rfl, s1.seq hS, hp0, by omega, SqL.of e1, by rw [List.length_replicate]; omega, fun s hs => ?_, fun D1 ds1 G1 hl1 hb1 s2 n1 e2 => ?_⟩
    · rw [List.eq_of_mem_replicate hs]
      refine ⟨by omega, ?_⟩
      rw [show ((many : Int) + 1).natAbs = many + 1 by omega]
      exact Nat.lt_of_le_of_lt (show many + 1 ≤ 51 by omega) (by decide)
    rw [List.length_replicate] at hl1
    have s12 := s1.trans s2
    -- weights
    refine ⟨_, rfl, _, rfl, _, _, rfl, rfl, _, rfl, _, rfl, by omega, by omega, fun Z2 nZ2 => ?_⟩
    rw [show ((count : Nat) : Int).toNat = count by omega]
    refine lc_range (lo := 0) (n := count) (fun i H1 => Same G1 H1 ∧ H1 Z2 = some (.lst ((List.replicate i ((10 : Int) ^ 42)).map V.int))) ⟨same_new nZ2, upd_same⟩ (fun i H1 hi hP => ?_) (fun H1 hP => ?_)
    · obtain ⟨s3, e3⟩ := hP
      refine ⟨rfl, _, _, rfl, rfl, ⟨by decide, by decide, by decide⟩, _, e3, by rw [List.length_map, List.length_replicate]; exact small_sz5 (by omega), same_mut s3 nZ2, ?_⟩
      rw [upd_same, List.replicate_succ', List.map_append]
      rfl
    obtain ⟨s3, e3⟩ := hP
    refine ⟨a, Z2, ns, _, p + 1, rfl, (s12.trans s3).seq hS, by omega, by omega, SqL.of e3, by rw [List.length_replicate]; omega, fun s hs => ?_, fun D2 ds2 G2 hl2 hb2 s4 n2 e4 => ?_⟩
    · rw [List.eq_of_mem_replicate hs]
      exact ⟨by decide, by decide⟩
    rw [List.length_replicate] at hl2
    have s14 := s12.trans (s3.trans s4)
    have e5 := (s3.trans s4) _ _ e2
    clear s3 s1 s2 s12 e3 e1 nZ nZ2 n1 n2
    -- more
    refine ⟨Nat.zero_le _, fun M nM => ?_⟩
    generalize hG3 : upd G2 M _ = G3
    obtain ⟨s5, e6⟩ := new_of nM hG3
    refine ⟨_, rfl, _, rfl, by omega, by omega, ?_⟩
    rw [show ((count : Nat) : Int).toNat = count by omega]
    refine for_range (lo := 0) (n := count) (fun i σ G => (∃ y6 y9 y10 y11 : Option V, σ = [some (.ref a), some (.int p), some (.int (count : Nat)), some (.int (many : Nat)), some (.ref vl), some (.ref D1), y6, some (.ref D2), some (.ref M), y9, y10, y11]) ∧ Same G2 G ∧ ∃ ms : List D3, DW K G M ms ∧ ms.length = i ∧ ∀ d, d ∈ ms → d.1 < many + 1 ∧ d.2.1 < many + 1)
      ⟨⟨_, _, _, _, rfl⟩, s5, [], ⟨[], e6, .nil⟩, rfl, fun d hd => absurd hd List.not_mem_nil⟩ (fun i σ G hi hP => ?_) (fun σ G hP => ?_)
    · obtain ⟨⟨y6, y9, y10, y11, rfl⟩, sG, ms, ⟨xs, eM, hxs⟩, hml, hrg⟩ := hP
      have hxl : xs.length = ms.length := by rw [dpa_len hxs, List.length_map]
      have hD1 := sG _ _ e5
      have hD2 := sG _ _ e4
      have hVG := (s14.trans sG).seq hV
      obtain ⟨u, hu, au⟩ : ∃ u : Nat, u < many + 1 ∧ atI (ds1.map V.int) (2 * (0 + (i : Int))) = some (.int (u : Nat)) := by
        have hj : 2 * i < ds1.length := by omega
        obtain ⟨k1, k2⟩ := hb1 (2 * i) ds1[2 * i] ((many : Int) + 1) (List.getElem?_eq_getElem hj) (by rw [List.getElem?_replicate, if_pos (by omega)])
        refine ⟨ds1[2 * i].toNat, by omega, ?_⟩
        rw [show (2 : Int) * (0 + (i : Int)) = ((2 * i : Nat) : Int) by omega, ints_at hj, show ((ds1[2 * i].toNat : Nat) : Int) = ds1[2 * i] by omega]
      obtain ⟨v, hv, av⟩ : ∃ v : Nat, v < many + 1 ∧ atI (ds1.map V.int) (2 * (0 + (i : Int)) + 1) = some (.int (v : Nat)) := by
        have hj : 2 * i + 1 < ds1.length := by omega
        obtain ⟨k1, k2⟩ := hb1 (2 * i + 1) ds1[2 * i + 1] ((many : Int) + 1) (List.getElem?_eq_getElem hj) (by rw [List.getElem?_replicate, if_pos (by omega)])
        refine ⟨ds1[2 * i + 1].toNat, by omega, ?_⟩
        rw [show (2 : Int) * (0 + (i : Int)) + 1 = ((2 * i + 1 : Nat) : Int) by omega, ints_at hj, show ((ds1[2 * i + 1].toNat : Nat) : Int) = ds1[2 * i + 1] by omega]
      have aw : atI (ds2.map V.int) (0 + (i : Int)) = some (.int (ds2[i]'(by omega))) := by
        rw [show (0 : Int) + (i : Int) = ((i : Nat) : Int) by omega]
        exact ints_at (by omega)
      refine ⟨_, rfl, _, rfl, _, _, rfl, rfl, .inl ⟨by decide, by decide⟩, D1, _, _, _, rfl, rfl, SqL.of hD1, au, ?_⟩
      refine ⟨_, rfl, _, rfl, _, _, rfl, rfl, .inl ⟨by decide, by decide⟩, _, _, rfl, rfl, D1, _, _, _, rfl, rfl, SqL.of hD1, av, ?_⟩
      refine ⟨_, rfl, _, rfl, D2, _, _, _, rfl, rfl, SqL.of hD2, aw, _, rfl, fun r => ?_⟩
      refine ⟨_, rfl, vl, _, rfl, .inl hVG, _, _, rfl, rfl, _, rfl, ite2 (fun e => ?_) (fun e => ?_)⟩
      · have e := of_decide_eq_true e
        rw [List.length_map] at e
        have hul : u < vals.length := by omega
        have hvl2 : v < vals.length := by omega
        refine ⟨_, rfl, .inl ⟨_, rfl, _, rfl, _, rfl, vl, _, _, _, rfl, rfl, hVG, ints_at hul, _, rfl, _, rfl, vl, _, _, _, rfl, rfl, hVG, ints_at hvl2, _, _, rfl, rfl, .inl ⟨_, rfl, _, _, rfl, ?_⟩⟩⟩
        refine ⟨_, rfl, .inl ⟨rfl, _, SqL.of eM⟩, _, rfl, _, rfl, _, rfl, by show 3 ≤ sizeLine; decide, fun t nt => ⟨M, _, _, rfl, rfl, (upd_ne (ne_of_none eM nt)).trans eM, by rw [hxl]; exact small_sz5 (by omega), ?_⟩⟩
        refine ⟨⟨_, _, _, _, rfl⟩, same_mut (sG.trans (same_new nt)) nM, _, dw_add eM hxs nt, by rw [List.length_append, hml]; rfl, fun d hd => ?_⟩
        rcases List.mem_append.mp hd with hd | hd
        · exact hrg d hd
        · rw [List.mem_singleton.mp hd]
          exact ⟨hu, hv⟩
      · refine ⟨_, rfl, .inl ⟨rfl, _, SqL.of eM⟩, _, rfl, _, rfl, _, rfl, by show 3 ≤ sizeLine; decide, fun t nt => ⟨M, _, _, rfl, rfl, (upd_ne (ne_of_none eM nt)).trans eM, by rw [hxl]; exact small_sz5 (by omega), ?_⟩⟩
        refine ⟨⟨_, _, _, _, rfl⟩, same_mut (sG.trans (same_new nt)) nM, _, dw_add eM hxs nt, by rw [List.length_append, hml]; rfl, fun d hd => ?_⟩
        rcases List.mem_append.mp hd with hd | hd
        · exact hrg d hd
        · rw [List.mem_singleton.mp hd]
          exact ⟨hu, hv⟩
    · obtain ⟨⟨y6, y9, y10, y11, rfl⟩, sG, ms, hD, hml, hrg⟩ := hP
      exact ⟨_, rfl, q M ms G (s14.trans sG) (s14.free nM) hD hml hrg⟩
end
end SW

set_option maxHeartbeats 16000000
namespace SW
open PySem PySem.Spec PyProof.Rows L2
abbrev s_law : Stmt := topS 16
theorem sc_law : FnScope ["script", "shape", "many", "room", "values", "draw", "k", "heights", "differences", "begin", "told", "twin", "twins", "late", "lates", "ended"] ["script"] (defScope s_law) := ⟨rfl, rfl, rfl, by decide +kernel, rfl, by decide +kernel, by decide +kernel⟩

theorem same_chg {S : List Addr} {G G8 G9 : Hp} (s : Same G G8) (f : ∀ c, c ∈ S → G c = none) (g : Chg S G8 G9) : Same G G9 := fun b o e => g b o (fun h => by
  rw [f b h] at e
  cases e) (s b o e)
theorem hsF_rep (hs : List Int) (n : Nat) : hsF (hs ++ List.replicate n 0) = hsF hs := by
  funext u
  unfold hsF
  rw [List.getD_eq_getElem?_getD, List.getD_eq_getElem?_getD]
  by_cases h : u < hs.length
  · rw [List.getElem?_append_left h]
  · rw [List.getElem?_append_right (by omega), List.getElem?_eq_none (l := hs) (by omega), List.getElem?_replicate]
    split <;> rfl
structure CkI (K : PySem.W.Frag) (C : Addr) (q : PySem.Str) (s : Stmt) (ps : List PySem.Str) where
  f : Addr
  fd : FuncData
  F : Fun K "__init__" q s f fd
  b : Binds K fd ps []
  M : Mk K C f
structure CkM (K : PySem.W.Frag) (C : Addr) (x q : PySem.Str) (s : Stmt) (ps : List PySem.Str) where
  f : Addr
  fd : FuncData
  F : Fun K x q s f fd
  b : Binds K fd ps []
  M : Meth K C x f
/-- a Heights, and the list of its differences -/
structure Ht (K : PySem.W.Frag) (C : Addr) (H : Hp) (k : Hk) (a : Addr) (many : Nat) (ds : List D3) (hs : List Int) : Prop where
  at_ : HAt K C H k ds hs
  dw : DW K H a ds
  no : a ∉ k.own
  ok : HOk (many + 1) ds hs
section
variable {K : PySem.W.Frag} {C : Addr} {H H' : Hp} {k : Hk} {a : Addr} {many : Nat} {ds : List D3} {hs : List Int}
theorem Ht.same (h : Ht K C H k a many ds hs) (s : Same H H') : Ht K C H' k a many ds hs := ⟨h.at_.same s, h.dw.same s, h.no, h.ok⟩
theorem Ht.nt (h : Ht K C H k a many ds hs) : ∀ c, c ∈ a :: k.own → NT H c := fun c hc => by
  rcases List.mem_cons.mp hc with rfl | hc
  · exact h.dw.nt
  · exact h.at_.nt c hc
theorem Ht.had (h : Ht K C H k a many ds hs) : ∀ c, c ∈ a :: k.own → H c ≠ none := fun c hc e => by
  obtain ⟨o, e2, _⟩ := h.nt c hc
  rw [e] at e2
  cases e2
theorem Ht.chg {S : List Addr} (h : Ht K C H k a many ds hs) (n : ∀ c, c ∈ S → NT H c) (g : Chg S H H') (na : ∀ c, c ∈ a :: k.own → c ∉ S) : Ht K C H' k a many ds hs :=
  ⟨h.at_.chg n g fun c hc => na c (List.mem_cons_of_mem _ hc), h.dw.chg n g (na a List.mem_cons_self), h.no, h.ok⟩
end
theorem spLaw_dummy : True := trivial
def spLaw (K : PySem.W.Frag) : Sp := fun vs H Q _ => ∃ (a : Addr) (ns : List Int), vs = [.ref a] ∧ SqL K H a (ns.map V.int) ∧ ns.length ≤ 63 ∧ ∀ H', Q (.bl true) H'
section
variable {P : Program} {w : World} {K : PySem.W.Frag} {mg : PySem.Str → Option Value} {base : Heap} {C : Addr}
theorem ok_law (T : TxH K mg C) (c_init : CkI K C "Heights.__init__" s_Heights___init__ ["self", "many"]) (c_tie : CkM K C "tie" "Heights.tie" s_Heights_tie ["self", "difference"]) (c_kept : CkM K C "kept" "Heights.kept" s_Heights_kept ["self"]) (c_grow : CkM K C "grow" "Heights.grow" s_Heights_grow ["self", "many"]) (c_twin : CkM K C "twin" "Heights.twin" s_Heights_twin ["self"]) (c_lower : CkM K C "_lower" "Heights._lower" s_Heights__lower ["self", "number"]) (c_ring : CkM K C "_ring" "Heights._ring" s_Heights__ring ["self", "number", "causes"])
    (D_law : Df K mg "law" s_law ["script"]) (D_l_cell : Df K mg "_law_cell" s_l_cell ["script", "k"]) (D_l_draws : Df K mg "_law_draws" s_l_draws ["script", "place", "sizes"]) (D_l_is_integer : Df K mg "_law_is_integer" s_l_is_integer ["value"]) (D_l_sum : Df K mg "_law_sum" s_l_sum ["differences", "numbers"]) (D_l_kept : Df K mg "_law_kept" s_l_kept ["differences", "values"]) (D_l_weight : Df K mg "_law_weight" s_l_weight ["draw"]) (D_l_can : Df K mg "_law_can" s_l_can ["differences", "many"]) (D_l_is_ring : Df K mg "_law_is_ring" s_l_is_ring ["differences", "ring"]) (D_l_fits : Df K mg "_law_fits" s_l_fits ["heights", "differences", "many"]) (D_l_more : Df K mg "_law_more" s_l_more ["script", "place", "count", "many", "values"]) (D_l_goes : Df K mg "_law_goes" s_l_goes ["heights", "differences", "more", "many"]) : FnOk P w K mg base CX0 5 D_law.f D_law.fd ["script"] (spLaw K) := by
  have G_l_cell := ok_l_cell (P := P) (w := w) (K := K) (base := base) T.toTxB D_l_cell
  have G_l_draws := ok_l_draws T.toTxB D_l_draws D_l_cell G_l_cell
  have G_l_is_integer := ok_l_is_integer (P := P) (w := w) (K := K) (base := base) T.toTxB D_l_is_integer
  have G_l_sum := ok_l_sum (P := P) (w := w) (K := K) (base := base) T.toTxB D_l_sum
  have G_l_kept := ok_l_kept (P := P) (w := w) (K := K) (base := base) T.toTxB D_l_kept
  have G_l_weight := ok_l_weight (P := P) (w := w) (K := K) (base := base) T.toTxB D_l_weight
  have G_l_can := ok_l_can (P := P) (w := w) (K := K) (base := base) T.toTxB D_l_can
  have G_l_is_ring := ok_l_is_ring T.toTxB D_l_is_ring D_l_is_integer D_l_sum G_l_is_integer G_l_sum
  have G_ring := ok_ring (P := P) (w := w) (base := base) c_ring.F T
  have G_lower := ok_lower c_lower.F T c_ring.M G_ring c_ring.b
  have G_tie := ok_tie c_tie.F T c_lower.M G_lower c_lower.b
  have G_kept := ok_kept (P := P) (w := w) (base := base) c_kept.F T
  have G_grow := ok_grow (P := P) (w := w) (base := base) c_grow.F T
  have G_Heights := ok_init (P := P) (w := w) (base := base) c_init.F T
  have M_Heights := c_init.M
  have b_Heights := c_init.b
  have G_twin := ok_twin c_twin.F T M_Heights G_Heights b_Heights
  have G_l_fits := ok_l_fits T D_l_fits D_l_is_integer D_l_kept G_l_is_integer G_l_kept c_kept.M G_kept c_kept.b
  have G_l_more := ok_l_more T.toTxB D_l_more D_l_draws D_l_weight G_l_draws G_l_weight
  have G_l_goes := ok_l_goes T D_l_goes D_l_can D_l_is_ring D_l_fits G_l_can G_l_is_ring G_l_fits c_tie.M G_tie c_tie.b
  have m_twin := c_twin.M
  have b_twin := c_twin.b
  have m_grow := c_grow.M
  have b_grow := c_grow.b
  refine D_law.F.ok sc_law (fun vs H Q E h => ?_) (fun cdv A outer s H vs Q E hr h => ?_)
  · obtain ⟨a, ns, rfl, _⟩ := h
    rfl
  · obtain ⟨sa, ns, rfl, hS, hns, q⟩ := h
    refine ⟨_, (pss_cons (ps_set (i := 1) sc_law.nd rfl (.inl rfl) (pe_call G_l_draws (hr.mono (by decide)) (by rfl) D_l_draws.g D_l_draws.F.kp D_l_draws.b .nil pass0 (pa_cons (pv 0) (pa_cons pe_int (pa_cons (pe_lst (pa_cons pe_int (pa_cons pe_int (pa_cons pe_int (pa_cons pe_int (pa_cons pe_int (pa_cons pe_int (pa_cons pe_int pa_nil)))))))) pa_nil)))))
    (pss_cons (ps_set (i := 2) sc_law.nd rfl (.inl rfl) (pe_ix ix_list (pv 1) pe_int (fun _ _ => rfl)))
    (pss_cons (ps_set (i := 3) sc_law.nd rfl (.inl rfl) (pe_op op_add (pv 2) (pe_ix ix_list (pv 1) pe_int (fun _ _ => rfl))))
    (pss_cons (ps_set (i := 4) sc_law.nd rfl (.inl rfl) (pe_lst pa_nil))
    (Evl.pss_cut (ps_if (pt_cmpR op_eq (pe_ix ix_list (pv 1) pe_int (fun _ _ => rfl)) pe_int (nomark _))
    (pss_one (ps_set (i := 4) sc_law.nd rfl (.inl rfl) (pe_op op_cat (pe_lst (pa_cons pe_int pa_nil)) (pe_lc (own := [("draw", 5)]) (g := gName 5) (by rfl) sc_law.nd (pi_list (pe_call G_l_draws (hr.mono (by decide)) (by rfl) D_l_draws.g D_l_draws.F.kp D_l_draws.b .nil pass0 (pa_cons (pv 0) (pa_cons pe_int (pa_cons (pe_lc (own := [("k", 6)]) (g := gName 6) (by rfl) sc_law.nd (pi_range1 (by rfl) T.n_range (pa_cons (pv 3) pa_nil)) (blkOk_by (own := [("k", 6)]) (N := ["script", "shape", "many", "room", "values", "draw", "k", "heights", "differences", "begin", "told", "twin", "twins", "late", "lates", "ended"]) (sc := defScope s_law) (by decide +kernel)) (fun _ _ _ _ _ => pg_name (i := 6) sc_law.nd rfl (Or.inl rfl)) (fun _ _ _ _ _ => pts_nil) (fun _ _ _ _ _ => (pe_op op_pow pe_int pe_int))) pa_nil))))) (blkOk_by (own := [("draw", 5)]) (N := ["script", "shape", "many", "room", "values", "draw", "k", "heights", "differences", "begin", "told", "twin", "twins", "late", "lates", "ended"]) (sc := defScope s_law) (by decide +kernel)) (fun _ _ _ _ _ => pg_name (i := 5) sc_law.nd rfl (Or.inl rfl)) (fun _ _ _ _ _ => pts_nil) (fun _ _ _ _ _ => (pe_call G_l_weight (hr.mono (by decide)) (by rfl) D_l_weight.g D_l_weight.F.kp D_l_weight.b .nil pass0 (pa_cons (pv 5) pa_nil)))))))
    pss_nil)
    (pss_cons (ps_set (i := 7) sc_law.nd rfl (.inl rfl) (pe_make M_Heights G_Heights (hr.mono (by decide)) rfl T.mg_Heights b_Heights .nil pass0 (pa_cons (pv 2) pa_nil)))
    (pss_cons (ps_set (i := 8) sc_law.nd rfl (.inl rfl) (pe_lst pa_nil))
    (pss_cons (ps_if (pt_not (pt_val (pe_call G_l_fits (hr.mono (by decide)) (by rfl) D_l_fits.g D_l_fits.F.kp D_l_fits.b .nil pass0 (pa_cons (pv 7) (pa_cons (pv 8) (pa_cons (pv 2) pa_nil))))))
    (pss_one (ps_ret pe_bl))
    pss_nil)
    (pss_cons (ps_set (i := 9) sc_law.nd rfl (.inl rfl) (pe_call G_l_more (hr.mono (by decide)) (by rfl) D_l_more.g D_l_more.F.kp D_l_more.b .nil pass0 (pa_cons (pv 0) (pa_cons pe_int (pa_cons (pe_ix ix_list (pv 1) pe_int (fun _ _ => rfl)) (pa_cons (pv 2) (pa_cons (pv 4) pa_nil)))))))
    (Evl.pss_cut (ps_if (PW.pt (pw_and (pt_cmpR op_eq (pe_ix ix_list (pv 1) pe_int (fun _ _ => rfl)) pe_int (nomark _)) (pw_and1 (pt_cmpR op_eq (pe_ix ix_list (pv 1) pe_int (fun _ _ => rfl)) pe_int (nomark _)))))
    (pss_one (ps_set (i := 9) sc_law.nd rfl (.inl rfl) (pe_op op_cat (pe_slice sl_list (pv 9) po_none (po_some pe_int)) (pe_rev (pe_lc (own := [("k", 6)]) (g := gName 6) (by rfl) sc_law.nd (pi_range1 (by rfl) T.n_range (pa_cons (pv 2) pa_nil)) (blkOk_by (own := [("k", 6)]) (N := ["script", "shape", "many", "room", "values", "draw", "k", "heights", "differences", "begin", "told", "twin", "twins", "late", "lates", "ended"]) (sc := defScope s_law) (by decide +kernel)) (fun _ _ _ _ _ => pg_name (i := 6) sc_law.nd rfl (Or.inl rfl)) (fun _ _ _ _ _ => pts_nil) (fun _ _ _ _ _ => (pe_tup (pa_cons (pv 6) (pa_cons (pe_op op_add (pv 6) pe_int) (pa_cons (pe_un un_neg (pv 6)) pa_nil)))))) (po_some (pe_un un_neg pe_int))))))
    pss_nil)
    (pss_cons (ps_set (i := 10) sc_law.nd rfl (.inl rfl) (pe_call G_l_goes (hr.mono (by decide)) (by rfl) D_l_goes.g D_l_goes.F.kp D_l_goes.b .nil pass0 (pa_cons (pv 7) (pa_cons (pv 8) (pa_cons (pv 9) (pa_cons (pv 2) pa_nil))))))
    (pss_cons (ps_if (pt_cmpR op_gt (pe_callB call_len_seq (by rfl) T.n_len PySem.boot_len (pa_cons (pv 10) pa_nil)) pe_int (nomark _))
    (pss_one (ps_ret (pe_ix ix_list (pv 10) pe_int (fun _ _ => rfl))))
    pss_nil)
    (pss_cons (ps_set (i := 11) sc_law.nd rfl (.inl rfl) (pe_meth0 (pv 7) T.cl m_twin G_twin (hr.mono (by decide)) b_twin .nil pass0))
    (pss_cons (ps_set (i := 12) sc_law.nd rfl (.inl rfl) (pe_callTy call_list_of (by rfl) T.n_list (by decide +kernel) (pa_cons (pv 8) pa_nil)))
    (pss_cons (ps_expr (pe_meth (pv 7) T.cl m_grow G_grow (hr.mono (by decide)) b_grow .nil pass0 (pa_cons (pv 3) pa_nil)))
    (pss_cons (ps_set (i := 13) sc_law.nd rfl (.inl rfl) (pe_meth0 (pv 7) T.cl m_twin G_twin (hr.mono (by decide)) b_twin .nil pass0))
    (pss_cons (ps_set (i := 14) sc_law.nd rfl (.inl rfl) (pe_callTy call_list_of (by rfl) T.n_list (by decide +kernel) (pa_cons (pv 8) pa_nil)))
    (pss_cons (ps_if (PW.pt (pw_or (pt_not (pt_val (pe_call G_l_fits (hr.mono (by decide)) (by rfl) D_l_fits.g D_l_fits.F.kp D_l_fits.b .nil pass0 (pa_cons (pv 7) (pa_cons (pv 8) (pa_cons (pv 3) pa_nil)))))) (pw_or1 (pt_not (pt_val (pe_call G_l_fits (hr.mono (by decide)) (by rfl) D_l_fits.g D_l_fits.F.kp D_l_fits.b .nil pass0 (pa_cons (pv 13) (pa_cons (pv 14) (pa_cons (pv 3) pa_nil)))))))))
    (pss_one (ps_ret pe_bl))
    pss_nil)
    (pss_cons (ps_set (i := 10) sc_law.nd rfl (.inl rfl) (pe_call G_l_goes (hr.mono (by decide)) (by rfl) D_l_goes.g D_l_goes.F.kp D_l_goes.b .nil pass0 (pa_cons (pv 7) (pa_cons (pv 8) (pa_cons (pe_call G_l_more (hr.mono (by decide)) (by rfl) D_l_more.g D_l_more.F.kp D_l_more.b .nil pass0 (pa_cons (pv 0) (pa_cons pe_int (pa_cons (pe_ix ix_list (pv 1) pe_int (fun _ _ => rfl)) (pa_cons (pv 3) (pa_cons (pv 4) pa_nil)))))) (pa_cons (pv 3) pa_nil))))))
    (pss_cons (ps_if (PW.pt (pw_or (pt_cmpR op_in_seq pe_bl (pv 10) (by rfl)) (pw_or (pt_not (pt_val (pe_call G_l_fits (hr.mono (by decide)) (by rfl) D_l_fits.g D_l_fits.F.kp D_l_fits.b .nil pass0 (pa_cons (pv 11) (pa_cons (pv 12) (pa_cons (pv 2) pa_nil)))))) (pw_or1 (pt_not (pt_val (pe_call G_l_fits (hr.mono (by decide)) (by rfl) D_l_fits.g D_l_fits.F.kp D_l_fits.b .nil pass0 (pa_cons (pv 13) (pa_cons (pv 14) (pa_cons (pv 3) pa_nil))))))))))
    (pss_one (ps_ret pe_bl))
    pss_nil)
    (pss_cons (ps_set (i := 15) sc_law.nd rfl (.inl rfl) (pe_cmpR op_gt (pe_callB call_len_seq (by rfl) T.n_len PySem.boot_len (pa_cons (pv 10) pa_nil)) pe_int (nomark _)))
    (pss_cons (ps_set (i := 10) sc_law.nd rfl (.inl rfl) (pe_call G_l_goes (hr.mono (by decide)) (by rfl) D_l_goes.g D_l_goes.F.kp D_l_goes.b .nil pass0 (pa_cons (pv 11) (pa_cons (pv 12) (pa_cons (pe_call G_l_more (hr.mono (by decide)) (by rfl) D_l_more.g D_l_more.F.kp D_l_more.b .nil pass0 (pa_cons (pv 0) (pa_cons pe_int (pa_cons (pe_ix ix_list (pv 1) pe_int (fun _ _ => rfl)) (pa_cons (pv 2) (pa_cons (pv 4) pa_nil)))))) (pa_cons (pv 2) pa_nil))))))
    (pss_one (ps_ret (pe_and (pe_cmpR op_notIn_seq pe_bl (pv 10) (by rfl)) (pe_one (pe_or (pv 15) (pe_one (pe_call G_l_fits (hr.mono (by decide)) (by rfl) D_l_fits.g D_l_fits.F.kp D_l_fits.b .nil pass0 (pa_cons (pv 7) (pa_cons (pv 8) (pa_cons (pv 3) pa_nil)))))))))))))))))))))))))))))))), ?_⟩
    clear G_l_cell G_l_is_integer G_l_sum G_l_kept G_l_can G_l_is_ring G_ring G_lower G_tie G_kept
    -- shape
    refine ⟨_, rfl, by show 7 ≤ sizeLine; decide, fun Z nZ => ?_⟩
    generalize hG : upd H Z _ = G1
    obtain ⟨s1, e1⟩ := new_of nZ hG
    refine ⟨sa, Z, ns, [2, 9, 9, 5, 9, 6, 4], 0, rfl, s1.seq hS, by decide, by decide, SqL.of e1, by show 7 ≤ 1000; decide, fun s hs => ?_, fun D0 sh G2 hl hb s2 nD e2 => ?_⟩
    · simp only [List.mem_cons, List.not_mem_nil, or_false] at hs
      rcases hs with rfl | rfl | rfl | rfl | rfl | rfl | rfl <;> exact ⟨by decide, by decide⟩
    obtain ⟨x0, x1, x2, x3, x4, x5, x6, rfl⟩ : ∃ x0 x1 x2 x3 x4 x5 x6, sh = [x0, x1, x2, x3, x4, x5, x6] := by
      match sh, hl with
      | [x0, x1, x2, x3, x4, x5, x6], _ => exact ⟨x0, x1, x2, x3, x4, x5, x6, rfl⟩
    have b0 := hb 0 x0 2 rfl rfl
    have b1 := hb 1 x1 9 rfl rfl
    have b2 := hb 2 x2 9 rfl rfl
    have b3 := hb 3 x3 5 rfl rfl
    have b4 := hb 4 x4 9 rfl rfl
    have b5 := hb 5 x5 6 rfl rfl
    have b6 := hb 6 x6 4 rfl rfl
    obtain ⟨m1, rfl⟩ : ∃ n : Nat, x1 = n := ⟨x1.toNat, by omega⟩
    obtain ⟨m2, rfl⟩ : ∃ n : Nat, x2 = n := ⟨x2.toNat, by omega⟩
    obtain ⟨m3, rfl⟩ : ∃ n : Nat, x3 = n := ⟨x3.toNat, by omega⟩
    obtain ⟨m4, rfl⟩ : ∃ n : Nat, x4 = n := ⟨x4.toNat, by omega⟩
    obtain ⟨m5, rfl⟩ : ∃ n : Nat, x5 = n := ⟨x5.toNat, by omega⟩
    have s12 := s1.trans s2
    clear hb hl s1 s2 e1 nZ hG nD
    refine ⟨_, rfl, D0, _, _, _, rfl, rfl, SqL.of e2, atI_nat (j := 1) rfl, ?_⟩
    refine ⟨_, rfl, _, rfl, D0, _, _, _, rfl, rfl, SqL.of e2, atI_nat (j := 3) rfl, _, _, rfl, rfl, ?_⟩
    dsimp only
    rw [show ((m1 : Nat) : Int) + ((m3 : Nat) : Int) = ((m1 + m3 : Nat) : Int) from rfl]
    refine ⟨Nat.zero_le _, fun V0 nV0 => ?_⟩
    generalize hG : upd G2 V0 _ = G3
    obtain ⟨s3, e3⟩ := new_of nV0 hG
    -- values
    refine ⟨fun σ' G => (∃ vl : Addr, σ' = [some (.ref sa), some (.ref D0), some (.int (m1 : Nat)), some (.int ((m1 + m3 : Nat) : Int)), some (.ref vl), none, none, none, none, none, none, none, none, none, none, none] ∧ Same G2 G ∧ ∃ vals : List Int, G vl = some (.lst (vals.map V.int)) ∧ (vals.length = 0 ∨ m1 + m3 < vals.length)), ?_, ?_⟩
    · have e2' := s3 _ _ e2
      refine ⟨_, rfl, D0, _, _, _, rfl, rfl, SqL.of e2', atI_nat (j := 0) rfl, rfl, _, rfl, ite2 (fun e => ?_) (fun e => ⟨V0, rfl, s3, [], e3, .inl rfl⟩)⟩
      refine ⟨by show 1 ≤ sizeLine; decide, fun p1 np1 => ?_⟩
      generalize hG4 : upd G3 p1 _ = G4
      obtain ⟨s4, e4⟩ := new_of np1 hG4
      refine ⟨_, rfl, _, rfl, _, rfl, by omega, by omega, fun Z2 nZ2 => ?_⟩
      rw [show (((m1 + m3 : Nat)) : Int).toNat = m1 + m3 by omega]
      refine lc_range (lo := 0) (n := m1 + m3) (fun i H1 => Same G4 H1 ∧ H1 Z2 = some (.lst ((List.replicate i ((10 : Int) ^ 42)).map V.int))) ⟨same_new nZ2, upd_same⟩ (fun i H1 hi hP => ?_) (fun H1 hP => ?_)
      · obtain ⟨s5, e5⟩ := hP
        refine ⟨rfl, _, _, rfl, rfl, ⟨by decide, by decide, by decide⟩, _, e5, by rw [List.length_map, List.length_replicate]; exact small_sz5 (by omega), same_mut s5 nZ2, ?_⟩
        rw [upd_same, List.replicate_succ', List.map_append]
        rfl
      obtain ⟨s5, e5⟩ := hP
      have s25 := s3.trans (s4.trans s5)
      refine ⟨sa, Z2, ns, _, 1, rfl, (s12.trans s25).seq hS, by decide, by decide, SqL.of e5, by rw [List.length_replicate]; omega, fun s hs => ?_, fun D2 ds2 G5 hl2 hb2 s6 n2 e6 => ?_⟩
      · rw [List.eq_of_mem_replicate hs]
        exact ⟨by decide, by decide⟩
      rw [List.length_replicate] at hl2
      refine ⟨D2, rfl, ⟨_, SqL.of e6⟩, fun W1 nW1 => ?_⟩
      refine lc_list (K := K) (a := D2) (xs := ds2.map V.int) (fun i H1 => Same G5 H1 ∧ ∃ rs : List Int, rs.length = i ∧ H1 W1 = some (.lst (rs.map V.int))) ⟨same_new nW1, [], rfl, upd_same⟩ (fun i H1 _ h => h.1.seq (SqL.of e6)) (fun i x H1 hx hP => ?_) (fun H1 hP => ?_)
      · obtain ⟨s7, rs, hrl, e7⟩ := hP
        have hi : i < ds2.length := by
          have := (List.getElem?_eq_some_iff.mp hx).1
          rw [List.length_map] at this
          exact this
        rw [List.getElem?_map, List.getElem?_eq_getElem hi] at hx
        cases hx
        refine ⟨rfl, _, rfl, _, rfl, fun r => ⟨_, e7, by rw [List.length_map, hrl]; exact small_sz5 (by omega), same_mut s7 nW1, rs ++ [r], by rw [List.length_append, hrl]; rfl, ?_⟩⟩
        rw [upd_same, List.map_append]
        rfl
      obtain ⟨s7, rs, hrl, e7⟩ := hP
      rw [List.length_map] at hrl
      have e4' := s7 _ _ (s6 _ _ (s5 _ _ e4))
      refine ⟨p1, W1, _, _, rfl, rfl, e4', e7, by rw [List.length_map]; exact Nat.le_of_lt (show 1 + rs.length < sizeLine from small_sz5 (by omega)), fun vl nvl => ?_⟩
      refine ⟨vl, rfl, ((s25.trans s6).trans s7).trans (same_new nvl), 0 :: rs, upd_same, .inr (by rw [List.length_cons]; omega)⟩
    intro σ' G hN
    obtain ⟨vl, rfl, sv, vals, eV, hvl⟩ := hN
    have e2' := sv _ _ e2
    have hS2 := (s12.trans sv).seq hS
    clear s3 e3 nV0 hG e2 s12 sv hS
    -- heights, differences
    refine ⟨_, rfl, fun x dx nx ndx dxx => ?_⟩
    refine ⟨x, dx, m1, rfl, upd_same, by omega, fun k G4 ek bt own0 h0 => ⟨rfl, ?_⟩⟩
    subst ek
    have s4 : Same G G4 := fun b o e => bt _ _ (ne_of_none e nx) (by rw [upd_ne (ne_of_none e nx), upd_ne (ne_of_none e ndx)]; exact e)
    have free4 : ∀ b, b ∈ k.own → G b = none := fun b hb => by
      rcases own0 b hb with rfl | h
      · exact nx
      · cases e : G b with
        | none => rfl
        | some o =>
          rw [upd_ne (ne_of_none e nx), upd_ne (ne_of_none e ndx), e] at h
          cases h
    clear bt own0 nx ndx dxx
    refine ⟨Nat.zero_le _, fun da nda => ?_⟩
    generalize hG5 : upd G4 da _ = G5
    obtain ⟨s5, e5⟩ := new_of nda hG5
    clear hG5
    have hda : da ∉ k.own := fun h => h0.had h nda
    have hT5 : Ht K C G5 k da m1 [] (List.replicate (m1 + 1) 0) := ⟨h0.same s5, ⟨[], e5, .nil⟩, hda, ⟨List.length_replicate, fun d hd => absurd hd List.not_mem_nil, Nat.zero_le _, by omega, by
      have : hsF (List.replicate (m1 + 1) (0 : Int)) = fun _ => 0 := by
        funext u
        unfold hsF
        rw [List.getD_eq_getElem?_getD, List.getElem?_replicate]
        split <;> rfl
      rw [this]
      exact top_nil⟩⟩
    refine ⟨_, rfl, _, rfl, _, rfl, k, da, m1, [], _, rfl, hT5.at_, hT5.dw.dl, hT5.ok, fun G6 s6 => ⟨_, rfl, iteF ?_⟩⟩
    have hT6 := hT5.same s6
    have s46 := s4.trans (s5.trans s6)
    have e26 := s46 _ _ e2'
    have eV6 := s46 _ _ eV
    have hS6 := s46.seq hS2
    have fr1 : ∀ c, c ∈ da :: k.own → G c = none := fun c hc => by
      rcases List.mem_cons.mp hc with rfl | hc
      · exact s4.free nda
      · exact free4 c hc
    clear hT5 h0 s5 e5 s6 nda
    -- begin
    refine ⟨_, rfl, _, rfl, D0, _, _, _, rfl, rfl, SqL.of e26, atI_nat (j := 2) rfl, _, rfl, _, rfl, sa, vl, ns, vals, 2, m2, m1, rfl, hS6, SqL.of eV6, by decide, by decide, by omega, by omega, by omega, fun R0 ms0 G7 s7 nR0 dw0 ml0 rg0 => ?_⟩
    have e27 := s7 _ _ e26
    refine ⟨fun σ' G => ∃ (R : Addr) (ms : List D3), σ' = [some (.ref sa), some (.ref D0), some (.int (m1 : Nat)), some (.int ((m1 + m3 : Nat) : Int)), some (.ref vl), none, none, some (.ref k.p), some (.ref da), some (.ref R), none, none, none, none, none, none] ∧ Same G6 G ∧ G6 R = none ∧ DW K G R ms ∧ ms.length ≤ 10 ∧ ∀ d, d ∈ ms → d.1 < m1 + 1 ∧ d.2.1 < m1 + 1, ?_, ?_⟩
    · have same0 : ∃ (R : Addr) (ms : List D3), [some (V.ref sa), some (.ref D0), some (.int (m1 : Nat)), some (.int ((m1 + m3 : Nat) : Int)), some (.ref vl), none, none, some (.ref k.p), some (.ref da), some (.ref R0), none, none, none, none, none, none] = [some (.ref sa), some (.ref D0), some (.int (m1 : Nat)), some (.int ((m1 + m3 : Nat) : Int)), some (.ref vl), none, none, some (.ref k.p), some (.ref da), some (.ref R), none, none, none, none, none, none] ∧ Same G6 G7 ∧ G6 R = none ∧ DW K G7 R ms ∧ ms.length ≤ 10 ∧ ∀ d, d ∈ ms → d.1 < m1 + 1 ∧ d.2.1 < m1 + 1 := ⟨R0, ms0, rfl, s7, nR0, dw0, by omega, rg0⟩
      refine ⟨_, rfl, D0, _, _, _, rfl, rfl, SqL.of e27, atI_nat (j := 6) rfl, rfl, _, rfl, ite2 (fun e => ?_) (fun e => iteF same0)⟩
      refine ⟨_, rfl, D0, _, _, _, rfl, rfl, SqL.of e27, atI_nat (j := 0) rfl, rfl, _, rfl, ite2 (fun e => ?_) (fun e => same0)⟩
      obtain ⟨xs0, ex0, hx0⟩ := dw0
      refine ⟨_, rfl, _, rfl, R0, _, rfl, SqL.of ex0, fun p1 np1 => ?_⟩
      have hcut : cutV xs0 none (some 2) = xs0.take 2 := by
        show (xs0.drop 0).take (HT.sIx xs0.length xs0.length (some ((2 : Nat) : Int)) - 0) = xs0.take 2
        rw [HT.sIx_nat, List.drop_zero, Nat.sub_zero]
        by_cases h2 : 2 ≤ xs0.length
        · rw [Nat.min_eq_left h2]
        · rw [Nat.min_eq_right (by omega), List.take_of_length_le (Nat.le_refl _), List.take_of_length_le (by omega)]
      rw [hcut]
      generalize hG8 : upd G7 p1 _ = G8
      obtain ⟨s8, e8⟩ := new_of np1 hG8
      have hx8 := dpa_take 2 (dpa_same s8 _ _ hx0)
      refine ⟨_, rfl, _, rfl, by omega, by omega, fun W1 nW1 => ?_⟩
      rw [show ((m1 : Nat) : Int).toNat = m1 by omega]
      refine lc_range (lo := 0) (n := m1) (fun i H1 => Same G8 H1 ∧ ∃ ms : List D3, DW K H1 W1 ms ∧ ms.length = i ∧ ∀ d, d ∈ ms → d.1 < m1 + 1 ∧ d.2.1 < m1 + 1) ⟨same_new nW1, [], ⟨[], upd_same, .nil⟩, rfl, fun d hd => absurd hd List.not_mem_nil⟩ (fun i H1 hi hP => ?_) (fun H1 hP => ?_)
      · obtain ⟨s9, ms, ⟨ys, e9, hy9⟩, hml, hrg⟩ := hP
        have hyl : ys.length = ms.length := by rw [dpa_len hy9, List.length_map]
        refine ⟨rfl, _, rfl, _, rfl, _, _, rfl, rfl, _, rfl, _, rfl, by show 3 ≤ sizeLine; decide, fun t nt => ?_⟩
        refine ⟨ys, (upd_ne (ne_of_none e9 nt)).trans e9, by rw [hyl]; exact small_sz5 (by omega), same_mut (s9.trans (same_new nt)) nW1, ms ++ [(0 + i, 0 + i + 1, -((0 : Int) + i))], dw_add e9 hy9 nt, by rw [List.length_append, hml]; rfl, fun d hd => ?_⟩
        rcases List.mem_append.mp hd with hd | hd
        · exact hrg d hd
        · rw [List.mem_singleton.mp hd]
          exact ⟨show 0 + i < m1 + 1 by omega, show 0 + i + 1 < m1 + 1 by omega⟩
      obtain ⟨s9, ms, ⟨ys, e9, hy9⟩, hml, hrg⟩ := hP
      have hyl : ys.length = ms.length := by rw [dpa_len hy9, List.length_map]
      refine ⟨_, rfl, _, rfl, W1, ys, rfl, rfl, SqL.of e9, fun p2 np2 => ?_⟩
      generalize hG10 : upd H1 p2 _ = G10
      obtain ⟨s10, e10⟩ := new_of np2 hG10
      have hl1 : (xs0.take 2).length ≤ 2 := by
        rw [List.length_take]
        omega
      refine ⟨p1, p2, _, _, rfl, rfl, s10 _ _ (s9 _ _ e8), e10, by rw [List.length_reverse]; exact Nat.le_of_lt (small_sz5 (by omega)), fun R nR => ?_⟩
      generalize hG11 : upd G10 R _ = G11
      obtain ⟨s11, e11⟩ := new_of nR hG11
      have sA := ((s8.trans s9).trans s10)
      refine ⟨R, ms0.take 2 ++ ms.reverse, rfl, (s7.trans sA).trans s11, (s7.trans sA).free nR, ⟨_, e11, ?_⟩, ?_, fun d hd => ?_⟩
      · rw [List.map_append, List.map_take, List.map_reverse]
        exact dpa_app (dpa_same ((s9.trans s10).trans s11) _ _ hx8) (dpa_rev (dpa_same (s10.trans s11) _ _ hy9))
      · rw [List.length_append, List.length_take, List.length_reverse]
        omega
      · rcases List.mem_append.mp hd with hd | hd
        · exact rg0 d (List.mem_of_mem_take hd)
        · exact hrg d (List.mem_reverse.mp hd)
    intro σ' G8 hN
    obtain ⟨R, ms, rfl, s8, nR, dwR, hml, hrg⟩ := hN
    have hT8 := hT6.same s8
    have e28 := s8 _ _ e26
    have eV8 := s8 _ _ eV6
    have hS8 := s8.seq hS6
    have hRn : R ∉ da :: k.own := fun h => hT6.had R h nR
    have sG8 := s46.trans s8
    clear e27 s7 nR0 dw0 ml0 rg0 e26 eV6 hS6 nR s8 hT6 e28 eV8 hS8 s4 s46 free4
    -- told
    refine ⟨_, rfl, _, rfl, _, rfl, _, rfl, k, da, R, m1, [], ms, _, rfl, hT8.at_, hT8.dw, hT8.no, hT8.ok, dwR, fun h => hRn (by rw [h]; exact List.mem_cons_self), fun h => hRn (List.mem_cons_of_mem _ h), hrg, by rw [List.length_nil]; omega, fun S hs2 G9 c9 nS eS hA9 hO9 hD9 => ?_, fun S G9 c9 nS eS => ?_⟩
    · rw [List.nil_append] at hA9 hO9 hD9
      have hT9 : Ht K C G9 k da m1 ms hs2 := ⟨hA9, hD9, hT8.no, hO9⟩
      have sG9 := same_chg sG8 fr1 c9
      clear hT8 hA9 hO9 hD9 dwR hRn c9 sG8
      have hl9 := hT9.ok.len
      refine ⟨_, rfl, S, _, rfl, .inl (SqL.of eS), _, _, rfl, rfl, _, rfl, iteF ?_⟩
      -- twin, twins
      obtain ⟨dx9, eo9⟩ := hT9.at_.ob
      refine ⟨_, rfl, k.p, dx9, _, rfl, eo9, hF_no _ _ _ (by decide +kernel), k, ms, hs2, rfl, hT9.at_, by omega, by omega, fun k2 G10 s10 fr2 hA2 => ?_⟩
      obtain ⟨xd, ed, hxd⟩ := hT9.dw
      refine ⟨_, rfl, da, xd, rfl, .inl (SqL.of (s10 _ _ ed)), fun a2 na2 => ?_⟩
      generalize hG11 : upd G10 a2 _ = G11
      obtain ⟨s11, e11⟩ := new_of na2 hG11
      have h2 : Ht K C G11 k2 a2 m1 ms hs2 := ⟨hA2.same s11, ⟨xd, e11, dpa_same (s10.trans s11) _ _ hxd⟩, fun h => hA2.had h na2, hT9.ok⟩
      have dis12 : ∀ c, c ∈ a2 :: k2.own → c ∉ da :: k.own := fun c hc h => hT9.had c h (by
        rcases List.mem_cons.mp hc with rfl | hc
        · exact s10.free na2
        · exact fr2 c hc)
      have fr2G : ∀ c, c ∈ a2 :: k2.own → G c = none := fun c hc => sG9.free (by
        rcases List.mem_cons.mp hc with rfl | hc
        · exact s10.free na2
        · exact fr2 c hc)
      have hT11 := hT9.same (s10.trans s11)
      have sG11 := sG9.trans (s10.trans s11)
      clear s10 s11 fr2 hA2 e11 na2 hG11 hT9 eo9 ed hxd sG9 eS nS
      -- grow
      obtain ⟨dx11, eo11⟩ := hT11.at_.ob
      refine ⟨_, rfl, k.p, dx11, _, rfl, eo11, hF_no _ _ _ (by decide +kernel), _, rfl, k, ms, hs2, m1 + m3, rfl, hT11.at_, fun d hd => by rw [hl9]; exact (hrg d hd).2, by omega, by omega, fun more G12 c12 fr12 hA12 => ?_⟩
      have nt12 : ∀ c, c ∈ ([k.ah, k.ab] : List Addr) → NT G11 c := fun c hc => by
        simp only [List.mem_cons, List.not_mem_nil, or_false] at hc
        rcases hc with rfl | rfl
        · exact NT.lst hT11.at_.h
        · exact NT.lst hT11.at_.b
      have sub12 : ∀ c, c ∈ ([k.ah, k.ab] : List Addr) → c ∈ da :: k.own := fun c hc => by
        simp only [List.mem_cons, List.not_mem_nil, or_false] at hc
        rcases hc with rfl | rfl <;> simp [Hk.own]
      generalize ek' : ({ k with bl := k.bl ++ more } : Hk) = k' at hA12
      have own' : ∀ c, c ∈ k'.own → c ∈ k.own ∨ c ∈ more := fun c hc => by
        rw [← ek'] at hc
        have hc : c ∈ k.p :: k.ad :: k.ah :: k.ab :: (k.bl ++ more) := hc
        simp only [List.mem_cons, List.mem_append] at hc
        unfold Hk.own
        simp only [List.mem_cons]
        rcases hc with h | h | h | h | h | h
        · exact .inl (.inl h)
        · exact .inl (.inr (.inl h))
        · exact .inl (.inr (.inr (.inl h)))
        · exact .inl (.inr (.inr (.inr (.inl h))))
        · exact .inl (.inr (.inr (.inr (.inr h))))
        · exact .inr h
      have ep' : k'.p = k.p := by
        rw [← ek']
      have fr1' : ∀ c, c ∈ da :: k'.own → G c = none := fun c hc => by
        rcases List.mem_cons.mp hc with rfl | hc
        · exact fr1 _ List.mem_cons_self
        · rcases own' c hc with h | h
          · exact fr1 c (List.mem_cons_of_mem _ h)
          · exact sG11.free (fr12 c h)
      have dis12' : ∀ c, c ∈ a2 :: k2.own → c ∉ da :: k'.own := fun c hc h => by
        rcases List.mem_cons.mp h with rfl | h
        · exact dis12 _ hc List.mem_cons_self
        · rcases own' c h with h | h
          · exact dis12 c hc (List.mem_cons_of_mem _ h)
          · exact h2.had c hc (fr12 c h)
      have hT12 : Ht K C G12 k' da (m1 + m3) ms (hs2 ++ List.replicate (m1 + m3 + 1 - hs2.length) 0) := by
        refine ⟨hA12, hT11.dw.chg nt12 c12 (fun h => ?_), fun h => ?_, ⟨by rw [List.length_append, List.length_replicate]; omega, fun d hd => ?_, hT11.ok.dl, by omega, ?_⟩⟩
        · simp only [List.mem_cons, List.not_mem_nil, or_false] at h
          refine hT11.no ?_
          rcases h with h | h
          · rw [h]; simp [Hk.own]
          · rw [h]; simp [Hk.own]
        · rcases own' da h with h | h
          · exact hT11.no h
          · exact hT11.had da List.mem_cons_self (fr12 da h)
        · have := hrg d hd
          omega
        · rw [hsF_rep]
          exact hT11.ok.top
      have h2' : Ht K C G12 k2 a2 m1 ms hs2 := h2.chg nt12 c12 fun c hc h => dis12 c hc (sub12 c h)
      have sG12 := same_chg sG11 (fun c hc => fr1 c (sub12 c hc)) c12
      have hl12 := hT12.ok.len
      clear hT11 h2 c12 nt12 sub12 fr12 sG11 dis12 fr1 hl9 own' eo11
      rw [← ep']
      generalize hs2 ++ List.replicate (m1 + m3 + 1 - hs2.length) 0 = hs3 at hT12 hA12 hl12
      clear ek' ep' hA12
      -- late, lates
      obtain ⟨dx12, eo12⟩ := hT12.at_.ob
      refine ⟨_, rfl, k'.p, dx12, _, rfl, eo12, hF_no _ _ _ (by decide +kernel), k', ms, hs3, rfl, hT12.at_, by omega, by omega, fun k3 G13 s13 fr3 hA3 => ?_⟩
      obtain ⟨xd3, ed3, hxd3⟩ := hT12.dw
      refine ⟨_, rfl, da, xd3, rfl, .inl (SqL.of (s13 _ _ ed3)), fun a3 na3 => ?_⟩
      generalize hG14 : upd G13 a3 _ = G14
      obtain ⟨s14, e14⟩ := new_of na3 hG14
      have h3 : Ht K C G14 k3 a3 (m1 + m3) ms hs3 := ⟨hA3.same s14, ⟨xd3, e14, dpa_same (s13.trans s14) _ _ hxd3⟩, fun h => hA3.had h na3, hT12.ok⟩
      have fr3' : ∀ c, c ∈ a3 :: k3.own → G12 c = none := fun c hc => by
        rcases List.mem_cons.mp hc with rfl | hc
        · exact s13.free na3
        · exact fr3 c hc
      have dis13 : ∀ c, c ∈ a3 :: k3.own → c ∉ da :: k'.own := fun c hc h => hT12.had c h (fr3' c hc)
      have dis23 : ∀ c, c ∈ a3 :: k3.own → c ∉ a2 :: k2.own := fun c hc h => h2'.had c h (fr3' c hc)
      have hT14 := hT12.same (s13.trans s14)
      have h2b := h2'.same (s13.trans s14)
      have sG14 := sG12.trans (s13.trans s14)
      clear s13 s14 fr3 fr3' hA3 e14 na3 hG14 hT12 h2' eo12 ed3 hxd3 sG12
      refine ⟨_, rfl, _, rfl, _, rfl, k', da, m1 + m3, ms, hs3, rfl, hT14.at_, hT14.dw.dl, hT14.ok, fun G15 s15 => ⟨_, rfl, iteF ?_⟩⟩
      have h3e := h3.same s15
      refine ⟨_, rfl, _, rfl, _, rfl, k3, a3, m1 + m3, ms, hs3, rfl, h3e.at_, h3e.dw.dl, h3e.ok, fun G16 s16 => ⟨_, rfl, iteF ?_⟩⟩
      have hT16 := (hT14.same s15).same s16
      have h2f := (h2b.same s15).same s16
      have h3f := h3e.same s16
      have sG16 := sG14.trans (s15.trans s16)
      clear hT14 h2b h3 h3e sG14 s15 s16
      -- the first goes on
      refine ⟨_, rfl, _, rfl, _, rfl, _, rfl, D0, _, _, _, rfl, rfl, SqL.of (sG16 _ _ e2'), atI_nat (j := 4) rfl, _, rfl, _, rfl, sa, vl, ns, vals, 4, m4, m1 + m3, rfl, sG16.seq hS2, SqL.of (sG16 _ _ eV), by decide, by decide, by omega, by omega, by omega, fun R1 ms1 G16' s16' nR1 dw1 ml1 rg1 => ?_⟩
      have hT17 := hT16.same s16'
      have hR1 : R1 ∉ da :: k'.own := fun h => hT16.had R1 h nR1
      have h2g := h2f.same s16'
      have h3g := h3f.same s16'
      have sG16' := sG16.trans s16'
      clear hT16 h2f h3f sG16 s16' nR1
      refine ⟨_, rfl, k', da, R1, m1 + m3, ms, ms1, hs3, rfl, hT17.at_, hT17.dw, hT17.no, hT17.ok, dw1, fun h => hR1 (by rw [h]; exact List.mem_cons_self), fun h => hR1 (List.mem_cons_of_mem _ h), rg1, by omega, fun S1 hs4 G17 c17 nS1 eS1 hA17 hO17 hD17 => ?_, fun S1 G17 c17 nS1 eS1 => ?_⟩
      · have hTe : Ht K C G17 k' da (m1 + m3) (ms ++ ms1) hs4 := ⟨hA17, hD17, hT17.no, hO17⟩
        have h2c := h2g.chg hT17.nt c17 dis12'
        have h3c := h3g.chg hT17.nt c17 dis13
        have sG17 := same_chg sG16' fr1' c17
        refine ⟨_, rfl, S1, _, rfl, .inl (SqL.of eS1), rfl, rfl, _, rfl, iteF ?_⟩
        refine ⟨_, rfl, _, rfl, _, rfl, k2, a2, m1, ms, hs2, rfl, h2c.at_, h2c.dw.dl, h2c.ok, fun G18 s18 => ⟨_, rfl, iteF ?_⟩⟩
        have h3d := h3c.same s18
        refine ⟨_, rfl, _, rfl, _, rfl, k3, a3, m1 + m3, ms, hs3, rfl, h3d.at_, h3d.dw.dl, h3d.ok, fun G19 s19 => ⟨_, rfl, iteF ?_⟩⟩
        have h2d := (h2c.same s18).same s19
        have sG19 := sG17.trans (s18.trans s19)
        have eS3 := s19 _ _ (s18 _ _ eS1)
        refine ⟨_, rfl, S1, _, rfl, .inl (SqL.of eS3), _, _, rfl, rfl, ?_⟩
        -- the twin goes on
        refine ⟨_, rfl, _, rfl, _, rfl, _, rfl, D0, _, _, _, rfl, rfl, SqL.of (sG19 _ _ e2'), atI_nat (j := 5) rfl, _, rfl, _, rfl, sa, vl, ns, vals, 6, m5, m1, rfl, sG19.seq hS2, SqL.of (sG19 _ _ eV), by decide, by decide, by omega, by omega, by omega, fun R3 ms3 G20 s20 nR3 dw3 ml3 rg3 => ?_⟩
        have h2e := h2d.same s20
        have hR3 : R3 ∉ a2 :: k2.own := fun h => h2d.had R3 h nR3
        have hTe2 := ((hTe.same s18).same s19).same s20
        have dis12s : ∀ c, c ∈ da :: k'.own → c ∉ a2 :: k2.own := fun c h1 h2 => dis12' c h2 h1
        refine ⟨_, rfl, k2, a2, R3, m1, ms, ms3, hs2, rfl, h2e.at_, h2e.dw, h2e.no, h2e.ok, dw3, fun h => hR3 (by rw [h]; exact List.mem_cons_self), fun h => hR3 (List.mem_cons_of_mem _ h), rg3, by omega, fun S2 hs5 G21 c21 nS2 eS2 _ _ _ => ?_, fun S2 G21 c21 nS2 eS2 => ?_⟩
        · have hTf := hTe2.chg h2e.nt c21 dis12s
          refine ⟨_, rfl, S2, _, rfl, .inl (SqL.of eS2), rfl, rfl, _, rfl, iteT ?_⟩
          exact ⟨_, rfl, _, rfl, iteF ⟨_, rfl, _, rfl, _, rfl, k', da, m1 + m3, _, hs4, rfl, hTf.at_, hTf.dw.dl, hTf.ok, fun G22 s22 => q G22⟩⟩
        · have hTf := hTe2.chg h2e.nt c21 dis12s
          refine ⟨_, rfl, S2, _, rfl, .inl (SqL.of eS2), rfl, rfl, _, rfl, iteT ?_⟩
          exact ⟨_, rfl, _, rfl, iteF ⟨_, rfl, _, rfl, _, rfl, k', da, m1 + m3, _, hs4, rfl, hTf.at_, hTf.dw.dl, hTf.ok, fun G22 s22 => q G22⟩⟩
      · have h2c := h2g.chg hT17.nt c17 dis12'
        have h3c := h3g.chg hT17.nt c17 dis13
        have sG17 := same_chg sG16' fr1' c17
        refine ⟨_, rfl, S1, _, rfl, .inl (SqL.of eS1), rfl, rfl, _, rfl, iteF ?_⟩
        refine ⟨_, rfl, _, rfl, _, rfl, k2, a2, m1, ms, hs2, rfl, h2c.at_, h2c.dw.dl, h2c.ok, fun G18 s18 => ⟨_, rfl, iteF ?_⟩⟩
        have h3d := h3c.same s18
        refine ⟨_, rfl, _, rfl, _, rfl, k3, a3, m1 + m3, ms, hs3, rfl, h3d.at_, h3d.dw.dl, h3d.ok, fun G19 s19 => ⟨_, rfl, iteF ?_⟩⟩
        have h2d := (h2c.same s18).same s19
        have sG19 := sG17.trans (s18.trans s19)
        have eS3 := s19 _ _ (s18 _ _ eS1)
        refine ⟨_, rfl, S1, _, rfl, .inl (SqL.of eS3), _, _, rfl, rfl, ?_⟩
        -- the twin goes on
        refine ⟨_, rfl, _, rfl, _, rfl, _, rfl, D0, _, _, _, rfl, rfl, SqL.of (sG19 _ _ e2'), atI_nat (j := 5) rfl, _, rfl, _, rfl, sa, vl, ns, vals, 6, m5, m1, rfl, sG19.seq hS2, SqL.of (sG19 _ _ eV), by decide, by decide, by omega, by omega, by omega, fun R3 ms3 G20 s20 nR3 dw3 ml3 rg3 => ?_⟩
        have h2e := h2d.same s20
        have hR3 : R3 ∉ a2 :: k2.own := fun h => h2d.had R3 h nR3
        refine ⟨_, rfl, k2, a2, R3, m1, ms, ms3, hs2, rfl, h2e.at_, h2e.dw, h2e.no, h2e.ok, dw3, fun h => hR3 (by rw [h]; exact List.mem_cons_self), fun h => hR3 (List.mem_cons_of_mem _ h), rg3, by omega, fun S2 hs5 G21 c21 nS2 eS2 _ _ _ => ?_, fun S2 G21 c21 nS2 eS2 => ?_⟩
        · refine ⟨_, rfl, S2, _, rfl, .inl (SqL.of eS2), rfl, rfl, _, rfl, iteT ?_⟩
          exact ⟨_, rfl, _, rfl, iteT (q _)⟩
        · refine ⟨_, rfl, S2, _, rfl, .inl (SqL.of eS2), rfl, rfl, _, rfl, iteT ?_⟩
          exact ⟨_, rfl, _, rfl, iteT (q _)⟩
    · refine ⟨_, rfl, S, _, rfl, .inl (SqL.of eS), _, _, rfl, rfl, _, rfl, iteT ?_⟩
      exact ⟨_, rfl, S, _, _, _, rfl, rfl, SqL.of eS, atI_nat (j := 0) rfl, q _⟩
end
end SW

namespace SW
open PySem PySem.Spec PyProof.Rows L2
theorem fun_of {K : PySem.W.Frag} {x q : PySem.Str} {st : Stmt} {f : Addr} {fd : FuncData} (F : FunD K x q (defArgs st) (defBody st) (defScope st) [] [] f fd) : Fun K x q st f fd := by
  obtain ⟨oc, od, dV, kV, doc, pm, an, cdv, ct, osl, rfl, lk, hcd, hD, hK⟩ := F.ex
  rcases hD with ⟨_, rfl⟩ | ⟨e, _⟩
  · exact ⟨⟨oc, od, kV, doc, pm, an, cdv, ct, osl, rfl, lk, hcd⟩, F.kp⟩
  · exact absurd rfl e
theorem rb_of {K : PySem.W.Frag} {x q : PySem.Str} {st : Stmt} {f : Addr} {fd : FuncData} {ps : List PySem.Str} (F : FunD K x q (defArgs st) (defBody st) (defScope st) [] [] f fd)
    (hb : ∀ (kV doc pm : Value) (an : Option Addr) (cd ct : Value) (us : List Value), us.length = ps.length → bindArgs (PySem.W.fnOf x q (defArgs st) (defBody st) (defScope st) .none kV doc pm an cd ct) ⟨us, []⟩ = pure (ps.zip us)) :
    ∀ us : List Value, us.length = ps.length → bindArgs fd ⟨us, []⟩ = pure (ps.zip us) := by
  obtain ⟨oc, od, dV, kV, doc, pm, an, cdv, ct, osl, rfl, lk, hcd, hD, hK⟩ := F.ex
  rcases hD with ⟨_, rfl⟩ | ⟨e, _⟩
  · exact hb kV doc pm an cdv ct
  · exact absurd rfl e
def df_of {K : PySem.W.Frag} {mg : PySem.Str → Option Value} {x : PySem.Str} {st : Stmt} {ps : List PySem.Str} {f : Addr} {fd : FuncData} (F : FunD K x x (defArgs st) (defBody st) (defScope st) [] [] f fd) (g : mg x = some (.ref f))
    (hb : ∀ (kV doc pm : Value) (an : Option Addr) (cd ct : Value) (us : List Value), us.length = ps.length → bindArgs (PySem.W.fnOf x x (defArgs st) (defBody st) (defScope st) .none kV doc pm an cd ct) ⟨us, []⟩ = pure (ps.zip us)) : Df K mg x st ps :=
  ⟨f, fd, fun_of F, rb_of F hb, g⟩
theorem strs_dv (K : PySem.W.Frag) (l : List PySem.Str) : (l.map He.Dv.str).map (He.Dv.v K) = l.map V.str := by
  rw [List.map_map]
  rfl

/-! ### the head: facts by names, one run -/
def hdD0 : He.DefD := ⟨("law", none), "law", "law", defArgs s_law, defBody s_law, defScope s_law, [], []⟩
def hdD1 : He.DefD := ⟨("_law_cell", none), "_law_cell", "_law_cell", defArgs s_l_cell, defBody s_l_cell, defScope s_l_cell, [], []⟩
def hdD2 : He.DefD := ⟨("_law_draws", none), "_law_draws", "_law_draws", defArgs s_l_draws, defBody s_l_draws, defScope s_l_draws, [], []⟩
def hdD3 : He.DefD := ⟨("_law_is_integer", none), "_law_is_integer", "_law_is_integer", defArgs s_l_is_integer, defBody s_l_is_integer, defScope s_l_is_integer, [], []⟩
def hdD4 : He.DefD := ⟨("_law_sum", none), "_law_sum", "_law_sum", defArgs s_l_sum, defBody s_l_sum, defScope s_l_sum, [], []⟩
def hdD5 : He.DefD := ⟨("_law_kept", none), "_law_kept", "_law_kept", defArgs s_l_kept, defBody s_l_kept, defScope s_l_kept, [], []⟩
def hdD6 : He.DefD := ⟨("_law_weight", none), "_law_weight", "_law_weight", defArgs s_l_weight, defBody s_l_weight, defScope s_l_weight, [], []⟩
def hdD7 : He.DefD := ⟨("_law_can", none), "_law_can", "_law_can", defArgs s_l_can, defBody s_l_can, defScope s_l_can, [], []⟩
def hdD8 : He.DefD := ⟨("_law_is_ring", none), "_law_is_ring", "_law_is_ring", defArgs s_l_is_ring, defBody s_l_is_ring, defScope s_l_is_ring, [], []⟩
def hdD9 : He.DefD := ⟨("_law_fits", none), "_law_fits", "_law_fits", defArgs s_l_fits, defBody s_l_fits, defScope s_l_fits, [], []⟩
def hdD10 : He.DefD := ⟨("_law_more", none), "_law_more", "_law_more", defArgs s_l_more, defBody s_l_more, defScope s_l_more, [], []⟩
def hdD11 : He.DefD := ⟨("_law_goes", none), "_law_goes", "_law_goes", defArgs s_l_goes, defBody s_l_goes, defScope s_l_goes, [], []⟩
def hdD12 : He.DefD := ⟨("Heights", some "tie"), "tie", "Heights.tie", defArgs s_Heights_tie, defBody s_Heights_tie, defScope s_Heights_tie, [], []⟩
def hdD13 : He.DefD := ⟨("Heights", some "kept"), "kept", "Heights.kept", defArgs s_Heights_kept, defBody s_Heights_kept, defScope s_Heights_kept, [], []⟩
def hdD14 : He.DefD := ⟨("Heights", some "grow"), "grow", "Heights.grow", defArgs s_Heights_grow, defBody s_Heights_grow, defScope s_Heights_grow, [], []⟩
def hdD15 : He.DefD := ⟨("Heights", some "twin"), "twin", "Heights.twin", defArgs s_Heights_twin, defBody s_Heights_twin, defScope s_Heights_twin, [], []⟩
def hdD16 : He.DefD := ⟨("Heights", some "_lower"), "_lower", "Heights._lower", defArgs s_Heights__lower, defBody s_Heights__lower, defScope s_Heights__lower, [], []⟩
def hdD17 : He.DefD := ⟨("Heights", some "_ring"), "_ring", "Heights._ring", defArgs s_Heights__ring, defBody s_Heights__ring, defScope s_Heights__ring, [], []⟩
def hdD18 : He.DefD := ⟨("Heights", some "__init__"), "__init__", "Heights.__init__", defArgs s_Heights___init__, defBody s_Heights___init__, defScope s_Heights___init__, [], []⟩
def hdFn0 : List He.DefD := [hdD0,
  hdD1,
  hdD2,
  hdD3,
  hdD4,
  hdD5,
  hdD6,
  hdD7,
  hdD8,
  hdD9,
  hdD10,
  hdD11,
  hdD12,
  hdD13,
  hdD14,
  hdD15,
  hdD16,
  hdD17,
  hdD18]
def hdFn : List He.DefD := hdFn0
def hdFa0 : List He.Fa := [.glo "law",
  .glo "_law_cell",
  .glo "_law_draws",
  .glo "_law_is_integer",
  .glo "_law_sum",
  .glo "_law_kept",
  .glo "_law_weight",
  .glo "_law_can",
  .glo "_law_is_ring",
  .glo "_law_fits",
  .glo "_law_more",
  .glo "_law_goes",
  .free "len",
  .free "range",
  .free "int",
  .free "abs",
  .free "isinstance",
  .free "list",
  .free "str",
  .free "bool",
  .free "tuple",
  .free "min",
  .free "max",
  .free "sum",
  .free "sorted",
  .free "any",
  .free "all",
  .free "zip",
  .free "enumerate",
  .free "reversed",
  .free "dict",
  .free "set",
  .free "repr",
  .free "ord",
  .glo "Heights",
  .cls "Heights",
  .noat "Heights" "differences",
  .noat "Heights" "_heights",
  .noat "Heights" "_below",
  .meth "Heights" "tie"]
def hdFa1 : List He.Fa := [.meth "Heights" "kept",
  .meth "Heights" "grow",
  .meth "Heights" "twin",
  .meth "Heights" "_lower",
  .meth "Heights" "_ring",
  .mkr "Heights"]
def hdFa : List He.Fa := hdFa0 ++ hdFa1
def hdNames0 : List PySem.Str := ["_wall",
  "__name__",
  "Heights",
  "_law_cell",
  "_law_draws",
  "_law_is_integer",
  "_law_sum",
  "_law_kept",
  "_law_weight",
  "_law_can",
  "_law_is_ring",
  "_law_fits"]
def hdNames1 : List PySem.Str := ["_law_more",
  "_law_goes"]
def hdNames : List PySem.Str := hdNames0 ++ hdNames1
def hdEx (K : PySem.W.Frag) : Bool := true && (He.eqO (PySem.W.nsIn K mainGlobals "heappush") (some (some (.builtin "_heapq.heappush"))) && (He.eqO (PySem.W.nsIn K mainGlobals "heappop") (some (some (.builtin "_heapq.heappop")))))
def hdA0 : List Addr := [3, 199, 134, 141, 148, 155, 160, 167, 172, 177, 182, 187, 194, 123, 198, 133, 140, 147, 154, 159, 166, 171, 176, 181, 186, 193, 122, 61, 68, 73, 80, 85, 92, 99, 106, 113, 120, 121, 124, 125]
def hdA1 : List Addr := [60, 67, 72, 79, 84, 91, 98, 105, 112, 119]
def hdAs : List Addr := hdA0 ++ hdA1
abbrev hdR : PySem.W.OpenRow := PySem.W.OpenLaw.row PySem.Challenge.rw_swornrun_k13_heights
abbrev HdAl : Type := He.AlD × Bool
def hdObs (K : PySem.W.Frag) : HdAl := (He.obsD hdFa hdFn K, hdEx K)
def hdH : PySem.W.Hook where
  α := HdAl
  obs := fun s => hdObs (He.frG s.heap.get? hdAs)
  val := fun _ => (He.valD hdFn, true)
  says := fun _ h => ∃ K : PySem.W.Frag, K.In h ∧ (He.SaysD hdFa hdFn K ∧ hdEx K = true)
  of := fun _ _ e => ⟨_, He.frG_in, congrArg (fun z : HdAl => z.1) e, congrArg (fun z : HdAl => z.2) e⟩
  keeps := fun _ _ _ ⟨K, hK, c⟩ k => ⟨K, PySem.W.Frag.In.keeps hK k, c⟩
def hdOb (s : PySem.W.SharedT) : HdAl := hdObs (He.frG (HandSHeadRun.getT s) hdAs)
theorem hdOb_eq (s : PySem.W.SharedT) : hdOb s = hdH.obs s.abs := congrArg (fun g => hdObs (He.frG g hdAs)) (funext (HandSHeadRun.getT_eq s))
set_option maxHeartbeats 0 in
theorem hdRun (w : World) : HandSHeadRun.RunEqI hdR (PySem.W.view hdR.prog [0, 16]) hdH hdOb 3000 hdNames w := by
  unfold HandSHeadRun.RunEqI
  kernel_rfl
theorem hdFacts {P : Program} {w : World} {K : PySem.W.Frag} {h : Heap} {mg : PySem.Str → Option Value} {f : Addr} (X : K.In h) (G : h.Ns mainGlobals mg) (hfa : mg ("law" : PySem.Str) = some (.ref f)) (cd : He.SaysD hdFa hdFn K) (cx : hdEx K = true) :
    ∃ fd : FuncData, (∀ (s : Shared) (v : Value), BindsTo s fd ⟨[v], []⟩ [("script", v)]) ∧ ∀ base : Heap, K.In base → base.Ns mainGlobals mg → FnOk P w K mg base CX0 5 f fd ["script"] (spLaw K) := by
  obtain ⟨fd0, F0⟩ := cd.def_ 0 (d := hdD0) rfl
  obtain ⟨fd1, F1⟩ := cd.def_ 1 (d := hdD1) rfl
  obtain ⟨fd2, F2⟩ := cd.def_ 2 (d := hdD2) rfl
  obtain ⟨fd3, F3⟩ := cd.def_ 3 (d := hdD3) rfl
  obtain ⟨fd4, F4⟩ := cd.def_ 4 (d := hdD4) rfl
  obtain ⟨fd5, F5⟩ := cd.def_ 5 (d := hdD5) rfl
  obtain ⟨fd6, F6⟩ := cd.def_ 6 (d := hdD6) rfl
  obtain ⟨fd7, F7⟩ := cd.def_ 7 (d := hdD7) rfl
  obtain ⟨fd8, F8⟩ := cd.def_ 8 (d := hdD8) rfl
  obtain ⟨fd9, F9⟩ := cd.def_ 9 (d := hdD9) rfl
  obtain ⟨fd10, F10⟩ := cd.def_ 10 (d := hdD10) rfl
  obtain ⟨fd11, F11⟩ := cd.def_ 11 (d := hdD11) rfl
  obtain ⟨fd12, F12⟩ := cd.def_ 12 (d := hdD12) rfl
  obtain ⟨fd13, F13⟩ := cd.def_ 13 (d := hdD13) rfl
  obtain ⟨fd14, F14⟩ := cd.def_ 14 (d := hdD14) rfl
  obtain ⟨fd15, F15⟩ := cd.def_ 15 (d := hdD15) rfl
  obtain ⟨fd16, F16⟩ := cd.def_ 16 (d := hdD16) rfl
  obtain ⟨fd17, F17⟩ := cd.def_ 17 (d := hdD17) rfl
  obtain ⟨fd18, F18⟩ := cd.def_ 18 (d := hdD18) rfl
  have B : TxB mg := ⟨He.free_ok X G (cd.fact 12 (f := .free "len") rfl), He.free_ok X G (cd.fact 13 (f := .free "range") rfl), He.free_ok X G (cd.fact 14 (f := .free "int") rfl), He.free_ok X G (cd.fact 15 (f := .free "abs") rfl), He.free_ok X G (cd.fact 16 (f := .free "isinstance") rfl), He.free_ok X G (cd.fact 17 (f := .free "list") rfl), He.free_ok X G (cd.fact 18 (f := .free "str") rfl), He.free_ok X G (cd.fact 19 (f := .free "bool") rfl), He.free_ok X G (cd.fact 20 (f := .free "tuple") rfl), He.free_ok X G (cd.fact 21 (f := .free "min") rfl), He.free_ok X G (cd.fact 22 (f := .free "max") rfl), He.free_ok X G (cd.fact 23 (f := .free "sum") rfl), He.free_ok X G (cd.fact 24 (f := .free "sorted") rfl), He.free_ok X G (cd.fact 25 (f := .free "any") rfl), He.free_ok X G (cd.fact 26 (f := .free "all") rfl), He.free_ok X G (cd.fact 27 (f := .free "zip") rfl), He.free_ok X G (cd.fact 28 (f := .free "enumerate") rfl), He.free_ok X G (cd.fact 29 (f := .free "reversed") rfl), He.free_ok X G (cd.fact 30 (f := .free "dict") rfl), He.free_ok X G (cd.fact 31 (f := .free "set") rfl), He.free_ok X G (cd.fact 32 (f := .free "repr") rfl), He.free_ok X G (cd.fact 33 (f := .free "ord") rfl)⟩
  let D_law : Df K mg "law" s_law ["script"] := df_of (st := s_law) (ps := ["script"]) F0 (He.glo_ok X G (cd.fact 0 (f := .glo "law") rfl)) (fun _ _ _ _ _ _ us hl => match us, hl with | [_], _ => rfl)
  let D_l_cell : Df K mg "_law_cell" s_l_cell ["script", "k"] := df_of (st := s_l_cell) (ps := ["script", "k"]) F1 (He.glo_ok X G (cd.fact 1 (f := .glo "_law_cell") rfl)) (fun _ _ _ _ _ _ us hl => match us, hl with | [_, _], _ => rfl)
  let D_l_draws : Df K mg "_law_draws" s_l_draws ["script", "place", "sizes"] := df_of (st := s_l_draws) (ps := ["script", "place", "sizes"]) F2 (He.glo_ok X G (cd.fact 2 (f := .glo "_law_draws") rfl)) (fun _ _ _ _ _ _ us hl => match us, hl with | [_, _, _], _ => rfl)
  let D_l_is_integer : Df K mg "_law_is_integer" s_l_is_integer ["value"] := df_of (st := s_l_is_integer) (ps := ["value"]) F3 (He.glo_ok X G (cd.fact 3 (f := .glo "_law_is_integer") rfl)) (fun _ _ _ _ _ _ us hl => match us, hl with | [_], _ => rfl)
  let D_l_sum : Df K mg "_law_sum" s_l_sum ["differences", "numbers"] := df_of (st := s_l_sum) (ps := ["differences", "numbers"]) F4 (He.glo_ok X G (cd.fact 4 (f := .glo "_law_sum") rfl)) (fun _ _ _ _ _ _ us hl => match us, hl with | [_, _], _ => rfl)
  let D_l_kept : Df K mg "_law_kept" s_l_kept ["differences", "values"] := df_of (st := s_l_kept) (ps := ["differences", "values"]) F5 (He.glo_ok X G (cd.fact 5 (f := .glo "_law_kept") rfl)) (fun _ _ _ _ _ _ us hl => match us, hl with | [_, _], _ => rfl)
  let D_l_weight : Df K mg "_law_weight" s_l_weight ["draw"] := df_of (st := s_l_weight) (ps := ["draw"]) F6 (He.glo_ok X G (cd.fact 6 (f := .glo "_law_weight") rfl)) (fun _ _ _ _ _ _ us hl => match us, hl with | [_], _ => rfl)
  let D_l_can : Df K mg "_law_can" s_l_can ["differences", "many"] := df_of (st := s_l_can) (ps := ["differences", "many"]) F7 (He.glo_ok X G (cd.fact 7 (f := .glo "_law_can") rfl)) (fun _ _ _ _ _ _ us hl => match us, hl with | [_, _], _ => rfl)
  let D_l_is_ring : Df K mg "_law_is_ring" s_l_is_ring ["differences", "ring"] := df_of (st := s_l_is_ring) (ps := ["differences", "ring"]) F8 (He.glo_ok X G (cd.fact 8 (f := .glo "_law_is_ring") rfl)) (fun _ _ _ _ _ _ us hl => match us, hl with | [_, _], _ => rfl)
  let D_l_fits : Df K mg "_law_fits" s_l_fits ["heights", "differences", "many"] := df_of (st := s_l_fits) (ps := ["heights", "differences", "many"]) F9 (He.glo_ok X G (cd.fact 9 (f := .glo "_law_fits") rfl)) (fun _ _ _ _ _ _ us hl => match us, hl with | [_, _, _], _ => rfl)
  let D_l_more : Df K mg "_law_more" s_l_more ["script", "place", "count", "many", "values"] := df_of (st := s_l_more) (ps := ["script", "place", "count", "many", "values"]) F10 (He.glo_ok X G (cd.fact 10 (f := .glo "_law_more") rfl)) (fun _ _ _ _ _ _ us hl => match us, hl with | [_, _, _, _, _], _ => rfl)
  let D_l_goes : Df K mg "_law_goes" s_l_goes ["heights", "differences", "more", "many"] := df_of (st := s_l_goes) (ps := ["heights", "differences", "more", "many"]) F11 (He.glo_ok X G (cd.fact 11 (f := .glo "_law_goes") rfl)) (fun _ _ _ _ _ _ us hl => match us, hl with | [_, _, _, _], _ => rfl)
  let c_Heights_tie : CkM K (He.ga K "Heights") "tie" "Heights.tie" s_Heights_tie ["self", "difference"] := ⟨_, fd12, fun_of F12, .all (rb_of (st := s_Heights_tie) (ps := ["self", "difference"]) F12 fun _ _ _ _ _ _ us hl => match us, hl with | [_, _], _ => rfl), He.meth_ok (cd.fact 39 (f := .meth "Heights" "tie") rfl)⟩
  let c_Heights_kept : CkM K (He.ga K "Heights") "kept" "Heights.kept" s_Heights_kept ["self"] := ⟨_, fd13, fun_of F13, .all (rb_of (st := s_Heights_kept) (ps := ["self"]) F13 fun _ _ _ _ _ _ us hl => match us, hl with | [_], _ => rfl), He.meth_ok (cd.fact 40 (f := .meth "Heights" "kept") rfl)⟩
  let c_Heights_grow : CkM K (He.ga K "Heights") "grow" "Heights.grow" s_Heights_grow ["self", "many"] := ⟨_, fd14, fun_of F14, .all (rb_of (st := s_Heights_grow) (ps := ["self", "many"]) F14 fun _ _ _ _ _ _ us hl => match us, hl with | [_, _], _ => rfl), He.meth_ok (cd.fact 41 (f := .meth "Heights" "grow") rfl)⟩
  let c_Heights_twin : CkM K (He.ga K "Heights") "twin" "Heights.twin" s_Heights_twin ["self"] := ⟨_, fd15, fun_of F15, .all (rb_of (st := s_Heights_twin) (ps := ["self"]) F15 fun _ _ _ _ _ _ us hl => match us, hl with | [_], _ => rfl), He.meth_ok (cd.fact 42 (f := .meth "Heights" "twin") rfl)⟩
  let c_Heights__lower : CkM K (He.ga K "Heights") "_lower" "Heights._lower" s_Heights__lower ["self", "number"] := ⟨_, fd16, fun_of F16, .all (rb_of (st := s_Heights__lower) (ps := ["self", "number"]) F16 fun _ _ _ _ _ _ us hl => match us, hl with | [_, _], _ => rfl), He.meth_ok (cd.fact 43 (f := .meth "Heights" "_lower") rfl)⟩
  let c_Heights__ring : CkM K (He.ga K "Heights") "_ring" "Heights._ring" s_Heights__ring ["self", "number", "causes"] := ⟨_, fd17, fun_of F17, .all (rb_of (st := s_Heights__ring) (ps := ["self", "number", "causes"]) F17 fun _ _ _ _ _ _ us hl => match us, hl with | [_, _, _], _ => rfl), He.meth_ok (cd.fact 44 (f := .meth "Heights" "_ring") rfl)⟩
  let c_Heights : CkI K (He.ga K "Heights") "Heights.__init__" s_Heights___init__ ["self", "many"] := ⟨_, fd18, fun_of F18, .all (rb_of (st := s_Heights___init__) (ps := ["self", "many"]) F18 fun _ _ _ _ _ _ us hl => match us, hl with | [_, _], _ => rfl), He.mkr_ok (cd.fact 45 (f := .mkr "Heights") rfl)⟩
  have e := hfa.symm.trans D_law.g
  cases e
  refine ⟨fd0, fun s v => FunD.bindsA (ps := ["script"]) F0 (fun _ _ _ _ _ _ us hl => match us, hl with | [_], _ => rfl) s [v] rfl, fun base _ _ => ?_⟩
  exact (ok_law ({ toTxB := B, cl := (He.cls_ok (cd.fact 35 (f := .cls "Heights") rfl)), nD := (He.noat_ok (cd.fact 36 (f := .noat "Heights" "differences") rfl)), nH := (He.noat_ok (cd.fact 37 (f := .noat "Heights" "_heights") rfl)), nB := (He.noat_ok (cd.fact 38 (f := .noat "Heights" "_below") rfl)), mg_Heights := (He.glo_ok X G (cd.fact 34 (f := .glo "Heights") rfl)), m_heappush := PySem.W.mg_of X G (He.eqO_ok (He.ba (He.ba cx).2).1), m_heappop := PySem.W.mg_of X G (He.eqO_ok (He.ba (He.ba cx).2).2) } : TxH K mg (He.ga K "Heights")) c_Heights c_Heights_tie c_Heights_kept c_Heights_grow c_Heights_twin c_Heights__lower c_Heights__ring D_law D_l_cell D_l_draws D_l_is_integer D_l_sum D_l_kept D_l_weight D_l_can D_l_is_ring D_l_fits D_l_more D_l_goes).mono (by decide)
end SW
open PySem PySem.W PySem.Calls PyProof.Rows
set_option maxHeartbeats 0 in
theorem PySem.Challenge.cw_swornrun_k13_heights_holds : PySem.Challenge.rw_swornrun_k13_heights.Holds := by
  w_on; o_law
  refine HandSHeadRun.head_imp (r := OpenLaw.row PySem.Challenge.rw_swornrun_k13_heights) (q := view (OpenLaw.row PySem.Challenge.rw_swornrun_k13_heights).prog [0, 16]) (H := SW.hdH) (ob := SW.hdOb) (M := 3000) (loose := SW.hdNames) (d := HandSHeadRun.topDef (OpenLaw.row PySem.Challenge.rw_swornrun_k13_heights).prog 16) (kwd := []) SW.hdOb_eq
    SW.hdRun (by kernel_rfl) (by kernel_rfl) (by kernel_rfl) (by rfl) (by first | assumption | decide +kernel) (by decide +kernel) ⟨rfl, rfl, rfl, rfl, rfl, by decide +kernel⟩ ?hw ?hc
  case hw => w_witness2
  case hc =>
    refine L2.walk_ofE (l := PySem.Challenge.rw_swornrun_k13_heights) (n := 63) (k := 5) (x := "script") (CX := L2.CX0) rfl (by decide) (by kernel_rfl) ⟨rfl, by decide, by decide⟩ ?F (fun _ _ _ _ z => z)
    intro w mg fa h Y G hmg0
    obtain ⟨K, KX, c, cx⟩ := Y
    have hmg : mg ("law" : PySem.Str) = some (.ref fa) := by
      have e : (HandSHeadRun.topDef (OpenLaw.row PySem.Challenge.rw_swornrun_k13_heights).prog 16).name = ("law" : PySem.Str) := by kernel_rfl
      rw [← e]
      exact hmg0
    obtain ⟨fd, hb, hF⟩ := SW.hdFacts (P := (PySem.Challenge.rw_swornrun_k13_heights).prog) (w := w) KX G hmg c cx
    exact ⟨K, fd, SW.spLaw K, KX, hb, fun H a ns hl _ hS => ⟨a, ns, rfl, hS, hl, fun _ => rfl⟩, hF⟩
