import PyProof.Rows.All
import Wide.All
import OpenK.AllK
import Wide.FinOn
import HandS.ForMost
import HandS.IsInst
import HandS.Evl
import HandS.SetIn
import HandS.Walk
import HandS.Star
import HandS.Zip
import HandS.Style
import HandS.Wide
import HandS.DictComp
import KE.KeyNested
import KE.KDictKeyed
import HandS.DeepEq
import HandS.RaiseMore
import HandS.SortRule
import PySem.Challenge.RW_swornrun_k15_values_and_contents
set_option Elab.async false
set_option linter.all false
set_option maxRecDepth 100000
set_option maxHeartbeats 4000000
namespace SW
open PySem PySem.Spec PyProof.Rows L2
def topS (i : Nat) : Stmt := PySem.Challenge.pw_swornrun_k15_values_and_contents.main.body.getD i (.Pass ⟨0, 0, 0, 0⟩)
/-- the built-in names stand for what they are -/
structure TxB (mg : PySem.Str → Option Value) : Prop where
  n_len : mg "len" = none
  n_range : mg "range" = none
  n_int : mg "int" = none
  n_abs : mg "abs" = none
  n_isinstance : mg "isinstance" = none
  n_list : mg "list" = none
  n_str : mg "str" = none
  n_bool : mg "bool" = none
  n_tuple : mg "tuple" = none
  n_min : mg "min" = none
  n_max : mg "max" = none
  n_sum : mg "sum" = none
  n_sorted : mg "sorted" = none
  n_any : mg "any" = none
  n_all : mg "all" = none
  n_zip : mg "zip" = none
  n_enumerate : mg "enumerate" = none
  n_reversed : mg "reversed" = none
  n_dict : mg "dict" = none
  n_set : mg "set" = none
  n_repr : mg "repr" = none
  n_ord : mg "ord" = none
/-- a def of the text -/
structure Df (K : PySem.W.Frag) (mg : PySem.Str → Option Value) (x : PySem.Str) (st : Stmt) (ps : List PySem.Str) where
  f : Addr
  fd : FuncData
  F : Fun K x x st f fd
  rb : ∀ us : List Value, us.length = ps.length → bindArgs fd ⟨us, []⟩ = pure (ps.zip us)
  g : mg x = some (.ref f)
theorem Df.b {K : PySem.W.Frag} {mg : PySem.Str → Option Value} {x : PySem.Str} {st : Stmt} {ps : List PySem.Str} (D : Df K mg x st ps) : Binds K D.fd ps [] := .all D.rb
/-- .. of what the head tells -/
def df_mk {x : PySem.Str} {st : Stmt} {ps : List PySem.Str} {K : PySem.W.Frag} {h : Heap} {mg : PySem.Str → Option Value} (X : K.In h) (G : h.Ns mainGlobals mg) {f : Addr} {oc : Value} {od an : Option Addr} {sl : Array (Option Value)} {kV doc pm cd ct : Value}
    (a : PySem.W.nsIn K mainGlobals x = some (some (.ref f))) (l : K.lookup f = some ⟨oc, od, .func (PySem.W.fnOf x x (defArgs st) (defBody st) (defScope st) .none kV doc pm an cd ct), sl⟩) (c : PySem.W.codeIn K cd x = true) (k : PySem.W.keepIn K (.ref f) = true)
    (hb : ∀ (kV doc pm : Value) (an : Option Addr) (cd ct : Value) (us : List Value), us.length = ps.length → bindArgs (PySem.W.fnOf x x (defArgs st) (defBody st) (defScope st) .none kV doc pm an cd ct) ⟨us, []⟩ = pure (ps.zip us)) : Df K mg x st ps :=
  ⟨f, _, fun_mk l c k, hb kV doc pm an cd ct, PySem.W.mg_of X G a⟩
theorem m_of {K : PySem.W.Frag} {h : Heap} {mg : PySem.Str → Option Value} {x : PySem.Str} {v u : Value} (X : K.In h) (G : h.Ns mainGlobals mg) (e : PySem.W.nsIn K mainGlobals x = some (some v)) (q : v = u) : mg x = some u := by
  rw [← q]
  exact PySem.W.mg_of X G e
theorem sqt_mk {K : PySem.W.Frag} {aT : Addr} {od : Option Addr} {its : Array Value} {n : Nat} {sl : Array (Option Value)} {xs : List V} (l : K.lookup aT = some ⟨.type "tuple", od, .seq its n, sl⟩) (hs : its.size ≤ sizeLine) (r : Vals xs its.toList) : ∀ H, SqT K H aT xs :=
  fun H => .inr ⟨_, its, n, l, rfl, rfl, hs, r⟩
theorem same_new {H : Hp} {p : Addr} {o : HO} (h : H p = none) : Same H (upd H p o) := fun b x e => by
  rw [upd_ne (ne_of_none e h)]
  exact e
/-- an object that H does not know has changed -/
theorem same_mut {H H' : Hp} {p : Addr} {o : HO} (s : Same H H') (h : H p = none) : Same H (upd H' p o) := fun b x e => by
  rw [upd_ne (ne_of_none e h)]
  exact s _ _ e
theorem new_of {H H1 : Hp} {p : Addr} {o : HO} (n : H p = none) (h : upd H p o = H1) : Same H H1 ∧ H1 p = some o := by
  subst h
  exact ⟨same_new n, upd_same⟩
/-- all that was tracked is as it was, but what stands at h -/
def But (h : Addr) (H H' : Hp) : Prop := ∀ b o, b ≠ h → H b = some o → H' b = some o
theorem But.refl (h : Addr) (H : Hp) : But h H H := fun _ _ _ e => e
theorem But.trans {h : Addr} {H H1 H2 : Hp} (a : But h H H1) (b : But h H1 H2) : But h H H2 := fun c o n e => b c o n (a c o n e)
theorem Same.but {h : Addr} {H H' : Hp} (a : Same H H') : But h H H' := fun c o _ e => a c o e
/-- the hand at h: the list of draws at d, and a place in it -/
structure Hand (H : Hp) (h d : Addr) (ds : List Int) : Prop where
  at_ : ∃ i : Nat, H h = some (.lst [.ref d, .int (i : Nat)])
  ds_ : H d = some (.lst (ds.map V.int))
  ne : d ≠ h
theorem Hand.same {H H' : Hp} {h d : Addr} {ds : List Int} (a : Hand H h d ds) (s : Same H H') : Hand H' h d ds := by
  obtain ⟨⟨i, h1⟩, h2, h3⟩ := a
  exact ⟨⟨i, s _ _ h1⟩, s _ _ h2, h3⟩
theorem small_sz {n : Nat} (h : n ≤ 1000) : n < sizeLine := Nat.lt_of_le_of_lt h (by decide)
theorem small_sz5 {n : Nat} (h : n ≤ 100000) : n < sizeLine := Nat.lt_of_le_of_lt h (by decide)
theorem ixN_nat {n j : Nat} (h : j < n) : ixN n (j : Int) = some j := by
  unfold ixN
  rw [if_pos (by omega), if_pos (by omega)]
  rfl
theorem hand_ne {H : Hp} {h d p : Addr} {ds : List Int} (hd : Hand H h d ds) (n : H p = none) : p ≠ h := by
  obtain ⟨⟨i, e⟩, _, _⟩ := hd
  exact (ne_of_none e n).symm
theorem hand_ne2 {H : Hp} {h d p : Addr} {ds : List Int} (hd : Hand H h d ds) (n : H p = none) : p ≠ d := (ne_of_none hd.ds_ n).symm
/-- something else than the hand and its draws has changed -/
theorem Hand.upd {H : Hp} {h d p : Addr} {o : HO} {ds : List Int} (a : Hand H h d ds) (h1 : p ≠ h) (h2 : p ≠ d) : Hand (L2.upd H p o) h d ds := by
  obtain ⟨⟨i, e1⟩, e2, e3⟩ := a
  exact ⟨⟨i, (upd_ne h1.symm).trans e1⟩, (upd_ne h2.symm).trans e2, e3⟩
theorem But.new {a : Addr} {H H' : Hp} {p : Addr} {o : HO} (b : But a H H') (n : H p = none) : But a H (L2.upd H' p o) := fun c u hc e => (upd_ne (ne_of_none e n)).trans (b c u hc e)
theorem But.free {a : Addr} {H H' : Hp} {p : Addr} (b : But a H H') (hp : p ≠ a) (n : H' p = none) : H p = none := by
  cases e : H p with
  | none => rfl
  | some u =>
    rw [b p u hp e] at n
    cases n
/-! ### written texts in a row; a text n times -/
def tStrs (ws : List PySem.Str) : TA := fun _ H Q => Q (ws.map V.str) H
theorem pa_strs {X : Cx} {es : List Expr} {ws : List PySem.Str} (h : StrEs es ws) : PA X es (tStrs ws) := by
  induction h with
  | nil => exact pa_nil
  | cons x j p _ ih => exact pa_cons pe_str ih
def rMulS : R2 := fun x y H Q => ∃ (z : PySem.Str) (n : Int), x = .str z ∧ y = .int n ∧ 0 ≤ n ∧ n ≤ 1000 ∧ z.length ≤ 1000 ∧ Q (.str (Txt.mul z n)) H
theorem op_mul_str {X : Cx} : OpR X (binaryOp .Mult) rMulS := by
  intro pins s σ H x y v u Q I rx ry h
  obtain ⟨z, n, rfl, rfl, h0, h1, hz, q⟩ := h
  obtain ⟨t, rfl⟩ := rx
  obtain ⟨t', rfl⟩ := ry
  refine SB.mul ⟨?_, ?_, ?_⟩ fun t' k => ⟨.str _, H, I.tok k, ⟨t', rfl⟩, q⟩
  · rw [Bool.or_eq_false_iff]
    exact ⟨decide_eq_false (by omega), decide_eq_false (by omega)⟩
  · intro hn _ hc
    have hd : (2 ^ 63 - 1 : Int) / 1000 ≤ (2 ^ 63 - 1) / n := by
      have : n * 9223372036854775 ≤ 2 ^ 63 - 1 := by omega
      have h2 : (9223372036854775 : Int) ≤ (2 ^ 63 - 1) / n := Int.le_ediv_of_mul_le (by omega) (by rw [Int.mul_comm]; exact this)
      have h3 : (2 ^ 63 - 1 : Int) / 1000 = 9223372036854775 := by decide
      omega
    have h3 : (2 ^ 63 - 1 : Int) / 1000 = 9223372036854775 := by decide
    omega
  · intro _ _
    have hb : z.length * n.toNat ≤ 1000 * 1000 := Nat.mul_le_mul hz (by omega)
    unfold Builtin.Str.tooLong
    refine decide_eq_false ?_
    have : (1000 * 1000 : Nat) ≤ sizeLine := by decide
    omega
theorem foldl_app {c : Nat} : ∀ (n : Nat) (a : Array Nat), ((List.replicate n #[c]).foldl (· ++ ·) a).toList = a.toList ++ List.replicate n c
  | 0, a => by simp
  | n + 1, a => by
    rw [List.replicate_succ, List.foldl_cons, foldl_app n]
    simp [List.replicate_succ]
theorem mul_one_sign (c : Nat) (n : Int) : (Txt.mul ⟨#[c]⟩ n).cps.toList = List.replicate n.toNat c := by
  unfold Txt.mul
  by_cases h1 : n < 1
  · rw [if_pos h1, show n.toNat = 0 by omega]
    rfl
  · rw [if_neg h1]
    by_cases h2 : (n == 1 || (⟨#[c]⟩ : PySem.Str).length == 0) = true
    · rw [if_pos h2]
      have h3 : n = 1 := by
        rcases Bool.or_eq_true_iff.mp h2 with h | h
        · exact eq_of_beq h
        · exact absurd (eq_of_beq h) (by show ¬ (1 : Nat) = 0; decide)
      subst h3
      rfl
    · rw [if_neg h2]
      show ((List.replicate n.toNat #[c]).foldl (· ++ ·) #[]).toList = _
      rw [foldl_app]
      rfl
theorem join_len1 : ∀ (ys : List PySem.Str), (Str.join "" ys).length = (ys.map (·.length)).sum
  | [] => rfl
  | [x] => by
    show x.length = (x.length :: []).sum
    rw [List.sum_cons]
    rfl
  | x :: y :: r => by
    show (x ++ "" ++ Str.join "" (y :: r)).length = _
    have h := join_len1 (y :: r)
    rw [TL.len_tl] at h ⊢
    rw [TL.tl_append, TL.tl_append, List.length_append, List.length_append, h, List.map_cons, List.sum_cons, TL.len_tl]
    rfl
theorem join_len (ys : List PySem.Str) : (Txt.join "" ys).length = (ys.map (·.length)).sum := by
  rw [TL.join_eq, join_len1]
theorem sum_const {ys : List PySem.Str} {b : Nat} (h : ∀ y ∈ ys, y.length ≤ b) : (ys.map (·.length)).sum ≤ ys.length * b := by
  induction ys with
  | nil => exact Nat.zero_le _
  | cons a r ih =>
    have h1 := h a List.mem_cons_self
    have h2 := ih fun y hy => h y (List.mem_cons_of_mem _ hy)
    rw [List.map_cons, List.sum_cons, List.length_cons, Nat.add_mul]
    omega
theorem str_at {z : PySem.Str} {r : Int} (h0 : 0 ≤ r) (h1 : r < z.length) : ∃ c, atI z.cps.toList r = some c := by
  obtain ⟨j, rfl⟩ : ∃ j : Nat, r = j := ⟨r.toNat, by omega⟩
  have hl : z.cps.toList.length = z.length := rfl
  have hj : j < z.cps.toList.length := by omega
  exact ⟨_, atI_nat (List.getElem?_eq_getElem hj)⟩
theorem strs_at {ws : List PySem.Str} {r : Int} (h0 : 0 ≤ r) (h1 : r < ws.length) : ∃ z, z ∈ ws ∧ atI (ws.map V.str) r = some (.str z) := by
  obtain ⟨j, rfl⟩ : ∃ j : Nat, r = j := ⟨r.toNat, by omega⟩
  have hj : j < ws.length := by omega
  refine ⟨ws[j], List.getElem_mem hj, atI_nat ?_⟩
  rw [List.getElem?_map, List.getElem?_eq_getElem hj]
  rfl
/-- a loop over a text's signs -/
theorem for_str {x : PySem.Str} {g : TG} {tb : TS} {D : Ends} {σ : L2.St} {H : Hp} (Pv : Nat → L2.St → Hp → Prop) (h0 : Pv 0 σ H)
    (hs : ∀ i c σ H, x.cps.toList[i]? = some c → Pv i σ H → g (.str ⟨#[c]⟩) σ H fun σ2 H2 => tb { D with nx := Pv (i + 1), ct := Pv (i + 1), bk := D.nx } σ2 H2) (hd : ∀ σ H, Pv x.cps.toList.length σ H → D.nx σ H) :
    ∃ W : Nat → Nat → L2.St → Hp → Prop, (∃ m, W 0 m σ H) ∧ ∀ i m σ H, W i m σ H →
      ((Its x).stop i H ∧ D.nx σ H) ∨ ((Its x).go i H ∧ ∃ N : L2.St → Hp → Prop, (∀ σ' H', N σ' H' → ∃ m', m' < m ∧ W (i + 1) m' σ' H') ∧ ∀ v H', (Its x).yld i H v H' → g v σ H' fun σ2 H2 => tb { D with nx := N, ct := N, bk := D.nx } σ2 H2) := by
  refine ⟨fun i m σ H => m = x.cps.toList.length - i ∧ i ≤ x.cps.toList.length ∧ Pv i σ H, ⟨x.cps.toList.length, by simp, Nat.zero_le _, h0⟩, ?_⟩
  rintro i m σ H ⟨rfl, hi, p⟩
  by_cases hlt : i < x.cps.toList.length
  · refine .inr ⟨hlt, Pv (i + 1), fun σ' H' p' => ⟨x.cps.toList.length - (i + 1), by omega, rfl, hlt, p'⟩, fun v H' y => ?_⟩
    obtain ⟨e, c, hc, hv⟩ := y
    subst e hv
    exact hs i c σ _ (by rw [Array.getElem?_toList]; exact hc) p
  · have e : i = x.cps.toList.length := by omega
    subst e
    exact .inl ⟨Nat.le_refl _, hd σ H p⟩
abbrev mk (l : List Nat) : PySem.Str := ⟨l.toArray⟩
theorem mk_cp (z : PySem.Str) : mk z.cps.toList = z := rfl
theorem cp_mk (l : List Nat) : (mk l).cps.toList = l := rfl
theorem flat_strs (ws : List PySem.Str) : (ws.map V.str).all flatV = true := by
  induction ws with
  | nil => rfl
  | cons a r ih =>
    rw [List.map_cons, List.all_cons, ih]
    rfl
theorem inV_strs (a : PySem.Str) (ws : List PySem.Str) : inV (.str a) (ws.map V.str) = decide (a ∈ ws) := by
  induction ws with
  | nil => rfl
  | cons b r ih =>
    show ((b == a) || inV (.str a) (r.map V.str)) = _
    rw [ih]
    by_cases e : b = a
    · subst e
      simp
    · rw [beq_eq_false_iff_ne.mpr e]
      by_cases m : a ∈ r
      · simp [m]
      · simp [m, Ne.symm e]
theorem cut2 (z : PySem.Str) (i : Nat) (h : i < z.length) : cutS z (some (i : Int)) (some ((i : Int) + 2)) = mk ((z.cps.toList.drop i).take 2) := by
  have e1 : HT.sIx z.length 0 (some (i : Int)) = i := by
    rw [HT.sIx_nat]
    omega
  have e2 : HT.sIx z.length z.length (some ((i : Int) + 2)) = min (i + 2) z.length := by
    rw [show ((i : Int) + 2) = ((i + 2 : Nat) : Int) by omega, HT.sIx_nat]
  unfold cutS
  rw [e1, e2]
  show mk _ = mk _
  congr 1
  have hl : (z.cps.toList.drop i).length = z.length - i := by
    rw [List.length_drop]
    rfl
  by_cases h2 : i + 2 ≤ z.length
  · rw [show min (i + 2) z.length - i = 2 by omega]
  · rw [Nat.min_eq_right (by omega), List.take_of_length_le (by omega), List.take_of_length_le (by omega)]
theorem cut_nat (z : PySem.Str) (i n : Nat) (h : i + n ≤ z.length) : cutS z (some (i : Int)) (some ((i + n : Nat) : Int)) = mk ((z.cps.toList.drop i).take n) := by
  have e1 : HT.sIx z.length 0 (some (i : Int)) = i := by
    rw [HT.sIx_nat]
    omega
  have e2 : HT.sIx z.length z.length (some ((i + n : Nat) : Int)) = i + n := by
    rw [HT.sIx_nat]
    omega
  unfold cutS
  rw [e1, e2, show i + n - i = n by omega]
theorem str_ne (z : PySem.Str) : (!decide (V.str z = V.str "")) = decide (z.cps.toList ≠ []) := by
  by_cases h : z.cps.toList = []
  · have e : z = "" := by
      rw [← mk_cp z, h]
      rfl
    subst e
    rfl
  · have e : ¬ V.str z = V.str "" := fun e => h (by
      injection e with e
      rw [e]
      rfl)
    rw [decide_eq_false e, decide_eq_true h]
    rfl
theorem le_dec (n m : Nat) : decide ((n : Int) ≤ (m : Int)) = decide (n ≤ m) := decide_eq_decide.mpr Int.ofNat_le
theorem str_dec (x y : PySem.Str) : decide (V.str x = V.str y) = decide (x = y) := decide_eq_decide.mpr ⟨fun h => by injection h, fun h => by rw [h]⟩
theorem sz5 {n : Nat} (h : n ≤ 100000) : n ≤ sizeLine := Nat.le_trans h (by decide)
theorem sz5' {n : Nat} (h : n ≤ 100000) : n < sizeLine := Nat.lt_of_le_of_lt h (by decide)
theorem at_nat {xs : List V} {z : Int} {j : Nat} {v : V} (e : z = (j : Int)) (h : xs[j]? = some v) : atI xs z = some v := at_of e h
end SW

namespace SW
open PySem PySem.Spec PyProof.Rows L2
theorem app_len (x y : PySem.Str) : (x ++ y).length = x.length + y.length := by
  rw [TL.len_tl, TL.tl_append, List.length_append, ← TL.len_tl, ← TL.len_tl]
theorem mul_len (n : Int) : (Txt.mul " " n).length = n.toNat := by
  rw [TL.len_tl]
  show (Txt.mul ⟨#[32]⟩ n).cps.toList.length = _
  rw [mul_one_sign, List.length_replicate]
/-! ### data: what is read stays -/
mutual
theorem dp_same {K : PySem.W.Frag} {H H' : Hp} (s : Same H H') : ∀ (d : PyData) (v : V), Dp K H v d → Dp K H' v d
  | .none, _, h => by
    cases h
    exact .non
  | .bool b, _, h => by
    cases h
    exact .bl b
  | .int i, _, h => by
    cases h
    exact .int i
  | .str x, _, h => by
    cases h
    exact .str x
  | .list ds, _, h => by
    cases h with
    | lst hs ha => exact .lst (s.seq hs) (dpa_same s ds _ ha)
  | .tuple ds, _, h => by
    cases h with
    | tup hs ha =>
      refine .tup ?_ (dpa_same s ds _ ha)
      rcases hs with (hs | ⟨o, hs⟩) | hs
      · exact .inl (.inl (s _ _ hs))
      · exact .inl (.inr ⟨o, s _ _ hs⟩)
      · exact .inr hs
  | .dict _, _, h => by cases h
theorem dpa_same {K : PySem.W.Frag} {H H' : Hp} (s : Same H H') : ∀ (ds : List PyData) (vs : List V), DpAll K H vs ds → DpAll K H' vs ds
  | [], _, h => by
    cases h
    exact .nil
  | d :: ds, _, h => by
    cases h with
    | cons h1 h2 => exact .cons (dp_same s d _ h1) (dpa_same s ds _ h2)
end
theorem sqt_same {K : PySem.W.Frag} {H H' : Hp} (s : Same H H') {a : Addr} {xs : List V} (hs : SqT K H a xs) : SqT K H' a xs := by
  rcases hs with (hs | ⟨o, hs⟩) | hs
  · exact .inl (.inl (s _ _ hs))
  · exact .inl (.inr ⟨o, s _ _ hs⟩)
  · exact .inr hs
theorem _root_.L2.Dp.same {K : PySem.W.Frag} {H H' : Hp} {d : PyData} {v : V} (h : Dp K H v d) (s : Same H H') : Dp K H' v d := dp_same s d v h
mutual
/-- no list within -/
def noL : PyData → Bool
  | .tuple ds => noLs ds
  | .list _ => false
  | .dict _ => false
  | _ => true
def noLs : List PyData → Bool
  | [] => true
  | d :: ds => noL d && noLs ds
end
mutual
theorem dp_but {K : PySem.W.Frag} {H H' : Hp} {h : Addr} {ys : List V} (hl : H h = some (.lst ys)) (s : But h H H') : ∀ (d : PyData) (v : V), noL d = true → Dp K H v d → Dp K H' v d
  | .none, _, _, e => by
    cases e
    exact .non
  | .bool b, _, _, e => by
    cases e
    exact .bl b
  | .int i, _, _, e => by
    cases e
    exact .int i
  | .str x, _, _, e => by
    cases e
    exact .str x
  | .list ds, _, n, _ => by
    unfold noL at n
    cases n
  | .tuple ds, _, n, e => by
    cases e with
    | tup hs ha =>
      refine .tup ?_ (dpa_but hl s ds _ (by unfold noL at n; exact n) ha)
      rcases hs with (hs | ⟨o, hs⟩) | hs
      · refine .inl (.inl (s _ _ (fun e => ?_) hs))
        rw [e, hl] at hs
        cases hs
      · refine .inl (.inr ⟨o, s _ _ (fun e => ?_) hs⟩)
        rw [e, hl] at hs
        cases hs
      · exact .inr hs
  | .dict _, _, _, e => by cases e
theorem dpa_but {K : PySem.W.Frag} {H H' : Hp} {h : Addr} {ys : List V} (hl : H h = some (.lst ys)) (s : But h H H') : ∀ (ds : List PyData) (vs : List V), noLs ds = true → DpAll K H vs ds → DpAll K H' vs ds
  | [], _, _, e => by
    cases e
    exact .nil
  | d :: ds, _, n, e => by
    unfold noLs at n
    rw [Bool.and_eq_true] at n
    cases e with
    | cons h1 h2 => exact .cons (dp_but hl s d _ n.1 h1) (dpa_but hl s ds _ n.2 h2)
end
theorem Hand.dp {K : PySem.W.Frag} {H H' : Hp} {h d0 : Addr} {ds : List Int} (a : Hand H h d0 ds) (s : But h H H') {d : PyData} {v : V} (n : noL d = true) (e : Dp K H v d) : Dp K H' v d := by
  obtain ⟨⟨i, hl⟩, _, _⟩ := a
  exact dp_but hl s d v n e
def isN : PyData → Bool
  | .none => true
  | _ => false
theorem dp_isN {K : PySem.W.Frag} {H : Hp} {d : PyData} {v : V} (h : Dp K H v d) : decide (v = V.non) = isN d := by
  cases h <;> rfl
theorem dp_tup2 {K : PySem.W.Frag} {H : Hp} {t : Addr} {v1 v2 : V} {d1 d2 : PyData} (h : H t = some (.tup [v1, v2])) (h1 : Dp K H v1 d1) (h2 : Dp K H v2 d2) : Dp K H (.ref t) (.tuple [d1, d2]) :=
  .tup (SqT.of h) (.cons h1 (.cons h2 .nil))
theorem dp_tup3 {K : PySem.W.Frag} {H : Hp} {t : Addr} {v1 v2 v3 : V} {d1 d2 d3 : PyData} (h : H t = some (.tup [v1, v2, v3])) (h1 : Dp K H v1 d1) (h2 : Dp K H v2 d2) (h3 : Dp K H v3 d3) : Dp K H (.ref t) (.tuple [d1, d2, d3]) :=
  .tup (SqT.of h) (.cons h1 (.cons h2 (.cons h3 .nil)))
theorem dp_tup4 {K : PySem.W.Frag} {H : Hp} {t : Addr} {v1 v2 v3 v4 : V} {d1 d2 d3 d4 : PyData} (h : H t = some (.tup [v1, v2, v3, v4])) (h1 : Dp K H v1 d1) (h2 : Dp K H v2 d2) (h3 : Dp K H v3 d3) (h4 : Dp K H v4 d4) : Dp K H (.ref t) (.tuple [d1, d2, d3, d4]) :=
  .tup (SqT.of h) (.cons h1 (.cons h2 (.cons h3 (.cons h4 .nil))))
/-! ### lists of texts, compared -/
theorem dpa_strs {K : PySem.W.Frag} {H : Hp} : ∀ ws : List PySem.Str, DpAll K H (ws.map V.str) (ws.map PyData.str)
  | [] => .nil
  | x :: r => .cons (.str x) (dpa_strs r)
theorem dp_strs {K : PySem.W.Frag} {H : Hp} {a : Addr} {ws : List PySem.Str} (h : SqL K H a (ws.map V.str)) : Dp K H (.ref a) (.list (ws.map PyData.str)) := .lst h (dpa_strs ws)
theorem vals_strs : ∀ {ws : List PySem.Str} {us : List Value} {j : Nat} {x : PySem.Str}, Vals (ws.map V.str) us → ws[j]? = some x → ∃ t, us[j]? = some (.str x t)
  | _, _, _, _, r, h => by
    obtain ⟨u, h1, h2⟩ := r.get (x := V.str _) (by rw [List.getElem?_map, h]; rfl)
    obtain ⟨t, rfl⟩ := h2
    exact ⟨t, h1⟩
/-- == of two lists of texts -/
def rEqS (K : PySem.W.Frag) : R2 := fun x y H Q => ∃ (a b : Addr) (ws vs : List PySem.Str), x = .ref a ∧ y = .ref b ∧ SqL K H a (ws.map V.str) ∧ SqL K H b (vs.map V.str) ∧ Q (.bl (decide (ws = vs))) H
theorem all_eq {ws vs : List PySem.Str} (hl : ws.length = vs.length) : ((List.range ws.length).all fun j => decide (ws[j]? = vs[j]?)) = decide (ws = vs) := by
  by_cases h : ws = vs
  · subst h
    rw [decide_eq_true rfl, List.all_eq_true]
    exact fun j _ => decide_eq_true rfl
  · rw [decide_eq_false h]
    refine Bool.eq_false_iff.mpr fun e => h ?_
    rw [List.all_eq_true] at e
    refine List.ext_getElem? fun j => ?_
    by_cases hj : j < ws.length
    · exact of_decide_eq_true (e j (List.mem_range.mpr hj))
    · rw [List.getElem?_eq_none (by omega), List.getElem?_eq_none (by omega)]
theorem op_eqS {X : Cx} (hu : X.A.units < cLine) : OpR X (compareOp .Eq) (rEqS X.K) := by
  intro pins s σ H x y v u Q I rx ry h
  obtain ⟨a, b, ws, vs, rfl, rfl, ha, hb, q⟩ := h
  cases rx
  cases ry
  obtain ⟨its, r1, p1, _⟩ := I.list ha
  obtain ⟨jts, r2, p2, _⟩ := I.list hb
  have l1 := r1.length
  have l2 := r2.length
  rw [List.length_map] at l1 l2
  by_cases hl : ws.length = vs.length
  · refine SeqAt.eq_listAt (e := fun j => decide (ws[j]? = vs[j]?)) p1.isList p2.isList (by simp only [List.size_toArray]; omega) hu (fun j h1 h2 => ?_) ?_
    · simp only [List.size_toArray] at h1 h2
      obtain ⟨t1, e1⟩ := vals_strs (x := ws[j]) r1 (List.getElem?_eq_getElem (by omega))
      obtain ⟨t2, e2⟩ := vals_strs (x := vs[j]) r2 (List.getElem?_eq_getElem (by omega))
      have f1 : its.toArray[j] = .str ws[j] t1 := by
        rw [List.getElem?_eq_getElem h1] at e1
        injection e1 with e1
      have f2 : jts.toArray[j] = .str vs[j] t2 := by
        rw [List.getElem?_eq_getElem h2] at e2
        injection e2 with e2
      rw [f1, f2]
      have e3 : decide (ws[j]? = vs[j]?) = (ws[j] == vs[j]) := by
        rw [List.getElem?_eq_getElem (by omega), List.getElem?_eq_getElem (by omega)]
        by_cases h : ws[j] = vs[j]
        · rw [h]
          simp
        · rw [decide_eq_false (fun e => h (Option.some.inj e)), beq_eq_false_iff_ne.mpr h]
      rw [e3]
      exact SeqAt.EqAt.str_str _ _ _ _
    · have e4 : ((List.range its.toArray.size).all fun j => decide (ws[j]? = vs[j]?)) = decide (ws = vs) := by
        rw [List.size_toArray, ← l1]
        exact all_eq hl
      rw [e4]
      exact ⟨.bl _, H, I, rfl, q⟩
  · refine SeqAt.eq_list_lengthsAt p1.isList p2.isList (by simp only [List.size_toArray]; exact bne_iff_ne.mpr (by omega)) hu ?_
    rw [decide_eq_false (fun e => hl (by rw [e]))] at q
    exact ⟨.bl _, H, I, rfl, q⟩
end SW

namespace SW
open PySem PySem.Spec PyProof.Rows L2
/-! ### a def that is called where no object is being shown -/
structure FnOkG (P : Program) (w : World) (K : PySem.W.Frag) (mg : PySem.Str → Option Value) (base : Heap) (CX : CXT) (k : Nat) (f : Addr) (fd : FuncData) (ps : List PySem.Str) (sp : Sp) : Prop where
  run : ∀ (A : Around) (outer : List Env) (s : Shared) (H : Hp) (args : Args) (us : List Value) (vs : List V) (Q : VK) (E : XK),
    A.guards = some [] → Room k A → Env0 P w K mg base A outer s H → BindsTo s fd args (ps.zip us) → Vals vs us → sp vs H Q E →
    codeAny (model P w) A (.call (.ref f) args) (CR CX outer P w H s Q E) s
theorem Fun.okG {P : Program} {w : World} {K : PySem.W.Frag} {mg : PySem.Str → Option Value} {base : Heap} {x qual : PySem.Str} {st : Stmt} {f : Addr} {fd : FuncData} {N ps : List PySem.Str} {k : Nat} {sp : Sp}
    (F : Fun K x qual st f fd) (S : FnScope N ps (defScope st)) (len : ∀ vs H Q E, sp vs H Q E → vs.length = ps.length)
    (hbody : ∀ (cdv : Value) (A : Around) (outer : List Env) (s : Shared) (H : Hp) (vs : List V) (Q : VK) (E : XK),
      (A.deeper (envOfC qual (defScope st) s.heap.objs.size f cdv)).guards = some [] → Room k (A.deeper (envOfC qual (defScope st) s.heap.objs.size f cdv)) → sp vs H Q E →
      ∃ t, PSs (cxOf CX0 P w K mg base N qual (defScope st) f cdv A outer s H E).nox (defBody st) t ∧ t { nx := fun _ H' => Q .non H', rt := Q } (L2.start N vs) H) :
    FnOkG P w K mg base CX0 (k + 1) f fd ps sp := by
  obtain ⟨oc, od, kV, doc, pm, an, cdv, ct, osl, rfl, lk, hcd⟩ := F.ex
  refine ⟨fun A outer s H args us vs Q E hg hr e0 hb r hsp => ?_⟩
  have hl := len vs H Q E hsp
  have KX := PySem.W.Frag.In.keeps e0.mod.kin fun b o e => (e0.bs b o e).1
  have lim := Heap.NoLimit.keeps e0.mod.nolimit fun b o e => (e0.bs b o e).1
  refine codeAny_call_function hr.depth (KX f _ lk) rfl S.co S.gen rfl (PySem.W.codeRec_of KX hcd) (hb _ _ _ _ (wpAny_newFunctionEnv_cells S.kind (fun y hy => ?_) fun env he s1 i => ?_))
  · obtain ⟨n, v⟩ := y
    rcases S.par n (List.of_mem_zip hy).1 with q | q
    · exact .inl q
    · exact .inr ⟨q, PySem.W.cellsFrom_some _ _ [] (.inl q)⟩
  · subst he
    refine ⟨lim.keeps i.toInCall.keep, codeAny_func ?_⟩
    obtain ⟨t, ht, hq⟩ := hbody cdv A outer s H vs Q E hg (hr.deeper _) hsp
    have I : L2.Inv (cxOf CX0 P w K mg base N qual (defScope st) f cdv A outer s H E) [] (L2.start N vs) H s1 := inv_start S hr.hd e0 hl r i
    refine wpAny_mono ((PSs.nox ht).run [] s1 (L2.start N vs) H _ I hq) (fun fl s' hs => ?_) fun e s' hs => hs
    have fin : ∀ {σ' : L2.St} {H' : Hp} {v : V} {u : Value}, L2.Inv (cxOf CX0 P w K mg base N qual (defScope st) f cdv A outer s H E) [] σ' H' s' → RelV v u → Q v H' → CE outer P w H s Q u s' :=
      fun J rv q => ⟨_, _, J.os, J.bare, J.base, J.hok, rv, q⟩
    cases fl with
    | next =>
      obtain ⟨σ', H', J, q⟩ := hs
      exact fin (v := .non) (u := .none) J rfl q
    | brk =>
      obtain ⟨_, _, _, q⟩ := hs
      exact q.elim
    | cont =>
      obtain ⟨_, _, _, q⟩ := hs
      exact q.elim
    | ret u =>
      obtain ⟨v, σ', H', J, rv, q⟩ := hs
      exact fin J rv q
/-- the law's own call -/
theorem law_callG {P : Program} {w : World} {K : PySem.W.Frag} {mg mb : PySem.Str → Option Value} {k : Nat} {fa a : Addr} {fd : FuncData} {x : PySem.Str} {sp : Sp} {s₁ : Shared} {vs : List Value} {ns : List Int}
    (KX : K.In s₁.heap) (hns : s₁.heap.Ns mainGlobals mg) (hb : s₁.heap.Ns builtinsNs mb) (hbb : ∀ x : PySem.Str, x ≠ Str.ofString "__name__" → mb x = bootBuiltins x) (hlim : s₁.heap.NoLimit) (hg : s₁.gens = #[])
    (ha : s₁.heap.get? a = some { cls := .type "list", data := .seq vs.toArray }) (hi : IntsAre vs ns) (hl : ns.length ≤ sizeLine) (hr : Room k callerA)
    (F : ∀ base : Heap, K.In base → base.Ns mainGlobals mg → FnOkG P w K mg base CX0 k fa fd [x] sp) (hbind : ∀ (s : Shared) (u : Value), BindsTo s fd ⟨[u], []⟩ [(x, u)])
    (hsp : ∀ H, Only H → SqL K H a (ns.map V.int) → sp [.ref a] H (fun v _ => v = .bl true) fun _ _ _ => False) :
    codeAny (model P w) callerA (.call (.ref fa) ⟨[.ref a], []⟩) (fun r s' => r = .ok (.ret (.bool true)) ∧ OldK s₁.heap s'.heap ∧ s'.os = s₁.os ∧ AllBare s'.gens) s₁ := by
  have rv := vals_ints hi
  have lenV := IntsAre.length hi
  have core : ∀ H : Hp, Only H → SqL K H a (ns.map V.int) → HOk P w H s₁.heap → (∀ b, H b ≠ none → b = a) → (H a ≠ none → List.lookup a K = none) →
      codeAny (model P w) callerA (.call (.ref fa) ⟨[.ref a], []⟩) (fun r s' => r = .ok (.ret (.bool true)) ∧ OldK s₁.heap s'.heap ∧ s'.os = s₁.os ∧ AllBare s'.gens) s₁ := by
    intro H hO hS hok hA hK
    have noA : ∀ {b : Addr} {o : Obj}, s₁.heap.get? b = some o → (∀ vs n, o.data ≠ .seq vs n) → H b = none := by
      intro b o e d
      cases hb' : H b with
      | none => rfl
      | some u =>
        have := hA b (by rw [hb']; exact fun z => nomatch z)
        subst this
        rw [ha] at e
        cases e
        exact absurd rfl (d _ _)
    have base_of : ∀ {b : Addr} {o : Obj}, s₁.heap.get? b = some o → H b = none → (hidT s₁.heap H).get? b = some o := fun e n => hidT_get e n
    have nsK : ∀ {b : Addr} {m : PySem.Str → Option Value}, s₁.heap.Ns b m → (hidT s₁.heap H).Ns b m := by
      rintro b m ⟨o, es, ep, e, d, r⟩
      exact ⟨o, es, ep, base_of e (noA e (by intro vs n; rw [d]; exact fun z => nomatch z)), d, r⟩
    have hKb : K.In (hidT s₁.heap H) := by
      intro b o e
      refine base_of (KX b o e) ?_
      cases hb' : H b with
      | none => rfl
      | some u =>
        have := hA b (by rw [hb']; exact fun z => nomatch z)
        subst this
        rw [hK (by rw [hb']; exact fun z => nomatch z)] at e
        cases e
    have hM : Mod K mg (hidT s₁.heap H) := by
      obtain ⟨mc, h1, h2⟩ := hlim
      exact ⟨hKb, nsK hns, ⟨mb, nsK hb, hbb⟩, ⟨mc, nsK h1, h2⟩⟩
    have e0 : Env0 P w K mg (hidT s₁.heap H) callerA [] s₁ H :=
      { frames := rfl, mod := hM, bs := fun b o e => of_hidT e, bsz := Nat.le_of_eq (hidT_size s₁.heap H), funs := trivial, frf := fun b hb => (List.not_mem_nil hb).elim, hok := hok, bare := AllBare.of_eq hg }
    refine codeAny_mono ((F _ hKb (nsK hns)).run callerA [] s₁ H ⟨[.ref a], []⟩ [.ref a] [.ref a] (fun v _ => v = .bl true) (fun _ _ _ => False) rfl hr e0 (hbind s₁ _) (.cons rfl .nil) (hsp H hO hS)) fun r s' h => ?_
    cases r with
    | error e => exact h.elim
    | ok fl =>
      cases fl with
      | next => exact h.elim
      | brk => exact h.elim
      | cont => exact h.elim
      | ret u =>
        obtain ⟨v, H', os, bare, un, hok', r', q⟩ := h
        subst q
        cases r'
        refine ⟨rfl, OldK.of_keep fun b o e => ?_, os, bare⟩
        cases hb' : H b with
        | none => exact un.keep b o e hb' (fun z => List.not_mem_nil z) (fun z => List.not_mem_nil z)
        | some u =>
          rcases hO b with z | ⟨ob, xs, z⟩
          · rw [hb'] at z
            cases z
          · have h1 := un.frzs b _ _ z
            have h2 := hok b _ z
            have h3 := hok' b _ h1
            have h4 := h2.1
            have h5 := h3.1
            rw [e] at h4
            cases h4
            exact h5
  cases hk : List.lookup a K with
  | none =>
    refine core (fun b => if b = a then some (.frz { cls := .type "list", data := .seq vs.toArray } (.lst (ns.map V.int))) else none) (fun b => ?_) (.inl (.inr ⟨_, if_pos rfl⟩)) (fun b u z => ?_) (fun b z => ?_) fun _ => hk
    · by_cases hb : b = a
      · exact .inr ⟨_, _, if_pos hb⟩
      · exact .inl (if_neg hb)
    · by_cases hb : b = a
      · have z' := (if_pos hb).symm.trans z
        cases z'
        subst hb
        exact ⟨ha, by rw [List.length_map]; exact hl, vs, 0, rv, ha⟩
      · have z' := (if_neg hb).symm.trans z
        cases z'
    · by_cases hb : b = a
      · exact hb
      · exact absurd (if_neg hb) z
  | some o =>
    have e := KX a o hk
    rw [ha] at e
    cases e
    refine core (fun _ => none) (fun _ => .inl rfl) (.inr ⟨_, vs.toArray, 0, hk, rfl, rfl, rfl, by rw [List.size_toArray, lenV]; exact hl, rv⟩) (fun b u z => nomatch z) (fun b z => absurd rfl z) fun z => absurd rfl z
theorem walk_ofG {l : PySem.W.OpenLaw} {n k : Nat} {q : Program} {loose : List PySem.Str} {XP : (PySem.Str → Option Value) → Heap → Prop} {YP : World → Heap → Prop} {d : DefRec} {K : Params → PySem.W.Frag} {sp : World → Sp} {x : PySem.Str}
    (hn : l.most = some n) (hn2 : n ≤ sizeLine) (hdf : d.params.defaults = []) (hr : Room k callerA) (hY : ∀ (w : World) (h : Heap), YP w h → (K w.params).In h)
    (F : ∀ (w : World) (mg : PySem.Str → Option Value) (fa : Addr) (h : Heap), (K w.params).In h → h.Ns mainGlobals mg → mg d.name = some (.ref fa) →
      ∃ fd, (∀ (s : Shared) (u : Value), BindsTo s fd ⟨[u], []⟩ [(x, u)]) ∧ ∀ base : Heap, (K w.params).In base → base.Ns mainGlobals mg → FnOkG l.prog w (K w.params) mg base CX0 k fa fd [x] (sp w))
    (hsp : ∀ (w : World) (H : Hp) (a : Addr) (ns : List Int), ns.length ≤ n → Only H → SqL (K w.params) H a (ns.map V.int) → sp w [.ref a] H (fun v _ => v = .bl true) fun _ _ _ => False) :
    PySem.W.WalkO q loose XP YP l.row.toRowW d [] fun f vs => call f vs :=
  Att.attach_call hn hdf fun w s₀ s₁ mg mb fa o pm cd doc a vs ns G Y ho hd hcd hmg hobj hints hlen hg => by
    have KX := hY w s₁.heap Y
    obtain ⟨fd, hb, hF⟩ := F w mg fa s₁.heap KX G.T.g hmg
    exact law_callG KX G.T.g G.T.b G.T.builtins G.T.nolimit hg hobj hints (Nat.le_trans hlen hn2) hr hF hb fun H hO hS => hsp w H a ns hlen hO hS
end SW

namespace SW
open PySem PySem.Spec PyProof.Rows L2
def rLenK (K : PySem.W.Frag) : List V → Hp → VK → Prop := fun xs H Q => ∃ p ys, xs = [.ref p] ∧ (SqL K H p ys ∨ SqT K H p ys) ∧ Q (.int (ys.length : Nat)) H
/-! ### data in lists -/
theorem dpa_snoc {K : PySem.W.Frag} {H : Hp} : ∀ {vs : List V} {ds : List PyData} {v : V} {d : PyData}, DpAll K H vs ds → Dp K H v d → DpAll K H (vs ++ [v]) (ds ++ [d])
  | _, _, _, _, .nil, h => .cons h .nil
  | _, _, _, _, .cons h1 h2, h => .cons h1 (dpa_snoc h2 h)
theorem dpa_len {K : PySem.W.Frag} {H : Hp} : ∀ {vs : List V} {ds : List PyData}, DpAll K H vs ds → vs.length = ds.length
  | _, _, .nil => rfl
  | _, _, .cons _ h => congrArg (· + 1) (dpa_len h)
theorem dpa_get {K : PySem.W.Frag} {H : Hp} : ∀ {vs : List V} {ds : List PyData} {j : Nat} {v : V}, DpAll K H vs ds → vs[j]? = some v → ∃ d, ds[j]? = some d ∧ Dp K H v d
  | _, _, 0, _, .cons h _, e => by
    cases e
    exact ⟨_, rfl, h⟩
  | _, _, j + 1, _, .cons _ h, e => dpa_get (j := j) h e
theorem dpa_get' {K : PySem.W.Frag} {H : Hp} : ∀ {vs : List V} {ds : List PyData} {j : Nat} {d : PyData}, DpAll K H vs ds → ds[j]? = some d → ∃ v, vs[j]? = some v ∧ Dp K H v d
  | _, _, 0, _, .cons h _, e => by
    cases e
    exact ⟨_, rfl, h⟩
  | _, _, j + 1, _, .cons _ h, e => dpa_get' (j := j) h e
theorem dpa_set {K : PySem.W.Frag} {H : Hp} : ∀ {vs : List V} {ds : List PyData} {j : Nat} {v : V} {d : PyData}, DpAll K H vs ds → Dp K H v d → DpAll K H (vs.set j v) (ds.set j d)
  | _, _, _, _, _, .nil, _ => .nil
  | _, _, 0, _, _, .cons _ h, e => .cons e h
  | _, _, j + 1, _, _, .cons h1 h, e => .cons h1 (dpa_set (j := j) h e)
theorem dpa_app {K : PySem.W.Frag} {H : Hp} : ∀ {vs us : List V} {ds es : List PyData}, DpAll K H vs ds → DpAll K H us es → DpAll K H (vs ++ us) (ds ++ es)
  | _, _, _, _, .nil, h => h
  | _, _, _, _, .cons h1 h2, h => .cons h1 (dpa_app h2 h)
theorem dpa_drop {K : PySem.W.Frag} {H : Hp} : ∀ {vs : List V} {ds : List PyData} (n : Nat), DpAll K H vs ds → DpAll K H (vs.drop n) (ds.drop n)
  | _, _, 0, h => h
  | _, _, _ + 1, .nil => .nil
  | _, _, n + 1, .cons _ h => dpa_drop n h
theorem dpa_take {K : PySem.W.Frag} {H : Hp} : ∀ {vs : List V} {ds : List PyData} (n : Nat), DpAll K H vs ds → DpAll K H (vs.take n) (ds.take n)
  | _, _, 0, _ => .nil
  | _, _, _ + 1, .nil => .nil
  | _, _, n + 1, .cons h1 h => .cons h1 (dpa_take n h)
theorem dpa_rev {K : PySem.W.Frag} {H : Hp} : ∀ {vs : List V} {ds : List PyData}, DpAll K H vs ds → DpAll K H vs.reverse ds.reverse
  | _, _, .nil => .nil
  | _, _, .cons h1 h => by
    rw [List.reverse_cons, List.reverse_cons]
    exact dpa_snoc (dpa_rev h) h1
theorem dpa_ints {K : PySem.W.Frag} {H : Hp} : ∀ ns : List Int, DpAll K H (ns.map V.int) (ns.map PyData.int)
  | [] => .nil
  | x :: r => .cons (.int x) (dpa_ints r)
theorem dpa_ints' {K : PySem.W.Frag} {H : Hp} : ∀ {vs : List V} {ns : List Int}, DpAll K H vs (ns.map PyData.int) → vs = ns.map V.int
  | _, [], .nil => rfl
  | _, _ :: _, .cons (.int x) h => congrArg (V.int x :: ·) (dpa_ints' h)
theorem dpa_bls' {K : PySem.W.Frag} {H : Hp} : ∀ {vs : List V} {ns : List Bool}, DpAll K H vs (ns.map PyData.bool) → vs = ns.map V.bl
  | _, [], .nil => rfl
  | _, _ :: _, .cons (.bl x) h => congrArg (V.bl x :: ·) (dpa_bls' h)
theorem int_dec (x y : Int) : decide (V.int x = V.int y) = decide (x = y) := decide_eq_decide.mpr ⟨fun h => by injection h, fun h => by rw [h]⟩
/-! ### parts of lists -/
theorem cutv_from (xs : List V) (n : Nat) : cutV xs (some (n : Int)) none = xs.drop n := by
  unfold cutV
  rw [HT.sIx_nat, HT.sIx_none]
  by_cases h : n ≤ xs.length
  · rw [Nat.min_eq_left h]
    exact List.take_of_length_le (by rw [List.length_drop]; exact Nat.le_refl _)
  · rw [Nat.min_eq_right (by omega), List.drop_eq_nil_of_le (Nat.le_refl _), List.drop_eq_nil_of_le (by omega)]
    exact List.take_nil
theorem cutv_first (xs : List V) (n : Nat) : cutV xs none (some (n : Int)) = xs.take n := by
  unfold cutV
  rw [HT.sIx_nat, HT.sIx_none, List.drop_zero, Nat.sub_zero]
  by_cases h : n ≤ xs.length
  · rw [Nat.min_eq_left h]
  · rw [Nat.min_eq_right (by omega), List.take_of_length_le (Nat.le_refl _), List.take_of_length_le (by omega)]
theorem cutv_part (xs : List V) (n m : Nat) (h : n ≤ m) : cutV xs (some (n : Int)) (some (m : Int)) = (xs.drop n).take (m - n) := by
  unfold cutV
  rw [HT.sIx_nat, HT.sIx_nat]
  by_cases h1 : n ≤ xs.length
  · rw [Nat.min_eq_left h1]
    by_cases h2 : m ≤ xs.length
    · rw [Nat.min_eq_left h2]
    · rw [Nat.min_eq_right (by omega), List.take_of_length_le (by rw [List.length_drop]; exact Nat.le_refl _), List.take_of_length_le (by rw [List.length_drop]; omega)]
  · rw [List.drop_eq_nil_of_le (show xs.length ≤ min n xs.length by omega), List.drop_eq_nil_of_le (show xs.length ≤ n by omega), List.take_nil, List.take_nil]
theorem at_neg1 {xs : List V} {v : V} (h : xs[xs.length - 1]? = some v) : atI xs (-1) = some v := by
  have hl : xs ≠ [] := fun e => by
    rw [e] at h
    cases h
  have e := List.dropLast_concat_getLast hl
  rw [← List.getLast?_eq_getElem?, List.getLast?_eq_getLast hl] at h
  cases h
  conv => lhs; rw [← e]
  exact atI_last _ _
/-! ### a comprehension over any walk, whose items are data without lists -/
theorem lc_data {K : PySem.W.Frag} {J : It} {n : Nat} {G : Hp → Prop} {Y : Nat → Hp → V → Hp → Prop} (w : Walk J n G Y) {g : TG} {te : TE} {vs : List Nat} {σ : L2.St} {H1 : Hp} {D : Addr} {Qd : Hp → Prop} (hD : H1 D = none) (f : Nat → PyData) (hn : n ≤ 100000)
    (hf : ∀ i, i < n → noL (f i) = true) (hG : ∀ H, Same H1 H → G H)
    (hs : ∀ (i : Nat) (x : V) (H H' : Hp) (Q : V → Hp → Prop), i < n → Same H1 H → Y i H x H' → (∀ y H4, Same H H4 → Dp K H4 y (f i) → Q y H4) → g x (wipe σ vs) H' fun σ2 H2 => wipe σ2 vs = wipe σ vs ∧ te σ2 H2 Q)
    (hd : ∀ H ys, Same H1 H → H D = some (.lst ys) → DpAll K H ys ((List.range n).map f) → Qd H) :
    ∃ W : Nat → Nat → Hp → Prop, (∃ m, W 0 m (upd H1 D (.lst []))) ∧ ∀ i m H, W i m H → (J.stop i H ∧ Qd H) ∨ (J.go i H ∧ ∃ Nx : Hp → Prop, (∀ H', Nx H' → ∃ m', m' < m ∧ W (i + 1) m' H') ∧
      ∀ x H', J.yld i H x H' → g x (wipe σ vs) H' fun σ2 H2 => wipe σ2 vs = wipe σ vs ∧ tYes σ2 H2 fun b H3 => if b = true then te σ2 H3 fun y H4 => ∃ acc, H4 D = some (.lst acc) ∧ acc.length < sizeLine ∧ Nx (upd H4 D (.lst (acc ++ [y]))) else Nx H3) := by
  let Pv : Nat → Hp → Prop := fun i H => Same H1 H ∧ ∃ ys, H D = some (.lst ys) ∧ DpAll K H ys ((List.range i).map f)
  refine ⟨fun i m H => m = n - i ∧ i ≤ n ∧ Pv i H, ⟨n, rfl, Nat.zero_le _, same_new hD, [], upd_same, .nil⟩, ?_⟩
  rintro i m H ⟨rfl, hi, s1, ys, e, ha⟩
  by_cases hlt : i < n
  · refine .inr ⟨w.goes i H hlt (hG H s1), Pv (i + 1), fun H' p => ⟨n - (i + 1), by omega, rfl, hlt, p⟩, fun x H' y => ?_⟩
    refine hs i x H H' _ hlt s1 (w.yields i H x H' hlt (hG H s1) y) fun y H4 s4 h4 => ?_
    have e4 : H4 D = some (.lst ys) := s4 _ _ e
    refine ⟨ys, e4, ?_, same_mut (s1.trans s4) hD, ys ++ [y], upd_same, ?_⟩
    · rw [dpa_len ha, List.length_map, List.length_range]
      exact small_sz5 (by omega)
    · rw [List.range_succ, List.map_append]
      have b4 : But D H4 (upd H4 D (.lst (ys ++ [y]))) := fun c o hc eo => (upd_ne hc).trans eo
      refine dpa_snoc (dpa_but e4 b4 _ _ ?_ (dpa_same s4 _ _ ha)) (dp_but e4 b4 _ _ (hf i hlt) h4)
      clear h4 e4 s4 ha
      generalize hr : List.range i = l
      have : ∀ j, j ∈ l → j < n := fun j hj => by
        rw [← hr] at hj
        have := List.mem_range.mp hj
        omega
      clear hr
      induction l with
      | nil => rfl
      | cons a r ih =>
        show (noL (f a) && noLs (r.map f)) = true
        rw [hf a (this a List.mem_cons_self), ih fun j hj => this j (List.mem_cons_of_mem _ hj)]
        rfl
  · have : i = n := by omega
    subst this
    exact .inl ⟨w.stops H (hG H s1), hd H ys s1 e ha⟩
theorem range_map {α β : Type} (xs : List α) (g : α → β) (f : Nat → β) (h : ∀ i x, xs[i]? = some x → f i = g x) : (List.range xs.length).map f = xs.map g := by
  refine List.ext_getElem? fun i => ?_
  rw [List.getElem?_map, List.getElem?_map]
  by_cases hi : i < xs.length
  · rw [List.getElem?_range hi, List.getElem?_eq_getElem hi]
    exact congrArg some (h i _ (List.getElem?_eq_getElem hi))
  · rw [List.getElem?_eq_none (by rw [List.length_range]; omega), List.getElem?_eq_none (by omega)]
    rfl
theorem ints_get {ns : List Int} {j : Nat} {n : Int} (h : ns[j]? = some n) : (ns.map V.int)[j]? = some (.int n) := by
  rw [List.getElem?_map, h]
  rfl
theorem ints_at {ns : List Int} {j : Nat} (h : j < ns.length) : atI (ns.map V.int) (j : Int) = some (.int ns[j]) := atI_nat (ints_get (List.getElem?_eq_getElem h))
end SW

namespace SW
open PySem PySem.Spec PyProof.Rows L2
/-! This text stands for SwTw and SwTg in laws whose program reads no texts (the same names: never both). -/
/-! ### a promise that nobody calls for -/
theorem fn_never {P : Program} {w : World} {K : PySem.W.Frag} {mg : PySem.Str → Option Value} {base : Heap} {k : Nat} {f : Addr} {fd : FuncData} {ps : List PySem.Str} : FnOk P w K mg base CX0 k f fd ps (fun _ _ _ _ => False) :=
  ⟨fun _ _ _ _ h => h.elim, fun _ _ _ _ _ _ _ _ _ _ _ _ _ h => h.elim⟩
theorem fn_or {P : Program} {w : World} {K : PySem.W.Frag} {mg : PySem.Str → Option Value} {base : Heap} {CX : CXT} {k : Nat} {f : Addr} {fd : FuncData} {ps : List PySem.Str} {sp1 sp2 : Sp} (F : FnOk P w K mg base CX k f fd ps sp1) (G : FnOk P w K mg base CX k f fd ps sp2) :
    FnOk P w K mg base CX k f fd ps (fun vs H Q E => sp1 vs H Q E ∨ sp2 vs H Q E) :=
  ⟨fun vs H Q E h => h.elim (F.len vs H Q E) (G.len vs H Q E), fun A outer s H args us vs Q E hr he hb hv h => h.elim (F.run A outer s H args us vs Q E hr he hb hv) (G.run A outer s H args us vs Q E hr he hb hv)⟩
/-! ### data opened -/
theorem dp_str_inv {K : PySem.W.Frag} {H : Hp} {v : V} {x : PySem.Str} (h : Dp K H v (.str x)) : v = .str x := by
  cases h
  rfl
theorem dp_int_inv {K : PySem.W.Frag} {H : Hp} {v : V} {i : Int} (h : Dp K H v (.int i)) : v = .int i := by
  cases h
  rfl
theorem dp_bl_inv {K : PySem.W.Frag} {H : Hp} {v : V} {b : Bool} (h : Dp K H v (.bool b)) : v = .bl b := by
  cases h
  rfl
theorem dp_tup_inv {K : PySem.W.Frag} {H : Hp} {v : V} {ds : List PyData} (h : Dp K H v (.tuple ds)) : ∃ a xs, v = .ref a ∧ SqT K H a xs ∧ DpAll K H xs ds := by
  cases h with
  | tup hs ha => exact ⟨_, _, rfl, hs, ha⟩
theorem dp_inv2 {K : PySem.W.Frag} {H : Hp} {v : V} {d1 d2 : PyData} (h : Dp K H v (.tuple [d1, d2])) : ∃ a v1 v2, v = .ref a ∧ SqT K H a [v1, v2] ∧ Dp K H v1 d1 ∧ Dp K H v2 d2 := by
  obtain ⟨a, xs, e, hs, ha⟩ := dp_tup_inv h
  cases ha with
  | cons h1 ha =>
    cases ha with
    | cons h2 ha =>
      cases ha
      exact ⟨a, _, _, e, hs, h1, h2⟩
theorem dp_inv3 {K : PySem.W.Frag} {H : Hp} {v : V} {d1 d2 d3 : PyData} (h : Dp K H v (.tuple [d1, d2, d3])) : ∃ a v1 v2 v3, v = .ref a ∧ SqT K H a [v1, v2, v3] ∧ Dp K H v1 d1 ∧ Dp K H v2 d2 ∧ Dp K H v3 d3 := by
  obtain ⟨a, xs, e, hs, ha⟩ := dp_tup_inv h
  cases ha with
  | cons h1 ha =>
    cases ha with
    | cons h2 ha =>
      cases ha with
      | cons h3 ha =>
        cases ha
        exact ⟨a, _, _, _, e, hs, h1, h2, h3⟩
theorem dp_inv4 {K : PySem.W.Frag} {H : Hp} {v : V} {d1 d2 d3 d4 : PyData} (h : Dp K H v (.tuple [d1, d2, d3, d4])) : ∃ a v1 v2 v3 v4, v = .ref a ∧ SqT K H a [v1, v2, v3, v4] ∧ Dp K H v1 d1 ∧ Dp K H v2 d2 ∧ Dp K H v3 d3 ∧ Dp K H v4 d4 := by
  obtain ⟨a, xs, e, hs, ha⟩ := dp_tup_inv h
  cases ha with
  | cons h1 ha =>
    cases ha with
    | cons h2 ha =>
      cases ha with
      | cons h3 ha =>
        cases ha with
        | cons h4 ha =>
          cases ha
          exact ⟨a, _, _, _, _, e, hs, h1, h2, h3, h4⟩
theorem int_at {ns : List Int} {r : Int} (h0 : 0 ≤ r) (h1 : r < ns.length) : ∃ z, z ∈ ns ∧ atI (ns.map V.int) r = some (.int z) := by
  obtain ⟨j, rfl⟩ : ∃ j : Nat, r = j := ⟨r.toNat, by omega⟩
  have hj : j < ns.length := by omega
  refine ⟨ns[j], List.getElem_mem hj, atI_nat ?_⟩
  rw [List.getElem?_map, List.getElem?_eq_getElem hj]
  rfl
theorem But.same {h : Addr} {H H1 H2 : Hp} (a : But h H H1) (b : Same H1 H2) : But h H H2 := a.trans (Same.but b)
theorem tup_at {K : PySem.W.Frag} {H : Hp} {xs : List V} {ds : List PyData} {j : Nat} {d : PyData} (ha : DpAll K H xs ds) (e : ds[j]? = some d) : ∃ v, atI xs (j : Int) = some v ∧ Dp K H v d := by
  obtain ⟨v, h1, h2⟩ := dpa_get' ha e
  exact ⟨v, atI_nat h1, h2⟩
end SW

namespace SW
open PySem PySem.Spec PyProof.Rows L2
/-! ### dicts whose keys are tuples within tuples -/
mutual
theorem nest_of {X : Cx} {pins : List (Addr × Obj)} {σ : L2.St} {H : Hp} {s : Shared} (I : Inv X pins σ H s) : ∀ (k : NestedKey) (v : V) (u : Value), Dp X.K H v k.data → RelV v u → NestedIs s.heap k u
  | .none, _, u, h, r => by
    unfold NestedKey.data at h
    cases h
    cases r
    exact .none
  | .num i, _, u, h, r => by
    unfold NestedKey.data at h
    cases h
    obtain ⟨t, rfl⟩ := r
    exact .int i t
  | .text x, _, u, h, r => by
    unfold NestedKey.data at h
    cases h
    obtain ⟨t, rfl⟩ := r
    exact .text x t
  | .tup ks, _, u, h, r => by
    unfold NestedKey.data at h
    cases h with
    | tup hs ha =>
      cases r
      obtain ⟨its, rv, ⟨o, h1, h2, n, h3⟩, _⟩ := I.tuple hs
      exact .tup h1 h2 h3 (nests_of I ks _ _ ha rv)
theorem nests_of {X : Cx} {pins : List (Addr × Obj)} {σ : L2.St} {H : Hp} {s : Shared} (I : Inv X pins σ H s) : ∀ (ks : List NestedKey) (vs : List V) (us : List Value), DpAll X.K H vs (NestedKey.datas ks) → Vals vs us → NestedAll s.heap ks us
  | [], _, us, h, r => by
    unfold NestedKey.datas at h
    cases h
    cases r
    exact .nil
  | k :: ks, _, us, h, r => by
    unfold NestedKey.datas at h
    cases h with
    | cons h1 h2 =>
      cases r with
      | cons r1 r2 => exact .cons (nest_of I k _ _ h1 r1) (nests_of I ks _ _ h2 r2)
end
mutual
theorem noL_nk : ∀ k : NestedKey, noL k.data = true
  | .none => by unfold NestedKey.data; rfl
  | .num _ => by unfold NestedKey.data; rfl
  | .text _ => by unfold NestedKey.data; rfl
  | .tup ks => by
    unfold NestedKey.data
    show noLs (NestedKey.datas ks) = true
    exact noLs_nk ks
theorem noLs_nk : ∀ ks : List NestedKey, noLs (NestedKey.datas ks) = true
  | [] => by unfold NestedKey.datas; rfl
  | k :: ks => by
    unfold NestedKey.datas
    show (noL k.data && noLs (NestedKey.datas ks)) = true
    rw [noL_nk k, noLs_nk ks]
    rfl
end
mutual
theorem dp_tups {K : PySem.W.Frag} {H H' : Hp} (m : ∀ b xs, SqT K H b xs → SqT K H' b xs) : ∀ (d : PyData) (v : V), noL d = true → Dp K H v d → Dp K H' v d
  | .none, _, _, e => by
    cases e
    exact .non
  | .bool b, _, _, e => by
    cases e
    exact .bl b
  | .int i, _, _, e => by
    cases e
    exact .int i
  | .str x, _, _, e => by
    cases e
    exact .str x
  | .list ds, _, n, _ => by
    unfold noL at n
    cases n
  | .tuple ds, _, n, e => by
    cases e with
    | tup hs ha => exact .tup (m _ _ hs) (dpa_tups m ds _ (by unfold noL at n; exact n) ha)
  | .dict _, _, _, e => by cases e
theorem dpa_tups {K : PySem.W.Frag} {H H' : Hp} (m : ∀ b xs, SqT K H b xs → SqT K H' b xs) : ∀ (ds : List PyData) (vs : List V), noLs ds = true → DpAll K H vs ds → DpAll K H' vs ds
  | [], _, _, e => by
    cases e
    exact .nil
  | d :: ds, _, n, e => by
    unfold noLs at n
    rw [Bool.and_eq_true] at n
    cases e with
    | cons h1 h2 => exact .cons (dp_tups m d _ n.1 h1) (dpa_tups m ds _ n.2 h2)
end
def ExO (o : Obj) (a : Addr) : HO := .ext fun h => h.get? a = some o
/-- a pair in the dict, and where its key stands -/
def NPair (K : PySem.W.Frag) (H : Hp) (p : NestedKey × V) (q : NestedKey × Addr × Value) : Prop := p.1 = q.1 ∧ Dp K H (.ref q.2.1) p.1.data ∧ p.1.depth ≤ 8 ∧ RelV p.2 q.2.2
/-- at a stands a dict of these pairs -/
structure DN (P : Program) (w : World) (K : PySem.W.Frag) (H : Hp) (a : Addr) (kvs : List (NestedKey × V)) : Prop where
  sm : (a == sysModules) = false
  ln : kvs.length ≤ sizeLine
  ob : ∃ (o : Obj) (es : Array DictEntry) (ep : Nat) (xs : List (NestedKey × Addr × Value)), H a = some (ExO o a) ∧ o.ExactDict ∧ o.data = .dict es ep ∧ es.toList = xs.map (entryOfKey (nestedKind P w)) ∧ (xs.map (·.1)).Nodup ∧ Paired (NPair K H) kvs xs
theorem npair_mono {K : PySem.W.Frag} {H H' : Hp} (m : ∀ (d : PyData) (v : V), noL d = true → Dp K H v d → Dp K H' v d) : ∀ {kvs : List (NestedKey × V)} {xs : List (NestedKey × Addr × Value)}, Paired (NPair K H) kvs xs → Paired (NPair K H') kvs xs
  | _, _, .nil => .nil
  | _, _, .cons h t => .cons ⟨h.1, m _ _ (noL_nk _) h.2.1, h.2.2.1, h.2.2.2⟩ (npair_mono m t)
theorem DN.same {P : Program} {w : World} {K : PySem.W.Frag} {H H' : Hp} {a : Addr} {kvs : List (NestedKey × V)} (D : DN P w K H a kvs) (s : Same H H') : DN P w K H' a kvs := by
  obtain ⟨o, es, ep, xs, e, h1, h2, h3, h4, r⟩ := D.ob
  exact ⟨D.sm, D.ln, o, es, ep, xs, s _ _ e, h1, h2, h3, h4, npair_mono (fun d v _ h => dp_same s d v h) r⟩
/-- a list elsewhere has changed -/
theorem DN.but {P : Program} {w : World} {K : PySem.W.Frag} {H H' : Hp} {a h : Addr} {ys : List V} {kvs : List (NestedKey × V)} (D : DN P w K H a kvs) (hl : H h = some (.lst ys)) (s : But h H H') : DN P w K H' a kvs := by
  obtain ⟨o, es, ep, xs, e, h1, h2, h3, h4, r⟩ := D.ob
  refine ⟨D.sm, D.ln, o, es, ep, xs, s _ _ (fun q => ?_) e, h1, h2, h3, h4, npair_mono (fun d v n hd => dp_but hl s d v n hd) r⟩
  rw [q, hl] at e
  cases e
theorem npair_is {X : Cx} {pins : List (Addr × Obj)} {σ : L2.St} {H : Hp} {s : Shared} (I : Inv X pins σ H s) : ∀ {kvs : List (NestedKey × V)} {xs : List (NestedKey × Addr × Value)}, Paired (NPair X.K H) kvs xs → ∀ x, x ∈ xs → (nestedKind X.prog X.w).is s.heap x.1 x.2.1
  | _, _, .nil, _, hx => nomatch hx
  | _, _, .cons h t, x, hx => by
    rcases List.mem_cons.mp hx with rfl | hx
    · obtain ⟨e, hd, hp, _⟩ := h
      rw [e] at hd hp
      exact ⟨nest_of I _ _ _ hd rfl, hp⟩
    · exact npair_is I t x hx
theorem dn_of {X : Cx} {pins : List (Addr × Obj)} {σ : L2.St} {H : Hp} {s : Shared} {a : Addr} {kvs : List (NestedKey × V)} (I : Inv X pins σ H s) (D : DN X.prog X.w X.K H a kvs) : ∃ xs, Paired (NPair X.K H) kvs xs ∧ s.heap.DictOfH (nestedKind X.prog X.w) a xs := by
  obtain ⟨o, es, ep, xs, e, h1, h2, h3, h4, r⟩ := D.ob
  obtain ⟨g, _, _⟩ := (show ObjOk X.prog X.w H s.heap a (ExO o a) from I.hok a _ e)
  exact ⟨xs, r, o, es, ep, g, h1, h2, h3, npair_is I r, h4⟩
theorem npair_val {K : PySem.W.Frag} {H : Hp} (k : NestedKey) : ∀ {kvs : List (NestedKey × V)} {xs : List (NestedKey × Addr × Value)}, Paired (NPair K H) kvs xs → RelO (valV kvs k) ((atKey xs k).map (·.2))
  | _, _, .nil => trivial
  | p :: ps, q :: qs, .cons h t => by
    by_cases e : p.1 = k
    · have b : atKey (q :: qs) k = some q.2 := by simp [atKey, List.find?_cons, h.1.symm.trans e]
      rw [valV_pos e, b]
      exact h.2.2.2
    · have e2 : ¬ q.1 = k := fun z => e (h.1.trans z)
      have b : atKey (q :: qs) k = atKey qs k := by simp [atKey, List.find?_cons, e2]
      rw [valV_neg e, b]
      exact npair_val k t
theorem npair_put {K : PySem.W.Frag} {H : Hp} {k : NestedKey} {b : Addr} {y : V} {u : Value} (hd : Dp K H (.ref b) k.data) (hp : k.depth ≤ 8) (ry : RelV y u) {kvs : List (NestedKey × V)} {xs : List (NestedKey × Addr × Value)} (r : Paired (NPair K H) kvs xs) : Paired (NPair K H) (putK kvs k y) (storedH xs k b u) := by
  have e : (kvs.any fun kv => decide (kv.1 = k)) = (atKey xs k).isSome := by
    rw [valV_any, (npair_val k r).isSome_eq, Option.isSome_map]
  unfold putK storedH
  rw [e]
  by_cases hq : (atKey xs k).isSome = true
  · rw [if_pos hq, if_pos hq]
    clear e hq
    induction r with
    | nil => exact .nil
    | @cons p q ps qs h t ih =>
      refine .cons ?_ ih
      obtain ⟨h1, h2, h3, h4⟩ := h
      show NPair K H (if p.1 = k then (p.1, y) else p) (if q.1 = k then (q.1, q.2.1, u) else q)
      by_cases e : p.1 = k
      · rw [if_pos e, if_pos (h1.symm.trans e)]
        exact ⟨h1, h2, h3, ry⟩
      · rw [if_neg e, if_neg (fun z => e (h1.trans z))]
        exact ⟨h1, h2, h3, h4⟩
  · rw [if_neg hq, if_neg hq]
    clear e hq
    induction r with
    | nil => exact .cons ⟨rfl, hd, hp, ry⟩ .nil
    | cons h t ih => exact .cons h ih
theorem paired_len {α β : Type} {R : α → β → Prop} : ∀ {xs : List α} {ys : List β}, Paired R xs ys → xs.length = ys.length
  | _, _, .nil => rfl
  | _, _, .cons _ t => congrArg Nat.succ (paired_len t)
theorem putN_len (c : List (NestedKey × V)) (k : NestedKey) (x : V) : (putK c k x).length ≤ c.length + 1 := by
  unfold putK
  split
  · rw [List.length_map]
    omega
  · rw [List.length_append]
    exact Nat.le_refl _
theorem dp_ext {K : PySem.W.Frag} {H : Hp} {a : Addr} {o : Obj} {u : HO} (e : H a = some (ExO o a)) (d : PyData) (v : V) (n : noL d = true) (h : Dp K H v d) : Dp K (upd H a u) v d :=
  dp_tups (fun b xs hs => by
    have ne : ∀ {z : HO}, H b = some z → z ≠ ExO o a → b ≠ a := fun h1 h2 q => by
      rw [q, e] at h1
      exact h2 (Option.some.inj h1).symm
    rcases hs with (hs | ⟨p, hs⟩) | hs
    · exact .inl (.inl ((upd_ne (ne hs (fun q => nomatch q))).trans hs))
    · exact .inl (.inr ⟨p, (upd_ne (ne hs (fun q => nomatch q))).trans hs⟩)
    · exact .inr hs) d v n h
theorem nk_is {X : Cx} {pins : List (Addr × Obj)} {σ : L2.St} {H : Hp} {s : Shared} (I : Inv X pins σ H s) {k : NestedKey} {b : Addr} (hd : Dp X.K H (.ref b) k.data) (hp : k.depth ≤ 8) : (nestedKind X.prog X.w).is s.heap k b := ⟨nest_of I _ _ _ hd rfl, hp⟩
theorem nk_room1 {X : Cx} (hu : X.A.units + 65 < cLine) : (nestedKind X.prog X.w).room X.A.in1 := by
  show X.A.units + 1 + 8 < cLine
  omega
theorem nk_room {X : Cx} (hu : X.A.units + 65 < cLine) : (nestedKind X.prog X.w).room X.A := by
  show X.A.units + 8 < cLine
  omega
section
variable {X : Cx}
/-- d[k], there -/
def rIxN (P : Program) (w : World) (K : PySem.W.Frag) : R2 := fun x y H Q => ∃ (a b : Addr) (kvs : List (NestedKey × V)) (k : NestedKey) (v : V), x = .ref a ∧ y = .ref b ∧ DN P w K H a kvs ∧ Dp K H (.ref b) k.data ∧ k.depth ≤ 8 ∧ valV kvs k = some v ∧ Q v H
theorem ix_nest (hu : X.A.units + 65 < cLine) : IxR X (rIxN X.prog X.w X.K) := by
  intro value slice pins s σ H x y v u Q I rx ry h hs
  obtain ⟨a, b, kvs, k, r, rfl, rfl, D, hd, hp, hv, q⟩ := h
  cases rx
  cases ry
  obtain ⟨xs, rel, dd⟩ := dn_of I D
  have rv := npair_val k rel
  rw [hv] at rv
  obtain ⟨w', hw, rw'⟩ := RelO.some_of rv
  obtain ⟨p, hp1, hp2⟩ := Option.map_eq_some_iff.mp hw
  refine tail_any dd.typeIs slot_dict_getitem.lookup (wpAny_getItem_heap (nk_room1 hu) (nk_is I hd hp) dd hp1 ?_) hs
  rw [hp2]
  exact ⟨r, H, I.tok _, rw', q⟩
/-- k not in d -/
def rNotN (P : Program) (w : World) (K : PySem.W.Frag) : R2 := fun x y H Q => ∃ (b a : Addr) (kvs : List (NestedKey × V)) (k : NestedKey), x = .ref b ∧ y = .ref a ∧ DN P w K H a kvs ∧ Dp K H (.ref b) k.data ∧ k.depth ≤ 8 ∧ Q (.bl (!(valV kvs k).isSome)) H
theorem op_notN' (hu : X.A.units + 65 < cLine) : OpR X (compareOp .NotIn) (rNotN X.prog X.w X.K) := by
  intro pins s σ H x y v u Q I rx ry h
  obtain ⟨b, a, kvs, k, rfl, rfl, D, hd, hp, q⟩ := h
  cases rx
  cases ry
  obtain ⟨xs, rel, dd⟩ := dn_of I D
  refine wpAny_notIn_heap (nk_room1 hu) (nk_is I hd hp) D.sm dd ?_
  have e := (npair_val k rel).isSome_eq
  rw [Option.isSome_map] at e
  rw [← e]
  exact ⟨.bl _, H, I.tok _, rfl, q⟩
theorem dn_put {pins : List (Addr × Obj)} {σ : L2.St} {H : Hp} {s : Shared} {a b : Addr} {kvs : List (NestedKey × V)} {xs : List (NestedKey × Addr × Value)} {k : NestedKey} {y : V} {u : Value} {h' : Heap} {tk : Nat} (I : Inv X pins σ H s) (D : DN X.prog X.w X.K H a kvs) (rel : Paired (NPair X.K H) kvs xs)
    (hd : Dp X.K H (.ref b) k.data) (hp : k.depth ≤ 8) (ry : RelV y u) (hz : kvs.length < sizeLine) (dd : h'.DictOfH (nestedKind X.prog X.w) a (storedH xs k b u)) (sb : Heap.SameBut a s.heap h') :
    ∃ o', Inv X pins σ (upd H a (ExO o' a)) { s with heap := h', toks := tk } ∧ DN X.prog X.w X.K (upd H a (ExO o' a)) a (putK kvs k y) := by
  obtain ⟨o, es, ep, xs0, e, _⟩ := D.ob
  obtain ⟨o', es', ep', g1, g2, g3, g4, _, g5⟩ := dd
  have mv : ∀ (d : PyData) (v : V), noL d = true → Dp X.K H v d → Dp X.K (upd H a (ExO o' a)) v d := fun d v n hv => dp_ext e d v n hv
  refine ⟨o', d_write I (by rw [e]; exact True.intro) sb ⟨o', g1⟩ ⟨g1, ⟨o', g1⟩, fun h1 h2 k1 k2 => k2 _ k1⟩, D.sm, ?_, o', es', ep', _, upd_same, g2, g3, g4, g5, npair_mono mv (npair_put hd hp ry rel)⟩
  have := putN_len kvs k y
  omega
/-- d[k] = y -/
def rSetN (P : Program) (w : World) (K : PySem.W.Frag) : TSet := fun o i v H Q => ∃ (a b : Addr) (kvs : List (NestedKey × V)) (k : NestedKey), o = .ref a ∧ i = .ref b ∧ DN P w K H a kvs ∧ Dp K H (.ref b) k.data ∧ k.depth ≤ 8 ∧ kvs.length < sizeLine ∧
  ∀ o', DN P w K (upd H a (ExO o' a)) a (putK kvs k v) → Q (upd H a (ExO o' a))
theorem set_nest (hu : X.A.units + 65 < cLine) : PSet X (rSetN X.prog X.w X.K) := by
  intro pins s σ H o i v ov iv u Q I ro ri rv h
  obtain ⟨a, b, kvs, k, rfl, rfl, D, hd, hp, hz, q⟩ := h
  cases ro
  cases ri
  obtain ⟨xs, rel, dd⟩ := dn_of I D
  refine wpAny_setItem_heap (hsz := by rw [← paired_len rel]; omega) (nk_room1 hu) (nk_is I hd hp) dd fun h' dd' sb => ?_
  obtain ⟨o', I', D'⟩ := dn_put I D rel hd hp rv hz dd' sb
  exact ⟨_, I', q o' D'⟩
/-- d[k] = y, in a comprehension -/
theorem dn_comp {pins : List (Addr × Obj)} {σ : L2.St} {H : Hp} {s : Shared} {E : Value → Shared → Prop} {a b : Addr} {kvs : List (NestedKey × V)} {k : NestedKey} {y : V} {u : Value} {Q : Unit → Shared → Prop} (hu : X.A.units + 65 < cLine) (I : Inv X pins σ H s) (D : DN X.prog X.w X.K H a kvs) (hd : Dp X.K H (.ref b) k.data) (hp : k.depth ≤ 8) (rv : RelV y u) (hz : kvs.length < sizeLine)
    (q : ∀ o' s', DN X.prog X.w X.K (upd H a (ExO o' a)) a (putK kvs k y) → Inv X pins σ (upd H a (ExO o' a)) s' → Q () s') : wpAny (model X.prog X.w) X.A (dictSet a (.ref b) u) Q E s := by
  obtain ⟨xs, rel, dd⟩ := dn_of I D
  refine wpAny_dictSet_heap (hsz := by rw [← paired_len rel]; omega) (nk_room hu) (nk_is I hd hp) dd fun h' dd' sb => ?_
  obtain ⟨o', I', D'⟩ := dn_put I D rel hd hp rv hz dd' sb
  exact q o' _ D' I'
end
end SW

namespace SW
open PySem PySem.Spec PyProof.Rows L2
/-! ### {(k, l): v for .. in ..}, keys tuples within tuples -/
/-- what a turn's pair asks, when it is stored -/
def StN (P : Program) (w : World) (K : PySem.W.Frag) (D : Addr) (y z : V) (H : Hp) (Nx : Hp → Prop) : Prop :=
  ∃ (kvs : List (NestedKey × V)) (k : NestedKey) (b : Addr), y = .ref b ∧ DN P w K H D kvs ∧ Dp K H (.ref b) k.data ∧ k.depth ≤ 8 ∧ kvs.length < sizeLine ∧ ∀ o', DN P w K (upd H D (ExO o' D)) D (putK kvs k z) → Nx (upd H D (ExO o' D))
/-- one turn of the walk -/
def TnN (P : Program) (w : World) (K : PySem.W.Frag) (g : TG) (tt : TT) (tk tv : TE) (σ : L2.St) (vs : List Nat) (D : Addr) (Nx : Hp → Prop) (x : V) (H : Hp) : Prop :=
  g x (wipe σ vs) H fun σ2 H2 => wipe σ2 vs = wipe σ vs ∧ tt σ2 H2 fun b H3 => if b = true then tk σ2 H3 fun y H4 => tv σ2 H4 fun z H5 => StN P w K D y z H5 Nx else Nx H3
def tDcN (P : Program) (w : World) (K : PySem.W.Frag) (wi : TI) (g : TG) (tt : TT) (tk tv : TE) (vs : List Nat) : TE := fun σ H Q => wi σ H fun J H1 => ∀ D o, H1 D = none → DN P w K (upd H1 D (ExO o D)) D [] →
  ∃ W : Nat → Nat → Hp → Prop, (∃ m, W 0 m (upd H1 D (ExO o D))) ∧ ∀ i m H, W i m H → (J.stop i H ∧ Q (.ref D) H) ∨ (J.go i H ∧ ∃ Nx : Hp → Prop, (∀ H', Nx H' → ∃ m', m' < m ∧ W (i + 1) m' H') ∧ ∀ x H', J.yld i H x H' → TnN P w K g tt tk tv σ vs D Nx x H')
abbrev eD : Obj := { cls := .type "dict", data := .dict #[] }
theorem dn_empty {P : Program} {w : World} {K : PySem.W.Frag} {H : Hp} (D : Addr) (hs : (D == sysModules) = false) : DN P w K (upd H D (ExO eD D)) D [] :=
  ⟨hs, Nat.zero_le _, eD, #[], 0, [], upd_same, ⟨rfl, rfl, rfl⟩, rfl, rfl, List.nodup_nil, .nil⟩
section
variable {X : Cx}
theorem dcN_core {pins : List (Addr × Obj)} {s : Shared} {σ : L2.St} {H : Hp} {Q : VK} {kx vx tg iter : Expr} {ifs : List Expr} {scope : Scope} {own : List (PySem.Str × Nat)} {pos pos' : Pos} {wi : TI} {g : TG} {tt : TT} {tk tv : TE} {use : Option (Value → Sem Unit)} {Qf : Value → Shared → Prop} (hu : X.A.units + 65 < cLine) (hc : X.calm = true) (hN : X.N.Nodup) (I : Inv X pins σ H s) (hi : PI X tg iter wi) (bk : BlkOk X.N X.env.scope scope own)
    (hg : ∀ s H C cl fp, PG (X.blk s H scope (compEnvC scope cl C X.env) fp) tg g) (ht : ∀ s H C cl fp, PTs (X.blk s H scope (compEnvC scope cl C X.env) fp) ifs tt)
    (hk : ∀ s H C cl fp, PE (X.blk s H scope (compEnvC scope cl C X.env) fp) kx tk) (hv : ∀ s H C cl fp, PE (X.blk s H scope (compEnvC scope cl C X.env) fp) vx tv) (hs : ∀ x, foldedSetIterable iter X.env x = pure x)
    (h : tDcN X.prog X.w X.K wi g tt tk tv (own.map (·.2)) σ H Q)
    (hRR : ∀ D C s' m H', Inv X pins σ H' s' → Q (.ref D) H' → s'.heap.Ns C m → FpOk X pins H' C → compPost (model X.prog X.w) X.A X.xe use Qf (.ref D) C (.ok .next) s') :
    wpAny (model X.prog X.w) X.A (comprehension (.DictComp kx vx [⟨tg, iter, ifs, 0⟩] scope pos) scope X.env pos' newDict false (eval iter X.env) use) Qf X.xe s := by
  have outer : ∀ y, y ∈ scope.names → y.2 = .free → ∃ c, X.env.cells.lookup y.1 = some c := fun y hy e => (bk.free y hy e).elim (fun k => I.ok.has _ (.inl k)) fun k => I.ok.has _ (.inr k)
  refine wpAny_comprehension_free (use := use) rfl hs (closure_ok outer) bk.kind (fun y hy e => by rw [bk.uniq y hy, e]) ?_
  refine thn (hi.run pins s σ H _ I h) fun _ s1 k1 => thn k1 fun _ s2 k2 => ?_
  obtain ⟨it, fp, tn, J, Ha, rfl, Ia, T, sta, fa, q⟩ := k2
  refine wpAny_newObj_type (newEnv_comp ?_)
  have free : Ha s2.heap.objs.size = none := Ia.hok.fresh (Nat.le_refl _)
  have apart : (s2.heap.objs.size == sysModules) = false := beq_eq_false_iff_ne.mpr (Ne.symm (Nat.ne_of_lt Ia.big))
  -- the empty dict
  obtain ⟨W, ⟨m0, w0⟩, turn⟩ := q s2.heap.objs.size eD free (dn_empty _ apart)
  have grow : ∀ b o, s2.heap.get? b = some o → (s2.heap.push eD).get? b = some o := fun b o e => Heap.get?_push_of_some _ e
  have Ib : Inv X pins σ (upd Ha s2.heap.objs.size (ExO eD s2.heap.objs.size)) { s2 with heap := s2.heap.push eD } :=
    Ia.laid (t' := s2.toks) grow (Nat.le_refl _) ⟨Heap.get?_push_size _ rfl, ⟨eD, Heap.get?_push_size _ rfl⟩, fun _ _ a b => b _ a⟩
  have below : ∀ b, b ∈ fp → b < s2.heap.objs.size := fun b hb => (T.obj _ _ sta b hb).elim fun _ e => Heap.lt_size e.1
  have fb : ∀ b, b ∈ fp → FpOk X pins (upd Ha s2.heap.objs.size (ExO eD s2.heap.objs.size)) b ∧ b < (s2.heap.push eD).objs.size := fun b hb => by
    refine ⟨⟨(upd_ne (Nat.ne_of_lt (below b hb))).trans (fa b hb).1, (fa b hb).2⟩, ?_⟩
    rw [Heap.size_push]
    exact Nat.lt_succ_of_lt (below b hb)
  have stb : tn 0 (s2.heap.push eD) := T.keep _ _ _ sta fun b _ o e => grow b o e
  generalize hD : s2.heap.objs.size = D at *
  generalize hHb : upd Ha D (ExO eD D) = Hb at *
  generalize hsb : ({ s2 with heap := s2.heap.push eD } : Shared) = sb at *
  have hpb : sb.heap = s2.heap.push eD := by rw [← hsb]
  rw [← hpb] at fb stb
  have Ic := block_start Ib bk hN fb
  generalize hcl : cellsFrom (sb.heap.objs.size + 1) scope.names (cloFrom X.env.cells scope.names []) = cl at *
  generalize hsc : ({ sb with heap := pushCells (sb.heap.push eD) scope.names } : Shared) = sc at *
  have stc : tn 0 sc.heap := T.keep _ _ _ stb fun b _ o e => by
    rw [← hsc]
    exact pushCells_keeps _ _ _ _ (Heap.get?_push_of_some _ e)
  show codeAny (model X.prog X.w) X.A (.compStart (.DictComp kx vx [⟨tg, iter, ifs, 0⟩] scope pos) 0 (.ref it) (.ref D) (compEnvC scope cl sb.heap.objs.size X.env)) (compPost (model X.prog X.w) X.A X.xe use Qf (.ref D) sb.heap.objs.size) sc
  have rg := hg sb Hb sb.heap.objs.size cl fp
  have rt := ht sb Hb sb.heap.objs.size cl fp
  have rk := hk sb Hb sb.heap.objs.size cl fp
  have rv := hv sb Hb sb.heap.objs.size cl fp
  have place : (compEnvC scope cl sb.heap.objs.size X.env).locals = sb.heap.objs.size := rfl
  generalize compEnvC scope cl sb.heap.objs.size X.env = env at *
  let Y : Cx := X.blk sb Hb scope env fp
  let wv := wipe σ (own.map (·.2))
  have mine : ∀ {τ : L2.St} {G : Hp} {s' : Shared}, Inv Y [] τ G s' → (∀ b, b ∈ fp → G b = none) → ∀ b, b ∈ fp → FpOk Y [] G b := fun {τ G s'} J1 hn b hb =>
    ⟨hn b hb, (J1.ok.exf b hb).1, J1.ok.exfs b hb, .inl hb, fun x c e => (J1.ok.exf b hb).2 x c e, fun p hp => nomatch (show p ∈ ([] : List (Addr × Obj)) from hp)⟩
  have run : codeAny (model X.prog X.w) X.A (.compLoop (.DictComp kx vx [⟨tg, iter, ifs, 0⟩] scope pos) 0 (.ref it) (.ref D) env) (compPost (model X.prog X.w) X.A X.xe use Qf (.ref D) sb.heap.objs.size) sc := by
    refine compLoop_anyD (fun n s' => ∃ i G, Inv Y [] wv G s' ∧ tn i s'.heap ∧ (∀ b, b ∈ fp → G b = none) ∧ W i n G) (fun n s5 hI => ?_) m0 ⟨0, Hb, Ic, stc, fun b hb => (fb b hb).1.1, w0⟩
    obtain ⟨i, G, I5, st5, n5, w5⟩ := hI
    rcases turn i n G w5 with ⟨stop, ready⟩ | ⟨go, Nx, less, step⟩
    · -- the end
      refine thnF (T.done Y rfl rfl rfl hc i [] s5 wv G (fun _ _ => False) I5 (mine I5 n5) st5 stop) fun r s6 k6 => ?_
      obtain ⟨rfl, I6⟩ := k6
      have here : G sb.heap.objs.size = none := place ▸ I6.free
      have back : Inv X pins σ G s6 := Ib.call' (ch := fp) I6.os I6.base I6.hok I6.bare fun b hb => (fb b hb).1.elim fun _ z => ⟨z.2.2.1, z.1, z.2.2.2.1, z.2.2.2.2⟩
      obtain ⟨m, hm, _⟩ := I6.loc
      have hm : s6.heap.Ns env.locals m := hm
      rw [place] at hm
      exact hRR D sb.heap.objs.size s6 m G back ready hm (Ib.fpOk (Nat.le_refl _) here)
    · -- one more
      refine thnF (T.item Y rfl rfl rfl hc i [] s5 wv G (fun _ _ => False) I5 (mine I5 n5) st5 go) fun r s6 k6 => ?_
      obtain ⟨u, rfl, k6⟩ := k6
      refine thnF k6 fun _ s7 k7 => ?_
      obtain ⟨x, G7, I7, r7, y7, st7, n7⟩ := k7
      have hold : Inv Y ([] ++ pinsAt fp s7.heap) wv G7 s7 := I7.pinned (mine I7 n7) (T.obj _ _ st7)
      refine thnF (rg.run _ s7 wv G7 x u _ hold r7 (step x G7 y7)) fun _ s8 k8 => ?_
      obtain ⟨σ8, G8, I8, wipe8, q8⟩ := k8
      refine thnF (rt.run _ s8 σ8 G8 _ I8 q8) fun ok s9 k9 => ?_
      obtain ⟨G9, I9, q9⟩ := k9
      have next : ∀ {s' : Shared} {G' : Hp}, Inv Y ([] ++ pinsAt fp s7.heap) σ8 G' s' → Nx G' → ∃ m, m < n ∧ ∃ i G', Inv Y [] wv G' s' ∧ tn i s'.heap ∧ (∀ b, b ∈ fp → G' b = none) ∧ W i m G' := fun {s' G'} I' nx => by
        obtain ⟨m', hlt, hw⟩ := less G' nx
        have held : ∀ b, b ∈ fp → ∀ o, s7.heap.get? b = some o → s'.heap.get? b = some o ∧ G' b = none := fun b hb o e =>
          (I'.pin (b, o) (List.mem_append_right _ (List.mem_append_right _ (mem_pinsAt hb e)))).elim fun e1 z => ⟨e1, z.1⟩
        refine ⟨m', hlt, i + 1, G', (I'.unpinned (pins := [])).weak (by
          have e := congrArg List.length wipe8
          rw [wipe_length] at e
          exact e.symm) (fun j v e => ?_), T.keep _ _ _ st7 fun b hb o e => (held b hb o e).1, fun b hb => ?_, hw⟩
        · have e : (wipe σ (own.map (·.2)))[j]? = some (some v) := e
          rw [← wipe8] at e
          exact (wipe_some e).1
        · exact (T.obj _ _ st7 b hb).elim fun o e => (held b hb o e.1).2
      cases ok with
      | false =>
        rw [if_neg Bool.false_ne_true] at q9 ⊢
        exact next I9 q9
      | true =>
        rw [if_pos rfl] at q9 ⊢
        refine thnF (rk.run _ s9 σ8 G9 _ I9 q9) fun kv sd kd => ?_
        obtain ⟨y, Gd, Id, rd, qd⟩ := kd
        refine thnF (rv.run _ sd σ8 Gd _ Id qd) fun vv se ke => ?_
        obtain ⟨z, Ge, Ie, re, kvs, k, bb, rfl, Dn, hdk, hdp, hz, nx⟩ := ke
        cases rd
        exact dn_comp (X := Y) hu Ie Dn hdk hdp re hz fun o' sf D' If => next If (nx o' D')
  exact codeAny_compStart_dict run (T.self X.A 0 _ _ _ stc run)
theorem pe_dcN {kx vx tg iter : Expr} {ifs : List Expr} {scope : Scope} {own : List (PySem.Str × Nat)} {pos : Pos} {wi : TI} {g : TG} {tt : TT} {tk tv : TE} (hu : X.A.units + 65 < cLine) (hc : X.calm = true) (hN : X.N.Nodup) (hi : PI X tg iter wi) (bk : BlkOk X.N X.env.scope scope own)
    (hg : ∀ s H C cl fp, PG (X.blk s H scope (compEnvC scope cl C X.env) fp) tg g) (ht : ∀ s H C cl fp, PTs (X.blk s H scope (compEnvC scope cl C X.env) fp) ifs tt)
    (hk : ∀ s H C cl fp, PE (X.blk s H scope (compEnvC scope cl C X.env) fp) kx tk) (hv : ∀ s H C cl fp, PE (X.blk s H scope (compEnvC scope cl C X.env) fp) vx tv) (hs : ∀ x, foldedSetIterable iter X.env x = pure x := by intro _; rfl) :
    PE X (.DictComp kx vx [⟨tg, iter, ifs, 0⟩] scope pos) (tDcN X.prog X.w X.K wi g tt tk tv (own.map (·.2))) := by
  constructor
  intro pins s σ H Q I h
  rw [arm_eval_DictComp]
  refine dcN_core (use := none) hu hc hN I hi bk hg ht hk hv hs h fun D C s' m H' I' q hn f => ?_
  obtain ⟨f0, f1, f2, f3, f4, f5⟩ := f
  exact ⟨m, hn, fun h'' sb => ⟨.ref D, H', I'.turned (t' := s'.toks) (fun b o hb e => (sb.2 b hb).trans e) f0 f1 f3 f4 f5, rfl, q⟩⟩
/-- name = {..} on one line, the name a local -/
theorem ps_setDcN {i : Nat} {y : PySem.Str} {py : Pos} {kx vx tg iter : Expr} {ifs : List Expr} {scope : Scope} {own : List (PySem.Str × Nat)} {pos spos : Pos} {wi : TI} {g : TG} {tt : TT} {tk tv : TE} (hu : X.A.units + 65 < cLine) (hc : X.calm = true) (hN : X.N.Nodup) (hy : X.N[i]? = some y) (hyl : X.env.scope.names.lookup y = some .local)
    (hsw : swapsWith (.DictComp kx vx [⟨tg, iter, ifs, 0⟩] scope pos) (some (.Name y py)) spos.line X.env = pure true) (hi : PI X tg iter wi) (bk : BlkOk X.N X.env.scope scope own)
    (hg : ∀ s H C cl fp, PG (X.blk s H scope (compEnvC scope cl C X.env) fp) tg g) (ht : ∀ s H C cl fp, PTs (X.blk s H scope (compEnvC scope cl C X.env) fp) ifs tt)
    (hk : ∀ s H C cl fp, PE (X.blk s H scope (compEnvC scope cl C X.env) fp) kx tk) (hv : ∀ s H C cl fp, PE (X.blk s H scope (compEnvC scope cl C X.env) fp) vx tv) (hs : ∀ x, foldedSetIterable iter X.env x = pure x := by intro _; rfl) :
    PS X (.Assign [.Name y py] (.DictComp kx vx [⟨tg, iter, ifs, 0⟩] scope pos) spos) (tAsg (tDcN X.prog X.w X.K wi g tt tk tv (own.map (·.2))) (gName i)) := by
  refine ⟨fun pins s σ H D I h => ?_⟩
  rw [exec_Assign_Name_used _ _ _ _ hsw]
  refine wpAny_bind (wpAny_standAt (wpAny_bind ?_))
  show wpAny _ X.A (do let _ ← comprehension (.DictComp kx vx [⟨tg, iter, ifs, 0⟩] scope pos) scope X.env (firstIterPos [⟨tg, iter, ifs, 0⟩] pos) newDict false (eval iter X.env) (some (assign (.Name y py) X.env))) _ _ s
  have h : tDcN X.prog X.w X.K wi g tt tk tv (own.map (·.2)) σ H (fun x H1 => gName i x σ H1 D.nx) := h
  refine wpAny_bind (thn (dcN_core (Qf := fun _ s' => SP X pins D .next s') hu hc hN I hi bk hg ht hk hv hs h fun L C s' m H' I' q hn f => ?_) fun _ s' hq => wpAny_pure (wpAny_pure hq))
  show wpAny _ _ (assign (.Name y py) X.env (.ref L)) _ _ _
  refine wpAny_assign_Name (store_ok2 (v := V.ref L) I' hN hy (.inl hyl) rfl (fun s2 I2 ⟨a, sb, ha⟩ => ?_) (.inr hyl))
  obtain ⟨f0, f1, f2, f3, f4, f5⟩ := f
  have haC : C ≠ a := by
    rcases ha with z | z
    · rw [z]; exact f1
    · exact fun e => f4 y a z e.symm
  refine ⟨m, hn.sameBut sb haC, fun h3 sb3 => ?_⟩
  exact ⟨_, H', I2.turned (t' := s2.toks) (fun b o hb e => (sb3.2 b hb).trans e) f0 f1 f3 f4 f5, q⟩
theorem swD_true {kx vx : Expr} {gs : List Comprehension} {scope : Scope} {pos py : Pos} {y : PySem.Str} {l : Nat} {env : Env} (hk : env.scope.kind = .function) (hy : env.scope.names.lookup y = some .local) (hl : (py.line == pos.line) = true)
    (ha : (scope.names.any fun (n, k) => n == y && (k == .local || k == .cell)) = false) : swapsWith (.DictComp kx vx gs scope pos) (some (.Name y py)) l env = pure true := by
  have ky : env.kindOf y = some .local := hy
  have hb : env.blockKind = .function := by unfold Env.blockKind; rw [hk]; rfl
  unfold swapsWith
  simp only [hb, ky, ha, Expr.pos, hl]
  rfl
end
theorem dcN_it {P : Program} {w : World} {K : PySem.W.Frag} {J : It} {n : Nat} {G : Hp → Prop} {Y : Nat → Hp → V → Hp → Prop} (wk : Walk J n G Y) {g : TG} {tk tv : TE} {vs : List Nat} {σ : L2.St} {H1 : Hp} {D : Addr} {o : Obj} {Qd : Hp → Prop} (Pv : Nat → Hp → Prop) (h0 : Pv 0 (upd H1 D (ExO o D))) (hG : ∀ i H, i ≤ n → Pv i H → G H)
    (hs : ∀ (i : Nat) (x : V) (H H' : Hp), i < n → Pv i H → Y i H x H' → g x (wipe σ vs) H' fun σ2 H2 => wipe σ2 vs = wipe σ vs ∧ tk σ2 H2 fun y H4 => tv σ2 H4 fun z H5 => StN P w K D y z H5 (Pv (i + 1))) (hd : ∀ H, Pv n H → Qd H) :
    ∃ W : Nat → Nat → Hp → Prop, (∃ m, W 0 m (upd H1 D (ExO o D))) ∧ ∀ i m H, W i m H → (J.stop i H ∧ Qd H) ∨ (J.go i H ∧ ∃ Nx : Hp → Prop, (∀ H', Nx H' → ∃ m', m' < m ∧ W (i + 1) m' H') ∧ ∀ x H', J.yld i H x H' → TnN P w K g tYes tk tv σ vs D Nx x H') := by
  refine ⟨fun i m H => m = n - i ∧ i ≤ n ∧ Pv i H, ⟨n, by simp, Nat.zero_le _, h0⟩, ?_⟩
  rintro i m H ⟨rfl, hi, p⟩
  have q := hG i H hi p
  by_cases hlt : i < n
  · exact .inr ⟨wk.goes i H hlt q, Pv (i + 1), fun H' p' => ⟨n - (i + 1), by omega, rfl, hlt, p'⟩, fun x H' y => hs i x H H' hlt p (wk.yields i H x H' hlt q y)⟩
  · have e : i = n := by omega
    subst e
    exact .inl ⟨wk.stops H q, hd H p⟩
end SW

namespace SW
open PySem PySem.Spec PyProof.Rows L2
/-! ### comprehensions by their values -/
theorem lc_vals {J : It} {n : Nat} {G : Hp → Prop} {Y : Nat → Hp → V → Hp → Prop} (w : Walk J n G Y) {g : TG} {te : TE} {vs : List Nat} {σ : L2.St} {H1 : Hp} {D : Addr} {Qd : Hp → Prop} (hD : H1 D = none) (f : Nat → V) (hn : n ≤ 100000) (hG : ∀ H, Same H1 H → G H)
    (hs : ∀ (i : Nat) (x : V) (H H' : Hp) (Q : V → Hp → Prop), i < n → Same H1 H → Y i H x H' → (∀ H4, Same H H4 → Q (f i) H4) → g x (wipe σ vs) H' fun σ2 H2 => wipe σ2 vs = wipe σ vs ∧ te σ2 H2 Q)
    (hd : ∀ H, Same H1 H → H D = some (.lst ((List.range n).map f)) → Qd H) :
    ∃ W : Nat → Nat → Hp → Prop, (∃ m, W 0 m (upd H1 D (.lst []))) ∧ ∀ i m H, W i m H → (J.stop i H ∧ Qd H) ∨ (J.go i H ∧ ∃ Nx : Hp → Prop, (∀ H', Nx H' → ∃ m', m' < m ∧ W (i + 1) m' H') ∧
      ∀ x H', J.yld i H x H' → g x (wipe σ vs) H' fun σ2 H2 => wipe σ2 vs = wipe σ vs ∧ tYes σ2 H2 fun b H3 => if b = true then te σ2 H3 fun y H4 => ∃ acc, H4 D = some (.lst acc) ∧ acc.length < sizeLine ∧ Nx (upd H4 D (.lst (acc ++ [y]))) else Nx H3) := by
  let Pv : Nat → Hp → Prop := fun i H => Same H1 H ∧ H D = some (.lst ((List.range i).map f))
  refine ⟨fun i m H => m = n - i ∧ i ≤ n ∧ Pv i H, ⟨n, rfl, Nat.zero_le _, same_new hD, upd_same⟩, ?_⟩
  rintro i m H ⟨rfl, hi, s1, e⟩
  by_cases hlt : i < n
  · refine .inr ⟨w.goes i H hlt (hG H s1), Pv (i + 1), fun H' p => ⟨n - (i + 1), by omega, rfl, hlt, p⟩, fun x H' y => ?_⟩
    refine hs i x H H' _ hlt s1 (w.yields i H x H' hlt (hG H s1) y) fun H4 s4 => ?_
    refine ⟨_, s4 _ _ e, ?_, same_mut (s1.trans s4) hD, ?_⟩
    · rw [List.length_map, List.length_range]
      exact small_sz5 (by omega)
    · rw [List.range_succ, List.map_append, upd_same]
      rfl
  · have : i = n := by omega
    subst this
    exact .inl ⟨w.stops H (hG H s1), hd H s1 e⟩
/-- over a range, each item drawn from the hand -/
theorem lc_drawn {α : Type} {K : PySem.W.Frag} {lo : Int} {n : Nat} {h d : Addr} {ds : List Int} {g : TG} {te : TE} {vs : List Nat} {σ : L2.St} {H1 : Hp} {D : Addr} {Qd : Hp → Prop} (enc : α → PyData) (R : α → Prop) (hE : ∀ e, R e → noL (enc e) = true) (hn : n ≤ 1000) (hH : Hand H1 h d ds) (hD : H1 D = none)
    (hs : ∀ (i : Nat) (x : V) (H : Hp) (Q : V → Hp → Prop), i < n → But h H1 H → Hand H h d ds → x = .int (lo + i) → (∀ y e H4, But h H H4 → Hand H4 h d ds → R e → Dp K H4 y (enc e) → Q y H4) → g x (wipe σ vs) H fun σ2 H2 => wipe σ2 vs = wipe σ vs ∧ te σ2 H2 Q)
    (hd : ∀ H ys (es : List α), But h H1 H → Hand H h d ds → H D = some (.lst ys) → D ≠ h → D ≠ d → DpAll K H ys (es.map enc) → es.length = n → (∀ e, e ∈ es → R e) → Qd H) :
    ∃ W : Nat → Nat → Hp → Prop, (∃ m, W 0 m (upd H1 D (.lst []))) ∧ ∀ i m H, W i m H → ((Itr lo n).stop i H ∧ Qd H) ∨ ((Itr lo n).go i H ∧ ∃ Nx : Hp → Prop, (∀ H', Nx H' → ∃ m', m' < m ∧ W (i + 1) m' H') ∧
      ∀ x H', (Itr lo n).yld i H x H' → g x (wipe σ vs) H' fun σ2 H2 => wipe σ2 vs = wipe σ vs ∧ tYes σ2 H2 fun b H3 => if b = true then te σ2 H3 fun y H4 => ∃ acc, H4 D = some (.lst acc) ∧ acc.length < sizeLine ∧ Nx (upd H4 D (.lst (acc ++ [y]))) else Nx H3) := by
  have w : Walk (Itr lo n) n (fun _ => True) (YFn fun i => .int (lo + i)) := walk_range
  have hDh := hand_ne hH hD
  have hDd := hand_ne2 hH hD
  let Pv : Nat → Hp → Prop := fun i H => But h H1 H ∧ Hand H h d ds ∧ ∃ (ys : List V) (es : List α), H D = some (.lst ys) ∧ DpAll K H ys (es.map enc) ∧ es.length = i ∧ ∀ e, e ∈ es → R e
  refine ⟨fun i m H => m = n - i ∧ i ≤ n ∧ Pv i H, ⟨n, rfl, Nat.zero_le _, (But.refl h H1).new hD, hH.upd hDh hDd, [], [], upd_same, .nil, rfl, fun _ h => nomatch h⟩, ?_⟩
  rintro i m H ⟨rfl, hi, b1, hh, ys, es, e, ha, hl, hR⟩
  by_cases hlt : i < n
  · refine .inr ⟨w.goes i H hlt trivial, Pv (i + 1), fun H' p => ⟨n - (i + 1), by omega, rfl, hlt, p⟩, fun x H' y => ?_⟩
    obtain ⟨rfl, hx⟩ := w.yields i H x H' hlt trivial y
    refine hs i x _ _ hlt b1 hh hx fun y e4 H4 b4 hh4 hr4 h4 => ?_
    have e5 := b4 _ _ hDh e
    obtain ⟨k, hk⟩ := hh.at_
    have all : ∀ es : List α, (∀ e, e ∈ es → R e) → noLs (es.map enc) = true := fun es => by
      induction es with
      | nil => exact fun _ => rfl
      | cons a r ih =>
        intro hr
        show (noL (enc a) && noLs (r.map enc)) = true
        rw [hE a (hr a List.mem_cons_self), ih fun e he => hr e (List.mem_cons_of_mem _ he)]
        rfl
    have hbut : But D H4 (upd H4 D (.lst (ys ++ [y]))) := fun b o hne e => (upd_ne hne).trans e
    refine ⟨ys, e5, ?_, (b1.trans b4).new hD, hh4.upd hDh hDd, ys ++ [y], es ++ [e4], upd_same, ?_, by rw [List.length_append, hl]; rfl, fun e he => ?_⟩
    · rw [dpa_len ha, List.length_map]
      exact small_sz5 (by omega)
    · rw [List.map_append]
      exact dpa_snoc (dpa_but e5 hbut _ _ (all es hR) (dpa_but hk b4 _ _ (all es hR) ha)) (dp_but e5 hbut _ _ (hE _ hr4) h4)
    · rcases List.mem_append.mp he with he | he
      · exact hR e he
      · rw [List.mem_singleton.mp he]
        exact hr4
  · have : i = n := by omega
    subst this
    exact .inl ⟨w.stops H trivial, hd H ys es b1 hh e hDh hDd ha hl hR⟩
theorem dp_mem {K : PySem.W.Frag} {H : Hp} {xs : List V} {α : Type} {es : List α} {enc : α → PyData} {j : Nat} (ha : DpAll K H xs (es.map enc)) (hj : j < es.length) : ∃ v, xs[j]? = some v ∧ Dp K H v (enc es[j]) :=
  dpa_get' (j := j) ha (by rw [List.getElem?_map, List.getElem?_eq_getElem hj]; rfl)
theorem range_fn {α β : Type} (xs : List α) (g : α → β) : (List.range xs.length).map (fun i => if h : i < xs.length then some (g xs[i]) else none) = xs.map fun x => some (g x) :=
  range_map xs (fun x => some (g x)) _ fun i x h => by
    obtain ⟨h1, h2⟩ := List.getElem?_eq_some_iff.mp h
    rw [dif_pos h1, h2]
end SW

namespace SW
open PySem PySem.Spec PyProof.Rows L2
/-! ### enumerate(xs) in a comprehension -/
theorem walk_enum {K : PySem.W.Frag} {a : Addr} {xs : List V} : Walk (Ite K a) xs.length (fun H => SqL K H a xs) (fun i H v H' => ∃ T x, v = .ref T ∧ H T = none ∧ H' = L2.upd H T (.tup [.int (i : Nat), x]) ∧ xs[i]? = some x) :=
  ⟨fun i _ hi q => ⟨xs, xs[i], q, by simp [hi]⟩, fun _ q => ⟨xs, q, Nat.le_refl _⟩, fun _ _ _ _ _ q y => by
    obtain ⟨T, x, h1, h2, h3, h4⟩ := y
    exact ⟨T, x, h1, h2, h3, h4 xs q⟩⟩
end SW

namespace SW
open PySem PySem.Spec PyProof.Rows L2
abbrev s_l_cell : Stmt := topS 9
theorem sc_l_cell : FnScope ["script", "k"] ["script", "k"] (defScope s_l_cell) := ⟨rfl, rfl, rfl, by decide +kernel, rfl, by decide +kernel, by decide +kernel⟩

abbrev s_l_draws : Stmt := topS 10
theorem sc_l_draws : FnScope ["script", "place", "sizes", "primes", "cell", "rest", "draws", "k", "first", "mixed"] ["script", "place", "sizes"] (defScope s_l_draws) := ⟨rfl, rfl, rfl, by decide +kernel, rfl, by decide +kernel, by decide +kernel⟩

section
variable {P : Program} {w : World} {K : PySem.W.Frag} {mg : PySem.Str → Option Value} {base : Heap}
def spCell (K : PySem.W.Frag) : Sp := fun vs H Q _ => ∃ (a : Addr) (ns : List Int) (k : Int), vs = [.ref a, .int k] ∧ SqL K H a (ns.map V.int) ∧ ∀ r : Int, Q (.int r) H
theorem ok_l_cell (T : TxB mg) (D_l_cell : Df K mg "_law_cell" s_l_cell ["script", "k"]) : FnOk P w K mg base CX0 1 D_l_cell.f D_l_cell.fd ["script", "k"] (spCell K) := by
  refine D_l_cell.F.ok sc_l_cell (fun vs H Q E h => ?_) (fun cdv A outer s H vs Q E hr h => ?_)
  · obtain ⟨a, ns, k, rfl, _⟩ := h
    rfl
  · obtain ⟨a, ns, k, rfl, hS, q⟩ := h
    refine ⟨_, (pss_cons (ps_if (pt_cmpR op_gt (pe_callB call_len_seq (by rfl) T.n_len PySem.boot_len (pa_cons (pv 0) pa_nil)) pe_int (nomark _))
    (pss_one (ps_ret (pe_ix ix_list (pv 0) (pe_op op_mod (pe_callTy call_int1 (by rfl) T.n_int (by decide +kernel) (pa_cons (pv 1) pa_nil)) (pe_callB call_len_seq (by rfl) T.n_len PySem.boot_len (pa_cons (pv 0) pa_nil))) (fun _ _ => rfl))))
    pss_nil)
    (pss_one (ps_ret pe_int))), ?_⟩
    refine ⟨_, rfl, a, _, rfl, .inl hS, _, _, rfl, rfl, _, rfl, ite2 (fun e => ?_) (fun e => q 0)⟩
    have e := of_decide_eq_true e
    rw [List.length_map] at e
    refine ⟨_, rfl, _, rfl, .inl ⟨_, rfl, _, rfl, a, _, rfl, .inl hS, _, _, rfl, rfl, by rw [List.length_map]; exact e, ?_⟩⟩
    rw [List.length_map]
    have hk0 : 0 ≤ k % (ns.length : Int) := Int.emod_nonneg _ (by omega)
    have hk1 : k % (ns.length : Int) < ns.length := Int.emod_lt_of_pos _ (by omega)
    dsimp only
    generalize k % (ns.length : Int) = z at hk0 hk1
    obtain ⟨j, rfl⟩ : ∃ j : Nat, z = j := ⟨z.toNat, by omega⟩
    exact ⟨a, _, _, _, rfl, rfl, hS, ints_at (by omega), q _⟩
def primesL : List V := [.int 2147483647, .int 998244353, .int 1000000007, .int 1000000009, .int 4294967291, .int 1073741789, .int 536870909, .int 2305843009213693951]
theorem prime_at {z : Int} (h0 : 0 ≤ z) (h1 : z < 8) : ∃ p : Int, atI primesL z = some (.int p) ∧ 0 < p ∧ p < 2 ^ 62 := by
  obtain ⟨j, rfl⟩ : ∃ j : Nat, z = j := ⟨z.toNat, by omega⟩
  match j, h1 with
  | 0, _ => exact ⟨_, atI_nat rfl, by decide, by decide⟩
  | 1, _ => exact ⟨_, atI_nat rfl, by decide, by decide⟩
  | 2, _ => exact ⟨_, atI_nat rfl, by decide, by decide⟩
  | 3, _ => exact ⟨_, atI_nat rfl, by decide, by decide⟩
  | 4, _ => exact ⟨_, atI_nat rfl, by decide, by decide⟩
  | 5, _ => exact ⟨_, atI_nat rfl, by decide, by decide⟩
  | 6, _ => exact ⟨_, atI_nat rfl, by decide, by decide⟩
  | 7, _ => exact ⟨_, atI_nat rfl, by decide, by decide⟩
  | n + 8, h => exact absurd h (by omega)
/-- each draw lies below its size -/
def Below (ds ss : List Int) : Prop := ∀ (j : Nat) (d s : Int), ds[j]? = some d → ss[j]? = some s → 0 ≤ d ∧ d < s
def spDr (K : PySem.W.Frag) : Sp := fun vs H Q _ => ∃ (a z : Addr) (ns ss : List Int) (p : Int), vs = [.ref a, .int p, .ref z] ∧ SqL K H a (ns.map V.int) ∧ 0 ≤ p ∧ p ≤ 100 ∧ SqL K H z (ss.map V.int) ∧ ss.length ≤ 1000 ∧ (∀ s, s ∈ ss → 0 < s ∧ s.natAbs < 2 ^ 200) ∧
  ∀ D ds H', ds.length = ss.length → Below ds ss → Same H H' → H D = none → H' D = some (.lst (ds.map V.int)) → Q (.ref D) H'
theorem ok_l_draws (T : TxB mg) (D_l_draws : Df K mg "_law_draws" s_l_draws ["script", "place", "sizes"]) (D_l_cell : Df K mg "_law_cell" s_l_cell ["script", "k"]) (G_l_cell : FnOk P w K mg base CX0 1 D_l_cell.f D_l_cell.fd ["script", "k"] (spCell K)) : FnOk P w K mg base CX0 2 D_l_draws.f D_l_draws.fd ["script", "place", "sizes"] (spDr K) := by
  refine D_l_draws.F.ok sc_l_draws (fun vs H Q E h => ?_) (fun cdv A outer s H vs Q E hr h => ?_)
  · obtain ⟨a, z, ns, ss, p, rfl, _⟩ := h
    rfl
  · obtain ⟨a, z, ns, ss, p, rfl, hS, hp0, hp7, hz, hzl, hsz, q⟩ := h
    have hml : (ss.map V.int).length = ss.length := List.length_map _
    refine ⟨_, (pss_cons (ps_set (i := 3) sc_l_draws.nd rfl (.inl rfl) (pe_lst (pa_cons pe_int (pa_cons pe_int (pa_cons pe_int (pa_cons pe_int (pa_cons pe_int (pa_cons pe_int (pa_cons pe_int (pa_cons pe_int pa_nil))))))))))
    (pss_cons (ps_set (i := 4) sc_l_draws.nd rfl (.inl rfl) (pe_callB call_abs (by rfl) T.n_abs (by decide +kernel) (pa_cons (pe_call G_l_cell (hr.mono (by decide)) (by rfl) D_l_cell.g D_l_cell.F.kp D_l_cell.b .nil pass0 (pa_cons (pv 0) (pa_cons (pv 1) pa_nil))) pa_nil)))
    (pss_cons (ps_set (i := 5) sc_l_draws.nd rfl (.inl rfl) pe_int)
    (Evl.pss_cut (ps_if (pt_cmpR op_ge (pv 4) (pe_op op_pow pe_int pe_int) (nomark _))
    (pss_one (ps_set (i := 5) sc_l_draws.nd rfl (.inl rfl) (pv 4)))
    pss_nil)
    (pss_cons (ps_set (i := 6) sc_l_draws.nd rfl (.inl rfl) (pe_lst pa_nil))
    (pss_cons (ps_for PassesOwn.never rfl (pi_range1 (by rfl) T.n_range (pa_cons (pe_callB call_len_seq (by rfl) T.n_len PySem.boot_len (pa_cons (pv 2) pa_nil)) pa_nil)) (pg_name (i := 7) sc_l_draws.nd rfl (.inl rfl))
    (pss_one (ps_if (pt_cmpR op_gt (pv 5) pe_int (nomark _))
    (pss_cons (ps_expr (pe_bm PySem.F.plainAttrs_list PySem.F.slot_list_append PySem.F.type_list_append mt_append (pv 6) (pa_cons (pe_op op_mod (pe_callTy call_int1 (by rfl) T.n_int (by decide +kernel) (pa_cons (pv 5) pa_nil)) (pe_ix ix_list (pv 2) (pv 7) (fun _ _ => rfl))) pa_nil)))
    (pss_one (ps_set (i := 5) sc_l_draws.nd rfl (.inl rfl) (pe_op op_fdivW (pv 5) (pe_ix ix_list (pv 2) (pv 7) (fun _ _ => rfl))))))
    (pss_cons (ps_set (i := 8) sc_l_draws.nd rfl (.inl rfl) (pe_op op_mod (pe_callTy call_int1 (by rfl) T.n_int (by decide +kernel) (pa_cons (pe_op op_add (pe_op op_mul (pe_op op_add (pe_op op_add (pe_op op_add (pv 4) pe_int) (pe_op op_mul pe_int (pv 1))) (pv 7)) pe_int) (pe_op op_mul pe_int (pv 7))) pa_nil)) (pe_ix ix_list (pv 3) (pe_op op_mod (pv 7) pe_int) (fun _ _ => rfl))))
    (pss_cons (ps_set (i := 9) sc_l_draws.nd rfl (.inl rfl) (pe_op op_mod (pe_callTy call_int1 (by rfl) T.n_int (by decide +kernel) (pa_cons (pe_op op_add (pe_op op_add (pe_op op_mul (pv 8) (pv 8)) (pe_op op_mul pe_int (pv 7))) (pv 1)) pa_nil)) (pe_ix ix_list (pv 3) (pe_op op_mod (pe_op op_add (pv 7) pe_int) pe_int) (fun _ _ => rfl))))
    (pss_cons (ps_set (i := 9) sc_l_draws.nd rfl (.inl rfl) (pe_op op_mod (pe_callTy call_int1 (by rfl) T.n_int (by decide +kernel) (pa_cons (pe_op op_add (pe_op op_add (pe_op op_mul (pv 9) pe_int) (pe_op op_mul (pv 8) pe_int)) (pv 7)) pa_nil)) (pe_ix ix_list (pv 3) (pe_op op_mod (pe_op op_add (pv 7) pe_int) pe_int) (fun _ _ => rfl))))
    (pss_one (ps_expr (pe_bm PySem.F.plainAttrs_list PySem.F.slot_list_append PySem.F.type_list_append mt_append (pv 6) (pa_cons (pe_op op_mod (pe_callTy call_int1 (by rfl) T.n_int (by decide +kernel) (pa_cons (pe_op op_fdivW (pv 9) pe_int) pa_nil)) (pe_ix ix_list (pv 2) (pv 7) (fun _ _ => rfl))) pa_nil))))))))))
    (pss_one (ps_ret (pv 6))))))))), ?_⟩
    -- primes
    refine ⟨by show 8 ≤ sizeLine; decide, fun pr hpr => ?_⟩
    have s1 := same_new (o := .lst primesL) hpr
    -- cell, rest
    refine ⟨_, rfl, _, rfl, a, ns, p, rfl, s1.seq hS, fun r => ⟨r, rfl, ?_⟩⟩
    generalize (if r < 0 then -r else r) = c
    refine ⟨fun σ' H' => ∃ y5 : Int, σ' = [some (.ref a), some (.int p), some (.ref z), some (.ref pr), some (.int c), some (.int y5), none, none, none, none] ∧ H' = upd H pr (.lst primesL), ?_, ?_⟩
    · refine ⟨_, rfl, _, _, rfl, rfl, ⟨by decide, by decide, by decide⟩, _, _, rfl, rfl, _, rfl, ite2 (fun e => ?_) (fun e => ?_)⟩
      · exact ⟨_, rfl, _, rfl, rfl⟩
      · exact ⟨_, rfl, rfl⟩
    · intro σ' H' hN
      obtain ⟨y5, rfl, rfl⟩ := hN
      -- draws = []
      refine ⟨Nat.zero_le _, fun D hD => ?_⟩
      have s2 := s1.trans (same_new (o := .lst []) hD)
      have hDH : H D = none := s1.free hD
      refine ⟨_, rfl, z, _, rfl, .inl (s2.seq hz), _, rfl, by omega, by rw [hml]; omega, ?_⟩
      rw [hml]
      have ne : pr ≠ D := ne_of_none upd_same hD
      refine for_range (lo := 0) (n := ((ss.length : Nat) : Int).toNat) (fun i σ H2 => ∃ (y5 : Int) (y7 y8 y9 : Option V) (ds : List Int), σ = [some (.ref a), some (.int p), some (.ref z), some (.ref pr), some (.int c), some (.int y5), some (.ref D), y7, y8, y9] ∧ ds.length = i ∧ Below ds ss ∧ Same H H2 ∧ H2 pr = some (.lst primesL) ∧ H2 D = some (.lst (ds.map V.int)))
        ⟨y5, _, _, _, [], rfl, rfl, (fun _ _ _ h _ => nomatch h : Below [] ss), s2, (upd_ne ne).trans upd_same, upd_same⟩ (fun i σ H2 hi hP => ?_) (fun σ H2 hP => ?_)
      · obtain ⟨y5, y7, y8, y9, ds, rfl, hl, hb, s3, e3, e4⟩ := hP
        have hi' : i < ss.length := by omega
        have ei : (0 : Int) + (i : Nat) = (i : Nat) := by omega
        have hz2 := s3.seq hz
        have zat : atI (ss.map V.int) ((0 : Int) + (i : Nat)) = some (.int ss[i]) := by
          rw [ei]
          exact ints_at hi'
        obtain ⟨p0, p1⟩ := hsz _ (List.getElem_mem hi')
        have grow : ∀ d : Int, 0 ≤ d → d < ss[i] → Below (ds ++ [d]) ss := fun d d0 d1 j d' s' g1 g2 => by
          by_cases hj : j < ds.length
          · rw [List.getElem?_append_left hj] at g1
            exact hb j d' s' g1 g2
          · rw [List.getElem?_append_right (by omega)] at g1
            have hj0 : j = ds.length := by
              refine Classical.byContradiction fun hne => ?_
              obtain ⟨m, hm⟩ : ∃ m, j - ds.length = m + 1 := ⟨j - ds.length - 1, by omega⟩
              rw [hm] at g1
              cases g1
            subst hj0
            rw [Nat.sub_self] at g1
            cases g1
            have g2' : ss[ds.length]? = some ss[i] := by
              rw [hl]
              exact List.getElem?_eq_getElem hi'
            rw [g2'] at g2
            cases g2
            exact ⟨d0, d1⟩
        refine ⟨_, rfl, _, _, rfl, rfl, _, rfl, ite2 (fun e => ?_) (fun e => ?_)⟩
        · refine ⟨_, rfl, .inl ⟨rfl, _, SqL.of e4⟩, _, rfl, .inl ⟨_, rfl, _, rfl, _, rfl, z, _, _, _, rfl, rfl, hz2, zat, _, _, rfl, rfl, p0, ?_⟩⟩
          refine ⟨D, _, _, rfl, rfl, e4, by rw [List.length_map]; exact small_sz5 (by omega), ?_⟩
          have b1 : 0 ≤ y5 % ss[i] := Int.emod_nonneg _ (by omega)
          have b2 : y5 % ss[i] < ss[i] := Int.emod_lt_of_pos _ p0
          dsimp only
          generalize y5 % ss[i] = d at b1 b2
          have s4 : Same H (upd H2 D (.lst (ds.map V.int ++ [.int d]))) := same_mut s3 hDH
          refine ⟨_, rfl, _, rfl, _, rfl, z, _, _, _, rfl, rfl, s4.seq hz, zat, _, _, rfl, rfl, wide_div p0 p1 (by decide) (by decide), ?_⟩
          exact ⟨_, _, _, _, ds ++ [d], rfl, by rw [List.length_append, hl]; rfl, grow d b1 b2, s4, (upd_ne ne).trans e3, by rw [upd_same, List.map_append]; rfl⟩
        · have hp : SqL K H2 pr primesL := SqL.of e3
          have m8 : ∀ x : Int, 0 ≤ x % 8 ∧ x % 8 < 8 := fun x => ⟨Int.emod_nonneg _ (by decide), Int.emod_lt_of_pos _ (by decide)⟩
          obtain ⟨q1, qa, qb, qc⟩ := prime_at (m8 (0 + (i : Nat))).1 (m8 _).2
          obtain ⟨q2, qd, qe, qf⟩ := prime_at (m8 (0 + (i : Nat) + 3)).1 (m8 _).2
          obtain ⟨q3, qg, qh, qi⟩ := prime_at (m8 (0 + (i : Nat) + 5)).1 (m8 _).2
          refine ⟨_, rfl, _, _, rfl, rfl, _, rfl, _, _, rfl, rfl, .inl ⟨by decide, by decide⟩, _, _, rfl, rfl, _, rfl, _, _, rfl, rfl, _, _, rfl, rfl, .inr ⟨by decide, by decide⟩, _, rfl, _, _, rfl, rfl, .inl ⟨by decide, by decide⟩, _, _, rfl, rfl, .inl ⟨_, rfl, ?_⟩⟩
          refine ⟨_, rfl, _, rfl, _, _, rfl, rfl, (by show (0 : Int) < _; decide), pr, _, _, _, rfl, rfl, hp, qa, _, _, rfl, rfl, qb, ?_⟩
          have a1 := Int.emod_nonneg ((c + 1 + 31 * p + (0 + (i : Nat))) * 48271 + 69621 * (0 + (i : Nat))) (show q1 ≠ 0 by omega)
          have a2 := Int.emod_lt_of_pos ((c + 1 + 31 * p + (0 + (i : Nat))) * 48271 + 69621 * (0 + (i : Nat))) qb
          dsimp only
          generalize ((c + 1 + 31 * p + (0 + (i : Nat))) * 48271 + 69621 * (0 + (i : Nat))) % q1 = x at a1 a2
          -- mixed
          refine ⟨_, rfl, _, rfl, _, _, rfl, rfl, .inl ⟨by omega, by omega⟩, _, rfl, _, _, rfl, rfl, .inl ⟨by decide, by decide⟩, _, _, rfl, rfl, _, rfl, _, _, rfl, rfl, .inl ⟨_, rfl, ?_⟩⟩
          refine ⟨_, rfl, _, rfl, _, _, rfl, rfl, _, _, rfl, rfl, (by show (0 : Int) < _; decide), pr, _, _, _, rfl, rfl, hp, qd, _, _, rfl, rfl, qe, ?_⟩
          dsimp only
          generalize (x * x + 16807 * (0 + (i : Nat)) + p) % q2 = y
          refine ⟨_, rfl, _, _, rfl, rfl, .inr ⟨by decide, by decide⟩, _, rfl, _, _, rfl, rfl, .inr ⟨by decide, by decide⟩, _, _, rfl, rfl, _, rfl, _, _, rfl, rfl, .inl ⟨_, rfl, ?_⟩⟩
          refine ⟨_, rfl, _, rfl, _, _, rfl, rfl, _, _, rfl, rfl, (by show (0 : Int) < _; decide), pr, _, _, _, rfl, rfl, hp, qg, _, _, rfl, rfl, qh, ?_⟩
          dsimp only
          generalize (y * 69621 + x * 16807 + (0 + (i : Nat))) % q3 = u
          refine ⟨_, rfl, .inl ⟨rfl, _, SqL.of e4⟩, _, rfl, _, _, rfl, rfl, wide_div (b := 5) (by decide) (by decide) (by decide) (by decide), .inl ⟨_, rfl, ?_⟩⟩
          refine ⟨_, rfl, _, rfl, z, _, _, _, rfl, rfl, hz2, zat, _, _, rfl, rfl, p0, ?_⟩
          refine ⟨D, _, _, rfl, rfl, e4, by rw [List.length_map]; exact small_sz5 (by omega), ?_⟩
          have b1 : 0 ≤ u / 16 % ss[i] := Int.emod_nonneg _ (by omega)
          have b2 : u / 16 % ss[i] < ss[i] := Int.emod_lt_of_pos _ p0
          exact ⟨_, _, _, _, ds ++ [u / 16 % ss[i]], rfl, by rw [List.length_append, hl]; rfl, grow _ b1 b2, same_mut s3 hDH, (upd_ne ne).trans e3, by rw [upd_same, List.map_append]; rfl⟩
      · obtain ⟨y5, y7, y8, y9, ds, rfl, hl, hb, s3, e3, e4⟩ := hP
        exact ⟨_, rfl, q D ds H2 (by omega) hb s3 hDH e4⟩
end
end SW

namespace SW
open PySem PySem.Spec PyProof.Rows L2
/-! ### the shown text of small data -/
mutual
def smS : PyData → Bool
  | .none => true
  | .bool _ => true
  | .int i => decide (i.natAbs < 10 ^ 60)
  | .str x => decide ((PyData.shown (.str x)).length ≤ 70)
  | .list ds => smSs ds
  | .tuple ds => smSs ds
  | _ => false
def smSs : List PyData → Bool
  | [] => true
  | d :: r => smS d && smSs r
end
mutual
def shS : PyData → Nat
  | .list ds => shSs ds + 10
  | .tuple ds => shSs ds + 10
  | _ => 70
def shSs : List PyData → Nat
  | [] => 0
  | d :: r => shS d + 10 + shSs r
end
theorem of_len (z : String) : (Str.ofString z).length = z.toList.length := by
  rw [TL.len_tl]
  rw [TL.tl_ofString, List.length_map]
theorem int_len (i : Int) (h : i.natAbs < 10 ^ 60) : (Str.ofString (toString i)).length ≤ 70 := by
  rw [of_len]
  show (Int.repr i).toList.length ≤ 70
  have key : ∀ n : Nat, n < 10 ^ 60 → n.repr.toList.length ≤ 60 := fun n hn => by
    have := (Nat.length_repr_le_iff (n := n) (k := 60) (by decide)).mpr hn
    exact this
  cases i with
  | ofNat n =>
    have := key n (by simpa using h)
    show (Nat.repr n).toList.length ≤ 70
    omega
  | negSucc n =>
    have := key (n + 1) (by simpa using h)
    show ("-" ++ Nat.repr (n + 1)).toList.length ≤ 70
    rw [String.toList_append, List.length_append]
    have : "-".toList.length = 1 := rfl
    omega
theorem tf_len : ∀ (ts : List PySem.Str) (k : Nat) (acc : PySem.Str), (textFrom k acc ts).length ≤ acc.length + (ts.map fun t => t.length + 2).sum
  | [], _, _ => Nat.le_add_right _ _
  | t :: r, k, acc => by
    have h := tf_len r (k + 1) (acc ++ Str.ofString (if k > 0 then ", " else "") ++ t)
    show (textFrom (k + 1) (acc ++ Str.ofString (if k > 0 then ", " else "") ++ t) r).length ≤ _
    rw [app_len, app_len] at h
    rw [List.map_cons, List.sum_cons]
    have h2 : (Str.ofString (if k > 0 then ", " else "")).length ≤ 2 := by
      by_cases hk : k > 0
      · rw [if_pos hk]
        decide
      · rw [if_neg hk]
        decide
    omega
theorem jn_len (z : PySem.Str) (hz : z.length ≤ 2) : ∀ ts : List PySem.Str, (Str.join z ts).length ≤ (ts.map fun t => t.length + 2).sum
  | [] => Nat.zero_le _
  | [x] => by
    show x.length ≤ (x.length + 2) + 0
    omega
  | x :: y :: r => by
    have h := jn_len z hz (y :: r)
    show (x ++ z ++ Str.join z (y :: r)).length ≤ _
    rw [app_len, app_len, List.map_cons, List.sum_cons]
    omega
mutual
theorem smS_shown : ∀ d : PyData, smS d = true → d.showable = true ∧ d.hasDict = false ∧ d.shown.length ≤ shS d
  | .none, _ => ⟨rfl, rfl, by decide⟩
  | .bool b, _ => ⟨rfl, rfl, by cases b <;> decide⟩
  | .int i, h => by
    have h := of_decide_eq_true (by unfold smS at h; exact h)
    refine ⟨decide_eq_true ?_, rfl, int_len i h⟩
    refine Nat.lt_of_le_of_lt (m := 200) ?_ (by decide)
    by_cases h0 : i.natAbs = 0
    · rw [h0]
      decide
    · refine Nat.le_of_lt ((Nat.log2_lt h0).mpr (Nat.lt_of_lt_of_le h (by decide)))
  | .list ds, h => by
    have ⟨h1, h2, h3⟩ := smSs_shown ds (by unfold smS at h; exact h)
    refine ⟨h1, h2, ?_⟩
    show (listText (PyData.shownAll ds)).length ≤ shSs ds + 10
    unfold listText
    rw [app_len]
    have := tf_len (PyData.shownAll ds) 0 (Str.ofString "[")
    have e1 : (Str.ofString "[").length = 1 := rfl
    have e2 : (Str.ofString "]").length = 1 := rfl
    omega
  | .tuple ds, h => by
    have ⟨h1, h2, h3⟩ := smSs_shown ds (by unfold smS at h; exact h)
    refine ⟨h1, h2, ?_⟩
    show (tupleText (PyData.shownAll ds)).length ≤ shSs ds + 10
    unfold tupleText
    rw [app_len, app_len]
    have := jn_len (Str.ofString ", ") (by decide) (PyData.shownAll ds)
    have e1 : (Str.ofString "(").length = 1 := rfl
    have e2 : (Str.ofString (if ((PyData.shownAll ds).length == 1) = true then ",)" else ")")).length ≤ 2 := by
      by_cases hk : ((PyData.shownAll ds).length == 1) = true
      · rw [if_pos hk]
        decide
      · rw [if_neg hk]
        decide
    omega
  | .str x, h => ⟨rfl, rfl, of_decide_eq_true (by unfold smS at h; exact h)⟩
  | .dict _, h => by
    unfold smS at h
    cases h
theorem smSs_shown : ∀ ds : List PyData, smSs ds = true → PyData.showableAll ds = true ∧ PyData.hasDictAll ds = false ∧ ((PyData.shownAll ds).map fun t => t.length + 2).sum ≤ shSs ds
  | [], _ => ⟨rfl, rfl, Nat.le_refl _⟩
  | d :: r, h => by
    unfold smSs at h
    rw [Bool.and_eq_true] at h
    have ⟨a1, a2, a3⟩ := smS_shown d h.1
    have ⟨b1, b2, b3⟩ := smSs_shown r h.2
    refine ⟨?_, ?_, ?_⟩
    · show (d.showable && PyData.showableAll r) = true
      rw [a1, b1]
      rfl
    · show (d.hasDict || PyData.hasDictAll r) = false
      rw [a2, b2]
      rfl
    · show ((d.shown :: PyData.shownAll r).map fun t => t.length + 2).sum ≤ shS d + 10 + shSs r
      rw [List.map_cons, List.sum_cons]
      omega
end
theorem smSs_map {α : Type} (f : α → PyData) : ∀ xs : List α, (∀ x, x ∈ xs → smS (f x) = true) → smSs (xs.map f) = true
  | [], _ => rfl
  | x :: r, h => by
    show (smS (f x) && smSs (r.map f)) = true
    rw [h x List.mem_cons_self, smSs_map f r fun y hy => h y (List.mem_cons_of_mem _ hy)]
    rfl
theorem shSs_map {α : Type} (f : α → PyData) (b : Nat) : ∀ xs : List α, (∀ x, x ∈ xs → shS (f x) ≤ b) → shSs (xs.map f) ≤ xs.length * (b + 10)
  | [], _ => Nat.zero_le _
  | x :: r, h => by
    have h1 := h x List.mem_cons_self
    have h2 := shSs_map f b r fun y hy => h y (List.mem_cons_of_mem _ hy)
    show shS (f x) + 10 + shSs (r.map f) ≤ (r.length + 1) * (b + 10)
    rw [Nat.add_mul]
    omega
theorem depthS_map {α : Type} (f : α → PyData) (b : Nat) : ∀ xs : List α, (∀ x, x ∈ xs → (f x).depth ≤ b) → PyData.depthAll (xs.map f) ≤ b
  | [], _ => Nat.zero_le _
  | x :: r, h => by
    have h1 := h x List.mem_cons_self
    have h2 := depthS_map f b r fun y hy => h y (List.mem_cons_of_mem _ hy)
    show max (f x).depth (PyData.depthAll (r.map f)) ≤ b
    omega
def rReprS (K : PySem.W.Frag) : List V → Hp → VK → Prop := fun vs H Q => (∃ (a : Addr) (d : PyData), vs = [.ref a] ∧ Dp K H (.ref a) d ∧ smS d = true ∧ d.depth ≤ 60 ∧ shS d ≤ sizeLine ∧ Q (.str d.shown) H) ∨ ∃ i : Int, vs = [.int i] ∧ i.natAbs.log2 < 1920 ∧ Q (.str (toString i)) H
theorem call_reprS {X : Cx} (hg : X.A.guards = some []) (hu : X.A.units + 64 < cLine) : CallR X (.builtin "repr") (rReprS X.K) := by
  intro pins s σ H xs us Q I r h
  rcases h with ⟨a, d, rfl, hd, sm, dp, sz, q⟩ | ⟨i, h1, h2, h3⟩
  · cases r with
    | cons r1 r2 =>
      cases r2
      cases r1
      obtain ⟨as, rd⟩ := Dp.reads I d _ _ hd rfl
      have ⟨h1, h2, h3⟩ := smS_shown d sm
      exact repr_of_reads' rd h1 (PyData.noDict_hsm h2) hg (by omega) (fun _ _ e => e) (fun h' u tk hk => ⟨.str _, H, I.kept hk, ⟨u, rfl⟩, q⟩) (Nat.le_trans h3 sz)
  · exact SkE.call_repr_int pins s σ H xs us Q I r ⟨i, h1, h2, h3⟩
end SW

namespace SW
open PySem PySem.Spec PyProof.Rows L2
/-! ### forms, lists, cells -/
abbrev Fm := Int × Int
def f2 (f : Fm) : PyData := .tuple [.int f.1, .int f.2]
inductive Ld where
  | new (l : Fm)
  | wr (o : Nat) (i v : Fm)
def Ld.enc : Ld → PyData
  | .new l => .tuple [.str "new", f2 l]
  | .wr o i v => .tuple [.str "written", .int o, f2 i, f2 v]
structure Ce where
  n : Nat
  i : Fm
  v : Fm
def Ce.enc (c : Ce) : PyData := .tuple [.int c.n, f2 c.i, f2 c.v]
def wo (vs : List Int) (f : Fm) : Int := if f.1 = 0 then f.2 else vs.getD (f.1 - 1).toNat 0 + f.2
def fok (n : Nat) (f : Fm) : Prop := 0 ≤ f.1 ∧ f.1 ≤ n
def Ld.ok (m j : Nat) : Ld → Prop
  | .new l => fok m l
  | .wr o i v => o < j ∧ fok m i ∧ fok m v
def LsOk (m : Nat) (ls : List Ld) : Prop := ∀ (j : Nat) (l : Ld), ls[j]? = some l → l.ok m j
def Ce.ok (m : Nat) (c : Ce) : Prop := fok m c.i ∧ fok m c.v
/-- a value by the written ones; else the new list below -/
def wrF (ls : List Ld) (vs : List Int) : Nat → Nat → Int → Sum Int Nat
  | 0, num, _ => .inr num
  | f + 1, num, k => match ls[num]? with
    | some (.wr o i v) => if k = wo vs i then .inl (wo vs v) else wrF ls vs f o k
    | _ => .inr num
def WR (ls : List Ld) (vs : List Int) (num : Nat) (k : Int) : Sum Int Nat := wrF ls vs (num + 1) num k
theorem wrF_fuel {m : Nat} {ls : List Ld} (vs : List Int) (h : LsOk m ls) (k : Int) : ∀ (f g num : Nat), num < f → num < g → wrF ls vs f num k = wrF ls vs g num k
  | 0, _, _, h1, _ => absurd h1 (Nat.not_lt_zero _)
  | _, 0, _, _, h2 => absurd h2 (Nat.not_lt_zero _)
  | f + 1, g + 1, num, h1, h2 => by
    unfold wrF
    cases e : ls[num]? with
    | none => rfl
    | some l =>
      cases l with
      | new l => rfl
      | wr o i v =>
        have hk := (h num _ e).1
        dsimp only
        rw [wrF_fuel vs h k f g o (by omega) (by omega)]
theorem WR_new {ls : List Ld} {vs : List Int} {num : Nat} {k : Int} {l : Fm} (e : ls[num]? = some (.new l)) : WR ls vs num k = .inr num := by
  unfold WR wrF
  rw [e]
theorem WR_wr {m : Nat} {ls : List Ld} {vs : List Int} {num : Nat} {k : Int} {o : Nat} {i v : Fm} (h : LsOk m ls) (e : ls[num]? = some (.wr o i v)) : WR ls vs num k = if k = wo vs i then .inl (wo vs v) else WR ls vs o k := by
  have hk := (h num _ e).1
  unfold WR
  rw [wrF, e]
  dsimp only
  rw [wrF_fuel vs h k num (o + 1) o hk (Nat.lt_succ_self _)]
theorem WR_base {m : Nat} {ls : List Ld} {vs : List Int} (h : LsOk m ls) (k : Int) : ∀ (n num b : Nat), num ≤ n → num < ls.length → WR ls vs num k = .inr b → ∃ l, ls[b]? = some (.new l)
  | n, num, b, hn, hl, e => by
    cases g : ls[num]? with
    | none =>
      rw [List.getElem?_eq_none_iff] at g
      omega
    | some d =>
      cases d with
      | new l =>
        rw [WR_new g] at e
        cases e
        exact ⟨l, g⟩
      | wr o i v =>
        have hk := (h num _ g).1
        rw [WR_wr h g] at e
        by_cases hw : k = wo vs i
        · rw [if_pos hw] at e
          cases e
        · rw [if_neg hw] at e
          cases n with
          | zero => omega
          | succ n => exact WR_base h k n o b (by omega) (by omega) e
/-- the length's form -/
def lnF (ls : List Ld) : Nat → Nat → Fm
  | 0, _ => (0, 0)
  | f + 1, num => match ls[num]? with
    | some (.wr o _ _) => lnF ls f o
    | some (.new l) => l
    | none => (0, 0)
def LN (ls : List Ld) (num : Nat) : Fm := lnF ls (num + 1) num
theorem lnF_fuel {m : Nat} {ls : List Ld} (h : LsOk m ls) : ∀ (f g num : Nat), num < f → num < g → lnF ls f num = lnF ls g num
  | 0, _, _, h1, _ => absurd h1 (Nat.not_lt_zero _)
  | _, 0, _, _, h2 => absurd h2 (Nat.not_lt_zero _)
  | f + 1, g + 1, num, h1, h2 => by
    unfold lnF
    cases e : ls[num]? with
    | none => rfl
    | some l =>
      cases l with
      | new l => rfl
      | wr o i v =>
        have hk := (h num _ e).1
        exact lnF_fuel h f g o (by omega) (by omega)
theorem LN_new {ls : List Ld} {num : Nat} {l : Fm} (e : ls[num]? = some (.new l)) : LN ls num = l := by
  unfold LN lnF
  rw [e]
theorem LN_wr {m : Nat} {ls : List Ld} {num o : Nat} {i v : Fm} (h : LsOk m ls) (e : ls[num]? = some (.wr o i v)) : LN ls num = LN ls o := by
  have hk := (h num _ e).1
  unfold LN
  rw [lnF, e]
  exact lnF_fuel h num (o + 1) o hk (Nat.lt_succ_self _)
theorem LN_ok {m : Nat} {ls : List Ld} (h : LsOk m ls) : ∀ (n num : Nat), num ≤ n → num < ls.length → fok m (LN ls num)
  | n, num, hn, hl => by
    have g := List.getElem?_eq_getElem hl
    cases d : ls[num] with
    | new l =>
      rw [d] at g
      rw [LN_new g]
      exact h _ _ g
    | wr o i v =>
      rw [d] at g
      have hk := (h num _ g).1
      rw [LN_wr h g]
      cases n with
      | zero => omega
      | succ n => exact LN_ok h n o (by omega) (by omega)
/-! ### the value of the cell with the greatest index not above -/
def IsB (ps : List (Int × Int)) (k v : Int) : Prop := (∃ a, (a, v) ∈ ps ∧ a ≤ k ∧ ∀ b u, (b, u) ∈ ps → b ≤ k → b ≤ a) ∨ (v = 0 ∧ ∀ b u, (b, u) ∈ ps → ¬ b ≤ k)
def Cons1 (ps : List (Int × Int)) : Prop := ∀ a v u, (a, v) ∈ ps → (a, u) ∈ ps → v = u
theorem IsB_uniq {ps : List (Int × Int)} {k v u : Int} (c : Cons1 ps) (h1 : IsB ps k v) (h2 : IsB ps k u) : v = u := by
  rcases h1 with ⟨a, h1, h2', h3⟩ | ⟨e, h3⟩
  · rcases h2 with ⟨b, g1, g2, g3⟩ | ⟨e, g3⟩
    · have e1 := h3 b u g1 g2
      have e2 := g3 a v h1 h2'
      have e : a = b := by omega
      subst e
      exact c a v u h1 g1
    · exact absurd h2' (g3 a v h1)
  · rcases h2 with ⟨b, g1, g2, g3⟩ | ⟨e2, g3⟩
    · exact absurd g2 (h3 b u g1)
    · rw [e, e2]
theorem IsB_perm {ps qs : List (Int × Int)} {k v : Int} (hp : ps.Perm qs) (h : IsB ps k v) : IsB qs k v := by
  rcases h with ⟨a, h1, h2, h3⟩ | ⟨e, h3⟩
  · exact .inl ⟨a, hp.mem_iff.mp h1, h2, fun b u hb => h3 b u (hp.mem_iff.mpr hb)⟩
  · exact .inr ⟨e, fun b u hb => h3 b u (hp.mem_iff.mpr hb)⟩
theorem IsB_nil (k : Int) : IsB [] k 0 := .inr ⟨rfl, fun _ _ h => nomatch h⟩
theorem IsB_up {ps : List (Int × Int)} {k v a w : Int} (hs : ∀ b u, (b, u) ∈ ps → b ≤ a) (h : IsB ps k v) : IsB (ps ++ [(a, w)]) k (if a ≤ k then w else v) := by
  by_cases ha : a ≤ k
  · rw [if_pos ha]
    refine .inl ⟨a, List.mem_append_right _ (List.mem_singleton.mpr rfl), ha, fun b u hb _ => ?_⟩
    rcases List.mem_append.mp hb with hb | hb
    · exact hs b u hb
    · rw [(Prod.mk.inj (List.mem_singleton.mp hb)).1]
      exact Int.le_refl _
  · rw [if_neg ha]
    rcases h with ⟨c, h1, h2, h3⟩ | ⟨e, h3⟩
    · refine .inl ⟨c, List.mem_append_left _ h1, h2, fun b u hb hbk => ?_⟩
      rcases List.mem_append.mp hb with hb | hb
      · exact h3 b u hb hbk
      · have := (Prod.mk.inj (List.mem_singleton.mp hb)).1
        omega
    · refine .inr ⟨e, fun b u hb => ?_⟩
      rcases List.mem_append.mp hb with hb | hb
      · exact h3 b u hb
      · rw [(Prod.mk.inj (List.mem_singleton.mp hb)).1]
        exact ha
/-- later ones are above -/
theorem IsB_more {ps qs : List (Int × Int)} {k v : Int} (hq : ∀ b u, (b, u) ∈ qs → ¬ b ≤ k) (h : IsB ps k v) : IsB (ps ++ qs) k v := by
  rcases h with ⟨c, h1, h2, h3⟩ | ⟨e, h3⟩
  · refine .inl ⟨c, List.mem_append_left _ h1, h2, fun b u hb hbk => ?_⟩
    rcases List.mem_append.mp hb with hb | hb
    · exact h3 b u hb hbk
    · exact absurd hbk (hq b u hb)
  · refine .inr ⟨e, fun b u hb => ?_⟩
    rcases List.mem_append.mp hb with hb | hb
    · exact h3 b u hb
    · exact hq b u hb
def prs (cs : List Ce) (vs : List Int) (b : Nat) : List (Int × Int) := (cs.filter fun c => decide (c.n = b)).map fun c => (wo vs c.i, wo vs c.v)
def TV (ls : List Ld) (vs : List Int) (cs : List Ce) (num : Nat) (k v : Int) : Prop := match WR ls vs num k with
  | .inl w => v = w
  | .inr b => IsB (prs cs vs b) k v
theorem TV_uniq {m : Nat} {ls : List Ld} {vs : List Int} {cs : List Ce} {num : Nat} {k v u : Int} (h : LsOk m ls) (hl : num < ls.length) (c : ∀ b l, ls[b]? = some (.new l) → Cons1 (prs cs vs b)) (h1 : TV ls vs cs num k v) (h2 : TV ls vs cs num k u) : v = u := by
  unfold TV at h1 h2
  cases e : WR ls vs num k with
  | inl w =>
    rw [e] at h1 h2
    exact Eq.trans h1 (Eq.symm h2)
  | inr b =>
    rw [e] at h1 h2
    obtain ⟨l, hb⟩ := WR_base h k num num b (Nat.le_refl _) hl e
    exact IsB_uniq (c b l hb) h1 h2
theorem prs_snoc (cs : List Ce) (vs : List Int) (b : Nat) (c : Ce) : prs (cs ++ [c]) vs b = prs cs vs b ++ if c.n = b then [(wo vs c.i, wo vs c.v)] else [] := by
  unfold prs
  rw [List.filter_append, List.map_append]
  by_cases h : c.n = b
  · rw [if_pos h, show List.filter (fun c : Ce => decide (c.n = b)) [c] = [c] by simp [h]]
    rfl
  · rw [if_neg h, show List.filter (fun c : Ce => decide (c.n = b)) [c] = [] by simp [h]]
    rfl
/-! ### the content, laid from the left -/
structure Lay (ys : List (Int × Int)) (L : Int) (i : Nat) (c : List Int) (v : Int) : Prop where
  len : (c.length : Int) ≤ L
  ok : ∀ j : Nat, j < c.length → IsB ys j (c.getD j 0)
  val : ∀ k, (∀ b u, (b, u) ∈ ys.take i → b ≤ k) → IsB (ys.take i) k v
  le : ∀ b u, (b, u) ∈ ys.take i → b ≤ c.length ∨ L ≤ c.length
theorem lay_nil {ys : List (Int × Int)} {L : Int} (hL : 0 ≤ L) : Lay ys L 0 [] 0 := ⟨hL, fun _ h => absurd h (Nat.not_lt_zero _), fun k _ => IsB_nil k, fun _ _ h => nomatch h⟩
theorem rep_getD (c : List Int) (v : Int) (n j : Nat) : (c ++ List.replicate n v).getD j 0 = if j < c.length then c.getD j 0 else if j < c.length + n then v else 0 := by
  rw [List.getD_eq_getElem?_getD, List.getElem?_append]
  by_cases h : j < c.length
  · rw [if_pos h, if_pos h, ← List.getD_eq_getElem?_getD]
  · rw [if_neg h, if_neg h, List.getElem?_replicate]
    by_cases h2 : j < c.length + n
    · rw [if_pos h2, if_pos (by omega)]
      rfl
    · rw [if_neg h2, if_neg (by omega)]
      rfl
theorem srt_split {ys : List (Int × Int)} {i : Nat} {a w : Int} (hs : ys.Pairwise fun x y => x.1 ≤ y.1) (e : ys[i]? = some (a, w)) : (∀ b u, (b, u) ∈ ys.take i → b ≤ a) ∧ (∀ b u, (b, u) ∈ ys.drop i → a ≤ b) ∧ ys.take (i + 1) = ys.take i ++ [(a, w)] := by
  obtain ⟨hi, he⟩ := List.getElem?_eq_some_iff.mp e
  have h1 : ys = ys.take i ++ (a, w) :: ys.drop (i + 1) := by
    rw [← he, List.getElem_cons_drop, List.take_append_drop]
  have h2 : ys.drop i = (a, w) :: ys.drop (i + 1) := by rw [← he, List.getElem_cons_drop]
  rw [h1] at hs
  obtain ⟨_, q2, q3⟩ := List.pairwise_append.mp hs
  obtain ⟨q4, _⟩ := List.pairwise_cons.mp q2
  refine ⟨fun b u hb => q3 (b, u) hb (a, w) List.mem_cons_self, fun b u hb => ?_, ?_⟩
  · rw [h2] at hb
    rcases List.mem_cons.mp hb with hb | hb
    · rw [(Prod.mk.inj hb).1]
      exact Int.le_refl _
    · exact q4 (b, u) hb
  · rw [List.take_succ_eq_append_getElem hi, he]
theorem lay_step {ys : List (Int × Int)} {L : Int} {i : Nat} {c : List Int} {v a w : Int} (hs : ys.Pairwise fun x y => x.1 ≤ y.1) (e : ys[i]? = some (a, w)) (l : Lay ys L i c v) : Lay ys L (i + 1) (c ++ List.replicate ((if L < a then L else a) - (c.length : Int)).toNat v) w := by
  obtain ⟨s1, s2, s3⟩ := srt_split hs e
  have hlen := l.len
  have clen : (c ++ List.replicate ((if L < a then L else a) - (c.length : Int)).toNat v).length = c.length + ((if L < a then L else a) - (c.length : Int)).toNat := by rw [List.length_append, List.length_replicate]
  refine ⟨?_, fun j hj => ?_, fun k hk => ?_, fun b u hb => ?_⟩
  · rw [clen]
    split <;> omega
  · rw [rep_getD]
    rw [clen] at hj
    by_cases h : j < c.length
    · rw [if_pos h]
      exact l.ok j h
    · rw [if_neg h, if_pos hj]
      have hja : (j : Int) < a ∧ (j : Int) < L := by
        split at hj <;> omega
      have hb := l.val j fun b u hb => by
        rcases l.le b u hb with h1 | h1 <;> omega
      have := IsB_more (qs := ys.drop i) (fun b u hb => by have := s2 b u hb; omega) hb
      rw [List.take_append_drop] at this
      exact this
  · rw [s3] at hk ⊢
    have ha := hk a w (List.mem_append_right _ (List.mem_singleton.mpr rfl))
    have := IsB_up (w := w) s1 (l.val k fun b u hb => hk b u (List.mem_append_left _ hb))
    rw [if_pos ha] at this
    exact this
  · rw [clen]
    rw [s3] at hb
    rcases List.mem_append.mp hb with hb | hb
    · rcases l.le b u hb with h1 | h1
      · left
        omega
      · right
        omega
    · have := (Prod.mk.inj (List.mem_singleton.mp hb)).1
      subst this
      split <;> omega
theorem lay_end {ys : List (Int × Int)} {L : Int} {i : Nat} {c : List Int} {v : Int} (hi : ys.length ≤ i) (l : Lay ys L i c v) : ((c ++ List.replicate (L - (c.length : Int)).toNat v).length : Int) = L ∧ ∀ j : Nat, (j : Int) < L → IsB ys j ((c ++ List.replicate (L - (c.length : Int)).toNat v).getD j 0) := by
  have hlen := l.len
  refine ⟨?_, fun j hj => ?_⟩
  · rw [List.length_append, List.length_replicate]
    omega
  · rw [rep_getD]
    by_cases h : j < c.length
    · rw [if_pos h]
      exact l.ok j h
    · rw [if_neg h, if_pos (by omega)]
      have hb := l.val j fun b u hb => by
        rcases l.le b u hb with h1 | h1 <;> omega
      rw [List.take_of_length_le hi] at hb
      exact hb
end SW

namespace SW
open PySem PySem.Spec PyProof.Rows L2
theorem units65 {k : Nat} {A : Around} (r : Room k A) : A.units + 65 < cLine := by
  have := r.un
  omega
/-! ### what is known, as an object -/
abbrev s_Known : Stmt := inClass (topS 2) 0
theorem sc_Known : FnScope ["self", "many", "differences", "lists", "cells", "taken", "fresh", "m", "number", "index", "_"] ["self", "many", "differences", "lists", "cells", "taken", "fresh"] (defScope s_Known) := ⟨rfl, rfl, rfl, by decide +kernel, rfl, by decide +kernel, by decide +kernel⟩
abbrev s_length : Stmt := inClass (topS 2) 2
theorem sc_length : FnScope ["self", "number", "made"] ["self", "number"] (defScope s_length) := ⟨rfl, rfl, rfl, by decide +kernel, rfl, by decide +kernel, by decide +kernel⟩
structure TxK (K : PySem.W.Frag) (mg : PySem.Str → Option Value) (C : Addr) : Prop extends TxB mg where
  cl : Cls K C
  nM : NoAttr K C "many"
  nD : NoAttr K C "differences"
  nL : NoAttr K C "lists"
  nC : NoAttr K C "cells"
  nT : NoAttr K C "taken"
  nF : NoAttr K C "fresh"
  nO : NoAttr K C "_found"
  mg_Known : mg "Known" = some (.ref C)
def knF (m : Int) (ad al ac at_ af ao : Addr) : List (PySem.Str × V) := putF "_found" (.ref ao) (putF "fresh" (.ref af) (putF "taken" (.ref at_) (putF "cells" (.ref ac) (putF "lists" (.ref al) (putF "differences" (.ref ad) (putF "many" (.int m) []))))))
theorem knF_eq (m : Int) (ad al ac at_ af ao : Addr) : knF m ad al ac at_ af ao = ([("many", .int m), ("differences", .ref ad), ("lists", .ref al), ("cells", .ref ac), ("taken", .ref at_), ("fresh", .ref af), ("_found", .ref ao)] : List (PySem.Str × V)) := by
  have ne : ∀ {x y : PySem.Str} {v u : V} {r : List (PySem.Str × V)}, ¬ x = y → putF y v ((x, u) :: r) = (x, u) :: putF y v r := fun {x y v u r} h => by
    show (if x = y then (x, v) :: r else (x, u) :: putF y v r) = _
    rw [if_neg h]
  unfold knF
  have e : ∀ (y : PySem.Str) (v : V), putF y v [] = [(y, v)] := fun _ _ => rfl
  repeat (first | rw [e] | rw [ne (by decide +kernel)])
theorem knF_m (m : Int) (ad al ac at_ af ao : Addr) : (knF m ad al ac at_ af ao).lookup ("many" : PySem.Str) = some (.int m) := by
  rw [knF_eq]
  rfl
theorem knF_d (m : Int) (ad al ac at_ af ao : Addr) : (knF m ad al ac at_ af ao).lookup ("differences" : PySem.Str) = some (.ref ad) := by
  rw [knF_eq]
  rfl
theorem knF_l (m : Int) (ad al ac at_ af ao : Addr) : (knF m ad al ac at_ af ao).lookup ("lists" : PySem.Str) = some (.ref al) := by
  rw [knF_eq]
  rfl
theorem knF_c (m : Int) (ad al ac at_ af ao : Addr) : (knF m ad al ac at_ af ao).lookup ("cells" : PySem.Str) = some (.ref ac) := by
  rw [knF_eq]
  rfl
theorem knF_t (m : Int) (ad al ac at_ af ao : Addr) : (knF m ad al ac at_ af ao).lookup ("taken" : PySem.Str) = some (.ref at_) := by
  rw [knF_eq]
  rfl
theorem knF_f (m : Int) (ad al ac at_ af ao : Addr) : (knF m ad al ac at_ af ao).lookup ("fresh" : PySem.Str) = some (.ref af) := by
  rw [knF_eq]
  rfl
theorem knF_o (m : Int) (ad al ac at_ af ao : Addr) : (knF m ad al ac at_ af ao).lookup ("_found" : PySem.Str) = some (.ref ao) := by
  rw [knF_eq]
  rfl
theorem knF_no (m : Int) (ad al ac at_ af ao : Addr) {x : PySem.Str} (h : x ∉ (["many", "differences", "lists", "cells", "taken", "fresh", "_found"] : List PySem.Str)) : (knF m ad al ac at_ af ao).lookup x = none := by
  unfold knF
  rw [lookup_putF, if_neg (fun e => h (by rw [e]; simp)), lookup_putF, if_neg (fun e => h (by rw [e]; simp)), lookup_putF, if_neg (fun e => h (by rw [e]; simp)), lookup_putF, if_neg (fun e => h (by rw [e]; simp)), lookup_putF, if_neg (fun e => h (by rw [e]; simp)), lookup_putF, if_neg (fun e => h (by rw [e]; simp)), lookup_putF, if_neg (fun e => h (by rw [e]; simp))]
  rfl
def ck (c : Ce) : NestedKey := .tup [.num c.n, .tup [.num c.i.1, .num c.i.2]]
theorem ck_data (c : Ce) : (ck c).data = .tuple [.int c.n, f2 c.i] := by
  simp only [ck, NestedKey.data, NestedKey.datas, f2]
theorem ck_depth (c : Ce) : (ck c).depth ≤ 8 := by
  simp only [ck, NestedKey.depth, NestedKey.depthAll]
  decide
/-- the found cells' places, by number and index -/
structure FdOk (K : PySem.W.Frag) (H : Hp) (cs : List Ce) (fnd : List (NestedKey × V)) : Prop where
  all : ∀ c, c ∈ cs → ∃ v, valV fnd (ck c) = some v
  some : ∀ k v, valV fnd k = some v → ∃ (m : Nat) (c : Ce), cs[m]? = some c ∧ ck c = k ∧ v = .int m
theorem FdOk.nil (K : PySem.W.Frag) (H : Hp) : FdOk K H [] [] := ⟨fun _ h => (List.not_mem_nil h).elim, fun _ _ h => by cases h⟩
theorem FdOk.mono {K : PySem.W.Frag} {H H' : Hp} {cs : List Ce} {fnd : List (NestedKey × V)} (m : ∀ (d : PyData) (v : V), noL d = true → Dp K H v d → Dp K H' v d) (f : FdOk K H cs fnd) : FdOk K H' cs fnd := ⟨f.all, f.some⟩
theorem FdOk.put {K : PySem.W.Frag} {H : Hp} {cs : List Ce} {fnd : List (NestedKey × V)} {c : Ce} (f : FdOk K H cs fnd) : FdOk K H (cs ++ [c]) (putK fnd (ck c) (.int (cs.length : Nat))) := by
  refine ⟨fun d hd => ?_, fun k u h => ?_⟩
  · rw [valV_put]
    by_cases e : ck d = ck c
    · exact ⟨_, if_pos e⟩
    · rw [if_neg e]
      rcases List.mem_append.mp hd with hd | hd
      · exact f.all d hd
      · rw [List.mem_singleton.mp hd] at e
        exact absurd rfl e
  · rw [valV_put] at h
    by_cases e : k = ck c
    · rw [if_pos e] at h
      cases h
      exact ⟨cs.length, c, by rw [List.getElem?_append_right (Nat.le_refl _), Nat.sub_self]; rfl, e.symm, rfl⟩
    · rw [if_neg e] at h
      obtain ⟨m, d, h1, h2, h3⟩ := f.some k u h
      exact ⟨m, d, by rw [List.getElem?_append_left (List.getElem?_eq_some_iff.mp h1).1]; exact h1, h2, h3⟩
structure KnAt (P : Program) (w : World) (K : PySem.W.Frag) (C : Addr) (H : Hp) (p ad al ac at_ af ao : Addr) (m : Int) (xd xl xc xt xf : List V) (cs : List Ce) (fnd : List (NestedKey × V)) : Prop where
  ob : ∃ dx, H p = some (.ins C dx (knF m ad al ac at_ af ao))
  d : H ad = some (.lst xd)
  l : H al = some (.lst xl)
  c : H ac = some (.lst xc)
  t : H at_ = some (.lst xt)
  f : H af = some (.lst xf)
  o : DN P w K H ao fnd
  fd : FdOk K H cs fnd
  cx : DpAll K H xc (cs.map Ce.enc)
theorem noLs_ce : ∀ cs : List Ce, noLs (cs.map Ce.enc) = true
  | [] => rfl
  | _ :: r => noLs_ce r
theorem KnAt.same {P : Program} {w : World} {K : PySem.W.Frag} {C : Addr} {H H' : Hp} {p ad al ac at_ af ao : Addr} {m : Int} {xd xl xc xt xf : List V} {cs : List Ce} {fnd : List (NestedKey × V)} (k : KnAt P w K C H p ad al ac at_ af ao m xd xl xc xt xf cs fnd) (s : Same H H') : KnAt P w K C H' p ad al ac at_ af ao m xd xl xc xt xf cs fnd := by
  obtain ⟨dx, e⟩ := k.ob
  exact ⟨⟨dx, s _ _ e⟩, s _ _ k.d, s _ _ k.l, s _ _ k.c, s _ _ k.t, s _ _ k.f, k.o.same s, k.fd.mono fun d v _ h => dp_same s d v h, dpa_same s _ _ k.cx⟩
theorem putF_len (f : PySem.Str) (v : V) : ∀ fs : List (PySem.Str × V), (putF f v fs).length ≤ fs.length + 1
  | [] => Nat.le_refl _
  | (g, u) :: r => by
    show (if g = f then (g, v) :: r else (g, u) :: putF f v r).length ≤ _
    by_cases e : g = f
    · rw [if_pos e]
      exact Nat.le_succ _
    · rw [if_neg e]
      exact Nat.succ_le_succ (putF_len f v r)
theorem pl_len {f : PySem.Str} {v : V} {fs : List (PySem.Str × V)} {n : Nat} (h : fs.length ≤ n) : (putF f v fs).length ≤ n + 1 := Nat.le_trans (putF_len f v fs) (Nat.succ_le_succ h)
theorem fld_step {G : Hp} {p a : Addr} {o u z : HO} (hp : G p = some o) (na : G a = none) : a ≠ p ∧ (∀ b y, b ≠ p → G b = some y → upd (upd G a z) p u b = some y) ∧ upd (upd G a z) p u p = some u ∧ upd (upd G a z) p u a = some z := by
  have ne : a ≠ p := (ne_of_none hp na).symm
  exact ⟨ne, fun b y hb e => (upd_ne hb).trans ((upd_ne (ne_of_none e na)).trans e), upd_same, (upd_ne ne).trans upd_same⟩
theorem was_none {H G : Hp} {p a : Addr} (k : ∀ b y, b ≠ p → H b = some y → G b = some y) (ne : a ≠ p) (na : G a = none) : H a = none := by
  cases e : H a with
  | none => rfl
  | some y =>
    rw [k a y ne e] at na
    cases na
theorem sq_keep {K : PySem.W.Frag} {H G : Hp} {p a C dx : Addr} {fs : List (PySem.Str × V)} {xs : List V} (hp : H p = some (.ins C dx fs)) (k : ∀ b y, b ≠ p → H b = some y → G b = some y) (s : SqL K H a xs) : SqL K G a xs := by
  have ne : ∀ {y : HO}, H a = some y → (∀ C dx fs, y ≠ .ins C dx fs) → a ≠ p := fun h1 h2 q => by
    rw [q, hp] at h1
    exact h2 _ _ _ (Option.some.inj h1).symm
  rcases s with (h | ⟨o, h⟩) | h
  · exact .inl (.inl (k _ _ (ne h fun _ _ _ q => nomatch q) h))
  · exact .inl (.inr ⟨o, k _ _ (ne h fun _ _ _ q => nomatch q) h⟩)
  · exact .inr h
theorem dp_keep {K : PySem.W.Frag} {H G : Hp} {p C dx : Addr} {fs : List (PySem.Str × V)} (hp : H p = some (.ins C dx fs)) (k : ∀ b y, b ≠ p → H b = some y → G b = some y) (d : PyData) (v : V) (n : noL d = true) (h : Dp K H v d) : Dp K G v d :=
  dp_tups (fun a xs s => by
    have ne : ∀ {y : HO}, H a = some y → (∀ C dx fs, y ≠ .ins C dx fs) → a ≠ p := fun h1 h2 q => by
      rw [q, hp] at h1
      exact h2 _ _ _ (Option.some.inj h1).symm
    rcases s with (h | ⟨o, h⟩) | h
    · exact .inl (.inl (k _ _ (ne h fun _ _ _ q => nomatch q) h))
    · exact .inl (.inr ⟨o, k _ _ (ne h fun _ _ _ q => nomatch q) h⟩)
    · exact .inr h) d v n h
theorem dpa_keep {K : PySem.W.Frag} {H G : Hp} (m : ∀ (d : PyData) (v : V), noL d = true → Dp K H v d → Dp K G v d) : ∀ {ds : List PyData} {vs : List V}, noLs ds = true → DpAll K H vs ds → DpAll K G vs ds
  | [], _, _, h => by
    cases h
    exact .nil
  | d :: ds, _, n, h => by
    unfold noLs at n
    rw [Bool.and_eq_true] at n
    cases h with
    | cons h1 h2 => exact .cons (m _ _ n.1 h1) (dpa_keep m n.2 h2)
section
variable {P : Program} {w : World} {K : PySem.W.Frag} {mg : PySem.Str → Option Value} {base : Heap} {C : Addr}
def spKnown (P : Program) (w : World) (K : PySem.W.Frag) (C : Addr) : Sp := fun vs H Q _ => ∃ (p dx bd bl bc bt bf : Addr) (m : Int) (xd xl xc xt xf : List V) (cs : List Ce), vs = [.ref p, .int m, .ref bd, .ref bl, .ref bc, .ref bt, .ref bf] ∧ H p = some (.ins C dx []) ∧ SqL K H bd xd ∧ SqL K H bl xl ∧ SqL K H bc xc ∧ SqL K H bt xt ∧ SqL K H bf xf ∧ DpAll K H xc (cs.map Ce.enc) ∧ cs.length ≤ 1000 ∧
  ∀ H' ad al ac at_ af ao fnd, (∀ b o, b ≠ p → H b = some o → H' b = some o) → H ad = none → H al = none → H ac = none → H at_ = none → H af = none → KnAt P w K C H' p ad al ac at_ af ao m xd xl xc xt xf cs fnd → Q .non H'
theorem ok_Known {f : Addr} {fd : FuncData} (F : Fun K "__init__" "Known.__init__" s_Known f fd) (T : TxK K mg C) : FnOk P w K mg base CX0 1 f fd ["self", "many", "differences", "lists", "cells", "taken", "fresh"] (spKnown P w K C) := by
  refine F.ok sc_Known (fun vs H Q E h => ?_) (fun cdv A outer s H vs Q E hr h => ?_)
  · obtain ⟨p, dx, bd, bl, bc, bt, bf, m, xd, xl, xc, xt, xf, cs, rfl, _⟩ := h
    rfl
  · obtain ⟨p, dx, bd, bl, bc, bt, bf, m, xd, xl, xc, xt, xf, cs, rfl, hp, h1, h2, h3, h4, h5, hc, hcl, q⟩ := h
    refine ⟨_, pss_cons (ps_fld (pv 0) (pv 1) rfl)
      (pss_cons (ps_fld (pv 0) (pe_callTy call_list_of (by rfl) T.n_list (by decide +kernel) (pa_cons (pv 2) pa_nil)) rfl)
      (pss_cons (ps_fld (pv 0) (pe_callTy call_list_of (by rfl) T.n_list (by decide +kernel) (pa_cons (pv 3) pa_nil)) rfl)
      (pss_cons (ps_fld (pv 0) (pe_callTy call_list_of (by rfl) T.n_list (by decide +kernel) (pa_cons (pv 4) pa_nil)) rfl)
      (pss_cons (ps_fld (pv 0) (pe_callTy call_list_of (by rfl) T.n_list (by decide +kernel) (pa_cons (pv 5) pa_nil)) rfl)
      (pss_cons (ps_fld (pv 0) (pe_callTy call_list_of (by rfl) T.n_list (by decide +kernel) (pa_cons (pv 6) pa_nil)) rfl)
      (pss_one (ps_fld (pv 0) (pe_dcN (own := [("m", 7), ("number", 8), ("index", 9), ("_", 10)]) (g := gTup K 2 (gCons (gName 7) (gCons (gTup K 3 (gCons (gName 8) (gCons (gName 9) (gCons (gName 10) gNil)))) gNil))) (units65 hr) (by rfl) sc_Known.nd (pi_enum (by rfl) T.n_enumerate (pa_cons (pe_fld (pv 0) rfl) pa_nil)) (blkOk_by (own := [("m", 7), ("number", 8), ("index", 9), ("_", 10)]) (N := ["self", "many", "differences", "lists", "cells", "taken", "fresh", "m", "number", "index", "_"]) (sc := defScope s_Known) (by decide +kernel))
        (fun _ _ _ _ _ => pg_tup rfl (pgs_cons (pg_name (i := 7) sc_Known.nd rfl (Or.inl rfl)) (pgs_cons (pg_tup rfl (pgs_cons (pg_name (i := 8) sc_Known.nd rfl (Or.inl rfl)) (pgs_cons (pg_name (i := 9) sc_Known.nd rfl (Or.inl rfl)) (pgs_cons (pg_name (i := 10) sc_Known.nd rfl (Or.inl rfl)) pgs_nil)))) pgs_nil))) (fun _ _ _ _ _ => pts_nil) (fun _ _ _ _ _ => pe_tup (pa_cons (pv 8) (pa_cons (pv 9) pa_nil))) (fun _ _ _ _ _ => pv 7)) rfl))))))), ?_⟩
    have c0 : ([] : List (PySem.Str × V)).length ≤ 0 := Nat.le_refl _
    -- many
    refine ⟨_, rfl, _, rfl, p, C, dx, [], rfl, hp, T.cl, T.nM, (by show 0 < 1000; decide), ?_⟩
    have k1 : ∀ b y, b ≠ p → H b = some y → upd H p (.ins C dx (putF "many" (.int m) [])) b = some y := fun b y hb e => (upd_ne hb).trans e
    have e1 : upd H p (.ins C dx (putF "many" (.int m) [])) p = some (.ins C dx (putF "many" (.int m) [])) := upd_same
    generalize upd H p (.ins C dx (putF "many" (.int m) [])) = G1 at k1 e1
    -- differences
    refine ⟨_, rfl, bd, xd, rfl, .inl (sq_keep hp k1 h1), fun ad nd => ⟨_, rfl, p, C, dx, _, rfl, (upd_ne (ne_of_none e1 nd)).trans e1, T.cl, T.nD, Nat.lt_of_le_of_lt (pl_len c0) (by decide), ?_⟩⟩
    obtain ⟨n2, s2, e2, d2⟩ := fld_step (u := .ins C dx (putF "differences" (.ref ad) (putF "many" (.int m) []))) (z := .lst xd) e1 nd
    have k2 : ∀ b y, b ≠ p → H b = some y → _ := fun b y hb e => s2 b y hb (k1 b y hb e)
    have hnd := was_none k1 n2 nd
    generalize upd (upd G1 ad _) p _ = G2 at s2 e2 d2 k2
    -- lists
    refine ⟨_, rfl, bl, xl, rfl, .inl (sq_keep hp k2 h2), fun al nl => ⟨_, rfl, p, C, dx, _, rfl, (upd_ne (ne_of_none e2 nl)).trans e2, T.cl, T.nL, Nat.lt_of_le_of_lt (pl_len (pl_len c0)) (by decide), ?_⟩⟩
    obtain ⟨n3, s3, e3, l3⟩ := fld_step (u := .ins C dx (putF "lists" (.ref al) (putF "differences" (.ref ad) (putF "many" (.int m) [])))) (z := .lst xl) e2 nl
    have k3 : ∀ b y, b ≠ p → H b = some y → _ := fun b y hb e => s3 b y hb (k2 b y hb e)
    have hnl := was_none k2 n3 nl
    have d3 := s3 _ _ n2 d2
    generalize upd (upd G2 al _) p _ = G3 at s3 e3 l3 k3 d3
    -- cells
    refine ⟨_, rfl, bc, xc, rfl, .inl (sq_keep hp k3 h3), fun ac nc => ⟨_, rfl, p, C, dx, _, rfl, (upd_ne (ne_of_none e3 nc)).trans e3, T.cl, T.nC, Nat.lt_of_le_of_lt (pl_len (pl_len (pl_len c0))) (by decide), ?_⟩⟩
    obtain ⟨n4, s4, e4, c4⟩ := fld_step (u := .ins C dx (putF "cells" (.ref ac) (putF "lists" (.ref al) (putF "differences" (.ref ad) (putF "many" (.int m) []))))) (z := .lst xc) e3 nc
    have k4 : ∀ b y, b ≠ p → H b = some y → _ := fun b y hb e => s4 b y hb (k3 b y hb e)
    have hnc := was_none k3 n4 nc
    have d4 := s4 _ _ n2 d3
    have l4 := s4 _ _ n3 l3
    generalize upd (upd G3 ac _) p _ = G4 at s4 e4 c4 k4 d4 l4
    -- taken
    refine ⟨_, rfl, bt, xt, rfl, .inl (sq_keep hp k4 h4), fun at_ nt => ⟨_, rfl, p, C, dx, _, rfl, (upd_ne (ne_of_none e4 nt)).trans e4, T.cl, T.nT, Nat.lt_of_le_of_lt (pl_len (pl_len (pl_len (pl_len c0)))) (by decide), ?_⟩⟩
    obtain ⟨n5, s5, e5, t5⟩ := fld_step (u := .ins C dx (putF "taken" (.ref at_) (putF "cells" (.ref ac) (putF "lists" (.ref al) (putF "differences" (.ref ad) (putF "many" (.int m) [])))))) (z := .lst xt) e4 nt
    have k5 : ∀ b y, b ≠ p → H b = some y → _ := fun b y hb e => s5 b y hb (k4 b y hb e)
    have hnt := was_none k4 n5 nt
    have d5 := s5 _ _ n2 d4
    have l5 := s5 _ _ n3 l4
    have c5 := s5 _ _ n4 c4
    generalize upd (upd G4 at_ _) p _ = G5 at s5 e5 t5 k5 d5 l5 c5
    -- fresh
    refine ⟨_, rfl, bf, xf, rfl, .inl (sq_keep hp k5 h5), fun af nf => ⟨_, rfl, p, C, dx, _, rfl, (upd_ne (ne_of_none e5 nf)).trans e5, T.cl, T.nF, Nat.lt_of_le_of_lt (pl_len (pl_len (pl_len (pl_len (pl_len c0))))) (by decide), ?_⟩⟩
    obtain ⟨n6, s6, e6, f6⟩ := fld_step (u := .ins C dx (putF "fresh" (.ref af) (putF "taken" (.ref at_) (putF "cells" (.ref ac) (putF "lists" (.ref al) (putF "differences" (.ref ad) (putF "many" (.int m) []))))))) (z := .lst xf) e5 nf
    have k6 : ∀ b y, b ≠ p → H b = some y → _ := fun b y hb e => s6 b y hb (k5 b y hb e)
    have hnf := was_none k5 n6 nf
    have d6 := s6 _ _ n2 d5
    have l6 := s6 _ _ n3 l5
    have c6 := s6 _ _ n4 c5
    have t6 := s6 _ _ n5 t5
    generalize upd (upd G5 af _) p _ = G6 at s6 e6 f6 k6 d6 l6 c6 t6
    -- the found cells
    have hcc := dpa_keep (dp_keep hp k6) (noLs_ce cs) hc
    have hxl : xc.length = cs.length := by rw [dpa_len hc, List.length_map]
    refine ⟨_, rfl, p, C, dx, _, _, rfl, e6, T.cl, T.nC, (by rw [lookup_putF, if_neg (by decide +kernel), lookup_putF, if_neg (by decide +kernel), lookup_putF, if_pos rfl]), ac, xc, rfl, SqL.of c6, fun D o nD dn0 => ?_⟩
    have keepD0 : ∀ {G G' : Hp} {ob : Obj}, G D = some (ExO ob D) → (∀ b y, b ≠ D → G b = some y → G' b = some y) → ∀ (d : PyData) (v : V), noL d = true → Dp K G v d → Dp K G' v d := fun {G G' ob} eD m d v n h =>
      dp_tups (fun a xs s => by
        have ne : ∀ {y : HO}, G a = some y → y ≠ ExO ob D → a ≠ D := fun h1 h2 q => by
          rw [q, eD] at h1
          exact h2 (Option.some.inj h1).symm
        rcases s with (h | ⟨o, h⟩) | h
        · exact .inl (.inl (m _ _ (ne h fun q => nomatch q) h))
        · exact .inl (.inr ⟨o, m _ _ (ne h fun q => nomatch q) h⟩)
        · exact .inr h) d v n h
    refine dcN_it (walk_enum (K := K) (a := ac) (xs := xc)) (fun i G => (∀ b y, b ≠ D → G6 b = some y → G b = some y) ∧ ∃ fnd, DN P w K G D fnd ∧ fnd.length ≤ i ∧ FdOk K G (cs.take i) fnd)
      ⟨fun b y hb e => (upd_ne hb).trans e, [], dn0, Nat.le_refl _, FdOk.nil K _⟩ (fun i G _ hP => SqL.of (hP.1 _ _ (ne_of_none c6 nD) c6)) (fun i x G G' hi hP y => ?_) (fun G hP => ?_)
    · obtain ⟨T0, x, rfl, nT0, rfl, hx⟩ := y
      obtain ⟨m6, fnd, dn, hfl, fd⟩ := hP
      have hic : i < cs.length := by omega
      obtain ⟨v, g1, g2⟩ := dp_mem hcc hic
      rw [hx] at g1
      cases g1
      have sT := same_new (o := .tup [.int (i : Nat), x]) nT0
      have S6 : ∀ (d : PyData) (v : V), noL d = true → Dp K G6 v d → Dp K G v d := fun d v n h => dp_tups (fun a xs s => by
        rcases s with (h | ⟨o, h⟩) | h
        · exact .inl (.inl (m6 _ _ (ne_of_none h nD) h))
        · exact .inl (.inr ⟨o, m6 _ _ (ne_of_none h nD) h⟩)
        · exact .inr h) d v n h
      have g3 := dp_same sT _ _ (S6 _ _ (by rfl) g2)
      obtain ⟨t, v1, v2, v3, rfl, ht, w1, w2, w3⟩ := dp_inv3 g3
      have eT : upd G T0 (.tup [.int (i : Nat), .ref t]) T0 = some (.tup [.int (i : Nat), .ref t]) := upd_same
      have dnT := dn.same sT
      generalize hGT : upd G T0 (.tup [.int (i : Nat), .ref t]) = G' at sT g3 ht w1 w2 w3 eT dnT
      refine ⟨T0, _, rfl, SqT.of eT, rfl, _, _, rfl, _, _, rfl, t, _, rfl, ht, rfl, _, _, rfl, _, _, rfl, _, _, rfl, rfl, rfl, rfl, ?_⟩
      refine ⟨_, rfl, _, rfl, by show (2 : Nat) ≤ sizeLine; decide, fun kt nk => ⟨_, rfl, ?_⟩⟩
      have sk := same_new (o := .tup [v1, v2]) nk
      have dk : Dp K (upd G' kt (.tup [v1, v2])) (.ref kt) (ck cs[i]).data := by
        rw [ck_data]
        exact dp_tup2 (d1 := .int cs[i].n) (d2 := f2 cs[i].i) (upd_same (H := G')) (w1.same sk) (w2.same sk)
      have dn' := dnT.same sk
      refine ⟨fnd, ck cs[i], kt, rfl, dn', dk, ck_depth _, Nat.lt_of_le_of_lt hfl (Nat.lt_of_lt_of_le hic (Nat.le_trans hcl (by decide))), fun o' dn2 => ?_⟩
      have mv : ∀ b y, b ≠ D → upd G' kt (.tup [v1, v2]) b = some y → upd (upd G' kt (.tup [v1, v2])) D (ExO o' D) b = some y := fun b y hb e => (upd_ne hb).trans e
      refine ⟨fun b y hb e => mv _ _ hb (sk _ _ (sT _ _ (m6 b y hb e))), _, dn2, Nat.le_trans (putN_len _ _ _) (Nat.succ_le_succ hfl), ?_⟩
      have hlt : (cs.take i).length = i := by
        rw [List.length_take]
        omega
      have := FdOk.put (c := cs[i]) fd
      rw [hlt] at this
      rw [List.take_succ, List.getElem?_eq_getElem hic]
      exact ⟨this.all, this.some⟩
    · obtain ⟨m6, fnd, dn, hfl, fd⟩ := hP
      rw [hxl, List.take_length] at fd
      obtain ⟨oo, _, _, _, eD, _⟩ := dn.ob
      have hpD : p ≠ D := ne_of_none e6 nD
      have e7 := m6 _ _ hpD e6
      have st : ∀ b y, b ≠ p → G b = some y → upd G p (.ins C dx (putF "_found" (.ref D) (putF "fresh" (.ref af) (putF "taken" (.ref at_) (putF "cells" (.ref ac) (putF "lists" (.ref al) (putF "differences" (.ref ad) (putF "many" (.int m) [])))))))) b = some y := fun b y hb e => (upd_ne hb).trans e
      have m7 : ∀ b y, b ≠ p → G6 b = some y → upd G p (.ins C dx (putF "_found" (.ref D) (putF "fresh" (.ref af) (putF "taken" (.ref at_) (putF "cells" (.ref ac) (putF "lists" (.ref al) (putF "differences" (.ref ad) (putF "many" (.int m) [])))))))) b = some y := fun b y hb e => st _ _ hb (m6 b y (ne_of_none e nD) e)
      refine ⟨_, rfl, p, C, dx, _, rfl, e7, T.cl, T.nO, Nat.lt_of_le_of_lt (pl_len (pl_len (pl_len (pl_len (pl_len (pl_len c0)))))) (by decide), ?_⟩
      have mvd : ∀ (d : PyData) (v : V), noL d = true → Dp K G v d → Dp K _ v d := dp_keep e7 st
      refine q _ ad al ac at_ af D fnd (fun b y hb e => m7 _ _ hb (k6 b y hb e)) hnd hnl hnc hnt hnf ⟨⟨dx, upd_same⟩, m7 _ _ n2 d6, m7 _ _ n3 l6, m7 _ _ n4 c6, m7 _ _ n5 t6, m7 _ _ n6 f6, ?_, fd.mono mvd, dpa_keep (dp_keep e6 m7) (noLs_ce cs) hcc⟩
      obtain ⟨oo, es, ep, xs, eD, r1, r2, r3, r4, r5⟩ := dn.ob
      exact ⟨dn.sm, dn.ln, oo, es, ep, xs, st _ _ hpD.symm eD, r1, r2, r3, r4, npair_mono mvd r5⟩
end
end SW

namespace SW
open PySem PySem.Spec PyProof.Rows L2
abbrev s_worth_of : Stmt := topS 3
theorem sc_worth_of : FnScope ["form", "values", "unknown", "plus"] ["form", "values"] (defScope s_worth_of) := ⟨rfl, rfl, rfl, by decide +kernel, rfl, by decide +kernel, by decide +kernel⟩

abbrev s_cells_by_index : Stmt := topS 6
theorem sc_cells_by_index : FnScope ["known", "values", "number", "cells", "which", "index", "value"] ["known", "values", "number"] (defScope s_cells_by_index) := ⟨rfl, rfl, rfl, by decide +kernel, rfl, by decide +kernel, by decide +kernel⟩

abbrev s_value_at : Stmt := topS 4
theorem sc_value_at : FnScope ["known", "values", "number", "k", "made", "value", "at", "worth"] ["known", "values", "number", "k"] (defScope s_value_at) := ⟨rfl, rfl, rfl, by decide +kernel, rfl, by decide +kernel, by decide +kernel⟩

/-- a sequence of numbers: a list or a tuple -/
def Seq (K : PySem.W.Frag) (H : Hp) (b : Addr) (ns : List Int) : Prop := SqL K H b (ns.map V.int) ∨ SqT K H b (ns.map V.int)
theorem Seq.same {K : PySem.W.Frag} {H H' : Hp} {b : Addr} {ns : List Int} (h : Seq K H b ns) (s : Same H H') : Seq K H' b ns := h.elim (fun h => .inl (s.seq h)) fun h => .inr (sqt_same s h)
theorem wo_at {ns : List Int} {f : Fm} (h : fok ns.length f) (h0 : ¬ f.1 = 0) : ∃ z, atI (ns.map V.int) (f.1 - 1) = some (.int z) ∧ wo ns f = z + f.2 := by
  obtain ⟨h1, h2⟩ := h
  obtain ⟨j, hj⟩ : ∃ j : Nat, f.1 - 1 = j := ⟨(f.1 - 1).toNat, by omega⟩
  have hl : j < ns.length := by omega
  refine ⟨ns[j], ?_, ?_⟩
  · rw [hj]
    exact ints_at hl
  · unfold wo
    rw [if_neg h0, hj, Int.toNat_natCast, List.getD_eq_getElem?_getD, List.getElem?_eq_getElem hl]
    rfl
section
variable {P : Program} {w : World} {K : PySem.W.Frag} {mg : PySem.Str → Option Value} {base : Heap} {C : Addr}
def spWorth (K : PySem.W.Frag) : Sp := fun vs H Q _ => ∃ (v : V) (b : Addr) (f : Fm) (ns : List Int), vs = [v, .ref b] ∧ Dp K H v (f2 f) ∧ Seq K H b ns ∧ fok ns.length f ∧ Q (.int (wo ns f)) H
theorem ok_worth_of (T : TxB mg) (D_worth_of : Df K mg "worth_of" s_worth_of ["form", "values"]) : FnOk P w K mg base CX0 1 D_worth_of.f D_worth_of.fd ["form", "values"] (spWorth K) := by
  refine D_worth_of.F.ok sc_worth_of (fun vs H Q E h => ?_) (fun cdv A outer s H vs Q E hr h => ?_)
  · obtain ⟨v, b, f, ns, rfl, _⟩ := h
    rfl
  · obtain ⟨v, b, f, ns, rfl, hv, hb, hf, q⟩ := h
    obtain ⟨t, v1, v2, rfl, ht, h1, h2⟩ := dp_inv2 hv
    cases dp_int_inv h1
    cases dp_int_inv h2
    rcases hb with hb | hb
    · refine ⟨_, (pss_cons (ps_asg (pv 0) (pg_tup (by rfl) (pgs_cons (pg_name (i := 2) sc_worth_of.nd rfl (.inl rfl)) (pgs_cons (pg_name (i := 3) sc_worth_of.nd rfl (.inl rfl)) pgs_nil))))
    (pss_one (ps_ret (pe_ifExp (pt_cmpR op_eq (pv 2) pe_int (nomark _)) (pv 3) (pe_op op_add (pe_ix ix_list (pv 1) (pe_op op_sub (pv 2) pe_int) (fun _ _ => rfl)) (pv 3)))))), ?_⟩
      refine ⟨_, rfl, t, _, rfl, ht, rfl, _, _, rfl, _, _, rfl, rfl, ?_⟩
      refine ⟨_, rfl, rfl, _, rfl, ite2 (fun e => ?_) (fun e => ?_)⟩ <;> rw [int_dec] at e
      · have e := of_decide_eq_true e
        have ew : wo ns f = f.2 := if_pos e
        rw [ew] at q
        exact ⟨_, rfl, q⟩
      · have e : ¬ f.1 = 0 := fun h => e (decide_eq_true h)
        obtain ⟨z, hz, ez⟩ := wo_at hf e
        rw [ez] at q
        exact ⟨_, rfl, _, rfl, _, _, rfl, rfl, b, _, _, _, rfl, rfl, hb, hz, _, rfl, _, _, rfl, rfl, q⟩
    · refine ⟨_, (pss_cons (ps_asg (pv 0) (pg_tup (by rfl) (pgs_cons (pg_name (i := 2) sc_worth_of.nd rfl (.inl rfl)) (pgs_cons (pg_name (i := 3) sc_worth_of.nd rfl (.inl rfl)) pgs_nil))))
    (pss_one (ps_ret (pe_ifExp (pt_cmpR op_eq (pv 2) pe_int (nomark _)) (pv 3) (pe_op op_add (pe_ix ix_tup (pv 1) (pe_op op_sub (pv 2) pe_int) (fun _ _ => rfl)) (pv 3)))))), ?_⟩
      refine ⟨_, rfl, t, _, rfl, ht, rfl, _, _, rfl, _, _, rfl, rfl, ?_⟩
      refine ⟨_, rfl, rfl, _, rfl, ite2 (fun e => ?_) (fun e => ?_)⟩ <;> rw [int_dec] at e
      · have e := of_decide_eq_true e
        have ew : wo ns f = f.2 := if_pos e
        rw [ew] at q
        exact ⟨_, rfl, q⟩
      · have e : ¬ f.1 = 0 := fun h => e (decide_eq_true h)
        obtain ⟨z, hz, ez⟩ := wo_at hf e
        rw [ez] at q
        exact ⟨_, rfl, _, rfl, _, _, rfl, rfl, b, _, _, _, rfl, rfl, hb, hz, _, rfl, _, _, rfl, rfl, q⟩
/-! ### the cells of a list, by index -/
def prAt (H : Hp) (x : V) : Int × Int := match x with
  | .ref t => match H t with
    | some (.tup [.int i, .int j]) => (i, j)
    | _ => (0, 0)
  | _ => (0, 0)
theorem prAt_eq {H : Hp} {t : Addr} {p : Int × Int} (h : H t = some (.tup [.int p.1, .int p.2])) : prAt H (.ref t) = p := by
  show (match H t with
    | some (.tup [.int i, .int j]) => (i, j)
    | _ => (0, 0)) = p
  rw [h]
structure KnD (P : Program) (w : World) (K : PySem.W.Frag) (C : Addr) (H : Hp) (p : Addr) (ls : List Ld) (cs : List Ce) : Prop where
  ex : ∃ (ad al ac at_ af ao : Addr) (m : Int) (xd xl xc xt xf : List V) (fnd : List (NestedKey × V)), KnAt P w K C H p ad al ac at_ af ao m xd xl xc xt xf cs fnd ∧ DpAll K H xl (ls.map Ld.enc)
theorem KnD.same {P : Program} {w : World} {K : PySem.W.Frag} {C : Addr} {H H' : Hp} {p : Addr} {ls : List Ld} {cs : List Ce} (k : KnD P w K C H p ls cs) (s : Same H H') : KnD P w K C H' p ls cs := by
  obtain ⟨ad, al, ac, at_, af, ao, m, xd, xl, xc, xt, xf, fnd, k, h⟩ := k.ex
  exact ⟨ad, al, ac, at_, af, ao, m, xd, xl, xc, xt, xf, fnd, k.same s, dpa_same s _ _ h⟩
def CsOk (m : Nat) (cs : List Ce) : Prop := ∀ c, c ∈ cs → c.ok m
def spByIndex (P : Program) (w : World) (K : PySem.W.Frag) (C : Addr) : Sp := fun vs H Q _ => ∃ (p b : Addr) (num : Nat) (ls : List Ld) (cs : List Ce) (ns : List Int), vs = [.ref p, .ref b, .int num] ∧ KnD P w K C H p ls cs ∧ Seq K H b ns ∧ CsOk ns.length cs ∧ cs.length ≤ 1000 ∧
  ∀ (q : Addr) (H' : Hp) (ys : List (Int × Int)) (xs : List V), Same H H' → H' q = some (.lst xs) → DpAll K H' xs (ys.map f2) → ys.Perm (prs cs ns num) → ys.Pairwise (fun x y => x.1 ≤ y.1) → Q (.ref q) H'
theorem ok_cells_by_index (T : TxK K mg C) (D_cells_by_index : Df K mg "_cells_by_index" s_cells_by_index ["known", "values", "number"]) (D_worth_of : Df K mg "worth_of" s_worth_of ["form", "values"]) (G_worth_of : FnOk P w K mg base CX0 1 D_worth_of.f D_worth_of.fd ["form", "values"] (spWorth K)) : FnOk P w K mg base CX0 2 D_cells_by_index.f D_cells_by_index.fd ["known", "values", "number"] (spByIndex P w K C) := by
  refine D_cells_by_index.F.ok sc_cells_by_index (fun vs H Q E h => ?_) (fun cdv A outer s H vs Q E hr h => ?_)
  · obtain ⟨p, b, num, ls, cs, ns, rfl, _⟩ := h
    rfl
  · obtain ⟨p, b, num, ls, cs, ns, rfl, kd, hb, ok, hcl, q⟩ := h
    refine ⟨_, (pss_cons (ps_setLc (i := 3) (own := [("which", 4), ("index", 5), ("value", 6)]) (g := gTup K 3 (gCons (gName 4) (gCons (gName 5) (gCons (gName 6) gNil)))) (by rfl) sc_cells_by_index.nd rfl rfl (sw_true rfl rfl rfl (by decide +kernel)) (pi_list (pe_fld (pv 0) rfl)) (blkOk_by (own := [("which", 4), ("index", 5), ("value", 6)]) (N := ["known", "values", "number", "cells", "which", "index", "value"]) (sc := defScope s_cells_by_index) (by decide +kernel)) (fun _ _ _ _ _ => pg_tup rfl (pgs_cons (pg_name (i := 4) sc_cells_by_index.nd rfl (Or.inl rfl)) (pgs_cons (pg_name (i := 5) sc_cells_by_index.nd rfl (Or.inl rfl)) (pgs_cons (pg_name (i := 6) sc_cells_by_index.nd rfl (Or.inl rfl)) pgs_nil)))) (fun _ _ _ _ _ => pts_one (pt_cmpR op_eq (pv 4) (pv 2) (nomark _))) (fun _ _ _ _ _ => (pe_tup (pa_cons (pe_call G_worth_of (hr.mono (by decide)) (by rfl) D_worth_of.g D_worth_of.F.kp D_worth_of.b .nil pass0 (pa_cons (pv 5) (pa_cons (pv 1) pa_nil))) (pa_cons (pe_call G_worth_of (hr.mono (by decide)) (by rfl) D_worth_of.g D_worth_of.F.kp D_worth_of.b .nil pass0 (pa_cons (pv 6) (pa_cons (pv 1) pa_nil))) pa_nil)))))
    (pss_one (ps_ret (pe_callB cr_sortedPO (by rfl) T.n_sorted (by decide +kernel) (pa_cons (pv 3) pa_nil))))), ?_⟩
    obtain ⟨ad, al, ac, at_, af, ao, m, xd, xl, xc, xt, xf, fnd, k, hx⟩ := kd.ex
    obtain ⟨dx, e⟩ := k.ob
    have hxl : xc.length = cs.length := by rw [dpa_len k.cx, List.length_map]
    refine ⟨_, rfl, p, C, dx, _, _, rfl, e, T.cl, T.nC, knF_c _ _ _ _ _ _ _, ac, rfl, ⟨_, SqL.of k.c⟩, fun D nD => ?_⟩
    refine lc_list (K := K) (a := ac) (xs := xc) (fun i G => Same H G ∧ ∃ ts : List Addr, G D = some (.lst (ts.map V.ref)) ∧ ts.length ≤ i ∧ Paired (fun (t : Addr) (p : Int × Int) => G t = some (.tup [.int p.1, .int p.2])) ts (prs (cs.take i) ns num)) ⟨same_new nD, [], upd_same, Nat.le_refl _, .nil⟩ (fun i G _ hP => SqL.of (hP.1 _ _ k.c)) (fun i x G hxi hP => ?_) (fun G hP => ?_)
    · obtain ⟨sG, ts, eD, hts, hpr⟩ := hP
      have hi : i < cs.length := by rw [← hxl]; exact (List.getElem?_eq_some_iff.mp hxi).1
      obtain ⟨v, g1, g2⟩ := dp_mem k.cx hi
      rw [hxi] at g1
      cases g1
      obtain ⟨t, v1, v2, v3, rfl, ht, w1, w2, w3⟩ := dp_inv3 (g2.same sG)
      cases dp_int_inv w1
      have hok := ok _ (List.getElem_mem hi)
      have htk : cs.take (i + 1) = cs.take i ++ [cs[i]] := List.take_succ_eq_append_getElem hi
      refine ⟨t, _, rfl, ht, rfl, _, _, rfl, _, _, rfl, _, _, rfl, rfl, rfl, ?_⟩
      refine ⟨_, rfl, _, rfl, rfl, _, rfl, ?_⟩
      rw [int_dec]
      refine ite2 (fun en => ?_) (fun en => ?_)
      · have en := of_decide_eq_true en
        have en' : cs[i].n = num := by omega
        refine ⟨_, rfl, _, rfl, _, b, cs[i].i, ns, rfl, w2, hb.same sG, hok.1, ?_⟩
        refine ⟨_, rfl, _, rfl, _, b, cs[i].v, ns, rfl, w3, hb.same sG, hok.2, ?_⟩
        refine ⟨by show (2 : Nat) ≤ sizeLine; decide, fun t2 nt2 => ?_⟩
        generalize hg : upd G t2 _ = G2
        obtain ⟨s2, e2⟩ := new_of nt2 hg
        have hDt : D ≠ t2 := ne_of_none eD nt2
        have eD2 := s2 _ _ eD
        refine ⟨_, eD2, ?_, same_mut (sG.trans s2) nD, ts ++ [t2], ?_, ?_, ?_⟩
        · rw [List.length_map]
          exact small_sz5 (by omega)
        · rw [upd_same, List.map_append]
          rfl
        · rw [List.length_append]
          exact Nat.succ_le_succ hts
        · rw [htk, prs_snoc, if_pos en']
          have ne : ∀ (t : Addr) (p : Int × Int), G2 t = some (.tup [.int p.1, .int p.2]) → upd G2 D (.lst (ts.map V.ref ++ [.ref t2])) t = some (.tup [.int p.1, .int p.2]) := fun t p h => (upd_ne (fun q => by
            rw [q, eD2] at h
            cases h)).trans h
          have mono : ∀ {as : List Addr} {bs : List (Int × Int)}, Paired (fun (t : Addr) (p : Int × Int) => G t = some (.tup [.int p.1, .int p.2])) as bs → Paired (fun (t : Addr) (p : Int × Int) => upd G2 D (.lst (ts.map V.ref ++ [.ref t2])) t = some (.tup [.int p.1, .int p.2])) (as ++ [t2]) (bs ++ [(wo ns cs[i].i, wo ns cs[i].v)]) := fun {as bs} h => by
            induction h with
            | nil => exact .cons (ne t2 _ e2) .nil
            | cons h1 h2 ih => exact .cons (ne _ _ (s2 _ _ h1)) ih
          exact mono hpr
      · have en' : ¬ cs[i].n = num := fun h => en (decide_eq_true (by rw [h]))
        rw [htk, prs_snoc, if_neg en', List.append_nil]
        exact ⟨sG, ts, eD, Nat.le_succ_of_le hts, hpr⟩
    · obtain ⟨sG, ts, eD, hts, hpr⟩ := hP
      rw [hxl, List.take_length] at hpr
      have all : ∀ {as : List Addr} {bs : List (Int × Int)}, Paired (fun (t : Addr) (p : Int × Int) => G t = some (.tup [.int p.1, .int p.2])) as bs → (as.map V.ref).map (prAt G) = bs ∧ ∀ x, x ∈ as.map V.ref → ∃ t, x = V.ref t ∧ G t = some (.tup [.int (prAt G x).1, .int (prAt G x).2]) := fun {as bs} h => by
        induction h with
        | nil => exact ⟨rfl, fun _ h => nomatch h⟩
        | @cons t p as bs h1 h2 ih =>
          have ep := prAt_eq h1
          refine ⟨?_, fun x hx => ?_⟩
          · rw [List.map_cons, List.map_cons, ep, ih.1]
          · rcases List.mem_cons.mp hx with rfl | hx
            · exact ⟨t, rfl, by rw [ep]; exact h1⟩
            · exact ih.2 x hx
      obtain ⟨a1, a2⟩ := all hpr
      refine ⟨_, rfl, D, _, prAt G, rfl, SqL.of eD, a2, fun ys q2 hs hst nq => ?_⟩
      have hperm : ys.Perm (ts.map V.ref) := hst.perm
      have s2 := same_new (o := .lst ys) nq
      have dall : ∀ zs : List V, (∀ z, z ∈ zs → z ∈ ts.map V.ref) → DpAll K (upd G q2 (.lst ys)) zs ((zs.map (prAt G)).map f2) := fun zs => by
        induction zs with
        | nil => exact fun _ => .nil
        | cons z r ih =>
          intro h
          obtain ⟨t, rfl, ht⟩ := a2 z (h z List.mem_cons_self)
          exact .cons (dp_tup2 (s2 _ _ ht) (.int _) (.int _)) (ih fun y hy => h y (List.mem_cons_of_mem _ hy))
      refine q q2 _ (ys.map (prAt G)) ys (sG.trans s2) upd_same (dall ys fun z hz => hperm.mem_iff.mp hz) ?_ ?_
      · rw [← a1]
        exact hperm.map _
      · refine List.pairwise_map.mpr (hs.imp fun {x y} h => ?_)
        have := SrtO.lexB_no.mp h
        omega
/-! ### one value -/
def spValueAt (P : Program) (w : World) (K : PySem.W.Frag) (C : Addr) : Sp := fun vs H Q _ => ∃ (p b : Addr) (num : Nat) (k : Int) (ls : List Ld) (cs : List Ce) (ns : List Int), vs = [.ref p, .ref b, .int num, .int k] ∧ KnD P w K C H p ls cs ∧ Seq K H b ns ∧ LsOk ns.length ls ∧ num < ls.length ∧ CsOk ns.length cs ∧ cs.length ≤ 1000 ∧
  ∀ (H' : Hp) (v : Int), Same H H' → TV ls ns cs num k v → Q (.int v) H'
theorem ok_value_at (T : TxK K mg C) (D_value_at : Df K mg "value_at" s_value_at ["known", "values", "number", "k"]) (D_worth_of : Df K mg "worth_of" s_worth_of ["form", "values"]) (D_cells_by_index : Df K mg "_cells_by_index" s_cells_by_index ["known", "values", "number"]) (G_worth_of : FnOk P w K mg base CX0 1 D_worth_of.f D_worth_of.fd ["form", "values"] (spWorth K)) (G_cells_by_index : FnOk P w K mg base CX0 2 D_cells_by_index.f D_cells_by_index.fd ["known", "values", "number"] (spByIndex P w K C)) : FnOk P w K mg base CX0 3 D_value_at.f D_value_at.fd ["known", "values", "number", "k"] (spValueAt P w K C) := by
  refine D_value_at.F.ok sc_value_at (fun vs H Q E h => ?_) (fun cdv A outer s H vs Q E hr h => ?_)
  · obtain ⟨p, b, num, k, ls, cs, ns, rfl, _⟩ := h
    rfl
  · obtain ⟨p, b, num, k, ls, cs, ns, rfl, kd, hb, lok, hnum, cok, hcl, q⟩ := h
    refine ⟨_, (pss_cons (ps_set (i := 4) sc_value_at.nd rfl (.inl rfl) (pe_ix ix_list (pe_fld (pv 0) rfl) (pv 2) (fun _ _ => rfl)))
    (pss_cons (ps_while PassesOwn.never (pt_cmpR op_eq (pe_ix ix_tup (pv 4) pe_int (fun _ _ => rfl)) pe_str (nomark _))
    (pss_cons (ps_if (pt_cmpR op_eq (pe_call G_worth_of (hr.mono (by decide)) (by rfl) D_worth_of.g D_worth_of.F.kp D_worth_of.b .nil pass0 (pa_cons (pe_ix ix_tup (pv 4) pe_int (fun _ _ => rfl)) (pa_cons (pv 1) pa_nil))) (pv 3) (nomark _))
    (pss_one (ps_ret (pe_call G_worth_of (hr.mono (by decide)) (by rfl) D_worth_of.g D_worth_of.F.kp D_worth_of.b .nil pass0 (pa_cons (pe_ix ix_tup (pv 4) pe_int (fun _ _ => rfl)) (pa_cons (pv 1) pa_nil)))))
    pss_nil)
    (pss_cons (ps_set (i := 2) sc_value_at.nd rfl (.inl rfl) (pe_ix ix_tup (pv 4) pe_int (fun _ _ => rfl)))
    (pss_one (ps_set (i := 4) sc_value_at.nd rfl (.inl rfl) (pe_ix ix_list (pe_fld (pv 0) rfl) (pv 2) (fun _ _ => rfl)))))))
    (pss_cons (ps_set (i := 5) sc_value_at.nd rfl (.inl rfl) pe_int)
    (pss_cons (ps_for PassesOwn.never rfl (pi_list (pe_call G_cells_by_index (hr.mono (by decide)) (by rfl) D_cells_by_index.g D_cells_by_index.F.kp D_cells_by_index.b .nil pass0 (pa_cons (pv 0) (pa_cons (pv 1) (pa_cons (pv 2) pa_nil))))) (pg_tup (by rfl) (pgs_cons (pg_name (i := 6) sc_value_at.nd rfl (.inl rfl)) (pgs_cons (pg_name (i := 7) sc_value_at.nd rfl (.inl rfl)) pgs_nil)))
    (pss_one (ps_if (pt_cmpR op_le (pv 6) (pv 3) (nomark _))
    (pss_one (ps_set (i := 5) sc_value_at.nd rfl (.inl rfl) (pv 7)))
    pss_nil)))
    (pss_one (ps_ret (pv 5))))))), ?_⟩
    obtain ⟨ad, al, ac, at_, af, ao, m, xd, xl, xc, xt, xf, fnd, kn, hx⟩ := kd.ex
    obtain ⟨dx, e⟩ := kn.ob
    have get : ∀ {j : Nat} {l : Ld}, ls[j]? = some l → ∃ v, xl[j]? = some v ∧ Dp K H v l.enc := fun {j l} h => dpa_get' hx (by rw [List.getElem?_map, h]; rfl)
    obtain ⟨v0, g0, d0⟩ := get (List.getElem?_eq_getElem hnum)
    refine ⟨_, rfl, p, C, dx, _, _, rfl, e, T.cl, T.nL, knF_l _ _ _ _ _ _ _, _, rfl, al, _, _, _, rfl, rfl, SqL.of kn.l, atI_nat g0, ?_⟩
    refine ⟨fun mm σ G => G = H ∧ ∃ (v : V) (l : Ld), σ = [some (.ref p), some (.ref b), some (.int mm), some (.int k), some v, none, none, none] ∧ ls[mm]? = some l ∧ Dp K H v l.enc ∧ WR ls ns num k = WR ls ns mm k, ⟨num, rfl, v0, _, rfl, List.getElem?_eq_getElem hnum, d0, rfl⟩, fun mm σ G hP => ?_⟩
    obtain ⟨rfl, v, l, rfl, hl, hv, hw⟩ := hP
    cases l with
    | wr o i u =>
      obtain ⟨t, v1, v2, v3, v4, rfl, ht, w1, w2, w3, w4⟩ := dp_inv4 hv
      cases dp_str_inv w1
      cases dp_int_inv w2
      obtain ⟨ho, oki, oku⟩ := lok _ _ hl
      rw [WR_wr lok hl] at hw
      refine ⟨_, rfl, t, _, _, _, rfl, rfl, ht, atI_nat (j := 0) rfl, rfl, _, rfl, iteT ⟨_, fun _ _ h => h, ?_⟩⟩
      refine ⟨_, rfl, t, _, _, _, rfl, rfl, ht, atI_nat (j := 2) rfl, _, rfl, v3, b, i, ns, rfl, w3, hb, oki, _, rfl, rfl, _, rfl, ?_⟩
      rw [int_dec]
      refine ite2 (fun en => ?_) (fun en => ?_)
      · have en := of_decide_eq_true en
        rw [if_pos en.symm] at hw
        refine ⟨_, rfl, t, _, _, _, rfl, rfl, ht, atI_nat (j := 3) rfl, _, rfl, v4, b, u, ns, rfl, w4, hb, oku, q _ _ (Same.refl _) ?_⟩
        unfold TV
        rw [hw]
      · have en : ¬ k = wo ns i := fun h => en (decide_eq_true h.symm)
        rw [if_neg en] at hw
        have hol : o < ls.length := by
          have := (List.getElem?_eq_some_iff.mp hl).1
          omega
        obtain ⟨v5, g5, d5⟩ := get (List.getElem?_eq_getElem hol)
        refine ⟨_, rfl, t, _, _, _, rfl, rfl, ht, atI_nat (j := 1) rfl, ?_⟩
        refine ⟨_, rfl, p, C, dx, _, _, rfl, e, T.cl, T.nL, knF_l _ _ _ _ _ _ _, _, rfl, al, _, _, _, rfl, rfl, SqL.of kn.l, atI_nat g5, ?_⟩
        exact ⟨o, ho, rfl, v5, _, rfl, List.getElem?_eq_getElem hol, d5, hw⟩
    | new ln =>
      obtain ⟨t, v1, v2, rfl, ht, w1, w2⟩ := dp_inv2 hv
      cases dp_str_inv w1
      rw [WR_new hl] at hw
      refine ⟨_, rfl, t, _, _, _, rfl, rfl, ht, atI_nat (j := 0) rfl, rfl, _, rfl, iteF ?_⟩
      refine ⟨_, rfl, _, rfl, _, rfl, p, b, mm, ls, cs, ns, rfl, kd, hb, cok, hcl, fun q2 H2 ys xs s2 e2 hxs hperm hsrt => ?_⟩
      refine ⟨q2, rfl, ⟨_, SqL.of e2⟩, ?_⟩
      have hyl : xs.length = ys.length := by rw [dpa_len hxs, List.length_map]
      refine for_list (K := K) (a := q2) (xs := xs) (fun i σ G2 => G2 = H2 ∧ ∃ (val : Int) (y6 y7 : Option V), σ = [some (.ref p), some (.ref b), some (.int mm), some (.int k), some (.ref t), some (.int val), y6, y7] ∧ IsB (ys.take i) k val) ⟨rfl, 0, _, _, rfl, IsB_nil k⟩ (fun i σ G2 _ hP => ?_) (fun i x σ G2 hxi hP => ?_) (fun σ G2 hP => ?_)
      · obtain ⟨rfl, _⟩ := hP
        exact SqL.of e2
      · obtain ⟨rfl, val, y6, y7, rfl, isb⟩ := hP
        have hi : i < ys.length := by rw [← hyl]; exact (List.getElem?_eq_some_iff.mp hxi).1
        obtain ⟨v, g1, g2⟩ := dp_mem hxs hi
        rw [hxi] at g1
        cases g1
        obtain ⟨t2, v1, v2, rfl, ht2, w3, w4⟩ := dp_inv2 g2
        cases dp_int_inv w3
        cases dp_int_inv w4
        have ey : ys[i]? = some (ys[i].1, ys[i].2) := List.getElem?_eq_getElem hi
        obtain ⟨s1, _, s3⟩ := srt_split hsrt ey
        have up := IsB_up (w := ys[i].2) s1 isb
        rw [← s3] at up
        refine ⟨t2, _, rfl, ht2, rfl, _, _, rfl, _, _, rfl, rfl, ?_⟩
        refine ⟨_, rfl, _, rfl, _, _, rfl, rfl, _, rfl, ite2 (fun en => ?_) (fun en => ?_)⟩
        · have en := of_decide_eq_true en
          rw [if_pos en] at up
          exact ⟨_, rfl, rfl, _, _, _, rfl, up⟩
        · have en : ¬ ys[i].1 ≤ k := fun h => en (decide_eq_true h)
          rw [if_neg en] at up
          exact ⟨rfl, _, _, _, rfl, up⟩
      · obtain ⟨rfl, val, y6, y7, rfl, isb⟩ := hP
        rw [hyl, List.take_length] at isb
        refine ⟨_, rfl, q _ _ s2 ?_⟩
        unfold TV
        rw [hw]
        exact IsB_perm hperm isb
end
end SW

namespace SW
open PySem PySem.Spec PyProof.Rows L2
abbrev s_unknown_content : Stmt := topS 7
theorem sc_unknown_content : FnScope ["cells", "length", "content_now", "value", "at", "worth"] ["cells", "length"] (defScope s_unknown_content) := ⟨rfl, rfl, rfl, by decide +kernel, rfl, by decide +kernel, by decide +kernel⟩

abbrev s_content : Stmt := topS 5
theorem sc_content : FnScope ["known", "values", "number", "length", "writes", "made", "cells", "at", "worth"] ["known", "values", "number"] (defScope s_content) := ⟨rfl, rfl, rfl, by decide +kernel, rfl, by decide +kernel, by decide +kernel⟩

theorem noLs_f2 : ∀ ws : List (Int × Int), noLs (ws.map f2) = true
  | [] => rfl
  | _ :: r => noLs_f2 r
theorem rep_ints (n : Nat) (v : Int) : (List.replicate n [V.int v]).flatten = (List.replicate n v).map V.int := by
  induction n with
  | zero => rfl
  | succ n ih =>
    rw [List.replicate_succ, List.flatten_cons, ih, List.replicate_succ]
    rfl
/-! ### the written values, from above; the new list below -/
def wlF (ls : List Ld) (vs : List Int) : Nat → Nat → List (Int × Int)
  | 0, _ => []
  | f + 1, num => match ls[num]? with
    | some (.wr o i v) => (wo vs i, wo vs v) :: wlF ls vs f o
    | _ => []
def WL (ls : List Ld) (vs : List Int) (num : Nat) : List (Int × Int) := wlF ls vs (num + 1) num
theorem wlF_fuel {m : Nat} {ls : List Ld} (vs : List Int) (h : LsOk m ls) : ∀ (f g num : Nat), num < f → num < g → wlF ls vs f num = wlF ls vs g num
  | 0, _, _, h1, _ => absurd h1 (Nat.not_lt_zero _)
  | _, 0, _, _, h2 => absurd h2 (Nat.not_lt_zero _)
  | f + 1, g + 1, num, h1, h2 => by
    unfold wlF
    cases e : ls[num]? with
    | none => rfl
    | some l =>
      cases l with
      | new l => rfl
      | wr o i v =>
        have hk := (h num _ e).1
        dsimp only
        rw [wlF_fuel vs h f g o (by omega) (by omega)]
theorem WL_new {ls : List Ld} {vs : List Int} {num : Nat} {l : Fm} (e : ls[num]? = some (.new l)) : WL ls vs num = [] := by
  unfold WL wlF
  rw [e]
theorem WL_wr {m : Nat} {ls : List Ld} {vs : List Int} {num o : Nat} {i v : Fm} (h : LsOk m ls) (e : ls[num]? = some (.wr o i v)) : WL ls vs num = (wo vs i, wo vs v) :: WL ls vs o := by
  have hk := (h num _ e).1
  unfold WL
  rw [wlF, e]
  dsimp only
  rw [wlF_fuel vs h num (o + 1) o hk (Nat.lt_succ_self _)]
def bsF (ls : List Ld) : Nat → Nat → Nat
  | 0, num => num
  | f + 1, num => match ls[num]? with
    | some (.wr o _ _) => bsF ls f o
    | _ => num
def BS (ls : List Ld) (num : Nat) : Nat := bsF ls (num + 1) num
theorem bsF_fuel {m : Nat} {ls : List Ld} (h : LsOk m ls) : ∀ (f g num : Nat), num < f → num < g → bsF ls f num = bsF ls g num
  | 0, _, _, h1, _ => absurd h1 (Nat.not_lt_zero _)
  | _, 0, _, _, h2 => absurd h2 (Nat.not_lt_zero _)
  | f + 1, g + 1, num, h1, h2 => by
    unfold bsF
    cases e : ls[num]? with
    | none => rfl
    | some l =>
      cases l with
      | new l => rfl
      | wr o i v =>
        have hk := (h num _ e).1
        exact bsF_fuel h f g o (by omega) (by omega)
theorem BS_new {ls : List Ld} {num : Nat} {l : Fm} (e : ls[num]? = some (.new l)) : BS ls num = num := by
  unfold BS bsF
  rw [e]
theorem BS_wr {m : Nat} {ls : List Ld} {num o : Nat} {i v : Fm} (h : LsOk m ls) (e : ls[num]? = some (.wr o i v)) : BS ls num = BS ls o := by
  have hk := (h num _ e).1
  unfold BS
  rw [bsF, e]
  exact bsF_fuel h num (o + 1) o hk (Nat.lt_succ_self _)
def byW (ws : List (Int × Int)) (b : Nat) (k : Int) : Sum Int Nat := match ws.find? (fun p => decide (p.1 = k)) with
  | some p => .inl p.2
  | none => .inr b
theorem WR_WL {m : Nat} {ls : List Ld} {vs : List Int} (h : LsOk m ls) (k : Int) : ∀ (n num : Nat), num ≤ n → num < ls.length → WR ls vs num k = byW (WL ls vs num) (BS ls num) k
  | n, num, hn, hl => by
    have g := List.getElem?_eq_getElem hl
    cases d : ls[num] with
    | new l =>
      rw [d] at g
      rw [WR_new g, WL_new g, BS_new g]
      rfl
    | wr o i v =>
      rw [d] at g
      have hk := (h num _ g).1
      rw [WR_wr h g, WL_wr h g, BS_wr h g]
      by_cases hw : k = wo vs i
      · rw [if_pos hw]
        unfold byW
        rw [List.find?_cons_of_pos (by exact decide_eq_true hw.symm)]
      · rw [if_neg hw]
        cases n with
        | zero => omega
        | succ n =>
          rw [WR_WL h k n o (by omega) (by omega)]
          unfold byW
          rw [List.find?_cons_of_neg (by intro q; exact hw (of_decide_eq_true q).symm)]
theorem WL_len {m : Nat} {ls : List Ld} {vs : List Int} (h : LsOk m ls) : ∀ (n num : Nat), num ≤ n → num < ls.length → (WL ls vs num).length ≤ num
  | n, num, hn, hl => by
    have g := List.getElem?_eq_getElem hl
    cases d : ls[num] with
    | new l =>
      rw [d] at g
      rw [WL_new g]
      exact Nat.zero_le _
    | wr o i v =>
      rw [d] at g
      have hk := (h num _ g).1
      rw [WL_wr h g]
      cases n with
      | zero => omega
      | succ n =>
        have := WL_len (vs := vs) h n o (by omega) (by omega)
        rw [List.length_cons]
        omega
/-- one written value, where it is inside -/
def stw (L : Int) (p : Int × Int) (c : List Int) : List Int := if 0 ≤ p.1 ∧ p.1 < L then c.set p.1.toNat p.2 else c
def apW (L : Int) : List (Int × Int) → List Int → List Int
  | [], c => c
  | p :: r, c => stw L p (apW L r c)
theorem apW_len (L : Int) (ws : List (Int × Int)) (c : List Int) : (apW L ws c).length = c.length := by
  induction ws with
  | nil => rfl
  | cons p r ih =>
    show (stw L p (apW L r c)).length = _
    unfold stw
    split
    · rw [List.length_set, ih]
    · exact ih
theorem apW_get (L : Int) (ws : List (Int × Int)) (c : List Int) (hc : (c.length : Int) = L) (j : Nat) (hj : j < c.length) : (apW L ws c).getD j 0 = match ws.find? (fun p => decide (p.1 = (j : Int))) with
    | some p => p.2
    | none => c.getD j 0 := by
  induction ws with
  | nil => rfl
  | cons p r ih =>
    show (stw L p (apW L r c)).getD j 0 = _
    have hl := apW_len L r c
    by_cases h : p.1 = (j : Int)
    · rw [List.find?_cons_of_pos (by exact decide_eq_true h)]
      unfold stw
      rw [if_pos ⟨by omega, by omega⟩, h, Int.toNat_natCast, List.getD_eq_getElem?_getD, List.getElem?_set_self (by omega)]
      rfl
    · rw [List.find?_cons_of_neg (by intro q; exact h (of_decide_eq_true q)), ← ih]
      unfold stw
      split
      · rename_i hb
        rw [List.getD_eq_getElem?_getD, List.getElem?_set_ne (by omega), ← List.getD_eq_getElem?_getD]
      · rfl
section
variable {P : Program} {w : World} {K : PySem.W.Frag} {mg : PySem.Str → Option Value} {base : Heap} {C : Addr}
def spLength (P : Program) (w : World) (K : PySem.W.Frag) (C : Addr) : Sp := fun vs H Q _ => ∃ (p : Addr) (num m : Nat) (ls : List Ld) (cs : List Ce), vs = [.ref p, .int num] ∧ KnD P w K C H p ls cs ∧ LsOk m ls ∧ num < ls.length ∧ ∀ v, Dp K H v (f2 (LN ls num)) → Q v H
theorem ok_length {f : Addr} {fd : FuncData} (F : Fun K "length" "Known.length" s_length f fd) (T : TxK K mg C) : FnOk P w K mg base CX0 1 f fd ["self", "number"] (spLength P w K C) := by
  refine F.ok sc_length (fun vs H Q E h => ?_) (fun cdv A outer s H vs Q E hr h => ?_)
  · obtain ⟨p, num, m, ls, cs, rfl, _⟩ := h
    rfl
  · obtain ⟨p, num, m, ls, cs, rfl, kd, lok, hnum, q⟩ := h
    refine ⟨_, pss_cons (ps_set (i := 2) sc_length.nd rfl (.inl rfl) (pe_ix ix_list (pe_fld (pv 0) rfl) (pv 1) (fun _ _ => rfl)))
      (pss_cons (ps_while PassesOwn.never (pt_cmpR op_eq (pe_ix ix_tup (pv 2) pe_int (fun _ _ => rfl)) pe_str (nomark _)) (pss_one (ps_set (i := 2) sc_length.nd rfl (.inl rfl) (pe_ix ix_list (pe_fld (pv 0) rfl) (pe_ix ix_tup (pv 2) pe_int (fun _ _ => rfl)) (fun _ _ => rfl)))))
      (pss_one (ps_ret (pe_ix ix_tup (pv 2) pe_int (fun _ _ => rfl))))), ?_⟩
    obtain ⟨ad, al, ac, at_, af, ao, mm, xd, xl, xc, xt, xf, fnd, kn, hx⟩ := kd.ex
    obtain ⟨dx, e⟩ := kn.ob
    have get : ∀ {j : Nat} {l : Ld}, ls[j]? = some l → ∃ v, xl[j]? = some v ∧ Dp K H v l.enc := fun {j l} h => dpa_get' hx (by rw [List.getElem?_map, h]; rfl)
    obtain ⟨v0, g0, d0⟩ := get (List.getElem?_eq_getElem hnum)
    refine ⟨_, rfl, p, C, dx, _, _, rfl, e, T.cl, T.nL, knF_l _ _ _ _ _ _ _, _, rfl, al, _, _, _, rfl, rfl, SqL.of kn.l, atI_nat g0, ?_⟩
    refine ⟨fun j σ G => G = H ∧ ∃ (v : V) (l : Ld), σ = [some (.ref p), some (.int num), some v] ∧ ls[j]? = some l ∧ Dp K H v l.enc ∧ LN ls num = LN ls j, ⟨num, rfl, v0, _, rfl, List.getElem?_eq_getElem hnum, d0, rfl⟩, fun j σ G hP => ?_⟩
    obtain ⟨rfl, v, l, rfl, hl, hv, hw⟩ := hP
    cases l with
    | wr o i u =>
      obtain ⟨t, v1, v2, v3, v4, rfl, ht, w1, w2, w3, w4⟩ := dp_inv4 hv
      cases dp_str_inv w1
      cases dp_int_inv w2
      obtain ⟨ho, oki, oku⟩ := lok _ _ hl
      rw [LN_wr lok hl] at hw
      have hol : o < ls.length := by
        have := (List.getElem?_eq_some_iff.mp hl).1
        omega
      obtain ⟨v5, g5, d5⟩ := get (List.getElem?_eq_getElem hol)
      refine ⟨_, rfl, t, _, _, _, rfl, rfl, ht, atI_nat (j := 0) rfl, rfl, _, rfl, iteT ⟨_, fun _ _ h => h, ?_⟩⟩
      refine ⟨_, rfl, p, C, dx, _, _, rfl, e, T.cl, T.nL, knF_l _ _ _ _ _ _ _, _, rfl, t, _, _, _, rfl, rfl, ht, atI_nat (j := 1) rfl, al, _, _, _, rfl, rfl, SqL.of kn.l, atI_nat g5, ?_⟩
      exact ⟨o, ho, rfl, v5, _, rfl, List.getElem?_eq_getElem hol, d5, hw⟩
    | new ln =>
      obtain ⟨t, v1, v2, rfl, ht, w1, w2⟩ := dp_inv2 hv
      cases dp_str_inv w1
      rw [LN_new hl] at hw
      rw [hw] at q
      exact ⟨_, rfl, t, _, _, _, rfl, rfl, ht, atI_nat (j := 0) rfl, rfl, _, rfl, iteF ⟨_, rfl, t, _, _, _, rfl, rfl, ht, atI_nat (j := 1) rfl, q _ w2⟩⟩
def spUnknown (K : PySem.W.Frag) : Sp := fun vs H Q _ => ∃ (a : Addr) (L : Int) (xs : List V) (ys : List (Int × Int)), vs = [.ref a, .int L] ∧ H a = some (.lst xs) ∧ DpAll K H xs (ys.map f2) ∧ ys.Pairwise (fun x y => x.1 ≤ y.1) ∧ ys.length ≤ 1000 ∧ (∀ p, p ∈ ys → -1000 ≤ p.1) ∧ 0 ≤ L ∧ L ≤ 1000 ∧
  ∀ (q : Addr) (H' : Hp) (c : List Int), Same H H' → H q = none → H' q = some (.lst (c.map V.int)) → (c.length : Int) = L → (∀ j : Nat, (j : Int) < L → IsB ys j (c.getD j 0)) → Q (.ref q) H'
theorem ok_unknown_content (T : TxB mg) (D_unknown_content : Df K mg "_unknown_content" s_unknown_content ["cells", "length"]) : FnOk P w K mg base CX0 1 D_unknown_content.f D_unknown_content.fd ["cells", "length"] (spUnknown K) := by
  refine D_unknown_content.F.ok sc_unknown_content (fun vs H Q E h => ?_) (fun cdv A outer s H vs Q E hr h => ?_)
  · obtain ⟨a, L, xs, ys, rfl, _⟩ := h
    rfl
  · obtain ⟨a, L, xs, ys, rfl, ha, hxs, hsrt, hyl, hbd, hL0, hL1, q⟩ := h
    refine ⟨_, (pss_cons (ps_set (i := 2) sc_unknown_content.nd rfl (.inl rfl) (pe_lst pa_nil))
    (pss_cons (ps_set (i := 3) sc_unknown_content.nd rfl (.inl rfl) pe_int)
    (pss_cons (ps_for PassesOwn.never rfl (pi_list (pv 0)) (pg_tup (by rfl) (pgs_cons (pg_name (i := 4) sc_unknown_content.nd rfl (.inl rfl)) (pgs_cons (pg_name (i := 5) sc_unknown_content.nd rfl (.inl rfl)) pgs_nil)))
    (pss_cons (ps_expr (pe_bm PySem.F.plainAttrs_list PySem.F.slot_list_extend PySem.F.type_list_extend mt_extend (pv 2) (pa_cons (pe_op op_rep (pe_lst (pa_cons (pv 3) pa_nil)) (pe_op op_sub (pe_callB (call_min2 rfl) (by rfl) T.n_min (by decide +kernel) (pa_cons (pv 4) (pa_cons (pv 1) pa_nil))) (pe_callB call_len_seq (by rfl) T.n_len PySem.boot_len (pa_cons (pv 2) pa_nil)))) pa_nil)))
    (pss_one (ps_set (i := 3) sc_unknown_content.nd rfl (.inl rfl) (pv 5)))))
    (pss_cons (ps_expr (pe_bm PySem.F.plainAttrs_list PySem.F.slot_list_extend PySem.F.type_list_extend mt_extend (pv 2) (pa_cons (pe_op op_rep (pe_lst (pa_cons (pv 3) pa_nil)) (pe_op op_sub (pv 1) (pe_callB call_len_seq (by rfl) T.n_len PySem.boot_len (pa_cons (pv 2) pa_nil)))) pa_nil)))
    (pss_one (ps_ret (pv 2))))))), ?_⟩
    have hxl : xs.length = ys.length := by rw [dpa_len hxs, List.length_map]
    refine ⟨Nat.zero_le _, fun D nD => ?_⟩
    refine ⟨_, rfl, a, rfl, ⟨_, SqL.of (same_new nD _ _ ha)⟩, ?_⟩
    refine for_list (K := K) (a := a) (xs := xs) (fun i σ G => ∃ (c : List Int) (v : Int) (y4 y5 : Option V), σ = [some (.ref a), some (.int L), some (.ref D), some (.int v), y4, y5] ∧ Same H G ∧ G D = some (.lst (c.map V.int)) ∧ Lay ys L i c v) ⟨[], 0, _, _, rfl, same_new nD, upd_same, lay_nil hL0⟩ (fun i σ G _ hP => ?_) (fun i x σ G hxi hP => ?_) (fun σ G hP => ?_)
    · obtain ⟨_, _, _, _, _, s, _⟩ := hP
      exact SqL.of (s _ _ ha)
    · obtain ⟨c, v, y4, y5, rfl, sG, eD, lay⟩ := hP
      have hi : i < ys.length := by rw [← hxl]; exact (List.getElem?_eq_some_iff.mp hxi).1
      obtain ⟨v0, g1, g2⟩ := dp_mem hxs hi
      rw [hxi] at g1
      cases g1
      obtain ⟨t2, v1, v2, rfl, ht2, w3, w4⟩ := dp_inv2 (g2.same sG)
      cases dp_int_inv w3
      cases dp_int_inv w4
      have ey : ys[i]? = some (ys[i].1, ys[i].2) := List.getElem?_eq_getElem hi
      have step := lay_step hsrt ey lay
      have hb := hbd _ (List.getElem_mem hi)
      have hcl := lay.len
      refine ⟨t2, _, rfl, ht2, rfl, _, _, rfl, _, _, rfl, rfl, ?_⟩
      refine ⟨_, rfl, .inl ⟨rfl, _, SqL.of eD⟩, ?_⟩
      refine ⟨_, rfl, by show (1 : Nat) ≤ sizeLine; decide, fun p1 n1 => ?_⟩
      generalize hg : upd G p1 _ = G1
      obtain ⟨s1, e1⟩ := new_of n1 hg
      refine ⟨_, rfl, _, rfl, _, _, rfl, _, rfl, D, _, rfl, .inl (SqL.of (s1 _ _ eD)), _, _, rfl, rfl, ?_⟩
      rw [List.length_map]
      have hbig : (1 : Nat) * ((if L < ys[i].1 then L else ys[i].1) - (c.length : Int)).toNat ≤ 1000 := by
        split <;> omega
      refine ⟨p1, _, _, rfl, rfl, e1, by split <;> omega, by split <;> omega, Nat.le_trans hbig (by decide), fun p2 n2 => ?_⟩
      rw [rep_ints]
      generalize hg : upd G1 p2 _ = G2
      obtain ⟨s2, e2⟩ := new_of n2 hg
      have eD2 := s2 _ _ (s1 _ _ eD)
      refine ⟨D, p2, _, _, rfl, rfl, eD2, e2, ?_, ?_⟩
      · rw [List.length_map, List.length_map, List.length_replicate]
        refine sz5 ?_
        have : ((if L < ys[i].1 then L else ys[i].1) - (c.length : Int)).toNat ≤ 1000 := by omega
        omega
      · refine ⟨_, rfl, _, _, _, _, rfl, same_mut (sG.trans (s1.trans s2)) nD, ?_, step⟩
        rw [upd_same, List.map_append]
    · obtain ⟨c, v, y4, y5, rfl, sG, eD, lay⟩ := hP
      obtain ⟨l1, l2⟩ := lay_end (by omega) lay
      have hcl := lay.len
      refine ⟨_, rfl, .inl ⟨rfl, _, SqL.of eD⟩, ?_⟩
      refine ⟨_, rfl, by show (1 : Nat) ≤ sizeLine; decide, fun p1 n1 => ?_⟩
      generalize hg : upd G p1 _ = G1
      obtain ⟨s1, e1⟩ := new_of n1 hg
      refine ⟨_, rfl, _, rfl, D, _, rfl, .inl (SqL.of (s1 _ _ eD)), _, _, rfl, rfl, ?_⟩
      rw [List.length_map]
      refine ⟨p1, _, _, rfl, rfl, e1, by omega, by omega, Nat.le_trans (show (1 : Nat) * (L - (c.length : Int)).toNat ≤ 1000 by omega) (by decide), fun p2 n2 => ?_⟩
      rw [rep_ints]
      generalize hg : upd G1 p2 _ = G2
      obtain ⟨s2, e2⟩ := new_of n2 hg
      have eD2 := s2 _ _ (s1 _ _ eD)
      refine ⟨D, p2, _, _, rfl, rfl, eD2, e2, ?_, ?_⟩
      · rw [List.length_map, List.length_map, List.length_replicate]
        exact sz5 (by omega)
      · refine ⟨_, rfl, q D _ _ (same_mut (sG.trans (s1.trans s2)) nD) nD ?_ l1 l2⟩
        rw [upd_same, List.map_append]
def spContent (P : Program) (w : World) (K : PySem.W.Frag) (C : Addr) : Sp := fun vs H Q _ => ∃ (p b : Addr) (num : Nat) (ls : List Ld) (cs : List Ce) (ns : List Int), vs = [.ref p, .ref b, .int num] ∧ KnD P w K C H p ls cs ∧ Seq K H b ns ∧ LsOk ns.length ls ∧ num < ls.length ∧ ls.length ≤ 1000 ∧ CsOk ns.length cs ∧ cs.length ≤ 1000 ∧ (∀ c, c ∈ cs → -1000 ≤ wo ns c.i) ∧ 0 ≤ wo ns (LN ls num) ∧ wo ns (LN ls num) ≤ 1000 ∧
  ∀ (q : Addr) (H' : Hp) (c : List Int), Same H H' → H q = none → H' q = some (.lst (c.map V.int)) → (c.length : Int) = wo ns (LN ls num) → (∀ j : Nat, j < c.length → TV ls ns cs num j (c.getD j 0)) → Q (.ref q) H'
theorem ok_content (T : TxK K mg C) (D_content : Df K mg "content" s_content ["known", "values", "number"]) (D_worth_of : Df K mg "worth_of" s_worth_of ["form", "values"]) (D_cells_by_index : Df K mg "_cells_by_index" s_cells_by_index ["known", "values", "number"]) (D_unknown_content : Df K mg "_unknown_content" s_unknown_content ["cells", "length"]) (G_worth_of : FnOk P w K mg base CX0 1 D_worth_of.f D_worth_of.fd ["form", "values"] (spWorth K)) (G_cells_by_index : FnOk P w K mg base CX0 2 D_cells_by_index.f D_cells_by_index.fd ["known", "values", "number"] (spByIndex P w K C)) (G_unknown_content : FnOk P w K mg base CX0 1 D_unknown_content.f D_unknown_content.fd ["cells", "length"] (spUnknown K))
    {fL : Addr} {fdL : FuncData} (m_length : Meth K C "length" fL) (G_length : FnOk P w K mg base CX0 1 fL fdL ["self", "number"] (spLength P w K C)) (b_length : Binds K fdL ["self", "number"] []) : FnOk P w K mg base CX0 3 D_content.f D_content.fd ["known", "values", "number"] (spContent P w K C) := by
  refine D_content.F.ok sc_content (fun vs H Q E h => ?_) (fun cdv A outer s H vs Q E hr h => ?_)
  · obtain ⟨p, b, num, ls, cs, ns, rfl, _⟩ := h
    rfl
  · obtain ⟨p, b, num, ls, cs, ns, rfl, kd, hb, lok, hnum, hll, cok, hcl, hbd, hL0, hL1, q⟩ := h
    refine ⟨_, (pss_cons (ps_set (i := 3) sc_content.nd rfl (.inl rfl) (pe_call G_worth_of (hr.mono (by decide)) (by rfl) D_worth_of.g D_worth_of.F.kp D_worth_of.b .nil pass0 (pa_cons (pe_meth (pv 0) T.cl m_length G_length (hr.mono (by decide)) b_length .nil pass0 (pa_cons (pv 2) pa_nil)) (pa_cons (pv 1) pa_nil))))
    (pss_cons (ps_set (i := 4) sc_content.nd rfl (.inl rfl) (pe_lst pa_nil))
    (pss_cons (ps_set (i := 5) sc_content.nd rfl (.inl rfl) (pe_ix ix_list (pe_fld (pv 0) rfl) (pv 2) (fun _ _ => rfl)))
    (pss_cons (ps_while PassesOwn.never (pt_cmpR op_eq (pe_ix ix_tup (pv 5) pe_int (fun _ _ => rfl)) pe_str (nomark _))
    (pss_cons (ps_expr (pe_bm PySem.F.plainAttrs_list PySem.F.slot_list_append PySem.F.type_list_append mt_append (pv 4) (pa_cons (pe_tup (pa_cons (pe_call G_worth_of (hr.mono (by decide)) (by rfl) D_worth_of.g D_worth_of.F.kp D_worth_of.b .nil pass0 (pa_cons (pe_ix ix_tup (pv 5) pe_int (fun _ _ => rfl)) (pa_cons (pv 1) pa_nil))) (pa_cons (pe_call G_worth_of (hr.mono (by decide)) (by rfl) D_worth_of.g D_worth_of.F.kp D_worth_of.b .nil pass0 (pa_cons (pe_ix ix_tup (pv 5) pe_int (fun _ _ => rfl)) (pa_cons (pv 1) pa_nil))) pa_nil))) pa_nil)))
    (pss_cons (ps_set (i := 2) sc_content.nd rfl (.inl rfl) (pe_ix ix_tup (pv 5) pe_int (fun _ _ => rfl)))
    (pss_one (ps_set (i := 5) sc_content.nd rfl (.inl rfl) (pe_ix ix_list (pe_fld (pv 0) rfl) (pv 2) (fun _ _ => rfl)))))))
    (pss_cons (ps_set (i := 6) sc_content.nd rfl (.inl rfl) (pe_call G_unknown_content (hr.mono (by decide)) (by rfl) D_unknown_content.g D_unknown_content.F.kp D_unknown_content.b .nil pass0 (pa_cons (pe_call G_cells_by_index (hr.mono (by decide)) (by rfl) D_cells_by_index.g D_cells_by_index.F.kp D_cells_by_index.b .nil pass0 (pa_cons (pv 0) (pa_cons (pv 1) (pa_cons (pv 2) pa_nil)))) (pa_cons (pv 3) pa_nil))))
    (pss_cons (ps_for PassesOwn.never rfl (pi_reversed (by rfl) T.n_reversed (pa_cons (pv 4) pa_nil)) (pg_tup (by rfl) (pgs_cons (pg_name (i := 7) sc_content.nd rfl (.inl rfl)) (pgs_cons (pg_name (i := 8) sc_content.nd rfl (.inl rfl)) pgs_nil)))
    (pss_one (ps_if (pt_chain op_le op_lt pe_int (pv 7) (pv 3))
    (pss_one (ps_asg (pv 8) (pg_sub (pv 6) (pv 7) set_list)))
    pss_nil)))
    (pss_one (ps_ret (pv 6))))))))), ?_⟩
    obtain ⟨ad, al, ac, at_, af, ao, m, xd, xl, xc, xt, xf, fnd, kn, hx⟩ := kd.ex
    obtain ⟨dx, e⟩ := kn.ob
    have get : ∀ {j : Nat} {l : Ld}, ls[j]? = some l → ∃ v, xl[j]? = some v ∧ Dp K H v l.enc := fun {j l} h => dpa_get' hx (by rw [List.getElem?_map, h]; rfl)
    obtain ⟨v0, g0, d0⟩ := get (List.getElem?_eq_getElem hnum)
    refine ⟨_, rfl, p, dx, _, rfl, e, knF_no _ _ _ _ _ _ _ (by decide +kernel), _, rfl, p, num, ns.length, ls, cs, rfl, kd, lok, hnum, fun vL hvL => ?_⟩
    refine ⟨_, rfl, vL, b, LN ls num, ns, rfl, hvL, hb, LN_ok lok num num (Nat.le_refl _) hnum, ?_⟩
    generalize hLe : wo ns (LN ls num) = L at hL0 hL1 q
    refine ⟨Nat.zero_le _, fun aw naw => ?_⟩
    generalize hg : upd H aw _ = H1
    obtain ⟨s1, e1⟩ := new_of naw hg
    refine ⟨_, rfl, p, C, dx, _, _, rfl, s1 _ _ e, T.cl, T.nL, knF_l _ _ _ _ _ _ _, _, rfl, al, _, _, _, rfl, rfl, SqL.of (s1 _ _ kn.l), atI_nat g0, ?_⟩
    refine ⟨fun mm σ G => Same H G ∧ ∃ (v : V) (l : Ld) (ws : List (Int × Int)) (xs : List V), σ = [some (.ref p), some (.ref b), some (.int mm), some (.int L), some (.ref aw), some v, none, none, none] ∧ ls[mm]? = some l ∧ Dp K G v l.enc ∧ G aw = some (.lst xs) ∧ DpAll K G xs (ws.map f2) ∧ WL ls ns num = ws ++ WL ls ns mm ∧ BS ls num = BS ls mm ∧ mm + ws.length ≤ num,
      ⟨num, s1, v0, _, [], [], rfl, List.getElem?_eq_getElem hnum, d0.same s1, e1, .nil, rfl, rfl, Nat.le_refl _⟩, fun mm σ G hP => ?_⟩
    obtain ⟨sG, v, l, ws, xs, rfl, hl, hv, eW, hW, hwl, hbs, hmm⟩ := hP
    have hwsl : xs.length = ws.length := by rw [dpa_len hW, List.length_map]
    cases l with
    | wr o i u =>
      obtain ⟨t, v1, v2, v3, v4, rfl, ht, w1, w2, w3, w4⟩ := dp_inv4 hv
      cases dp_str_inv w1
      cases dp_int_inv w2
      obtain ⟨ho, oki, oku⟩ := lok _ _ hl
      rw [WL_wr lok hl] at hwl
      rw [BS_wr lok hl] at hbs
      have hol : o < ls.length := by
        have := (List.getElem?_eq_some_iff.mp hl).1
        omega
      obtain ⟨v5, g5, d5⟩ := get (List.getElem?_eq_getElem hol)
      refine ⟨_, rfl, t, _, _, _, rfl, rfl, ht, atI_nat (j := 0) rfl, rfl, _, rfl, iteT ⟨_, fun _ _ h => h, ?_⟩⟩
      have hbG := hb.same sG
      refine ⟨_, rfl, .inl ⟨rfl, _, SqL.of eW⟩, ?_⟩
      refine ⟨_, rfl, t, _, _, _, rfl, rfl, ht, atI_nat (j := 2) rfl, _, rfl, v3, b, i, ns, rfl, w3, hbG, oki, ?_⟩
      refine ⟨_, rfl, t, _, _, _, rfl, rfl, ht, atI_nat (j := 3) rfl, _, rfl, v4, b, u, ns, rfl, w4, hbG, oku, ?_⟩
      refine ⟨by show (2 : Nat) ≤ sizeLine; decide, fun t2 nt2 => ?_⟩
      generalize hg : upd G t2 _ = G2
      obtain ⟨s2, e2⟩ := new_of nt2 hg
      have eW2 := s2 _ _ eW
      refine ⟨aw, _, _, rfl, rfl, eW2, small_sz (by omega), ?_⟩
      have bw : But aw G2 (upd G2 aw (.lst (xs ++ [.ref t2]))) := fun c o hc eo => (upd_ne hc).trans eo
      have n2 := noLs_f2 ws
      have ht3 : SqT K (upd G2 aw (.lst (xs ++ [.ref t2]))) t [.str "written", .int o, v3, v4] := by
        have := dp_but eW2 bw (.tuple [.str "written", .int o, f2 i, f2 u]) (.ref t) (by rfl) (.tup (sqt_same s2 ht) (.cons (.str _) (.cons (.int _) (.cons (w3.same s2) (.cons (w4.same s2) .nil)))))
        rcases sqt_same s2 ht with (h | ⟨ob, h⟩) | h
        · refine .inl (.inl (bw _ _ (fun q => ?_) h))
          rw [q, eW2] at h
          cases h
        · refine .inl (.inr ⟨ob, bw _ _ (fun q => ?_) h⟩)
          rw [q, eW2] at h
          cases h
        · exact .inr h
      refine ⟨_, rfl, t, _, _, _, rfl, rfl, ht3, atI_nat (j := 1) rfl, ?_⟩
      have S3 : Same H (upd G2 aw (.lst (xs ++ [.ref t2]))) := same_mut (sG.trans s2) naw
      refine ⟨_, rfl, p, C, dx, _, _, rfl, S3 _ _ e, T.cl, T.nL, knF_l _ _ _ _ _ _ _, _, rfl, al, _, _, _, rfl, rfl, SqL.of (S3 _ _ kn.l), atI_nat g5, ?_⟩
      refine ⟨o, ho, S3, v5, _, ws ++ [(wo ns i, wo ns u)], xs ++ [.ref t2], rfl, List.getElem?_eq_getElem hol, d5.same S3, upd_same, ?_, by rw [hwl, List.append_assoc]; rfl, hbs, by rw [List.length_append]; show o + (ws.length + 1) ≤ num; omega⟩
      rw [List.map_append]
      exact dpa_snoc (dpa_but eW2 bw _ _ n2 (dpa_same s2 _ _ hW)) (dp_but eW2 bw _ _ (by rfl) (dp_tup2 e2 (.int _) (.int _)))
    | new ln =>
      obtain ⟨t, v1, v2, rfl, ht, w1, w2⟩ := dp_inv2 hv
      cases dp_str_inv w1
      rw [WL_new hl, List.append_nil] at hwl
      rw [BS_new hl] at hbs
      refine ⟨_, rfl, t, _, _, _, rfl, rfl, ht, atI_nat (j := 0) rfl, rfl, _, rfl, iteF ?_⟩
      refine ⟨_, rfl, _, rfl, _, rfl, p, b, mm, ls, cs, ns, rfl, kd.same sG, hb.same sG, cok, hcl, fun q2 H2 ys zs s2 e2 hzs hperm hsrt => ?_⟩
      have S2 := sG.trans s2
      have hyl : ys.length ≤ 1000 := by
        rw [hperm.length_eq]
        unfold prs
        rw [List.length_map]
        exact Nat.le_trans (List.length_filter_le _ _) hcl
      have hyb : ∀ p, p ∈ ys → -1000 ≤ p.1 := fun p hp => by
        have := hperm.mem_iff.mp hp
        unfold prs at this
        obtain ⟨c, hc, rfl⟩ := List.mem_map.mp this
        exact hbd c (List.mem_filter.mp hc).1
      refine ⟨_, rfl, q2, L, zs, ys, rfl, e2, hzs, hsrt, hyl, hyb, hL0, hL1, fun D H3 c s3 nD eD hc1 hc2 => ?_⟩
      have S3 := S2.trans s3
      have nDH : H D = none := S2.free nD
      have eW3 := s3 _ _ (s2 _ _ eW)
      have hDw : D ≠ aw := (ne_of_none (s2 _ _ eW) nD).symm
      have hW3 := dpa_same (s2.trans s3) _ _ hW
      refine ⟨_, rfl, aw, xs, rfl, SqL.of eW3, ?_⟩
      refine for_it (walk_rev (K := K) (a := aw) (xs := xs)) (fun i σ G4 => But D H3 G4 ∧ ∃ (y7 y8 : Option V), σ = [some (.ref p), some (.ref b), some (.int mm), some (.int L), some (.ref aw), some (.ref t), some (.ref D), y7, y8] ∧ i ≤ ws.length ∧ G4 D = some (.lst ((apW L (ws.drop (ws.length - i)) c).map V.int)))
        ⟨But.refl D H3, _, _, rfl, Nat.zero_le _, ?_⟩ (fun i σ G4 _ hP => SqL.of (hP.1 _ _ hDw.symm eW3)) (fun i x σ G4 G5 hi hP hy => ?_) (fun σ G4 hP => ?_)
      · rw [Nat.sub_zero, List.drop_eq_nil_of_le (Nat.le_refl _)]
        exact eD
      · obtain ⟨b4, y7, y8, rfl, hile, e4⟩ := hP
        obtain ⟨rfl, hx4⟩ := hy
        have hj : ws.length - 1 - i < ws.length := by omega
        rw [hwsl] at hx4
        obtain ⟨v6, g1, g2⟩ := dp_mem hW3 hj
        rw [hx4] at g1
        cases g1
        have g2' := dp_but eD b4 _ _ (by rfl) g2
        obtain ⟨t6, v7, v8, rfl, ht6, w7, w8⟩ := dp_inv2 g2'
        cases dp_int_inv w7
        cases dp_int_inv w8
        have hd : ws.drop (ws.length - (i + 1)) = ws[ws.length - 1 - i] :: ws.drop (ws.length - i) := by
          have e1 : ws.length - (i + 1) = ws.length - 1 - i := by omega
          have e2 : ws.length - i = ws.length - 1 - i + 1 := by omega
          rw [e1, e2]
          exact List.drop_eq_getElem_cons hj
        have hlen := apW_len L (ws.drop (ws.length - i)) c
        have fin : ∀ (G : Hp) (y7 y8 : Option V), But D H3 G → G D = some (.lst ((stw L ws[ws.length - 1 - i] (apW L (ws.drop (ws.length - i)) c)).map V.int)) → But D H3 G ∧ ∃ (z7 z8 : Option V), [some (V.ref p), some (.ref b), some (.int mm), some (.int L), some (.ref aw), some (.ref t), some (.ref D), y7, y8] = [some (.ref p), some (.ref b), some (.int mm), some (.int L), some (.ref aw), some (.ref t), some (.ref D), z7, z8] ∧ i + 1 ≤ ws.length ∧ G D = some (.lst ((apW L (ws.drop (ws.length - (i + 1))) c).map V.int)) := fun G y7 y8 hb hG => ⟨hb, y7, y8, rfl, by omega, by rw [hd]; exact hG⟩
        refine ⟨t6, _, rfl, ht6, rfl, _, _, rfl, _, _, rfl, rfl, ?_⟩
        refine ⟨_, rfl, _, _, rfl, rfl, _, rfl, ite2 (fun e1 => ?_) (fun e1 => ?_)⟩
        · have e1 := of_decide_eq_true e1
          refine ⟨_, rfl, _, _, rfl, rfl, _, rfl, ite2 (fun e2 => ?_) (fun e2 => ?_)⟩
          · have e2 := of_decide_eq_true e2
            obtain ⟨j, hj2⟩ : ∃ j : Nat, (ws[ws.length - 1 - i]).1 = j := ⟨(ws[ws.length - 1 - i]).1.toNat, by omega⟩
            refine ⟨_, rfl, _, rfl, _, rfl, D, _, _, j, rfl, congrArg V.int hj2, e4, ?_, ?_⟩
            · rw [List.length_map]
              exact ixN_nat (by omega)
            · refine fin _ _ _ (fun c o hc eo => (upd_ne hc).trans (b4 c o hc eo)) ?_
              rw [upd_same, ← List.map_set]
              unfold stw
              rw [if_pos ⟨e1, e2⟩, hj2]
              rfl
          · have e2 : ¬ (ws[ws.length - 1 - i]).1 < L := fun h => e2 (decide_eq_true h)
            refine fin _ _ _ b4 ?_
            unfold stw
            rw [if_neg fun h => e2 h.2]
            exact e4
        · have e1 : ¬ 0 ≤ (ws[ws.length - 1 - i]).1 := fun h => e1 (decide_eq_true h)
          refine ⟨_, rfl, iteF (fin _ _ _ b4 ?_)⟩
          unfold stw
          rw [if_neg fun h => e1 h.1]
          exact e4
      · obtain ⟨b4, y7, y8, rfl, _, e4⟩ := hP
        rw [hwsl, Nat.sub_self, List.drop_zero] at e4
        refine ⟨_, rfl, q D G4 (apW L ws c) (fun b o e => b4 b o (ne_of_none e nDH) (S3 b o e)) nDH e4 (by rw [apW_len]; exact hc1) fun j hj => ?_⟩
        rw [apW_len] at hj
        rw [apW_get L ws c hc1 j hj]
        unfold TV
        rw [WR_WL lok j num num (Nat.le_refl _) hnum, hwl, hbs]
        unfold byW
        cases ws.find? (fun p => decide (p.1 = (j : Int))) with
        | some p => rfl
        | none => exact IsB_perm hperm (hc2 j (by omega))
end
end SW

namespace SW
open PySem PySem.Spec PyProof.Rows L2
abbrev s_l_at_most : Stmt := topS 11
theorem sc_l_at_most : FnScope ["f", "g"] ["f", "g"] (defScope s_l_at_most) := ⟨rfl, rfl, rfl, by decide +kernel, rfl, by decide +kernel, by decide +kernel⟩

abbrev s_l_of : Stmt := topS 12
theorem sc_l_of : FnScope ["form", "values"] ["form", "values"] (defScope s_l_of) := ⟨rfl, rfl, rfl, by decide +kernel, rfl, by decide +kernel, by decide +kernel⟩

abbrev s_l_length : Stmt := topS 13
theorem sc_l_length : FnScope ["lists", "number", "step"] ["lists", "number"] (defScope s_l_length) := ⟨rfl, rfl, rfl, by decide +kernel, rfl, by decide +kernel, by decide +kernel⟩

abbrev s_l_small : Stmt := topS 14
theorem sc_l_small : FnScope ["draw"] ["draw"] (defScope s_l_small) := ⟨rfl, rfl, rfl, by decide +kernel, rfl, by decide +kernel, by decide +kernel⟩

abbrev s_l_form_for : Stmt := topS 15
theorem sc_l_form_for : FnScope ["draw", "values", "target", "j"] ["draw", "values", "target"] (defScope s_l_form_for) := ⟨rfl, rfl, rfl, by decide +kernel, rfl, by decide +kernel, by decide +kernel⟩

abbrev s_l_told : Stmt := topS 16
theorem sc_l_told : FnScope ["known", "values", "number", "k", "step", "one", "best", "found", "index", "value", "at"] ["known", "values", "number", "k"] (defScope s_l_told) := ⟨rfl, rfl, rfl, by decide +kernel, rfl, by decide +kernel, by decide +kernel⟩

section
variable {P : Program} {w : World} {K : PySem.W.Frag} {mg : PySem.Str → Option Value} {base : Heap} {C : Addr}
def spLOf (K : PySem.W.Frag) : Sp := fun vs H Q _ => ∃ (v : V) (b : Addr) (f : Fm) (ns : List Int), vs = [v, .ref b] ∧ Dp K H v (f2 f) ∧ SqL K H b (ns.map V.int) ∧ fok ns.length f ∧ Q (.int (wo ns f)) H
theorem ok_l_of (T : TxB mg) (D_l_of : Df K mg "_law_of" s_l_of ["form", "values"]) : FnOk P w K mg base CX0 1 D_l_of.f D_l_of.fd ["form", "values"] (spLOf K) := by
  refine D_l_of.F.ok sc_l_of (fun vs H Q E h => ?_) (fun cdv A outer s H vs Q E hr h => ?_)
  · obtain ⟨v, b, f, ns, rfl, _⟩ := h
    rfl
  · obtain ⟨v, b, f, ns, rfl, hv, hb, hf, q⟩ := h
    obtain ⟨t, v1, v2, rfl, ht, h1, h2⟩ := dp_inv2 hv
    cases dp_int_inv h1
    cases dp_int_inv h2
    refine ⟨_, (pss_cons (ps_if (pt_cmpR op_eq (pe_ix ix_tup (pv 0) pe_int (fun _ _ => rfl)) pe_int (nomark _))
    (pss_one (ps_ret (pe_ix ix_tup (pv 0) pe_int (fun _ _ => rfl))))
    pss_nil)
    (pss_one (ps_ret (pe_op op_add (pe_ix ix_list (pv 1) (pe_op op_sub (pe_ix ix_tup (pv 0) pe_int (fun _ _ => rfl)) pe_int) (fun _ _ => rfl)) (pe_ix ix_tup (pv 0) pe_int (fun _ _ => rfl)))))), ?_⟩
    refine ⟨_, rfl, t, _, _, _, rfl, rfl, ht, atI_nat (j := 0) rfl, rfl, _, rfl, ?_⟩
    rw [int_dec]
    refine ite2 (fun e => ?_) (fun e => ?_)
    · have e := of_decide_eq_true e
      have ew : wo ns f = f.2 := if_pos e
      rw [ew] at q
      exact ⟨_, rfl, t, _, _, _, rfl, rfl, ht, atI_nat (j := 1) rfl, q⟩
    · have e : ¬ f.1 = 0 := fun h => e (decide_eq_true h)
      obtain ⟨z, hz, ez⟩ := wo_at hf e
      rw [ez] at q
      exact ⟨_, rfl, _, rfl, t, _, _, _, rfl, rfl, ht, atI_nat (j := 0) rfl, _, _, rfl, rfl, b, _, _, _, rfl, rfl, hb, hz, _, rfl, t, _, _, _, rfl, rfl, ht, atI_nat (j := 1) rfl, _, _, rfl, rfl, q⟩
def spAtMost (K : PySem.W.Frag) : Sp := fun vs H Q _ => ∃ (u v : V) (f g : Fm), vs = [u, v] ∧ Dp K H u (f2 f) ∧ Dp K H v (f2 g) ∧ ∀ t H', Same H H' → H' t = some (.tup [.int f.1, .int g.1, .int (g.2 - f.2)]) → Q (.ref t) H'
theorem ok_l_at_most (T : TxB mg) (D_l_at_most : Df K mg "_law_at_most" s_l_at_most ["f", "g"]) : FnOk P w K mg base CX0 1 D_l_at_most.f D_l_at_most.fd ["f", "g"] (spAtMost K) := by
  refine D_l_at_most.F.ok sc_l_at_most (fun vs H Q E h => ?_) (fun cdv A outer s H vs Q E hr h => ?_)
  · obtain ⟨u, v, f, g, rfl, _⟩ := h
    rfl
  · obtain ⟨u, v, f, g, rfl, hu, hv, q⟩ := h
    obtain ⟨t, v1, v2, rfl, ht, h1, h2⟩ := dp_inv2 hu
    cases dp_int_inv h1
    cases dp_int_inv h2
    obtain ⟨t2, v1, v2, rfl, ht2, h1, h2⟩ := dp_inv2 hv
    cases dp_int_inv h1
    cases dp_int_inv h2
    refine ⟨_, (pss_one (ps_ret (pe_tup (pa_cons (pe_ix ix_tup (pv 0) pe_int (fun _ _ => rfl)) (pa_cons (pe_ix ix_tup (pv 1) pe_int (fun _ _ => rfl)) (pa_cons (pe_op op_sub (pe_ix ix_tup (pv 1) pe_int (fun _ _ => rfl)) (pe_ix ix_tup (pv 0) pe_int (fun _ _ => rfl))) pa_nil)))))), ?_⟩
    exact ⟨_, rfl, t, _, _, _, rfl, rfl, ht, atI_nat (j := 0) rfl, _, rfl, t2, _, _, _, rfl, rfl, ht2, atI_nat (j := 0) rfl, _, rfl, t2, _, _, _, rfl, rfl, ht2, atI_nat (j := 1) rfl, _, rfl, t, _, _, _, rfl, rfl, ht, atI_nat (j := 1) rfl, _, _, rfl, rfl, by show (3 : Nat) ≤ sizeLine; decide, fun p np => q p _ (same_new np) upd_same⟩
def spLLength (K : PySem.W.Frag) : Sp := fun vs H Q _ => ∃ (al : Addr) (num m : Nat) (ls : List Ld) (xl : List V), vs = [.ref al, .int num] ∧ SqL K H al xl ∧ DpAll K H xl (ls.map Ld.enc) ∧ LsOk m ls ∧ num < ls.length ∧ ls.length ≤ 1000 ∧ ∀ v, Dp K H v (f2 (LN ls num)) → Q v H
theorem ok_l_length (T : TxB mg) (D_l_length : Df K mg "_law_length" s_l_length ["lists", "number"]) : FnOk P w K mg base CX0 1 D_l_length.f D_l_length.fd ["lists", "number"] (spLLength K) := by
  refine D_l_length.F.ok sc_l_length (fun vs H Q E h => ?_) (fun cdv A outer s H vs Q E hr h => ?_)
  · obtain ⟨al, num, m, ls, xl, rfl, _⟩ := h
    rfl
  · obtain ⟨al, num, m, ls, xl, rfl, hal, hx, lok, hnum, hll, q⟩ := h
    refine ⟨_, (pss_cons (ps_for PassesOwn.never rfl (pi_range1 (by rfl) T.n_range (pa_cons (pe_callB call_len_seq (by rfl) T.n_len PySem.boot_len (pa_cons (pv 0) pa_nil)) pa_nil)) (pg_name (i := 2) sc_l_length.nd rfl (.inl rfl))
    (pss_cons (ps_if (pt_cmpR op_eq (pe_ix ix_tup (pe_ix ix_list (pv 0) (pv 1) (fun _ _ => rfl)) pe_int (fun _ _ => rfl)) pe_str (nomark _))
    (pss_one (ps_ret (pe_ix ix_tup (pe_ix ix_list (pv 0) (pv 1) (fun _ _ => rfl)) pe_int (fun _ _ => rfl))))
    pss_nil)
    (pss_one (ps_set (i := 1) sc_l_length.nd rfl (.inl rfl) (pe_ix ix_tup (pe_ix ix_list (pv 0) (pv 1) (fun _ _ => rfl)) pe_int (fun _ _ => rfl))))))
    (pss_one (ps_ret pe_non))), ?_⟩
    have hxl : xl.length = ls.length := by rw [dpa_len hx, List.length_map]
    have get : ∀ {j : Nat} {l : Ld}, ls[j]? = some l → ∃ v, xl[j]? = some v ∧ Dp K H v l.enc := fun {j l} h => dpa_get' hx (by rw [List.getElem?_map, h]; rfl)
    refine ⟨_, rfl, al, _, rfl, .inl hal, _, rfl, by omega, by omega, ?_⟩
    refine for_range (lo := 0) (n := ((xl.length : Nat) : Int).toNat) (fun i σ G => G = H ∧ ∃ (mm : Nat) (y2 : Option V), σ = [some (.ref al), some (.int mm), y2] ∧ mm + i ≤ num ∧ LN ls num = LN ls mm) ⟨rfl, num, _, rfl, Nat.le_refl _, rfl⟩ (fun i σ G hi hP => ?_) (fun σ G hP => ?_)
    · obtain ⟨rfl, mm, y2, rfl, hmm, hln⟩ := hP
      have hml : mm < ls.length := by omega
      have hl := List.getElem?_eq_getElem hml
      obtain ⟨v, g, d⟩ := get hl
      generalize ls[mm] = l at hl d
      cases l with
      | new f =>
        obtain ⟨t, v1, v2, rfl, ht, w1, w2⟩ := dp_inv2 d
        cases dp_str_inv w1
        rw [LN_new hl] at hln
        rw [hln] at q
        exact ⟨_, rfl, _, rfl, al, _, _, _, rfl, rfl, hal, atI_nat g, t, _, _, _, rfl, rfl, ht, atI_nat (j := 0) rfl, rfl, _, rfl, iteT ⟨_, rfl, _, rfl, al, _, _, _, rfl, rfl, hal, atI_nat g, t, _, _, _, rfl, rfl, ht, atI_nat (j := 1) rfl, q _ w2⟩⟩
      | wr o i2 u =>
        obtain ⟨t, v1, v2, v3, v4, rfl, ht, w1, w2, w3, w4⟩ := dp_inv4 d
        cases dp_str_inv w1
        cases dp_int_inv w2
        have ho := (lok _ _ hl).1
        rw [LN_wr lok hl] at hln
        exact ⟨_, rfl, _, rfl, al, _, _, _, rfl, rfl, hal, atI_nat g, t, _, _, _, rfl, rfl, ht, atI_nat (j := 0) rfl, rfl, _, rfl, iteF ⟨_, rfl, _, rfl, al, _, _, _, rfl, rfl, hal, atI_nat g, t, _, _, _, rfl, rfl, ht, atI_nat (j := 1) rfl, rfl, o, _, rfl, by omega, hln⟩⟩
    · obtain ⟨rfl, mm, y2, rfl, hmm, hln⟩ := hP
      omega
def spSmall : Sp := fun vs H Q _ => ∃ d : Int, vs = [.int d] ∧ ∀ r : Int, -(10 ^ 10) ≤ r → r ≤ 10 ^ 10 → Q (.int r) H
theorem ok_l_small (T : TxB mg) (D_l_small : Df K mg "_law_small" s_l_small ["draw"]) : FnOk P w K mg base CX0 1 D_l_small.f D_l_small.fd ["draw"] spSmall := by
  refine D_l_small.F.ok sc_l_small (fun vs H Q E h => ?_) (fun cdv A outer s H vs Q E hr h => ?_)
  · obtain ⟨d, rfl, _⟩ := h
    rfl
  · obtain ⟨d, rfl, q⟩ := h
    refine ⟨_, (pss_cons (ps_if (pt_cmpR op_eq (pe_op op_mod (pe_callTy call_int1 (by rfl) T.n_int (by decide +kernel) (pa_cons (pv 0) pa_nil)) pe_int) pe_int (nomark _))
    (pss_one (ps_ret (pe_op op_mul (pe_op op_sub pe_int (pe_op op_mul pe_int (pe_op op_mod (pe_callTy call_int1 (by rfl) T.n_int (by decide +kernel) (pa_cons (pe_op op_fdiv (pv 0) pe_int) pa_nil)) pe_int))) (pe_op op_add (pe_op op_pow pe_int pe_int) (pe_op op_mod (pe_callTy call_int1 (by rfl) T.n_int (by decide +kernel) (pa_cons (pe_op op_fdiv (pv 0) pe_int) pa_nil)) pe_int)))))
    pss_nil)
    (pss_one (ps_ret (pe_op op_sub (pe_op op_mod (pe_callTy call_int1 (by rfl) T.n_int (by decide +kernel) (pa_cons (pe_op op_fdiv (pv 0) pe_int) pa_nil)) pe_int) pe_int)))), ?_⟩
    refine ⟨_, rfl, .inl ⟨_, rfl, _, _, rfl, rfl, by show (0 : Int) < 12; decide, rfl, _, rfl, ite2 (fun _ => ?_) (fun _ => ?_)⟩⟩
    · refine ⟨_, rfl, _, _, rfl, rfl, ⟨by decide, by decide⟩, .inl ⟨_, rfl, _, _, rfl, rfl, by show (0 : Int) < 2; decide, _, _, rfl, rfl, .inl ⟨by decide, by decide⟩, _, _, rfl, rfl, ?_⟩⟩
      refine ⟨_, _, rfl, rfl, ⟨by decide, by decide, by decide⟩, _, rfl, _, _, rfl, rfl, ⟨by decide, by decide⟩, .inl ⟨_, rfl, _, _, rfl, rfl, by show (0 : Int) < 1000; decide, _, _, rfl, rfl, _, _, rfl, rfl, .inl ⟨by omega, by omega⟩, ?_⟩⟩
      have a0 : 0 ≤ d / 12 % 2 := Int.emod_nonneg _ (by decide)
      have a1 : d / 12 % 2 < 2 := Int.emod_lt_of_pos _ (by decide)
      have b0 : 0 ≤ d / 24 % 1000 := Int.emod_nonneg _ (by decide)
      have b1 : d / 24 % 1000 < 1000 := Int.emod_lt_of_pos _ (by decide)
      have e : ∀ x y : Int, 0 ≤ x → x < 2 → 0 ≤ y → y < 1000 → -(10 ^ 10) ≤ (1 - 2 * x) * (10 ^ 9 + y) ∧ (1 - 2 * x) * (10 ^ 9 + y) ≤ 10 ^ 10 := fun x y h1 h2 h3 h4 => by
        have : x = 0 ∨ x = 1 := by omega
        rcases this with rfl | rfl
        · rw [show (1 - 2 * (0 : Int)) = 1 by decide, Int.one_mul]
          omega
        · rw [show (1 - 2 * (1 : Int)) = -1 by decide, Int.neg_one_mul]
          omega
      have := e _ _ a0 a1 b0 b1
      exact q _ this.1 this.2
    · refine ⟨_, rfl, _, _, rfl, rfl, ⟨by decide, by decide⟩, .inl ⟨_, rfl, _, _, rfl, rfl, by show (0 : Int) < 12; decide, _, _, rfl, rfl, ?_⟩⟩
      have a0 : 0 ≤ d / 12 % 12 := Int.emod_nonneg _ (by decide)
      have a1 : d / 12 % 12 < 12 := Int.emod_lt_of_pos _ (by decide)
      exact q _ (by show _ ≤ d / 12 % 12 - 3; omega) (by show d / 12 % 12 - 3 ≤ _; omega)
def spFormFor (K : PySem.W.Frag) : Sp := fun vs H Q _ => ∃ (b : Addr) (d z : Int) (ns : List Int), vs = [.int d, .ref b, .int z] ∧ SqL K H b (ns.map V.int) ∧ ns.length ≤ 1000 ∧ ∀ (t : Addr) (f : Fm) (H' : Hp), Same H H' → H' t = some (.tup [.int f.1, .int f.2]) → fok ns.length f → wo ns f = z → Q (.ref t) H'
theorem ok_l_form_for (T : TxB mg) (D_l_form_for : Df K mg "_law_form_for" s_l_form_for ["draw", "values", "target"]) : FnOk P w K mg base CX0 1 D_l_form_for.f D_l_form_for.fd ["draw", "values", "target"] (spFormFor K) := by
  refine D_l_form_for.F.ok sc_l_form_for (fun vs H Q E h => ?_) (fun cdv A outer s H vs Q E hr h => ?_)
  · obtain ⟨b, d, z, ns, rfl, _⟩ := h
    rfl
  · obtain ⟨b, d, z, ns, rfl, hb, hnl, q⟩ := h
    refine ⟨_, (pss_cons (ps_set (i := 3) sc_l_form_for.nd rfl (.inl rfl) (pe_op op_mod (pe_callTy call_int1 (by rfl) T.n_int (by decide +kernel) (pa_cons (pv 0) pa_nil)) (pe_op op_add (pe_callB call_len_seq (by rfl) T.n_len PySem.boot_len (pa_cons (pv 1) pa_nil)) pe_int)))
    (pss_cons (ps_if (pt_cmpR op_eq (pv 3) pe_int (nomark _))
    (pss_one (ps_ret (pe_tup (pa_cons pe_int (pa_cons (pv 2) pa_nil)))))
    pss_nil)
    (pss_one (ps_ret (pe_tup (pa_cons (pv 3) (pa_cons (pe_op op_sub (pv 2) (pe_ix ix_list (pv 1) (pe_op op_sub (pv 3) pe_int) (fun _ _ => rfl))) pa_nil))))))), ?_⟩
    refine ⟨_, rfl, .inl ⟨_, rfl, _, rfl, b, _, rfl, .inl hb, _, _, rfl, rfl, _, _, rfl, rfl, by rw [List.length_map]; omega, ?_⟩⟩
    rw [List.length_map]
    have j0 : 0 ≤ d % ((ns.length : Nat) + 1 : Int) := Int.emod_nonneg _ (by omega)
    have j1 : d % ((ns.length : Nat) + 1 : Int) < (ns.length : Nat) + 1 := Int.emod_lt_of_pos _ (by omega)
    dsimp only
    generalize d % ((ns.length : Nat) + 1 : Int) = j at j0 j1
    refine ⟨_, rfl, rfl, _, rfl, ?_⟩
    rw [int_dec]
    refine ite2 (fun e => ?_) (fun e => ?_)
    · exact ⟨_, rfl, by show (2 : Nat) ≤ sizeLine; decide, fun t nt => q t (0, z) _ (same_new nt) upd_same ⟨Int.le_refl _, by show (0 : Int) ≤ _; omega⟩ rfl⟩
    · have e : ¬ j = 0 := fun h => e (decide_eq_true h)
      have hf : fok ns.length (j, 0) := ⟨j0, by show j ≤ _; omega⟩
      obtain ⟨y, hy, ey⟩ := wo_at hf e
      refine ⟨_, rfl, _, rfl, _, rfl, _, rfl, _, _, rfl, rfl, b, _, _, _, rfl, rfl, hb, hy, _, _, rfl, rfl, by show (2 : Nat) ≤ sizeLine; decide, fun t nt => q t (j, z - y) _ (same_new nt) upd_same ⟨j0, by show j ≤ _; omega⟩ ?_⟩
      have h1 : wo ns (j, z - y) = ns.getD (j - 1).toNat 0 + (z - y) := if_neg e
      have h2 : wo ns (j, 0) = ns.getD (j - 1).toNat 0 + 0 := if_neg e
      have ey : wo ns (j, 0) = y + 0 := ey
      omega
/-- the law's own telling -/
structure LkAt (K : PySem.W.Frag) (H : Hp) (kp ad al ac : Addr) (m : Int) (xl xc : List V) (ls : List Ld) (cs : List Ce) : Prop where
  k : H kp = some (.lst [.int m, .ref ad, .ref al, .ref ac])
  l : H al = some (.lst xl)
  c : H ac = some (.lst xc)
  lx : DpAll K H xl (ls.map Ld.enc)
  cx : DpAll K H xc (cs.map Ce.enc)
theorem LkAt.same {K : PySem.W.Frag} {H H' : Hp} {kp ad al ac : Addr} {m : Int} {xl xc : List V} {ls : List Ld} {cs : List Ce} (k : LkAt K H kp ad al ac m xl xc ls cs) (s : Same H H') : LkAt K H' kp ad al ac m xl xc ls cs := ⟨s _ _ k.k, s _ _ k.l, s _ _ k.c, dpa_same s _ _ k.lx, dpa_same s _ _ k.cx⟩
def Bst (ps : List (Int × Int)) (k : Int) (best : Option Int) (found : Int) : Prop := match best with
  | none => found = 0 ∧ ∀ b u, (b, u) ∈ ps → ¬ b ≤ k
  | some a => (a, found) ∈ ps ∧ a ≤ k ∧ ∀ b u, (b, u) ∈ ps → b ≤ k → b ≤ a
theorem Bst.is {ps : List (Int × Int)} {k : Int} {best : Option Int} {found : Int} (h : Bst ps k best found) : IsB ps k found := by
  cases best with
  | none => exact .inr h
  | some a => exact .inl ⟨a, h⟩
theorem Bst.no {ps : List (Int × Int)} {k : Int} {best : Option Int} {found a v : Int} (h : Bst ps k best found) (hn : ¬ (a ≤ k ∧ ∀ c, best = some c → c < a)) : Bst (ps ++ [(a, v)]) k best found := by
  cases best with
  | none =>
    refine ⟨h.1, fun b u hb => ?_⟩
    rcases List.mem_append.mp hb with hb | hb
    · exact h.2 b u hb
    · have := (Prod.mk.inj (List.mem_singleton.mp hb)).1
      exact fun hk => hn ⟨by omega, fun c hc => nomatch hc⟩
  | some c =>
    refine ⟨List.mem_append_left _ h.1, h.2.1, fun b u hb hk => ?_⟩
    rcases List.mem_append.mp hb with hb | hb
    · exact h.2.2 b u hb hk
    · have := (Prod.mk.inj (List.mem_singleton.mp hb)).1
      refine Classical.byContradiction fun hc => hn ⟨by omega, fun d hd => ?_⟩
      cases hd
      omega
theorem Bst.yes {ps : List (Int × Int)} {k : Int} {best : Option Int} {found a v : Int} (h : Bst ps k best found) (ha : a ≤ k) (hc : ∀ c, best = some c → c < a) : Bst (ps ++ [(a, v)]) k (some a) v := by
  refine ⟨List.mem_append_right _ (List.mem_singleton.mpr rfl), ha, fun b u hb hk => ?_⟩
  rcases List.mem_append.mp hb with hb | hb
  · cases best with
    | none => exact absurd hk (h.2 b u hb)
    | some c =>
      have h1 := h.2.2 b u hb hk
      have h2 := hc c rfl
      omega
  · have := (Prod.mk.inj (List.mem_singleton.mp hb)).1
    omega
def oI : Option Int → V
  | none => .non
  | some z => .int z
def spTold (K : PySem.W.Frag) : Sp := fun vs H Q _ => ∃ (kp ad al ac b : Addr) (m k : Int) (xl xc : List V) (ls : List Ld) (cs : List Ce) (num : Nat) (ns : List Int), vs = [.ref kp, .ref b, .int num, .int k] ∧ LkAt K H kp ad al ac m xl xc ls cs ∧ SqL K H b (ns.map V.int) ∧ LsOk ns.length ls ∧ num < ls.length ∧ ls.length ≤ 1000 ∧ CsOk ns.length cs ∧ ∀ v, TV ls ns cs num k v → Q (.int v) H
theorem ok_l_told (T : TxB mg) (D_l_told : Df K mg "_law_told" s_l_told ["known", "values", "number", "k"]) (D_l_of : Df K mg "_law_of" s_l_of ["form", "values"]) (G_l_of : FnOk P w K mg base CX0 1 D_l_of.f D_l_of.fd ["form", "values"] (spLOf K)) : FnOk P w K mg base CX0 2 D_l_told.f D_l_told.fd ["known", "values", "number", "k"] (spTold K) := by
  refine D_l_told.F.ok sc_l_told (fun vs H Q E h => ?_) (fun cdv A outer s H vs Q E hr h => ?_)
  · obtain ⟨kp, ad, al, ac, b, m, k, xl, xc, ls, cs, num, ns, rfl, _⟩ := h
    rfl
  · obtain ⟨kp, ad, al, ac, b, m, k, xl, xc, ls, cs, num, ns, rfl, lk, hb, lok, hnum, hll, cok, q⟩ := h
    refine ⟨_, (Evl.pss_cut (ps_for PassesOwn.never rfl (pi_range1 (by rfl) T.n_range (pa_cons (pe_callB call_len_seq (by rfl) T.n_len PySem.boot_len (pa_cons (pe_ix ix_list (pv 0) pe_int (fun _ _ => rfl)) pa_nil)) pa_nil)) (pg_name (i := 4) sc_l_told.nd rfl (.inl rfl))
    (pss_cons (ps_set (i := 5) sc_l_told.nd rfl (.inl rfl) (pe_ix ix_list (pe_ix ix_list (pv 0) pe_int (fun _ _ => rfl)) (pv 2) (fun _ _ => rfl)))
    (pss_cons (ps_if (pt_cmpR op_eq (pe_ix ix_tup (pv 5) pe_int (fun _ _ => rfl)) pe_str (nomark _))
    (pss_one ps_break)
    pss_nil)
    (pss_cons (ps_if (pt_cmpR op_eq (pv 3) (pe_call G_l_of (hr.mono (by decide)) (by rfl) D_l_of.g D_l_of.F.kp D_l_of.b .nil pass0 (pa_cons (pe_ix ix_tup (pv 5) pe_int (fun _ _ => rfl)) (pa_cons (pv 1) pa_nil))) (nomark _))
    (pss_one (ps_ret (pe_call G_l_of (hr.mono (by decide)) (by rfl) D_l_of.g D_l_of.F.kp D_l_of.b .nil pass0 (pa_cons (pe_ix ix_tup (pv 5) pe_int (fun _ _ => rfl)) (pa_cons (pv 1) pa_nil)))))
    pss_nil)
    (pss_one (ps_set (i := 2) sc_l_told.nd rfl (.inl rfl) (pe_ix ix_tup (pv 5) pe_int (fun _ _ => rfl))))))))
    (pss_cons (ps_set (i := 6) sc_l_told.nd rfl (.inl rfl) pe_non)
    (pss_cons (ps_set (i := 7) sc_l_told.nd rfl (.inl rfl) pe_int)
    (pss_cons (ps_for PassesOwn.never rfl (pi_list (pe_ix ix_list (pv 0) pe_int (fun _ _ => rfl))) (pg_tup (by rfl) (pgs_cons (pg_name (i := 5) sc_l_told.nd rfl (.inl rfl)) (pgs_cons (pg_name (i := 8) sc_l_told.nd rfl (.inl rfl)) (pgs_cons (pg_name (i := 9) sc_l_told.nd rfl (.inl rfl)) pgs_nil))))
    (pss_cons (ps_set (i := 10) sc_l_told.nd rfl (.inl rfl) (pe_call G_l_of (hr.mono (by decide)) (by rfl) D_l_of.g D_l_of.F.kp D_l_of.b .nil pass0 (pa_cons (pv 8) (pa_cons (pv 1) pa_nil))))
    (pss_one (ps_if (PW.pt (pw_and (pt_cmpR op_eq (pv 5) (pv 2) (nomark _)) (pw_and (pt_cmpR op_le (pv 10) (pv 3) (nomark _)) (pw_and1 (PW.pt (pw_or (pt_cmpR op_isN (pv 6) pe_non (nomark _)) (pw_or1 (pt_cmpR op_gt (pv 10) (pv 6) (nomark _)))))))))
    (pss_cons (ps_set (i := 6) sc_l_told.nd rfl (.inl rfl) (pv 10))
    (pss_one (ps_set (i := 7) sc_l_told.nd rfl (.inl rfl) (pe_call G_l_of (hr.mono (by decide)) (by rfl) D_l_of.g D_l_of.F.kp D_l_of.b .nil pass0 (pa_cons (pv 9) (pa_cons (pv 1) pa_nil))))))
    pss_nil))))
    (pss_one (ps_ret (pv 7))))))), ?_⟩
    have hxl : xl.length = ls.length := by rw [dpa_len lk.lx, List.length_map]
    have hxc : xc.length = cs.length := by rw [dpa_len lk.cx, List.length_map]
    have get : ∀ {j : Nat} {l : Ld}, ls[j]? = some l → ∃ v, xl[j]? = some v ∧ Dp K H v l.enc := fun {j l} h => dpa_get' lk.lx (by rw [List.getElem?_map, h]; rfl)
    refine ⟨fun σ' G => G = H ∧ ∃ (bb : Nat) (y4 y5 : Option V), σ' = [some (.ref kp), some (.ref b), some (.int bb), some (.int k), y4, y5, none, none, none, none, none] ∧ WR ls ns num k = .inr bb, ?_, ?_⟩
    · refine ⟨_, rfl, kp, _, _, _, rfl, rfl, SqL.of lk.k, atI_nat (j := 2) rfl, al, _, rfl, .inl (SqL.of lk.l), _, rfl, by omega, by omega, ?_⟩
      refine for_range (lo := 0) (n := ((xl.length : Nat) : Int).toNat) (fun i σ G => G = H ∧ ∃ (mm : Nat) (y4 y5 : Option V), σ = [some (.ref kp), some (.ref b), some (.int mm), some (.int k), y4, y5, none, none, none, none, none] ∧ mm + i ≤ num ∧ WR ls ns num k = WR ls ns mm k) ⟨rfl, num, _, _, rfl, Nat.le_refl _, rfl⟩ (fun i σ G hi hP => ?_) (fun σ G hP => ?_)
      · obtain ⟨rfl, mm, y4, y5, rfl, hmm, hw⟩ := hP
        have hml : mm < ls.length := by omega
        have hl := List.getElem?_eq_getElem hml
        obtain ⟨v, g, d⟩ := get hl
        generalize ls[mm] = l at hl d
        refine ⟨_, rfl, kp, _, _, _, rfl, rfl, SqL.of lk.k, atI_nat (j := 2) rfl, _, rfl, al, _, _, _, rfl, rfl, SqL.of lk.l, atI_nat g, ?_⟩
        cases l with
        | new f =>
          obtain ⟨t, v1, v2, rfl, ht, w1, w2⟩ := dp_inv2 d
          cases dp_str_inv w1
          rw [WR_new hl] at hw
          exact ⟨_, rfl, t, _, _, _, rfl, rfl, ht, atI_nat (j := 0) rfl, rfl, _, rfl, iteT ⟨rfl, mm, _, _, rfl, hw⟩⟩
        | wr o i2 u =>
          obtain ⟨t, v1, v2, v3, v4, rfl, ht, w1, w2, w3, w4⟩ := dp_inv4 d
          cases dp_str_inv w1
          cases dp_int_inv w2
          obtain ⟨ho, oki, oku⟩ := lok _ _ hl
          rw [WR_wr lok hl] at hw
          refine ⟨_, rfl, t, _, _, _, rfl, rfl, ht, atI_nat (j := 0) rfl, rfl, _, rfl, iteF ?_⟩
          refine ⟨_, rfl, _, rfl, t, _, _, _, rfl, rfl, ht, atI_nat (j := 2) rfl, _, rfl, v3, b, i2, ns, rfl, w3, hb, oki, rfl, _, rfl, ?_⟩
          rw [int_dec]
          refine ite2 (fun e => ?_) (fun e => ?_)
          · have e := of_decide_eq_true e
            rw [if_pos e] at hw
            refine ⟨_, rfl, t, _, _, _, rfl, rfl, ht, atI_nat (j := 3) rfl, _, rfl, v4, b, u, ns, rfl, w4, hb, oku, q _ ?_⟩
            unfold TV
            rw [hw]
          · have e : ¬ k = wo ns i2 := fun h => e (decide_eq_true h)
            rw [if_neg e] at hw
            exact ⟨_, rfl, t, _, _, _, rfl, rfl, ht, atI_nat (j := 1) rfl, rfl, o, _, _, rfl, by omega, hw⟩
      · obtain ⟨rfl, mm, y4, y5, rfl, hmm, hw⟩ := hP
        omega
    intro σ' G hN
    obtain ⟨rfl, bb, y4, y5, rfl, hw⟩ := hN
    refine ⟨_, rfl, kp, _, _, _, rfl, rfl, SqL.of lk.k, atI_nat (j := 3) rfl, ac, rfl, ⟨_, SqL.of lk.c⟩, ?_⟩
    refine for_list (K := K) (a := ac) (xs := xc) (fun i σ G2 => G2 = G ∧ ∃ (best : Option Int) (found : Int) (y5 y8 y9 y10 : Option V), σ = [some (.ref kp), some (.ref b), some (.int bb), some (.int k), y4, y5, some (oI best), some (.int found), y8, y9, y10] ∧ Bst (prs (cs.take i) ns bb) k best found) ⟨rfl, none, 0, _, _, _, _, rfl, rfl, fun _ _ h => nomatch h⟩ (fun i σ G2 _ hP => ?_) (fun i x σ G2 hxi hP => ?_) (fun σ G2 hP => ?_)
    · obtain ⟨rfl, _⟩ := hP
      exact SqL.of lk.c
    · obtain ⟨rfl, best, found, z5, z8, z9, z10, rfl, hbst⟩ := hP
      have hi : i < cs.length := by rw [← hxc]; exact (List.getElem?_eq_some_iff.mp hxi).1
      obtain ⟨v, g1, g2⟩ := dp_mem lk.cx hi
      rw [hxi] at g1
      cases g1
      obtain ⟨t, v1, v2, v3, rfl, ht, w1, w2, w3⟩ := dp_inv3 g2
      cases dp_int_inv w1
      have hok := cok _ (List.getElem_mem hi)
      have htk : cs.take (i + 1) = cs.take i ++ [cs[i]] := List.take_succ_eq_append_getElem hi
      refine ⟨t, _, rfl, ht, rfl, _, _, rfl, _, _, rfl, _, _, rfl, rfl, ?_⟩
      refine ⟨_, rfl, _, rfl, _, b, cs[i].i, ns, rfl, w2, hb, hok.1, ?_⟩
      refine ⟨_, rfl, _, rfl, rfl, _, rfl, ?_⟩
      rw [int_dec]
      refine ite2 (fun en => ?_) (fun en => ?_)
      · have en := of_decide_eq_true en
        have en' : cs[i].n = bb := by omega
        have hp2 : prs (cs.take (i + 1)) ns bb = prs (cs.take i) ns bb ++ [(wo ns cs[i].i, wo ns cs[i].v)] := by rw [htk, prs_snoc, if_pos en']
        refine ⟨_, rfl, _, rfl, _, _, rfl, rfl, _, rfl, ite2 (fun ek => ?_) (fun ek => ?_)⟩
        · have ek := of_decide_eq_true ek
          cases best with
          | none =>
            refine ⟨_, rfl, rfl, _, rfl, iteT (iteT ⟨_, rfl, _, rfl, _, rfl, v3, b, cs[i].v, ns, rfl, w3, hb, hok.2, rfl, some (wo ns cs[i].i), _, _, _, _, _, rfl, ?_⟩)⟩
            rw [hp2]
            exact hbst.yes ek (fun c hc => nomatch hc)
          | some a =>
            refine ⟨_, rfl, rfl, _, rfl, iteF ⟨_, rfl, _, rfl, _, _, rfl, rfl, _, rfl, ite2 (fun ea => ?_) (fun ea => ?_)⟩⟩
            · have ea := of_decide_eq_true ea
              refine ⟨_, rfl, _, rfl, _, rfl, v3, b, cs[i].v, ns, rfl, w3, hb, hok.2, rfl, some (wo ns cs[i].i), _, _, _, _, _, rfl, ?_⟩
              rw [hp2]
              exact hbst.yes ek (fun c hc => by cases hc; exact ea)
            · have ea : ¬ a < wo ns cs[i].i := fun h => ea (decide_eq_true h)
              refine ⟨rfl, some a, found, _, _, _, _, rfl, ?_⟩
              rw [hp2]
              exact hbst.no fun h => ea (h.2 a rfl)
        · have ek : ¬ wo ns cs[i].i ≤ k := fun h => ek (decide_eq_true h)
          refine iteF ⟨rfl, best, found, _, _, _, _, rfl, ?_⟩
          rw [hp2]
          exact hbst.no fun h => ek h.1
      · have en' : ¬ cs[i].n = bb := fun h => en (decide_eq_true (by rw [h]))
        refine iteF ⟨rfl, best, found, _, _, _, _, rfl, ?_⟩
        rw [htk, prs_snoc, if_neg en', List.append_nil]
        exact hbst
    · obtain ⟨rfl, best, found, z5, z8, z9, z10, rfl, hbst⟩ := hP
      rw [hxc, List.take_length] at hbst
      refine ⟨_, rfl, q _ ?_⟩
      unfold TV
      rw [hw]
      exact hbst.is
end
end SW

namespace SW
open PySem PySem.Spec PyProof.Rows L2
abbrev s_l_lists : Stmt := topS 17
theorem sc_l_lists : FnScope ["script", "count", "values", "lists", "begin", "number", "draws", "index", "length"] ["script", "count", "values"] (defScope s_l_lists) := ⟨rfl, rfl, rfl, by decide +kernel, rfl, by decide +kernel, by decide +kernel⟩

def b3 (t : Int × Int × Int) : PyData := .tuple [.int t.1, .int t.2.1, .int t.2.2]
theorem LN_all {m : Nat} {ls : List Ld} (h : LsOk m ls) {R : Fm → Prop} (hR : ∀ (j : Nat) (l : Fm), ls[j]? = some (Ld.new l) → R l) : ∀ (n num : Nat), num ≤ n → num < ls.length → R (LN ls num)
  | n, num, hn, hl => by
    have g := List.getElem?_eq_getElem hl
    cases d : ls[num] with
    | new l =>
      rw [d] at g
      rw [LN_new g]
      exact hR _ _ g
    | wr o i v =>
      rw [d] at g
      have hk := (h num _ g).1
      rw [LN_wr h g]
      cases n with
      | zero => omega
      | succ n => exact LN_all h hR n o (by omega) (by omega)
theorem LsOk.nil (m : Nat) : LsOk m [] := fun _ _ h => nomatch h
theorem new_nil {R : Fm → Prop} : ∀ (j : Nat) (f : Fm), ([] : List Ld)[j]? = some (Ld.new f) → R f := fun _ _ h => nomatch h
theorem LsOk.snoc {m : Nat} {ls : List Ld} {l : Ld} (h : LsOk m ls) (hl : l.ok m ls.length) : LsOk m (ls ++ [l]) := fun j d e => by
  by_cases hj : j < ls.length
  · rw [List.getElem?_append_left hj] at e
    exact h j d e
  · rw [List.getElem?_append_right (by omega)] at e
    have hj0 : j = ls.length := by
      refine Classical.byContradiction fun hne => ?_
      obtain ⟨m, hm⟩ : ∃ m, j - ls.length = m + 1 := ⟨j - ls.length - 1, by omega⟩
      rw [hm] at e
      cases e
    subst hj0
    rw [Nat.sub_self] at e
    cases e
    exact hl
theorem new_snoc {ls : List Ld} {l : Ld} {R : Fm → Prop} (h : ∀ (j : Nat) (f : Fm), ls[j]? = some (Ld.new f) → R f) (hl : ∀ f, l = Ld.new f → R f) : ∀ (j : Nat) (f : Fm), (ls ++ [l])[j]? = some (Ld.new f) → R f := fun j f e => by
  have := List.mem_of_getElem? e
  rcases List.mem_append.mp this with h1 | h1
  · obtain ⟨i, hi⟩ := List.getElem?_of_mem h1
    exact h i f hi
  · exact hl f (List.mem_singleton.mp h1).symm
theorem noL_ld (l : Ld) : noL l.enc = true := by
  cases l <;> rfl
theorem noLs_ld : ∀ ls : List Ld, noLs (ls.map Ld.enc) = true
  | [] => rfl
  | l :: r => by
    show (noL l.enc && noLs (r.map Ld.enc)) = true
    rw [noL_ld, noLs_ld r]
    rfl
theorem noLs_b3 : ∀ bs : List (Int × Int × Int), noLs (bs.map b3) = true
  | [] => rfl
  | _ :: r => noLs_b3 r
theorem but_upd {H : Hp} {p : Addr} {o : HO} : But p H (upd H p o) := fun b x hb e => (upd_ne hb).trans e
def Wb (ns : List Int) (f : Fm) : Prop := -1000 ≤ wo ns f ∧ wo ns f ≤ 1000
def LB (ns : List Int) : Ld → Prop
  | .new f => 0 ≤ wo ns f ∧ wo ns f ≤ 100
  | .wr _ i v => Wb ns i ∧ Wb ns v
def LsB (ns : List Int) (ls : List Ld) : Prop := ∀ l, l ∈ ls → LB ns l
def VsB (ns : List Int) : Prop := ∀ z, z ∈ ns → -(10 ^ 10) ≤ z ∧ z ≤ 10 ^ 10
theorem LsB.new {ns : List Int} {ls : List Ld} (h : LsB ns ls) (j : Nat) (l : Fm) (e : ls[j]? = some (Ld.new l)) : 0 ≤ wo ns l ∧ wo ns l ≤ 100 := h _ (List.mem_of_getElem? e)
theorem LsB.snoc {ns : List Int} {ls : List Ld} {l : Ld} (h : LsB ns ls) (hl : LB ns l) : LsB ns (ls ++ [l]) := fun d hd => by
  rcases List.mem_append.mp hd with hd | hd
  · exact h d hd
  · rw [List.mem_singleton.mp hd]
    exact hl
theorem f_small {ns : List Int} {f : Fm} (hn : ns.length ≤ 1000) (hv : VsB ns) (ho : fok ns.length f) (hb : Wb ns f) : f.1.natAbs < 10 ^ 60 ∧ f.2.natAbs < 10 ^ 60 := by
  obtain ⟨h0, h1⟩ := ho
  obtain ⟨b0, b1⟩ := hb
  refine ⟨by omega, ?_⟩
  by_cases e : f.1 = 0
  · have : wo ns f = f.2 := if_pos e
    omega
  · have e1 : wo ns f = ns.getD (f.1 - 1).toNat 0 + f.2 := if_neg e
    have hj : (f.1 - 1).toNat < ns.length := by omega
    have e2 : ns.getD (f.1 - 1).toNat 0 = ns[(f.1 - 1).toNat] := by
      rw [List.getD_eq_getElem?_getD, List.getElem?_eq_getElem hj]
      rfl
    have := hv _ (List.getElem_mem hj)
    omega
theorem sm_f2 {f : Fm} (h : f.1.natAbs < 10 ^ 60 ∧ f.2.natAbs < 10 ^ 60) : smS (f2 f) = true := by
  show (decide (f.1.natAbs < 10 ^ 60) && (decide (f.2.natAbs < 10 ^ 60) && true)) = true
  rw [decide_eq_true h.1, decide_eq_true h.2]
  rfl
section
variable {P : Program} {w : World} {K : PySem.W.Frag} {mg : PySem.Str → Option Value} {base : Heap} {C : Addr}
def spLists (K : PySem.W.Frag) : Sp := fun vs H Q _ => ∃ (a b : Addr) (n : Nat) (sc ns : List Int), vs = [.ref a, .int n, .ref b] ∧ SqL K H a (sc.map V.int) ∧ SqL K H b (ns.map V.int) ∧ ns.length ≤ 1000 ∧ VsB ns ∧ n ≤ 10 ∧
  ∀ (t al ad : Addr) (xl xd : List V) (ls : List Ld) (bs : List (Int × Int × Int)) (H' : Hp), Same H H' → H' t = some (.tup [.ref al, .ref ad]) → H' al = some (.lst xl) → H' ad = some (.lst xd) → H al = none → H ad = none → al ≠ ad → DpAll K H' xl (ls.map Ld.enc) → DpAll K H' xd (bs.map b3) → LsOk ns.length ls → ls.length = n → bs.length ≤ n → LsB ns ls → (∀ t, t ∈ bs → smS (b3 t) = true) → Q (.ref t) H'
theorem ok_l_lists (T : TxB mg) (D_l_lists : Df K mg "_law_lists" s_l_lists ["script", "count", "values"]) (D_l_draws : Df K mg "_law_draws" s_l_draws ["script", "place", "sizes"]) (D_l_form_for : Df K mg "_law_form_for" s_l_form_for ["draw", "values", "target"]) (D_l_at_most : Df K mg "_law_at_most" s_l_at_most ["f", "g"]) (G_l_draws : FnOk P w K mg base CX0 2 D_l_draws.f D_l_draws.fd ["script", "place", "sizes"] (spDr K)) (G_l_form_for : FnOk P w K mg base CX0 1 D_l_form_for.f D_l_form_for.fd ["draw", "values", "target"] (spFormFor K)) (G_l_at_most : FnOk P w K mg base CX0 1 D_l_at_most.f D_l_at_most.fd ["f", "g"] (spAtMost K)) : FnOk P w K mg base CX0 3 D_l_lists.f D_l_lists.fd ["script", "count", "values"] (spLists K) := by
  refine D_l_lists.F.ok sc_l_lists (fun vs H Q E h => ?_) (fun cdv A outer s H vs Q E hr h => ?_)
  · obtain ⟨a, b, n, sc, ns, rfl, _⟩ := h
    rfl
  · obtain ⟨a, b, n, sc, ns, rfl, ha, hb, hnl, hvs, hn, q⟩ := h
    refine ⟨_, (pss_cons (ps_set (i := 3) sc_l_lists.nd rfl (.inl rfl) (pe_lst pa_nil))
    (pss_cons (ps_set (i := 4) sc_l_lists.nd rfl (.inl rfl) (pe_lst pa_nil))
    (pss_cons (ps_for PassesOwn.never rfl (pi_range1 (by rfl) T.n_range (pa_cons (pv 1) pa_nil)) (pg_name (i := 5) sc_l_lists.nd rfl (.inl rfl))
    (pss_cons (ps_set (i := 6) sc_l_lists.nd rfl (.inl rfl) (pe_call G_l_draws (hr.mono (by decide)) (by rfl) D_l_draws.g D_l_draws.F.kp D_l_draws.b .nil pass0 (pa_cons (pv 0) (pa_cons (pe_op op_add pe_int (pv 5)) (pa_cons (pe_lst (pa_cons pe_int (pa_cons pe_int (pa_cons pe_int (pa_cons pe_int (pa_cons pe_int (pa_cons pe_int pa_nil))))))) pa_nil)))))
    (pss_one (ps_if (PW.pt (pw_and (pt_cmpR op_gt (pv 5) pe_int (nomark _)) (pw_and1 (pt_cmpR op_gt (pe_ix ix_list (pv 6) pe_int (fun _ _ => rfl)) pe_int (nomark _)))))
    (pss_cons (ps_set (i := 7) sc_l_lists.nd rfl (.inl rfl) (pe_call G_l_form_for (hr.mono (by decide)) (by rfl) D_l_form_for.g D_l_form_for.F.kp D_l_form_for.b .nil pass0 (pa_cons (pe_ix ix_list (pv 6) pe_int (fun _ _ => rfl)) (pa_cons (pv 2) (pa_cons (pe_op op_sub (pe_ix ix_list (pv 6) pe_int (fun _ _ => rfl)) pe_int) pa_nil)))))
    (pss_one (ps_expr (pe_bm PySem.F.plainAttrs_list PySem.F.slot_list_append PySem.F.type_list_append mt_append (pv 3) (pa_cons (pe_tup (pa_cons pe_str (pa_cons (pe_op op_mod (pe_callTy call_int1 (by rfl) T.n_int (by decide +kernel) (pa_cons (pe_ix ix_list (pv 6) pe_int (fun _ _ => rfl)) pa_nil)) (pv 5)) (pa_cons (pv 7) (pa_cons (pe_call G_l_form_for (hr.mono (by decide)) (by rfl) D_l_form_for.g D_l_form_for.F.kp D_l_form_for.b .nil pass0 (pa_cons (pe_ix ix_list (pv 6) pe_int (fun _ _ => rfl)) (pa_cons (pv 2) (pa_cons (pe_op op_sub (pe_ix ix_list (pv 6) pe_int (fun _ _ => rfl)) pe_int) pa_nil)))) pa_nil))))) pa_nil)))))
    (pss_cons (ps_set (i := 8) sc_l_lists.nd rfl (.inl rfl) (pe_call G_l_form_for (hr.mono (by decide)) (by rfl) D_l_form_for.g D_l_form_for.F.kp D_l_form_for.b .nil pass0 (pa_cons (pe_ix ix_list (pv 6) pe_int (fun _ _ => rfl)) (pa_cons (pv 2) (pa_cons (pe_ix ix_list (pv 6) pe_int (fun _ _ => rfl)) pa_nil)))))
    (pss_cons (ps_expr (pe_bm PySem.F.plainAttrs_list PySem.F.slot_list_append PySem.F.type_list_append mt_append (pv 3) (pa_cons (pe_tup (pa_cons pe_str (pa_cons (pv 8) pa_nil))) pa_nil)))
    (pss_one (ps_expr (pe_bm PySem.F.plainAttrs_list PySem.F.slot_list_append PySem.F.type_list_append mt_append (pv 4) (pa_cons (pe_call G_l_at_most (hr.mono (by decide)) (by rfl) D_l_at_most.g D_l_at_most.F.kp D_l_at_most.b .nil pass0 (pa_cons (pe_tup (pa_cons pe_int (pa_cons pe_int pa_nil))) (pa_cons (pv 8) pa_nil))) pa_nil))))))))))
    (pss_one (ps_ret (pe_tup (pa_cons (pv 3) (pa_cons (pv 4) pa_nil)))))))), ?_⟩
    refine ⟨Nat.zero_le _, fun al nal => ⟨Nat.zero_le _, fun ad nad => ?_⟩⟩
    have sA := same_new (o := .lst []) nal
    have sB := same_new (o := .lst []) nad
    have ne : al ≠ ad := ne_of_none upd_same nad
    have nad' := sA.free nad
    refine ⟨_, rfl, n, rfl, by omega, by omega, ?_⟩
    refine for_range (lo := 0) (n := ((n : Nat) : Int).toNat) (fun i σ G => ∃ (y5 y6 y7 y8 : Option V) (xl xd : List V) (ls : List Ld) (bs : List (Int × Int × Int)), σ = [some (.ref a), some (.int n), some (.ref b), some (.ref al), some (.ref ad), y5, y6, y7, y8] ∧ Same H G ∧ G al = some (.lst xl) ∧ G ad = some (.lst xd) ∧ DpAll K G xl (ls.map Ld.enc) ∧ DpAll K G xd (bs.map b3) ∧ LsOk ns.length ls ∧ ls.length = i ∧ bs.length ≤ i ∧ LsB ns ls ∧ ∀ t, t ∈ bs → smS (b3 t) = true)
      ⟨_, _, _, _, [], [], [], [], rfl, sA.trans sB, (upd_ne ne).trans upd_same, upd_same, .nil, .nil, LsOk.nil _, rfl, Nat.le_refl _, fun _ h => (List.not_mem_nil h).elim, fun _ h => (List.not_mem_nil h).elim⟩ (fun i σ G hi hP => ?_) (fun σ G hP => ?_)
    · obtain ⟨y5, y6, y7, y8, xl, xd, ls, bs, rfl, sG, el, ed, dl, dd, lok, hls, hbs, hnew, hsm⟩ := hP
      have hxl : xl.length = ls.length := by rw [dpa_len dl, List.length_map]
      have hxd : xd.length = bs.length := by rw [dpa_len dd, List.length_map]
      refine ⟨_, rfl, _, rfl, _, _, rfl, rfl, by show (6 : Nat) ≤ sizeLine; decide, fun z nz => ?_⟩
      generalize hg : upd G z _ = G1
      obtain ⟨s1, e1⟩ := new_of nz hg
      refine ⟨a, z, sc, [2, 7, 40, 40, 10, 1000], _, rfl, (sG.trans s1).seq ha, by omega, by omega, SqL.of e1, by decide, by decide, fun D dr G2 hdl hb2 s2 nD eD => ?_⟩
      have hdl : dr.length = 6 := hdl
      have sH := (sG.trans s1).trans s2
      have sg := s1.trans s2
      obtain ⟨p0, p1⟩ := hb2 1 dr[1] 7 (List.getElem?_eq_getElem (by omega)) rfl
      have el2 := sg _ _ el
      have ed2 := sg _ _ ed
      have dl2 := dpa_same sg _ _ dl
      have dd2 := dpa_same sg _ _ dd
      have nDl : al ≠ D := fun e => by
        rw [← e, s1 _ _ el] at nD
        cases nD
      refine ⟨_, rfl, _, _, rfl, rfl, _, rfl, ite2 (fun e0 => ⟨_, rfl, D, _, _, _, rfl, rfl, SqL.of eD, ints_at (j := 0) (by omega), _, _, rfl, rfl, _, rfl, ite2 (fun e1 => ?wr) (fun e1 => ?nw)⟩) (fun e0 => ?nw2)⟩
      case wr =>
        have e0 := of_decide_eq_true e0
        have bS := sH.seq hb
        obtain ⟨p2, p3⟩ := hb2 4 dr[4] 10 (List.getElem?_eq_getElem (by omega)) rfl
        obtain ⟨p4, p5⟩ := hb2 5 dr[5] 1000 (List.getElem?_eq_getElem (by omega)) rfl
        refine ⟨_, rfl, D, _, _, _, rfl, rfl, SqL.of eD, ints_at (j := 2) (by omega), _, rfl, _, rfl, D, _, _, _, rfl, rfl, SqL.of eD, ints_at (j := 4) (by omega), _, _, rfl, rfl, b, dr[2], _, ns, rfl, bS, hnl, fun t f H3 s3 et fo hw => ?_⟩
        refine ⟨_, rfl, .inl ⟨rfl, _, SqL.of (s3 _ _ el2)⟩, ?_⟩
        have eD3 := s3 _ _ eD
        refine ⟨_, rfl, D, _, _, _, rfl, rfl, SqL.of eD3, ints_at (j := 1) (by omega), .inl ⟨_, rfl, _, rfl, _, _, rfl, rfl, e0, ?_⟩⟩
        have m0 : 0 ≤ dr[1] % (0 + (i : Nat) : Int) := Int.emod_nonneg _ (by omega)
        have m1 : dr[1] % (0 + (i : Nat) : Int) < (0 + (i : Nat) : Int) := Int.emod_lt_of_pos _ e0
        dsimp only
        generalize dr[1] % (0 + (i : Nat) : Int) = o at m0 m1
        obtain ⟨o, rfl⟩ : ∃ j : Nat, o = j := ⟨o.toNat, by omega⟩
        refine ⟨_, rfl, ?_⟩
        refine ⟨_, rfl, D, _, _, _, rfl, rfl, SqL.of eD3, ints_at (j := 3) (by omega), _, rfl, _, rfl, D, _, _, _, rfl, rfl, SqL.of eD3, ints_at (j := 5) (by omega), _, _, rfl, rfl, b, dr[3], _, ns, rfl, s3.seq bS, hnl, fun t' g H3' s3' et' go hw' => ?_⟩
        refine ⟨by show (4 : Nat) ≤ sizeLine; decide, fun p np => ?_⟩
        generalize hg : upd H3' p _ = H4
        obtain ⟨s4, e4⟩ := new_of np hg
        have s34 := (s3.trans s3').trans s4
        have el4 := s34 _ _ el2
        refine ⟨al, _, _, rfl, rfl, el4, by rw [hxl]; exact small_sz (by omega), ?_⟩
        have tf : Dp K H4 (.ref t) (f2 f) := .tup (SqT.of ((s3'.trans s4) _ _ et)) (.cons (.int _) (.cons (.int _) .nil))
        have tg : Dp K H4 (.ref t') (f2 g) := .tup (SqT.of (s4 _ _ et')) (.cons (.int _) (.cons (.int _) .nil))
        have tn : Dp K H4 (.ref p) (Ld.wr o f g).enc := .tup (SqT.of e4) (.cons (.str _) (.cons (.int _) (.cons tf (.cons tg .nil))))
        have dl4 := dpa_snoc (dpa_same s34 _ _ dl2) tn
        rw [← List.map_singleton (f := Ld.enc), ← List.map_append] at dl4
        have nl : noLs ((ls ++ [Ld.wr o f g]).map Ld.enc) = true := noLs_ld _
        have b5 := but_upd (H := H4) (p := al) (o := .lst (xl ++ [.ref p]))
        exact ⟨_, _, _, _, xl ++ [.ref p], xd, ls ++ [Ld.wr o f g], bs, rfl, same_mut (sH.trans s34) nal, upd_same, b5 _ _ ne.symm (s34 _ _ ed2), dpa_but el4 b5 _ _ nl dl4, dpa_but el4 b5 _ _ (noLs_b3 _) (dpa_same s34 _ _ dd2), lok.snoc ⟨by omega, fo, go⟩, by rw [List.length_append, hls]; rfl, Nat.le_succ_of_le hbs, hnew.snoc ⟨⟨by omega, by omega⟩, ⟨by omega, by omega⟩⟩, hsm⟩
      all_goals
        have bS := sH.seq hb
        obtain ⟨p0, p1⟩ := hb2 1 dr[1] 7 (List.getElem?_eq_getElem (by omega)) rfl
        refine ⟨_, rfl, D, _, _, _, rfl, rfl, SqL.of eD, ints_at (j := 2) (by omega), _, rfl, _, rfl, D, _, _, _, rfl, rfl, SqL.of eD, ints_at (j := 1) (by omega), b, dr[2], _, ns, rfl, bS, hnl, fun t f H3 s3 et fo hw => ?_⟩
        refine ⟨_, rfl, .inl ⟨rfl, _, SqL.of (s3 _ _ el2)⟩, ?_⟩
        refine ⟨_, rfl, by show (2 : Nat) ≤ sizeLine; decide, fun p np => ?_⟩
        generalize hg : upd H3 p _ = H4
        obtain ⟨s4, e4⟩ := new_of np hg
        have s34 := s3.trans s4
        have el4 := s34 _ _ el2
        refine ⟨al, _, _, rfl, rfl, el4, by rw [hxl]; exact small_sz (by omega), ?_⟩
        have tf : Dp K H4 (.ref t) (f2 f) := .tup (SqT.of (s4 _ _ et)) (.cons (.int _) (.cons (.int _) .nil))
        have tn : Dp K H4 (.ref p) (Ld.new f).enc := .tup (SqT.of e4) (.cons (.str _) (.cons tf .nil))
        have dl4 := dpa_snoc (dpa_same s34 _ _ dl2) tn
        rw [← List.map_singleton (f := Ld.enc), ← List.map_append] at dl4
        have nl : noLs ((ls ++ [Ld.new f]).map Ld.enc) = true := noLs_ld _
        generalize hg5 : upd H4 al _ = H5
        have b5 : But al H4 H5 := hg5 ▸ but_upd
        have el5 : H5 al = some (.lst (xl ++ [.ref p])) := hg5 ▸ upd_same
        have s5 : Same H H5 := hg5 ▸ same_mut (sH.trans s34) nal
        have ed5 := b5 _ _ ne.symm (s34 _ _ ed2)
        refine ⟨_, rfl, .inl ⟨rfl, _, SqL.of ed5⟩, ?_⟩
        refine ⟨by show (2 : Nat) ≤ sizeLine; decide, fun p6 np6 => ?_⟩
        generalize hg : upd H5 p6 _ = H6
        obtain ⟨s6, e6⟩ := new_of np6 hg
        refine ⟨_, rfl, _, _, (0, 0), f, rfl, .tup (SqT.of e6) (.cons (.int _) (.cons (.int _) .nil)), (dp_but el4 b5 _ _ rfl tf).same s6, fun t7 H7 s7 e7 => ?_⟩
        have s67 := s6.trans s7
        have ed7 := s67 _ _ ed5
        refine ⟨ad, _, _, rfl, rfl, ed7, by rw [hxd]; exact small_sz (by omega), ?_⟩
        have b8 := but_upd (H := H7) (p := ad) (o := .lst (xd ++ [.ref t7]))
        refine ⟨_, _, _, _, xl ++ [.ref p], xd ++ [.ref t7], ls ++ [Ld.new f], bs ++ [(0, f.1, f.2 - 0)], rfl, same_mut (s5.trans s67) nad', b8 _ _ ne (s67 _ _ el5), upd_same, ?_, ?_, lok.snoc fo, by rw [List.length_append, hls]; rfl, by rw [List.length_append]; exact Nat.succ_le_succ hbs, hnew.snoc ⟨by omega, by omega⟩, fun c hc => ?_⟩
        · exact dpa_but ed7 b8 _ _ nl (dpa_same s67 _ _ (dpa_but el4 b5 _ _ nl dl4))
        · rw [List.map_append]
          exact dpa_but ed7 b8 _ _ (by rw [← List.map_append]; exact noLs_b3 _) (dpa_snoc (dpa_same s67 _ _ (dpa_but el4 b5 _ _ (noLs_b3 _) (dpa_same s34 _ _ dd2))) (.tup (SqT.of e7) (.cons (.int _) (.cons (.int _) (.cons (.int _) .nil)))))
        · rcases List.mem_append.mp hc with hc | hc
          · exact hsm c hc
          · rw [List.mem_singleton.mp hc]
            have := f_small hnl hvs fo ⟨by omega, by omega⟩
            show (decide ((0 : Int).natAbs < 10 ^ 60) && (decide (f.1.natAbs < 10 ^ 60) && (decide ((f.2 - 0).natAbs < 10 ^ 60) && true))) = true
            rw [decide_eq_true this.1, Int.sub_zero, decide_eq_true this.2]
            rfl
    · obtain ⟨y5, y6, y7, y8, xl, xd, ls, bs, rfl, sG, el, ed, dl, dd, lok, hls, hbs, hnew, hsm⟩ := hP
      refine ⟨_, rfl, _, rfl, by show (2 : Nat) ≤ sizeLine; decide, fun t nt => ?_⟩
      have s1 := same_new (o := .tup [.ref al, .ref ad]) nt
      exact q t al ad xl xd ls bs _ (sG.trans s1) upd_same (s1 _ _ el) (s1 _ _ ed) nal nad' ne (dpa_same s1 _ _ dl) (dpa_same s1 _ _ dd) lok (by omega) (by omega) hnew hsm
end
end SW

namespace SW
open PySem PySem.Spec PyProof.Rows L2
abbrev s_l_cells : Stmt := topS 18
theorem sc_l_cells : FnScope ["script", "known", "values", "draws", "k", "number", "target", "index", "alike", "cell", "value"] ["script", "known", "values"] (defScope s_l_cells) := ⟨rfl, rfl, rfl, by decide +kernel, rfl, by decide +kernel, by decide +kernel⟩

def Bnd (ns : List Int) (cs : List Ce) : Prop := ∀ c, c ∈ cs → (-2 ≤ wo ns c.i ∧ wo ns c.i ≤ 7) ∧ Wb ns c.v ∧ c.n ≤ 1000
def Con (ls : List Ld) (ns : List Int) (cs : List Ce) : Prop := ∀ (b : Nat) (l : Fm), ls[b]? = some (Ld.new l) → Cons1 (prs cs ns b)
theorem Con.nil (ls : List Ld) (ns : List Int) : Con ls ns [] := fun _ _ _ _ _ _ h _ => nomatch h
theorem Con.snoc {ls : List Ld} {ns : List Int} {cs : List Ce} {c : Ce} (h : Con ls ns cs) (hc : ∀ l, ls[c.n]? = some (Ld.new l) → ∀ u, (wo ns c.i, u) ∈ prs cs ns c.n → u = wo ns c.v) : Con ls ns (cs ++ [c]) := fun b l hb => by
  rw [prs_snoc]
  by_cases e : c.n = b
  · rw [if_pos e]
    subst e
    intro a v u h1 h2
    rcases List.mem_append.mp h1 with h1 | h1
    · rcases List.mem_append.mp h2 with h2 | h2
      · exact h _ l hb a v u h1 h2
      · obtain ⟨rfl, rfl⟩ := Prod.mk.inj (List.mem_singleton.mp h2)
        exact hc l hb v h1
    · obtain ⟨rfl, rfl⟩ := Prod.mk.inj (List.mem_singleton.mp h1)
      rcases List.mem_append.mp h2 with h2 | h2
      · exact (hc l hb u h2).symm
      · exact (Prod.mk.inj (List.mem_singleton.mp h2)).2.symm
  · rw [if_neg e, List.append_nil]
    exact h b l hb
theorem mem_prs {cs : List Ce} {ns : List Int} {b : Nat} {a u : Int} (h : (a, u) ∈ prs cs ns b) : ∃ c, c ∈ cs ∧ c.n = b ∧ wo ns c.i = a ∧ wo ns c.v = u := by
  obtain ⟨c, hc, e⟩ := List.mem_map.mp h
  obtain ⟨h1, h2⟩ := List.mem_filter.mp hc
  obtain ⟨h3, h4⟩ := Prod.mk.inj e
  exact ⟨c, h1, of_decide_eq_true h2, h3, h4⟩
theorem prs_mem {cs : List Ce} {ns : List Int} {c : Ce} (h : c ∈ cs) : (wo ns c.i, wo ns c.v) ∈ prs cs ns c.n := List.mem_map.mpr ⟨c, List.mem_filter.mpr ⟨h, decide_eq_true rfl⟩, rfl⟩
theorem dr_at {dr ss : List Int} {n j : Nat} {z : Int} (h : dr.length = n) (e : z = (j : Nat)) (hj : j < n) (hs : ss.length = n) (hb : Below dr ss) (hm : ∀ s, s ∈ ss → 0 < s ∧ s ≤ 1000) : ∃ d : Int, atI (dr.map V.int) z = some (.int d) ∧ 0 ≤ d ∧ d < 1000 := by
  subst e
  have h1 : j < dr.length := by omega
  have h2 : j < ss.length := by omega
  obtain ⟨a, b⟩ := hb j _ _ (List.getElem?_eq_getElem h1) (List.getElem?_eq_getElem h2)
  have := hm _ (List.getElem_mem h2)
  exact ⟨_, ints_at h1, a, by omega⟩
theorem wrF_inl {ls : List Ld} {ns : List Int} {k w : Int} : ∀ (f num : Nat), wrF ls ns f num k = .inl w → ∃ o i v, Ld.wr o i v ∈ ls ∧ wo ns v = w
  | 0, _, h => nomatch h
  | f + 1, num, h => by
    unfold wrF at h
    cases e : ls[num]? with
    | none =>
      rw [e] at h
      cases h
    | some l =>
      rw [e] at h
      cases l with
      | new l => cases h
      | wr o i v =>
        dsimp only at h
        by_cases hk : k = wo ns i
        · rw [if_pos hk] at h
          cases h
          exact ⟨o, i, v, List.mem_of_getElem? e, rfl⟩
        · rw [if_neg hk] at h
          exact wrF_inl f o h
theorem TV_bnd {ls : List Ld} {ns : List Int} {cs : List Ce} {num : Nat} {k v : Int} (hl : LsB ns ls) (hc : Bnd ns cs) (h : TV ls ns cs num k v) : -1000 ≤ v ∧ v ≤ 1000 := by
  unfold TV at h
  cases e : WR ls ns num k with
  | inl w =>
    rw [e] at h
    obtain ⟨o, i, u, h1, h2⟩ := wrF_inl _ _ e
    have := (hl _ h1).2
    unfold Wb at this
    dsimp only at h
    omega
  | inr b =>
    rw [e] at h
    rcases h with ⟨a, h1, _, _⟩ | ⟨h1, _⟩
    · obtain ⟨c, g1, _, _, g4⟩ := mem_prs h1
      have := (hc c g1).2.1
      unfold Wb at this
      omega
    · omega
section
variable {P : Program} {w : World} {K : PySem.W.Frag} {mg : PySem.Str → Option Value} {base : Heap} {C : Addr}
def spCells (K : PySem.W.Frag) : Sp := fun vs H Q _ => ∃ (a kp ad al ac b : Addr) (m : Int) (xl : List V) (ls : List Ld) (sc ns : List Int), vs = [.ref a, .ref kp, .ref b] ∧ (∀ G, But ac H G → SqL K G a (sc.map V.int)) ∧ (∀ G, But ac H G → SqL K G b (ns.map V.int)) ∧ ns.length ≤ 1000 ∧ LkAt K H kp ad al ac m xl [] ls [] ∧ kp ≠ ac ∧ al ≠ ac ∧ LsOk ns.length ls ∧ 0 < ls.length ∧ ls.length ≤ 10 ∧ LsB ns ls ∧
  ∀ (xc : List V) (cs : List Ce) (H' : Hp), But ac H H' → LkAt K H' kp ad al ac m xl xc ls cs → CsOk ns.length cs → cs.length ≤ 10 → Bnd ns cs → Con ls ns cs → Q .non H'
theorem ok_l_cells (T : TxB mg) (D_l_cells : Df K mg "_law_cells" s_l_cells ["script", "known", "values"]) (D_l_draws : Df K mg "_law_draws" s_l_draws ["script", "place", "sizes"]) (D_l_form_for : Df K mg "_law_form_for" s_l_form_for ["draw", "values", "target"]) (D_l_of : Df K mg "_law_of" s_l_of ["form", "values"]) (D_l_told : Df K mg "_law_told" s_l_told ["known", "values", "number", "k"]) (G_l_draws : FnOk P w K mg base CX0 2 D_l_draws.f D_l_draws.fd ["script", "place", "sizes"] (spDr K)) (G_l_form_for : FnOk P w K mg base CX0 1 D_l_form_for.f D_l_form_for.fd ["draw", "values", "target"] (spFormFor K)) (G_l_of : FnOk P w K mg base CX0 1 D_l_of.f D_l_of.fd ["form", "values"] (spLOf K)) (G_l_told : FnOk P w K mg base CX0 2 D_l_told.f D_l_told.fd ["known", "values", "number", "k"] (spTold K)) : FnOk P w K mg base CX0 3 D_l_cells.f D_l_cells.fd ["script", "known", "values"] (spCells K) := by
  refine D_l_cells.F.ok sc_l_cells (fun vs H Q E h => ?_) (fun cdv A outer s H vs Q E hr h => ?_)
  · obtain ⟨a, kp, ad, al, ac, b, m, xl, ls, sc, ns, rfl, _⟩ := h
    rfl
  · obtain ⟨a, kp, ad, al, ac, b, m, xl, ls, sc, ns, rfl, ha, hb, hnl, lk, nk, nal, lok, hl0, hl1, lsb, q⟩ := h
    refine ⟨_, (pss_cons (ps_set (i := 3) sc_l_cells.nd rfl (.inl rfl) (pe_call G_l_draws (hr.mono (by decide)) (by rfl) D_l_draws.g D_l_draws.F.kp D_l_draws.b .nil pass0 (pa_cons (pv 0) (pa_cons pe_int (pa_cons (pe_op op_cat (pe_lst (pa_cons pe_int (pa_cons pe_int pa_nil))) (pe_lc (own := [("k", 4)]) (g := gName 4) (by rfl) sc_l_cells.nd (pi_range1 (by rfl) T.n_range (pa_cons pe_int pa_nil)) (blkOk_by (own := [("k", 4)]) (N := ["script", "known", "values", "draws", "k", "number", "target", "index", "alike", "cell", "value"]) (sc := defScope s_l_cells) (by decide +kernel)) (fun _ _ _ _ _ => pg_name (i := 4) sc_l_cells.nd rfl (Or.inl rfl)) (fun _ _ _ _ _ => pts_nil) (fun _ _ _ _ _ => pe_int))) pa_nil)))))
    (pss_one (ps_for PassesOwn.never rfl (pi_range1 (by rfl) T.n_range (pa_cons pe_int pa_nil)) (pg_name (i := 4) sc_l_cells.nd rfl (.inl rfl))
    (Evl.pss_cut (ps_if (PW.pt (pw_or (PW.pt (pw_and (pt_cmpR op_lt (pv 4) pe_int (nomark _)) (pw_and1 (pt_cmpR op_ge (pv 4) (pe_ix ix_list (pv 3) pe_int (fun _ _ => rfl)) (nomark _))))) (pw_or1 (PW.pt (pw_and (pt_cmpR op_gt (pv 4) pe_int (nomark _)) (pw_and1 (pt_cmpR op_ge (pe_op op_sub (pv 4) pe_int) (pe_ix ix_list (pv 3) pe_int (fun _ _ => rfl)) (nomark _))))))))
    (pss_one ps_continue)
    pss_nil)
    (pss_cons (ps_set (i := 5) sc_l_cells.nd rfl (.inr rfl) (pe_op op_mod (pe_callTy call_int1 (by rfl) T.n_int (by decide +kernel) (pa_cons (pe_ix ix_list (pv 3) (pe_op op_add (pe_op op_mul pe_int (pv 4)) pe_int) (fun _ _ => rfl)) pa_nil)) (pe_callB call_len_seq (by rfl) T.n_len PySem.boot_len (pa_cons (pe_ix ix_list (pv 1) pe_int (fun _ _ => rfl)) pa_nil))))
    (pss_cons (ps_set (i := 6) sc_l_cells.nd rfl (.inr rfl) (pe_op op_sub (pe_op op_mod (pe_callTy call_int1 (by rfl) T.n_int (by decide +kernel) (pa_cons (pe_ix ix_list (pv 3) (pe_op op_add (pe_op op_mul pe_int (pv 4)) pe_int) (fun _ _ => rfl)) pa_nil)) pe_int) pe_int))
    (pss_cons (ps_set (i := 7) sc_l_cells.nd rfl (.inr rfl) (pe_call G_l_form_for (hr.mono (by decide)) (by rfl) D_l_form_for.g D_l_form_for.F.kp D_l_form_for.b .nil pass0 (pa_cons (pe_ix ix_list (pv 3) (pe_op op_add (pe_op op_mul pe_int (pv 4)) pe_int) (fun _ _ => rfl)) (pa_cons (pv 2) (pa_cons (pv 6) pa_nil)))))
    (pss_cons (ps_setLc (i := 8) (own := [("cell", 9)]) (g := gName 9) (by rfl) sc_l_cells.nd rfl rfl (sw_true rfl rfl rfl (by decide +kernel)) (pi_list (pe_ix ix_list (pv 1) pe_int (fun _ _ => rfl))) (blkOk_by (own := [("cell", 9)]) (N := ["script", "known", "values", "draws", "k", "number", "target", "index", "alike", "cell", "value"]) (sc := defScope s_l_cells) (by decide +kernel)) (fun _ _ _ _ _ => pg_name (i := 9) sc_l_cells.nd rfl (Or.inl rfl)) (fun _ _ _ _ _ => pts_one (PW.pt (pw_and (pt_cmpR op_eq (pe_ix (show IxR _ (rIxT K) from ix_tup) (pv 9) pe_int (fun _ _ => rfl)) (pv 5) (nomark _)) (pw_and1 (pt_cmpR op_eq (pe_call G_l_of (hr.mono (by decide)) (by rfl) D_l_of.g D_l_of.F.kp D_l_of.b .nil pass0 (pa_cons (pe_ix (show IxR _ (rIxT K) from ix_tup) (pv 9) pe_int (fun _ _ => rfl)) (pa_cons (pv 2) pa_nil))) (pv 6) (nomark _)))))) (fun _ _ _ _ _ => (pv 9)))
    (pss_cons (ps_set (i := 10) sc_l_cells.nd rfl (.inl rfl) (pe_op op_sub (pe_op op_fdiv (pe_callTy call_int1 (by rfl) T.n_int (by decide +kernel) (pa_cons (pe_ix ix_list (pv 3) (pe_op op_add (pe_op op_mul pe_int (pv 4)) pe_int) (fun _ _ => rfl)) pa_nil)) pe_int) pe_int))
    (Evl.pss_cut (ps_if (pt_cmpR op_gt (pe_callB call_len_seq (by rfl) T.n_len PySem.boot_len (pa_cons (pv 8) pa_nil)) pe_int (nomark _))
    (pss_one (ps_set (i := 10) sc_l_cells.nd rfl (.inl rfl) (pe_call G_l_of (hr.mono (by decide)) (by rfl) D_l_of.g D_l_of.F.kp D_l_of.b .nil pass0 (pa_cons (pe_ix ix_tup (pe_ix ix_list (pv 8) pe_int (fun _ _ => rfl)) pe_int (fun _ _ => rfl)) (pa_cons (pv 2) pa_nil)))))
    pss_nil)
    (Evl.pss_cut (ps_if (pt_cmpR op_ne (pe_callTy call_int1 (by rfl) T.n_int (by decide +kernel) (pa_cons (pe_cmpR op_eq (pe_ix ix_tup (pe_ix ix_list (pe_ix ix_list (pv 1) pe_int (fun _ _ => rfl)) (pv 5) (fun _ _ => rfl)) pe_int (fun _ _ => rfl)) pe_str (nomark _)) pa_nil)) (pe_callTy call_int1 (by rfl) T.n_int (by decide +kernel) (pa_cons (pe_cmpR op_gt (pv 4) pe_int (nomark _)) pa_nil)) (nomark _))
    (pss_one ps_continue)
    pss_nil)
    (Evl.pss_cut (ps_if (pt_cmpR op_gt (pv 4) pe_int (nomark _))
    (pss_one (ps_set (i := 10) sc_l_cells.nd rfl (.inl rfl) (pe_call G_l_told (hr.mono (by decide)) (by rfl) D_l_told.g D_l_told.F.kp D_l_told.b .nil pass0 (pa_cons (pv 1) (pa_cons (pv 2) (pa_cons (pv 5) (pa_cons (pv 6) pa_nil)))))))
    pss_nil)
    (pss_one (ps_if (pt_cmpR op_eq (pe_callB call_len_seq (by rfl) T.n_len PySem.boot_len (pa_cons (pe_lc (own := [("cell", 9)]) (g := gName 9) (by rfl) sc_l_cells.nd (pi_list (pv 8)) (blkOk_by (own := [("cell", 9)]) (N := ["script", "known", "values", "draws", "k", "number", "target", "index", "alike", "cell", "value"]) (sc := defScope s_l_cells) (by decide +kernel)) (fun _ _ _ _ _ => pg_name (i := 9) sc_l_cells.nd rfl (Or.inl rfl)) (fun _ _ _ _ _ => pts_one (pt_cmpR (show OpR _ _ (rEqD K) from op_eqD hr.units) (pe_ix (show IxR _ (rIxT K) from ix_tup) (pv 9) pe_int (fun _ _ => rfl)) (pv 7) (nomark _))) (fun _ _ _ _ _ => (pv 9))) pa_nil)) pe_int (nomark _))
    (pss_one (ps_expr (pe_bm PySem.F.plainAttrs_list PySem.F.slot_list_append PySem.F.type_list_append mt_append (pe_ix ix_list (pv 1) pe_int (fun _ _ => rfl)) (pa_cons (pe_tup (pa_cons (pv 5) (pa_cons (pv 7) (pa_cons (pe_call G_l_form_for (hr.mono (by decide)) (by rfl) D_l_form_for.g D_l_form_for.F.kp D_l_form_for.b .nil pass0 (pa_cons (pe_ix ix_list (pv 3) (pe_op op_add (pe_op op_mul pe_int (pv 4)) pe_int) (fun _ _ => rfl)) (pa_cons (pv 2) (pa_cons (pv 10) pa_nil)))) pa_nil)))) pa_nil))))
    pss_nil)))))))))))))), ?_⟩
    have hxl : xl.length = ls.length := by rw [dpa_len lk.lx, List.length_map]
    refine ⟨_, rfl, by show (2 : Nat) ≤ sizeLine; decide, fun p1 np1 => ?_⟩
    generalize hg : upd H p1 _ = H1
    obtain ⟨s1, e1⟩ := new_of np1 hg
    refine ⟨40, rfl, by decide, by decide, fun Z nZ => ?_⟩
    refine lc_vals (walk_range (lo := 0) (n := 40)) nZ (fun _ => .int 1000) (by decide) (fun _ _ => trivial) (fun i x H2 H2' Q' hi s2 y q' => ?_) (fun H2 s2 e2 => ?_)
    · obtain ⟨rfl, rfl⟩ := y
      exact ⟨rfl, q' _ (Same.refl _)⟩
    refine ⟨p1, Z, _, _, rfl, rfl, s2 _ _ e1, e2, by decide, fun z nz => ?_⟩
    generalize hss : ([9, 3] ++ (List.range 40).map fun _ => (1000 : Int)) = ss
    have hsl : ss.length = 42 := by rw [← hss]; rfl
    generalize hg : upd H2 z _ = H3
    obtain ⟨s3, e3⟩ := new_of nz hg
    have e3 : H3 z = some (.lst (ss.map V.int)) := by
      rw [e3, ← hss, List.map_append, List.map_map]
      rfl
    have sH3 := (s1.trans s2).trans s3
    refine ⟨a, z, sc, ss, 3, rfl, ha _ (Same.but sH3), by decide, by decide, SqL.of e3, by omega, fun x hx => ?_, fun D dr H4 hdl hb2 s4 nD eD => ?_⟩
    · rw [← hss] at hx
      rcases List.mem_append.mp hx with hx | hx
      · simp only [List.mem_cons, List.not_mem_nil, or_false] at hx
        rcases hx with rfl | rfl <;> exact ⟨by decide, by decide⟩
      · obtain ⟨_, _, rfl⟩ := List.mem_map.mp hx
        exact ⟨by decide, by decide⟩
    have hdl : dr.length = 42 := by omega
    have hsm : ∀ x, x ∈ ss → 0 < x ∧ x ≤ 1000 := fun x hx => by
      rw [← hss] at hx
      rcases List.mem_append.mp hx with hx | hx
      · simp only [List.mem_cons, List.not_mem_nil, or_false] at hx
        rcases hx with rfl | rfl <;> exact ⟨by decide, by decide⟩
      · obtain ⟨_, _, rfl⟩ := List.mem_map.mp hx
        exact ⟨by decide, by decide⟩
    have sH := sH3.trans s4
    have nDc : D ≠ ac := (ne_of_none (sH3 _ _ lk.c) nD).symm
    refine ⟨10, rfl, by decide, by decide, ?_⟩
    refine for_range (lo := 0) (n := (10 : Int).toNat) (fun i σ G => ∃ (y4 y5 y6 y7 y8 y10 : Option V) (xc : List V) (cs : List Ce), σ = [some (.ref a), some (.ref kp), some (.ref b), some (.ref D), y4, y5, y6, y7, y8, none, y10] ∧ But ac H G ∧ G D = some (.lst (dr.map V.int)) ∧ LkAt K G kp ad al ac m xl xc ls cs ∧ CsOk ns.length cs ∧ cs.length ≤ i ∧ Bnd ns cs ∧ Con ls ns cs)
      ⟨_, _, _, _, _, _, [], [], rfl, Same.but sH, eD, lk.same sH, fun _ h => (List.not_mem_nil h).elim, Nat.le_refl _, fun _ h => (List.not_mem_nil h).elim, Con.nil _ _⟩ (fun i σ G hi hP => ?_) (fun σ G hP => ?_)
    · obtain ⟨y4, y5, y6, y7, y8, y10, xc, cs, rfl, bG, eDG, lkG, cok, hcs, bnd, con⟩ := hP
      have hxc : xc.length = cs.length := by rw [dpa_len lkG.cx, List.length_map]
      have cont : ∀ (y4 y5 y6 y7 y8 y10 : Option V) (G' : Hp), Same G G' → ∃ (y4' y5' y6' y7' y8' y10' : Option V) (xc : List V) (cs : List Ce), ([some (.ref a), some (.ref kp), some (.ref b), some (.ref D), y4, y5, y6, y7, y8, none, y10] : List (Option V)) = [some (.ref a), some (.ref kp), some (.ref b), some (.ref D), y4', y5', y6', y7', y8', none, y10'] ∧ But ac H G' ∧ G' D = some (.lst (dr.map V.int)) ∧ LkAt K G' kp ad al ac m xl xc ls cs ∧ CsOk ns.length cs ∧ cs.length ≤ i + 1 ∧ Bnd ns cs ∧ Con ls ns cs := fun y4 y5 y6 y7 y8 y10 G' s => ⟨_, _, _, _, _, _, xc, cs, rfl, bG.same s, s _ _ eDG, lkG.same s, cok, by omega, bnd, con⟩
      obtain ⟨d0, at0, l0, u0⟩ := dr_at (z := 0) (j := 0) hdl rfl (by decide) hsl hb2 hsm
      obtain ⟨d1, at1, l1, u1⟩ := dr_at (z := 1) (j := 1) hdl rfl (by decide) hsl hb2 hsm
      have hi' : i < 10 := by omega
      obtain ⟨d2, at2, l2, u2⟩ := dr_at (z := 4 * (0 + (i : Nat)) + 2) (j := 4 * i + 2) hdl (by omega) (by omega) hsl hb2 hsm
      obtain ⟨d3, at3, l3, u3⟩ := dr_at (z := 4 * (0 + (i : Nat)) + 3) (j := 4 * i + 3) hdl (by omega) (by omega) hsl hb2 hsm
      obtain ⟨d4, at4, l4, u4⟩ := dr_at (z := 4 * (0 + (i : Nat)) + 4) (j := 4 * i + 4) hdl (by omega) (by omega) hsl hb2 hsm
      obtain ⟨d5, at5, l5, u5⟩ := dr_at (z := 4 * (0 + (i : Nat)) + 5) (j := 4 * i + 5) hdl (by omega) (by omega) hsl hb2 hsm
      have sqD := SqL.of (K := K) eDG
      refine ⟨fun σ' G' => G = G' ∧ σ' = [some (.ref a), some (.ref kp), some (.ref b), some (.ref D), some (.int (0 + (i : Nat))), y5, y6, y7, y8, none, y10], ?_, ?_⟩
      · refine ⟨_, rfl, _, _, rfl, rfl, _, rfl, ite2 (fun e0 => ⟨_, rfl, _, rfl, D, _, _, _, rfl, rfl, sqD, at0, _, _, rfl, rfl, _, rfl, ite2 (fun e1 => ?c) (fun e1 => ?r)⟩) (fun e0 => ?r2)⟩
        case c => exact cont _ _ _ _ _ _ _ (Same.refl _)
        all_goals
          refine ⟨_, rfl, _, _, rfl, rfl, _, rfl, ite2 (fun e2 => ⟨_, rfl, _, _, rfl, rfl, _, rfl, D, _, _, _, rfl, rfl, sqD, at1, _, _, rfl, rfl, _, rfl, ite2 (fun e3 => cont _ _ _ _ _ _ _ (Same.refl _)) (fun e3 => ⟨rfl, rfl⟩)⟩) (fun e2 => ⟨rfl, rfl⟩)⟩
      intro σ' G' hN
      obtain ⟨rfl, rfl⟩ := hN
      refine ⟨_, rfl, _, rfl, _, _, rfl, rfl, .inl ⟨by decide, by decide⟩, _, _, rfl, rfl, D, _, _, _, rfl, rfl, sqD, at2, .inl ⟨_, rfl, _, rfl, kp, _, _, _, rfl, rfl, SqL.of lkG.k, atI_nat (j := 2) rfl, al, _, rfl, .inl (SqL.of lkG.l), _, _, rfl, rfl, by omega, ?_⟩⟩
      rw [hxl]
      have m0 : 0 ≤ d2 % (ls.length : Int) := Int.emod_nonneg _ (by omega)
      have m1 : d2 % (ls.length : Int) < (ls.length : Int) := Int.emod_lt_of_pos _ (by omega)
      dsimp only
      generalize d2 % (ls.length : Int) = j at m0 m1
      obtain ⟨j, rfl⟩ : ∃ t : Nat, j = t := ⟨j.toNat, by omega⟩
      have hj : j < ls.length := by omega
      refine ⟨_, rfl, _, rfl, _, _, rfl, rfl, .inl ⟨by decide, by decide⟩, _, _, rfl, rfl, D, _, _, _, rfl, rfl, sqD, at3, .inl ⟨_, rfl, _, _, rfl, rfl, (by show (0 : Int) < 10; decide), _, _, rfl, rfl, ?_⟩⟩
      have t0 : -2 ≤ d3 % 10 - 2 := by omega
      have t1 : d3 % 10 - 2 ≤ 7 := by omega
      dsimp only
      generalize d3 % 10 - 2 = tg at t0 t1
      refine ⟨_, rfl, _, rfl, _, _, rfl, rfl, .inl ⟨by decide, by decide⟩, _, _, rfl, rfl, D, _, _, _, rfl, rfl, sqD, at4, _, rfl, _, rfl, b, d4, tg, ns, rfl, hb _ bG, hnl, fun t f G1 g1 et fo hw => ?_⟩
      have lk1 := lkG.same g1
      have b1 : But ac H G1 := bG.same g1
      -- alike
      refine ⟨_, rfl, kp, _, _, _, rfl, rfl, SqL.of lk1.k, atI_nat (j := 3) rfl, ac, rfl, ⟨_, SqL.of lk1.c⟩, fun Z8 nZ8 => ?_⟩
      refine lc_list (K := K) (a := ac) (xs := xc) (fun i G2 => Same G1 G2 ∧ ∃ (os : List V) (as : List Ce), G2 Z8 = some (.lst os) ∧ DpAll K G2 os (as.map Ce.enc) ∧ as.length ≤ i ∧ (∀ c, c ∈ as → c ∈ cs ∧ c.n = j ∧ wo ns c.i = tg) ∧ (∀ c, c ∈ cs.take i → c.n = j → wo ns c.i = tg → 0 < as.length)) ⟨same_new nZ8, [], [], upd_same, .nil, Nat.le_refl _, fun _ h => (List.not_mem_nil h).elim, fun _ h => (List.not_mem_nil h).elim⟩ (fun i G2 _ hP => SqL.of (hP.1 _ _ lk1.c)) (fun k x G2 hxi hP => ?_) (fun G2 hP => ?_)
      · obtain ⟨sG, os, as, eZ, dos, hal, has, hno⟩ := hP
        have hi8 : k < cs.length := by rw [← hxc]; exact (List.getElem?_eq_some_iff.mp hxi).1
        obtain ⟨v, q1, q2⟩ := dp_mem lk1.cx hi8
        rw [hxi] at q1
        cases q1
        have dx := q2.same sG
        obtain ⟨t8, v1, v2, v3, rfl, ht, w1, w2, w3⟩ := dp_inv3 dx
        cases dp_int_inv w1
        have hok := cok _ (List.getElem_mem hi8)
        have htk : cs.take (k + 1) = cs.take k ++ [cs[k]] := List.take_succ_eq_append_getElem hi8
        have skip : ¬ (cs[k].n = j ∧ wo ns cs[k].i = tg) → (Same G1 G2 ∧ ∃ (os : List V) (as : List Ce), G2 Z8 = some (.lst os) ∧ DpAll K G2 os (as.map Ce.enc) ∧ as.length ≤ k + 1 ∧ (∀ c, c ∈ as → c ∈ cs ∧ c.n = j ∧ wo ns c.i = tg) ∧ (∀ c, c ∈ cs.take (k + 1) → c.n = j → wo ns c.i = tg → 0 < as.length)) := fun hn => by
          refine ⟨sG, os, as, eZ, dos, Nat.le_succ_of_le hal, has, fun c hc h1 h2 => ?_⟩
          rw [htk] at hc
          rcases List.mem_append.mp hc with hc | hc
          · exact hno c hc h1 h2
          · rw [List.mem_singleton.mp hc] at h1 h2
            exact absurd ⟨h1, h2⟩ hn
        refine ⟨rfl, _, rfl, t8, _, _, _, rfl, rfl, ht, atI_nat (j := 0) rfl, _, rfl, rfl, _, rfl, ?_⟩
        rw [int_dec]
        refine ite2 (fun en => ?_) (fun en => ?_)
        · have en := of_decide_eq_true en
          have en' : cs[k].n = j := by omega
          refine ⟨_, rfl, t8, _, _, _, rfl, rfl, ht, atI_nat (j := 1) rfl, _, rfl, _, b, cs[k].i, ns, rfl, w2, hb _ (b1.same sG), hok.1, _, rfl, rfl, _, rfl, ?_⟩
          rw [int_dec]
          refine ite2 (fun ew => ?_) (fun ew => ?_)
          · have ew := of_decide_eq_true ew
            have hos : os.length = as.length := by rw [dpa_len dos, List.length_map]
            refine ⟨_, rfl, os, eZ, by rw [hos]; exact small_sz (by omega), same_mut sG nZ8, os ++ [.ref t8], as ++ [cs[k]], upd_same, ?_, by rw [List.length_append]; exact Nat.succ_le_succ hal, fun c hc => ?_, fun c hc h1 h2 => by rw [List.length_append]; exact Nat.succ_pos _⟩
            · rw [List.map_append]
              refine dpa_but eZ but_upd _ _ ?_ (dpa_snoc dos dx)
              rw [← List.map_append]
              exact noLs_ce _
            · rcases List.mem_append.mp hc with hc | hc
              · exact has c hc
              · rw [List.mem_singleton.mp hc]
                exact ⟨List.getElem_mem hi8, en', ew⟩
          · exact skip fun h => ew (decide_eq_true h.2)
        · exact skip fun h => en (decide_eq_true (by rw [h.1]))
      obtain ⟨g2, os, as, eZ8, dos, hal, has, hno⟩ := hP
      rw [hxc] at hno
      rw [List.take_length] at hno
      have hos : os.length = as.length := by rw [dpa_len dos, List.length_map]
      have g12 := g1.trans g2
      have lk2 := lkG.same g12
      have sqD2 := SqL.of (K := K) (g12 _ _ eDG)
      refine ⟨_, rfl, _, rfl, _, _, rfl, rfl, .inl ⟨by decide, by decide⟩, _, _, rfl, rfl, D, _, _, _, rfl, rfl, sqD2, at5, .inl ⟨_, rfl, _, _, rfl, rfl, ⟨by decide, by decide⟩, _, _, rfl, rfl, ?_⟩⟩
      dsimp only
      have z00 : -1000 ≤ d5 / 5 - 100 := by omega
      have z01 : d5 / 5 - 100 ≤ 1000 := by omega
      generalize d5 / 5 - 100 = z0 at z00 z01
      refine ⟨fun σ' G' => G2 = G' ∧ ∃ z : Int, σ' = [some (.ref a), some (.ref kp), some (.ref b), some (.ref D), some (.int (0 + (i : Nat))), some (.int j), some (.int tg), some (.ref t), some (.ref Z8), none, some (.int z)] ∧ (-1000 ≤ z ∧ z ≤ 1000) ∧ ∀ l, ls[j]? = some (Ld.new l) → ∀ u, (tg, u) ∈ prs cs ns j → u = z, ?_, ?_⟩
      · refine ⟨_, rfl, Z8, _, rfl, .inl (SqL.of eZ8), _, _, rfl, rfl, _, rfl, ite2 (fun e => ?_) (fun e => ?_)⟩
        · have e := of_decide_eq_true e
          have h0 : 0 < as.length := by omega
          obtain ⟨v, q1, q2⟩ := dp_mem dos h0
          obtain ⟨t8, v1, v2, v3, rfl, ht, w1, w2, w3⟩ := dp_inv3 q2
          obtain ⟨h1, h2, h3⟩ := has _ (List.getElem_mem h0)
          have hok := cok _ h1
          refine ⟨_, rfl, Z8, _, _, _, rfl, rfl, SqL.of eZ8, atI_nat (j := 0) q1, t8, _, _, _, rfl, rfl, ht, atI_nat (j := 2) rfl, _, rfl, _, b, as[0].v, ns, rfl, w3, hb _ (bG.same g12), hok.2, rfl, _, rfl, (bnd _ h1).2.1, fun l hl u hu => ?_⟩
          refine con j l hl tg u _ hu ?_
          have := prs_mem (ns := ns) h1
          rw [h2, h3] at this
          exact this
        · refine ⟨rfl, z0, rfl, ⟨z00, z01⟩, fun l hl u hu => ?_⟩
          obtain ⟨c, h1, h2, h3, h4⟩ := mem_prs hu
          have := hno c h1 h2 h3
          exact absurd (decide_eq_true (by omega)) e
      intro σ' G' hN
      obtain ⟨rfl, z, rfl, hzb, hz⟩ := hN
      refine ⟨fun σ' G' => G2 = G' ∧ σ' = [some (.ref a), some (.ref kp), some (.ref b), some (.ref D), some (.int (0 + (i : Nat))), some (.int j), some (.int tg), some (.ref t), some (.ref Z8), none, some (.int z)] ∧ (7 < i → ∀ l, ¬ ls[j]? = some (Ld.new l)), ?_, ?_⟩
      · have hl := List.getElem?_eq_getElem hj
        obtain ⟨v, g, d⟩ := dp_mem lk2.lx hj
        have ei : (7 : Int) < 0 + (i : Nat) ↔ 7 < i := by omega
        generalize ls[j] = l at hl d
        cases l with
        | new f0 =>
          obtain ⟨t0, v1, v2, rfl, ht, w1, w2⟩ := dp_inv2 d
          cases dp_str_inv w1
          refine ⟨_, rfl, kp, _, _, _, rfl, rfl, SqL.of lk2.k, atI_nat (j := 2) rfl, _, rfl, al, _, _, _, rfl, rfl, SqL.of lk2.l, atI_nat g, t0, _, _, _, rfl, rfl, ht, atI_nat (j := 0) rfl, rfl, .inr ⟨_, rfl, _, rfl, _, _, rfl, rfl, .inr ⟨_, rfl, rfl, _, rfl, ?_⟩⟩⟩
          dsimp only
          by_cases h7 : (7 : Int) < 0 + (i : Nat)
          · rw [decide_eq_true h7]
            exact iteT (cont _ _ _ _ _ _ _ g12)
          · rw [decide_eq_false h7]
            exact iteF ⟨rfl, rfl, fun h => absurd (ei.mpr h) h7⟩
        | wr o f0 g0 =>
          obtain ⟨t0, v1, v2, v3, v4, rfl, ht, w1, w2, w3, w4⟩ := dp_inv4 d
          cases dp_str_inv w1
          refine ⟨_, rfl, kp, _, _, _, rfl, rfl, SqL.of lk2.k, atI_nat (j := 2) rfl, _, rfl, al, _, _, _, rfl, rfl, SqL.of lk2.l, atI_nat g, t0, _, _, _, rfl, rfl, ht, atI_nat (j := 0) rfl, rfl, .inr ⟨_, rfl, _, rfl, _, _, rfl, rfl, .inr ⟨_, rfl, rfl, _, rfl, ?_⟩⟩⟩
          dsimp only
          by_cases h7 : (7 : Int) < 0 + (i : Nat)
          · rw [decide_eq_true h7]
            exact iteF ⟨rfl, rfl, fun _ l h => by rw [hl] at h; cases h⟩
          · rw [decide_eq_false h7]
            exact iteT (cont _ _ _ _ _ _ _ g12)
      intro σ' G' hN
      obtain ⟨rfl, rfl, hnew⟩ := hN
      refine ⟨fun σ' G' => G2 = G' ∧ ∃ z : Int, σ' = [some (.ref a), some (.ref kp), some (.ref b), some (.ref D), some (.int (0 + (i : Nat))), some (.int j), some (.int tg), some (.ref t), some (.ref Z8), none, some (.int z)] ∧ (-1000 ≤ z ∧ z ≤ 1000) ∧ ∀ l, ls[j]? = some (Ld.new l) → ∀ u, (tg, u) ∈ prs cs ns j → u = z, ?_, ?_⟩
      · refine ⟨_, rfl, _, _, rfl, rfl, _, rfl, ite2 (fun e => ?_) (fun e => ⟨rfl, z, rfl, hzb, hz⟩)⟩
        have e := of_decide_eq_true e
        refine ⟨_, rfl, _, rfl, _, rfl, _, rfl, kp, ad, al, ac, b, m, tg, xl, xc, ls, cs, j, ns, rfl, lk2, hb _ (bG.same g12), lok, hj, by omega, cok, fun v hv => ⟨rfl, v, rfl, TV_bnd lsb bnd hv, fun l hl => absurd hl (hnew (by omega) l)⟩⟩
      intro σ' G' hN
      obtain ⟨rfl, z, rfl, hzb, hz⟩ := hN
      have df : Dp K G2 (.ref t) (f2 f) := .tup (SqT.of (g2 _ _ et)) (.cons (.int _) (.cons (.int _) .nil))
      refine ⟨_, rfl, Z8, rfl, ⟨_, SqL.of eZ8⟩, fun Z9 nZ9 => ?_⟩
      refine lc_list (K := K) (a := Z8) (xs := os) (fun i G3 => Same G2 G3 ∧ ∃ (us : List V), G3 Z9 = some (.lst us) ∧ us.length ≤ i) ⟨same_new nZ9, [], upd_same, Nat.le_refl _⟩ (fun i G3 _ hP => SqL.of (hP.1 _ _ eZ8)) (fun k x G3 hxi hP => ?_) (fun G3 hP => ?_)
      · obtain ⟨sG, us, eZ, hul⟩ := hP
        have hi8 : k < as.length := by rw [← hos]; exact (List.getElem?_eq_some_iff.mp hxi).1
        obtain ⟨v, q1, q2⟩ := dp_mem dos hi8
        rw [hxi] at q1
        cases q1
        obtain ⟨t8, v1, v2, v3, rfl, ht, w1, w2, w3⟩ := dp_inv3 (q2.same sG)
        refine ⟨rfl, _, rfl, t8, _, _, _, rfl, rfl, ht, atI_nat (j := 1) rfl, _, rfl, _, _, w2, df.same sG, rfl, rfl, _, rfl, ite2 (fun _ => ?_) (fun _ => ?_)⟩
        · exact ⟨_, rfl, us, eZ, small_sz (by omega), same_mut sG nZ9, us ++ [.ref t8], upd_same, by rw [List.length_append]; exact Nat.succ_le_succ hul⟩
        · exact ⟨sG, us, eZ, Nat.le_succ_of_le hul⟩
      obtain ⟨g3, us, eZ9, hul⟩ := hP
      have g13 := g12.trans g3
      have lk3 := lkG.same g13
      refine ⟨Z9, _, rfl, .inl (SqL.of eZ9), rfl, _, rfl, ite2 (fun e => ?_) (fun e => cont _ _ _ _ _ _ _ g13)⟩
      have sqD3 := SqL.of (K := K) (g13 _ _ eDG)
      refine ⟨_, rfl, kp, _, _, _, rfl, rfl, SqL.of lk3.k, atI_nat (j := 3) rfl, .inl ⟨rfl, _, SqL.of lk3.c⟩, ?_⟩
      refine ⟨_, rfl, _, rfl, _, rfl, _, rfl, _, _, rfl, rfl, .inl ⟨by decide, by decide⟩, _, _, rfl, rfl, D, _, _, _, rfl, rfl, sqD3, at5, _, rfl, _, rfl, b, d5, z, ns, rfl, hb _ (bG.same g13), hnl, fun t4 fv G4 s4 e4 go hwv => ?_⟩
      refine ⟨by show (3 : Nat) ≤ sizeLine; decide, fun t5 nt5 => ?_⟩
      generalize hg : upd G4 t5 _ = G5
      obtain ⟨s5, e5⟩ := new_of nt5 hg
      have s35 := g13.trans (s4.trans s5)
      have lk5 := lkG.same s35
      have fe : Dp K G5 (.ref t) (f2 f) := df.same (g3.trans (s4.trans s5))
      have ge : Dp K G5 (.ref t4) (f2 fv) := .tup (SqT.of (s5 _ _ e4)) (.cons (.int _) (.cons (.int _) .nil))
      have ce : Dp K G5 (.ref t5) (Ce.mk j f fv).enc := .tup (SqT.of e5) (.cons (.int _) (.cons fe (.cons ge .nil)))
      refine ⟨ac, _, _, rfl, rfl, lk5.c, by rw [hxc]; exact small_sz (by omega), ?_⟩
      have b6 := but_upd (H := G5) (p := ac) (o := .lst (xc ++ [.ref t5]))
      refine ⟨_, _, _, _, _, _, xc ++ [.ref t5], cs ++ [⟨j, f, fv⟩], rfl, (bG.same s35).trans b6, b6 _ _ nDc (s35 _ _ eDG), ⟨b6 _ _ nk lk5.k, b6 _ _ nal lk5.l, upd_same, dpa_but lk5.c b6 _ _ (noLs_ld _) lk5.lx, ?_⟩, fun c hc => ?_, by rw [List.length_append]; exact Nat.succ_le_succ hcs, fun c hc => ?_, con.snoc (c := ⟨j, f, fv⟩) fun l hl u hu => ?_⟩
      · have := dpa_snoc lk5.cx ce
        rw [← List.map_singleton (f := Ce.enc), ← List.map_append] at this
        exact dpa_but lk5.c b6 _ _ (noLs_ce _) this
      · rcases List.mem_append.mp hc with hc | hc
        · exact cok c hc
        · rw [List.mem_singleton.mp hc]
          exact ⟨fo, go⟩
      · rcases List.mem_append.mp hc with hc | hc
        · exact bnd c hc
        · rw [List.mem_singleton.mp hc]
          refine ⟨?_, ?_, by show j ≤ 1000; omega⟩
          · rw [hw]
            exact ⟨t0, t1⟩
          · show -1000 ≤ wo ns fv ∧ wo ns fv ≤ 1000
            rw [hwv]
            exact hzb
      · dsimp only at hu ⊢
        rw [hw] at hu
        rw [hwv]
        exact hz l hl u hu
    · obtain ⟨y4, y5, y6, y7, y8, y10, xc, cs, rfl, bG, eDG, lkG, cok, hcs, bnd, con⟩ := hP
      exact q xc cs G bG lkG cok (by omega) bnd con
end
end SW

namespace SW
open PySem PySem.Spec PyProof.Rows L2
abbrev s_l_asked : Stmt := topS 19
theorem sc_l_asked : FnScope ["known", "values", "number", "length", "asked", "k", "form", "cell", "one"] ["known", "values", "number"] (defScope s_l_asked) := ⟨rfl, rfl, rfl, by decide +kernel, rfl, by decide +kernel, by decide +kernel⟩

section
variable {P : Program} {w : World} {K : PySem.W.Frag} {mg : PySem.Str → Option Value} {base : Heap} {C : Addr}
def spAsked (K : PySem.W.Frag) : Sp := fun vs H Q _ => ∃ (kp ad al ac b : Addr) (m : Int) (xl xc : List V) (ls : List Ld) (cs : List Ce) (num : Nat) (ns : List Int), vs = [.ref kp, .ref b, .int num] ∧ LkAt K H kp ad al ac m xl xc ls cs ∧ SqL K H b (ns.map V.int) ∧ LsOk ns.length ls ∧ num < ls.length ∧ ls.length ≤ 10 ∧ CsOk ns.length cs ∧ cs.length ≤ 10 ∧ 0 ≤ wo ns (LN ls num) ∧ wo ns (LN ls num) ≤ 100 ∧
  ∀ (D : Addr) (zs : List Int) (H' : Hp), Same H H' → H' D = some (.lst (zs.map V.int)) → zs.length ≤ 1000 → Q (.ref D) H'
theorem ok_l_asked (T : TxB mg) (D_l_asked : Df K mg "_law_asked" s_l_asked ["known", "values", "number"]) (D_l_of : Df K mg "_law_of" s_l_of ["form", "values"]) (D_l_length : Df K mg "_law_length" s_l_length ["lists", "number"]) (G_l_of : FnOk P w K mg base CX0 1 D_l_of.f D_l_of.fd ["form", "values"] (spLOf K)) (G_l_length : FnOk P w K mg base CX0 1 D_l_length.f D_l_length.fd ["lists", "number"] (spLLength K)) : FnOk P w K mg base CX0 2 D_l_asked.f D_l_asked.fd ["known", "values", "number"] (spAsked K) := by
  refine D_l_asked.F.ok sc_l_asked (fun vs H Q E h => ?_) (fun cdv A outer s H vs Q E hr h => ?_)
  · obtain ⟨kp, ad, al, ac, b, m, xl, xc, ls, cs, num, ns, rfl, _⟩ := h
    rfl
  · obtain ⟨kp, ad, al, ac, b, m, xl, xc, ls, cs, num, ns, rfl, lk, hb, lok, hnum, hll, cok, hcl, hL0, hL1, q⟩ := h
    refine ⟨_, (pss_cons (ps_set (i := 3) sc_l_asked.nd rfl (.inl rfl) (pe_call G_l_of (hr.mono (by decide)) (by rfl) D_l_of.g D_l_of.F.kp D_l_of.b .nil pass0 (pa_cons (pe_call G_l_length (hr.mono (by decide)) (by rfl) D_l_length.g D_l_length.F.kp D_l_length.b .nil pass0 (pa_cons (pe_ix ix_list (pv 0) pe_int (fun _ _ => rfl)) (pa_cons (pv 2) pa_nil))) (pa_cons (pv 1) pa_nil))))
    (pss_cons (ps_setLc (i := 4) (own := [("k", 5)]) (g := gName 5) (by rfl) sc_l_asked.nd rfl rfl (sw_true rfl rfl rfl (by decide +kernel)) (pi_range2 (by rfl) T.n_range (pa_cons (pe_un un_neg pe_int) (pa_cons (pe_op op_add (pv 3) pe_int) pa_nil))) (blkOk_by (own := [("k", 5)]) (N := ["known", "values", "number", "length", "asked", "k", "form", "cell", "one"]) (sc := defScope s_l_asked) (by decide +kernel)) (fun _ _ _ _ _ => pg_name (i := 5) sc_l_asked.nd rfl (Or.inl rfl)) (fun _ _ _ _ _ => pts_nil) (fun _ _ _ _ _ => (pv 5)))
    (pss_cons (ps_for PassesOwn.never rfl (pi_list (pe_op op_cat (pe_lc (own := [("cell", 7)]) (g := gName 7) (by rfl) sc_l_asked.nd (pi_list (pe_ix ix_list (pv 0) pe_int (fun _ _ => rfl))) (blkOk_by (own := [("cell", 7)]) (N := ["known", "values", "number", "length", "asked", "k", "form", "cell", "one"]) (sc := defScope s_l_asked) (by decide +kernel)) (fun _ _ _ _ _ => pg_name (i := 7) sc_l_asked.nd rfl (Or.inl rfl)) (fun _ _ _ _ _ => pts_nil) (fun _ _ _ _ _ => (pe_ix (show IxR _ (rIxT K) from ix_tup) (pv 7) pe_int (fun _ _ => rfl)))) (pe_lc (own := [("one", 8)]) (g := gName 8) (by rfl) sc_l_asked.nd (pi_list (pe_ix ix_list (pv 0) pe_int (fun _ _ => rfl))) (blkOk_by (own := [("one", 8)]) (N := ["known", "values", "number", "length", "asked", "k", "form", "cell", "one"]) (sc := defScope s_l_asked) (by decide +kernel)) (fun _ _ _ _ _ => pg_name (i := 8) sc_l_asked.nd rfl (Or.inl rfl)) (fun _ _ _ _ _ => pts_one (pt_cmpR op_eq (pe_ix (show IxR _ (rIxT K) from ix_tup) (pv 8) pe_int (fun _ _ => rfl)) pe_str (nomark _))) (fun _ _ _ _ _ => (pe_ix (show IxR _ (rIxT K) from ix_tup) (pv 8) pe_int (fun _ _ => rfl)))))) (pg_name (i := 6) sc_l_asked.nd rfl (.inl rfl))
    (pss_one (ps_set (i := 4) sc_l_asked.nd rfl (.inl rfl) (pe_op op_cat (pv 4) (pe_lst (pa_cons (pe_op op_sub (pe_call G_l_of (hr.mono (by decide)) (by rfl) D_l_of.g D_l_of.F.kp D_l_of.b .nil pass0 (pa_cons (pv 6) (pa_cons (pv 1) pa_nil))) pe_int) (pa_cons (pe_call G_l_of (hr.mono (by decide)) (by rfl) D_l_of.g D_l_of.F.kp D_l_of.b .nil pass0 (pa_cons (pv 6) (pa_cons (pv 1) pa_nil))) (pa_cons (pe_op op_add (pe_call G_l_of (hr.mono (by decide)) (by rfl) D_l_of.g D_l_of.F.kp D_l_of.b .nil pass0 (pa_cons (pv 6) (pa_cons (pv 1) pa_nil))) pe_int) pa_nil))))))))
    (pss_one (ps_ret (pe_op op_cat (pv 4) (pe_lst (pa_cons (pe_un un_neg (pe_op op_pow pe_int pe_int)) (pa_cons (pe_op op_pow pe_int pe_int) pa_nil))))))))), ?_⟩
    have hxl : xl.length = ls.length := by rw [dpa_len lk.lx, List.length_map]
    have hxc : xc.length = cs.length := by rw [dpa_len lk.cx, List.length_map]
    refine ⟨_, rfl, kp, _, _, _, rfl, rfl, SqL.of lk.k, atI_nat (j := 2) rfl, _, rfl, al, num, ns.length, ls, xl, rfl, SqL.of lk.l, lk.lx, lok, hnum, by omega, fun v hv => ?_⟩
    refine ⟨_, rfl, v, b, LN ls num, ns, rfl, hv, hb, LN_ok lok num num (Nat.le_refl _) hnum, ?_⟩
    generalize wo ns (LN ls num) = L at hL0 hL1
    refine ⟨_, rfl, _, rfl, _, _, rfl, rfl, _, _, rfl, ⟨by decide, by decide, by omega, by omega⟩, fun D nD => ?_⟩
    refine lc_vals (walk_range (lo := -3) (n := (L + 3 - -3).toNat)) nD (fun i => .int (-3 + (i : Nat))) (by omega) (fun _ _ => trivial) (fun i x H2 H2' Q' hi s2 y q' => ?_) (fun H2 s2 e2 => ?_)
    · obtain ⟨rfl, rfl⟩ := y
      exact ⟨rfl, _, rfl, q' _ (Same.refl _)⟩
    have mm : ((List.range (L + 3 - -3).toNat).map fun i => V.int (-3 + (i : Nat))) = ((List.range (L + 3 - -3).toNat).map fun i => (-3 + (i : Nat) : Int)).map V.int := by
      rw [List.map_map]
      rfl
    rw [mm] at e2
    have hzl : ((List.range (L + 3 - -3).toNat).map fun i => (-3 + (i : Nat) : Int)).length ≤ 200 := by
      rw [List.length_map, List.length_range]
      omega
    generalize ((List.range (L + 3 - -3).toNat).map fun i => (-3 + (i : Nat) : Int)) = zs at e2 hzl
    have lk2 := lk.same s2
    -- the forms
    refine ⟨_, rfl, kp, _, _, _, rfl, rfl, SqL.of lk2.k, atI_nat (j := 3) rfl, ac, rfl, ⟨_, SqL.of lk2.c⟩, fun A8 nA8 => ?_⟩
    refine lc_list (K := K) (a := ac) (xs := xc) (fun i G => Same H2 G ∧ ∃ (os : List V) (fs : List Fm), G A8 = some (.lst os) ∧ DpAll K G os (fs.map f2) ∧ fs.length = i ∧ (∀ f, f ∈ fs → fok ns.length f)) ⟨same_new nA8, [], [], upd_same, .nil, rfl, fun _ h => (List.not_mem_nil h).elim⟩ (fun i G _ hP => SqL.of (hP.1 _ _ lk2.c)) (fun k x G hxi hP => ?_) (fun G hP => ?_)
    · obtain ⟨sG, os, fs, eZ, dos, hal, hfs⟩ := hP
      have hi8 : k < cs.length := by rw [← hxc]; exact (List.getElem?_eq_some_iff.mp hxi).1
      obtain ⟨v, q1, q2⟩ := dp_mem lk2.cx hi8
      rw [hxi] at q1
      cases q1
      obtain ⟨t8, v1, v2, v3, rfl, ht, w1, w2, w3⟩ := dp_inv3 (q2.same sG)
      have hok := cok _ (List.getElem_mem hi8)
      have hos : os.length = fs.length := by rw [dpa_len dos, List.length_map]
      refine ⟨rfl, _, rfl, t8, _, _, _, rfl, rfl, ht, atI_nat (j := 1) rfl, os, eZ, by rw [hos]; exact small_sz (by omega), same_mut sG nA8, os ++ [v2], fs ++ [cs[k].i], upd_same, ?_, by rw [List.length_append, hal]; rfl, fun f hf => ?_⟩
      · rw [List.map_append]
        exact dpa_but eZ but_upd _ _ (by rw [← List.map_append]; exact noLs_f2 _) (dpa_snoc dos w2)
      · rcases List.mem_append.mp hf with hf | hf
        · exact hfs f hf
        · rw [List.mem_singleton.mp hf]
          exact hok.1
    obtain ⟨s3, os, fs, eA, dA, hfl, hfs⟩ := hP
    have lk3 := lk2.same s3
    refine ⟨_, rfl, kp, _, _, _, rfl, rfl, SqL.of lk3.k, atI_nat (j := 2) rfl, al, rfl, ⟨_, SqL.of lk3.l⟩, fun B8 nB8 => ?_⟩
    refine lc_list (K := K) (a := al) (xs := xl) (fun i G4 => Same G G4 ∧ ∃ (us : List V) (gs : List Fm), G4 B8 = some (.lst us) ∧ DpAll K G4 us (gs.map f2) ∧ gs.length ≤ i ∧ (∀ f, f ∈ gs → fok ns.length f)) ⟨same_new nB8, [], [], upd_same, .nil, Nat.le_refl _, fun _ h => (List.not_mem_nil h).elim⟩ (fun i G4 _ hP => SqL.of (hP.1 _ _ lk3.l)) (fun k x G4 hxi hP => ?_) (fun G4 hP => ?_)
    · obtain ⟨sG, us, gs, eZ, dos, hal, hgs⟩ := hP
      have hi8 : k < ls.length := by rw [← hxl]; exact (List.getElem?_eq_some_iff.mp hxi).1
      obtain ⟨v, q1, q2⟩ := dp_mem lk3.lx hi8
      rw [hxi] at q1
      cases q1
      have hl := List.getElem?_eq_getElem hi8
      have dx := q2.same sG
      have hos : us.length = gs.length := by rw [dpa_len dos, List.length_map]
      generalize ls[k] = l at hl dx
      cases l with
      | new f0 =>
        obtain ⟨t0, v1, v2, rfl, ht, w1, w2⟩ := dp_inv2 dx
        cases dp_str_inv w1
        exact ⟨rfl, _, rfl, t0, _, _, _, rfl, rfl, ht, atI_nat (j := 0) rfl, rfl, _, rfl, iteF ⟨sG, us, gs, eZ, dos, Nat.le_succ_of_le hal, hgs⟩⟩
      | wr o f0 g0 =>
        obtain ⟨t0, v1, v2, v3, v4, rfl, ht, w1, w2, w3, w4⟩ := dp_inv4 dx
        cases dp_str_inv w1
        refine ⟨rfl, _, rfl, t0, _, _, _, rfl, rfl, ht, atI_nat (j := 0) rfl, rfl, _, rfl, iteT ⟨_, rfl, t0, _, _, _, rfl, rfl, ht, atI_nat (j := 2) rfl, us, eZ, by rw [hos]; exact small_sz (by omega), same_mut sG nB8, us ++ [v3], gs ++ [f0], upd_same, ?_, by rw [List.length_append]; exact Nat.succ_le_succ hal, fun f hf => ?_⟩⟩
        · rw [List.map_append]
          exact dpa_but eZ but_upd _ _ (by rw [← List.map_append]; exact noLs_f2 _) (dpa_snoc dos w3)
        · rcases List.mem_append.mp hf with hf | hf
          · exact hgs f hf
          · rw [List.mem_singleton.mp hf]
            exact (lok _ _ hl).2.1
    obtain ⟨s4, us, gs, eB, dB, hgl, hgs⟩ := hP
    have hos : os.length = fs.length := by rw [dpa_len dA, List.length_map]
    have hus : us.length = gs.length := by rw [dpa_len dB, List.length_map]
    refine ⟨A8, B8, os, us, rfl, rfl, s4 _ _ eA, eB, Nat.le_of_lt (small_sz (by omega)), fun p np => ?_⟩
    have s5 := same_new (o := .lst (os ++ us)) np
    generalize hg : upd G4 p _ = G5 at s5
    have e5 : G5 p = some (.lst (os ++ us)) := hg ▸ upd_same
    have s35 := (s3.trans s4).trans s5
    have d5 : DpAll K G5 (os ++ us) ((fs ++ gs).map f2) := by
      rw [List.map_append]
      exact dpa_app (dpa_same (s4.trans s5) _ _ dA) (dpa_same s5 _ _ dB)
    have hfg : ∀ f, f ∈ fs ++ gs → fok ns.length f := fun f hf => by
      rcases List.mem_append.mp hf with hf | hf
      · exact hfs f hf
      · exact hgs f hf
    have hfgl : (fs ++ gs).length ≤ 20 := by rw [List.length_append]; omega
    generalize fs ++ gs = hs at d5 hfg hfgl
    generalize os ++ us = ys at e5 d5
    have hyl : ys.length = hs.length := by rw [dpa_len d5, List.length_map]
    refine ⟨p, rfl, ⟨_, SqL.of e5⟩, ?_⟩
    refine for_list (K := K) (a := p) (xs := ys) (fun i σ G => Same G5 G ∧ ∃ (Dz : Addr) (zs : List Int) (y6 : Option V), σ = [some (.ref kp), some (.ref b), some (.int num), some (.int L), some (.ref Dz), none, y6, none, none] ∧ G Dz = some (.lst (zs.map V.int)) ∧ zs.length ≤ 200 + 3 * i) ⟨Same.refl _, D, zs, _, rfl, s35 _ _ e2, hzl⟩ (fun i σ G _ hP => SqL.of (hP.1 _ _ e5)) (fun i x σ G hxi hP => ?_) (fun σ G hP => ?_)
    · obtain ⟨sG, Dz, zs, y6, rfl, eDz, hzl⟩ := hP
      have hi8 : i < hs.length := by rw [← hyl]; exact (List.getElem?_eq_some_iff.mp hxi).1
      obtain ⟨v, q1, q2⟩ := dp_mem d5 hi8
      rw [hxi] at q1
      cases q1
      have dx := q2.same sG
      have hok := hfg _ (List.getElem_mem hi8)
      have hbG := (((s2.trans s35).trans sG)).seq hb
      refine ⟨_, rfl, _, rfl, _, rfl, x, b, hs[i], ns, rfl, dx, hbG, hok, _, _, rfl, rfl, ?_⟩
      refine ⟨_, rfl, _, rfl, x, b, hs[i], ns, rfl, dx, hbG, hok, ?_⟩
      refine ⟨_, rfl, _, rfl, x, b, hs[i], ns, rfl, dx, hbG, hok, _, _, rfl, rfl, ?_⟩
      refine ⟨by show (3 : Nat) ≤ sizeLine; decide, fun p3 np3 => ?_⟩
      have s6 := same_new (o := .lst [.int (wo ns hs[i] - 1), .int (wo ns hs[i]), .int (wo ns hs[i] + 1)]) np3
      refine ⟨Dz, p3, _, _, rfl, rfl, s6 _ _ eDz, upd_same, Nat.le_of_lt (small_sz (by rw [List.length_map]; show zs.length + 3 ≤ 1000; omega)), fun p4 np4 => ?_⟩
      refine ⟨(sG.trans s6).trans (same_new np4), p4, zs ++ [wo ns hs[i] - 1, wo ns hs[i], wo ns hs[i] + 1], _, rfl, by rw [upd_same, List.map_append]; rfl, ?_⟩
      rw [List.length_append]
      show zs.length + 3 ≤ _
      omega
    · obtain ⟨sG, Dz, zs, y6, rfl, eDz, hzl⟩ := hP
      refine ⟨_, rfl, _, _, rfl, rfl, ⟨by decide, by decide, by decide⟩, _, rfl, _, _, rfl, rfl, ⟨by decide, by decide, by decide⟩, by show (2 : Nat) ≤ sizeLine; decide, fun p3 np3 => ?_⟩
      have s6 := same_new (o := .lst [.int (-(10 ^ 12)), .int (10 ^ 12)]) np3
      refine ⟨Dz, p3, _, _, rfl, rfl, s6 _ _ eDz, upd_same, Nat.le_of_lt (small_sz (by rw [List.length_map]; show zs.length + 2 ≤ 1000; omega)), fun p4 np4 => ?_⟩
      refine q p4 (zs ++ [-(10 ^ 12), 10 ^ 12]) _ ((((s2.trans s35).trans sG).trans s6).trans (same_new np4)) (by rw [upd_same, List.map_append]; rfl) ?_
      rw [List.length_append]
      show zs.length + 2 ≤ _
      omega
end
end SW


namespace SW
open PySem PySem.Spec PyProof.Rows L2
abbrev s_law : Stmt := topS 20
theorem sc_law : FnScope ["script", "shape", "values", "draw", "k", "lists", "differences", "known", "made", "passed", "number", "found", "length", "due", "again", "told"] ["script"] (defScope s_law) := ⟨rfl, rfl, rfl, by decide +kernel, rfl, by decide +kernel, by decide +kernel⟩

structure CkK (K : PySem.W.Frag) (C : Addr) where
  f : Addr
  fd : FuncData
  F : Fun K "__init__" "Known.__init__" s_Known f fd
  b : Binds K fd ["self", "many", "differences", "lists", "cells", "taken", "fresh"] []
  M : Mk K C f
structure CkL (K : PySem.W.Frag) (C : Addr) where
  f : Addr
  fd : FuncData
  F : Fun K "length" "Known.length" s_length f fd
  b : Binds K fd ["self", "number"] []
  M : Meth K C "length" f
def tellD (m : Int) (bs : List (Int × Int × Int)) (ls : List Ld) (cs : List Ce) (vals : List Int) : PyData := .list [.int m, .list (bs.map b3), .list (ls.map Ld.enc), .list (cs.map Ce.enc), .list [], .list [], .list (vals.map PyData.int)]
theorem sm_ld {vals : List Int} {ls : List Ld} {l : Ld} (hn : vals.length ≤ 1000) (hv : VsB vals) (lok : LsOk vals.length ls) (lsb : LsB vals ls) (hll : ls.length ≤ 1000) (h : l ∈ ls) : smS l.enc = true := by
  obtain ⟨j, hj⟩ := List.getElem?_of_mem h
  have h1 := lok j l hj
  have h2 := lsb l h
  have hjl := (List.getElem?_eq_some_iff.mp hj).1
  have sw : smS (.str "written") = true := by decide +kernel
  have sn : smS (.str "new") = true := by decide +kernel
  cases l with
  | new f =>
    show (smS (.str "new") && (smS (f2 f) && true)) = true
    have h2 : 0 ≤ wo vals f ∧ wo vals f ≤ 100 := h2
    rw [sn, sm_f2 (f_small hn hv h1 ⟨by omega, by omega⟩)]
    rfl
  | wr o i v =>
    obtain ⟨ho, hi, hw⟩ := h1
    show (smS (.str "written") && (smS (.int o) && (smS (f2 i) && (smS (f2 v) && true)))) = true
    have : smS (.int o) = true := decide_eq_true (by omega)
    rw [sw, this, sm_f2 (f_small hn hv hi h2.1), sm_f2 (f_small hn hv hw h2.2)]
    rfl
theorem sm_ce {vals : List Int} {cs : List Ce} {c : Ce} (hn : vals.length ≤ 1000) (hv : VsB vals) (cok : CsOk vals.length cs) (bnd : Bnd vals cs) (h : c ∈ cs) : smS c.enc = true := by
  obtain ⟨h1, h2⟩ := cok c h
  obtain ⟨h3, h4, h5⟩ := bnd c h
  show (smS (.int c.n) && (smS (f2 c.i) && (smS (f2 c.v) && true))) = true
  have : smS (.int c.n) = true := decide_eq_true (by omega)
  rw [this, sm_f2 (f_small hn hv h1 ⟨by omega, by omega⟩), sm_f2 (f_small hn hv h2 h4)]
  rfl
theorem tellD_sm {m : Int} {bs : List (Int × Int × Int)} {ls : List Ld} {cs : List Ce} {vals : List Int} (h1 : smSs (bs.map b3) = true) (h2 : smSs (ls.map Ld.enc) = true) (h3 : smSs (cs.map Ce.enc) = true) (h4 : smSs (vals.map PyData.int) = true) (h0 : smS (.int m) = true) : smS (tellD m bs ls cs vals) = true := by
  show (smS (.int m) && (smSs (bs.map b3) && (smSs (ls.map Ld.enc) && (smSs (cs.map Ce.enc) && (true && (true && (smSs (vals.map PyData.int) && true))))))) = true
  rw [h0, h1, h2, h3, h4]
  rfl
theorem tellD_sh {m : Int} {bs : List (Int × Int × Int)} {ls : List Ld} {cs : List Ce} {vals : List Int} (h1 : bs.length ≤ 10) (h2 : ls.length ≤ 10) (h3 : cs.length ≤ 10) (h4 : vals.length ≤ 10) : shS (tellD m bs ls cs vals) ≤ sizeLine := by
  have a1 := shSs_map b3 250 bs fun d _ => by show 70 + 10 + (70 + 10 + (70 + 10 + 0)) + 10 ≤ 250; decide
  have a2 := shSs_map Ld.enc 1000 ls fun d _ => by
    cases d with
    | new f => show 70 + 10 + ((70 + 10 + (70 + 10 + 0) + 10) + 10 + 0) + 10 ≤ 1000; decide
    | wr o i v => show 70 + 10 + (70 + 10 + ((70 + 10 + (70 + 10 + 0) + 10) + 10 + ((70 + 10 + (70 + 10 + 0) + 10) + 10 + 0))) + 10 ≤ 1000; decide
  have a3 := shSs_map Ce.enc 1000 cs fun d _ => by show 70 + 10 + ((70 + 10 + (70 + 10 + 0) + 10) + 10 + ((70 + 10 + (70 + 10 + 0) + 10) + 10 + 0)) + 10 ≤ 1000; decide
  have a4 := shSs_map PyData.int 70 vals fun d _ => Nat.le_refl _
  have a5 : shS (tellD m bs ls cs vals) = (70 + 10 + ((shSs (bs.map b3) + 10) + 10 + ((shSs (ls.map Ld.enc) + 10) + 10 + ((shSs (cs.map Ce.enc) + 10) + 10 + ((0 + 10) + 10 + ((0 + 10) + 10 + ((shSs (vals.map PyData.int) + 10) + 10 + 0))))))) + 10 := rfl
  rw [a5]
  exact Nat.le_of_lt (small_sz5 (by omega))
theorem tellD_dp {m : Int} {bs : List (Int × Int × Int)} {ls : List Ld} {cs : List Ce} {vals : List Int} : (tellD m bs ls cs vals).depth ≤ 60 := by
  have a1 := depthS_map b3 1 bs fun d _ => by show max 0 (max 0 (max 0 0)) + 1 ≤ 1; decide
  have a2 := depthS_map Ld.enc 10 ls fun d _ => by
    cases d with
    | new f => show max 0 (max (max 0 (max 0 0) + 1) 0) + 1 ≤ 10; decide
    | wr o i v => show max 0 (max 0 (max (max 0 (max 0 0) + 1) (max (max 0 (max 0 0) + 1) 0))) + 1 ≤ 10; decide
  have a3 := depthS_map Ce.enc 10 cs fun d _ => by show max 0 (max (max 0 (max 0 0) + 1) (max (max 0 (max 0 0) + 1) 0)) + 1 ≤ 10; decide
  have a4 := depthS_map PyData.int 0 vals fun d _ => Nat.le_refl _
  show max 0 (max (PyData.depthAll (bs.map b3) + 1) (max (PyData.depthAll (ls.map Ld.enc) + 1) (max (PyData.depthAll (cs.map Ce.enc) + 1) (max (0 + 1) (max (0 + 1) (max (PyData.depthAll (vals.map PyData.int) + 1) 0)))))) + 1 ≤ 60
  omega
theorem kit_list {K : PySem.W.Frag} : PySem.W.kitOne K (.type "list") (.type "list") = some true := kit_ty (by decide +kernel)
section
variable {P : Program} {w : World} {K : PySem.W.Frag} {mg : PySem.Str → Option Value} {base : Heap} {C : Addr}
theorem sq_but {H H0 G : Hp} {a c : Addr} {xs : List V} (h : SqL K H0 a xs) (s : Same H0 H) (n : H0 c = none) (b : But c H G) : SqL K G a xs := by
  have ne : ∀ {y : HO}, H0 a = some y → a ≠ c := fun h1 e => by
    rw [e, n] at h1
    cases h1
  rcases h with (h | ⟨o, h⟩) | h
  · exact .inl (.inl (b _ _ (ne h) (s _ _ h)))
  · exact .inl (.inr ⟨o, b _ _ (ne h) (s _ _ h)⟩)
  · exact .inr h
def spLaw (K : PySem.W.Frag) : Sp := fun vs H Q _ => ∃ (a : Addr) (ns : List Int), vs = [.ref a] ∧ SqL K H a (ns.map V.int) ∧ ns.length ≤ 63 ∧ ∀ H', Q (.bl true) H'
theorem ok_law (T : TxK K mg C) (c_Known : CkK K C) (c_length : CkL K C) (D_law : Df K mg "law" s_law ["script"]) (D_worth_of : Df K mg "worth_of" s_worth_of ["form", "values"]) (D_value_at : Df K mg "value_at" s_value_at ["known", "values", "number", "k"]) (D_content : Df K mg "content" s_content ["known", "values", "number"]) (D_cells_by_index : Df K mg "_cells_by_index" s_cells_by_index ["known", "values", "number"]) (D_unknown_content : Df K mg "_unknown_content" s_unknown_content ["cells", "length"]) (D_l_cell : Df K mg "_law_cell" s_l_cell ["script", "k"]) (D_l_draws : Df K mg "_law_draws" s_l_draws ["script", "place", "sizes"]) (D_l_at_most : Df K mg "_law_at_most" s_l_at_most ["f", "g"]) (D_l_of : Df K mg "_law_of" s_l_of ["form", "values"]) (D_l_length : Df K mg "_law_length" s_l_length ["lists", "number"]) (D_l_small : Df K mg "_law_small" s_l_small ["draw"]) (D_l_form_for : Df K mg "_law_form_for" s_l_form_for ["draw", "values", "target"]) (D_l_told : Df K mg "_law_told" s_l_told ["known", "values", "number", "k"]) (D_l_lists : Df K mg "_law_lists" s_l_lists ["script", "count", "values"]) (D_l_cells : Df K mg "_law_cells" s_l_cells ["script", "known", "values"]) (D_l_asked : Df K mg "_law_asked" s_l_asked ["known", "values", "number"]) : FnOkG P w K mg base CX0 5 D_law.f D_law.fd ["script"] (spLaw K) := by
  have G_worth_of := ok_worth_of (P := P) (w := w) (base := base) T.toTxB D_worth_of
  have G_cells_by_index := ok_cells_by_index (P := P) (w := w) T D_cells_by_index D_worth_of G_worth_of
  have G_value_at := ok_value_at T D_value_at D_worth_of D_cells_by_index G_worth_of G_cells_by_index
  have G_unknown_content := ok_unknown_content (P := P) (w := w) (K := K) (base := base) T.toTxB D_unknown_content
  have G_length := ok_length (P := P) (w := w) (base := base) c_length.F T
  have G_content := ok_content T D_content D_worth_of D_cells_by_index D_unknown_content G_worth_of G_cells_by_index G_unknown_content c_length.M G_length c_length.b
  have G_l_cell := ok_l_cell (P := P) (w := w) (K := K) (base := base) T.toTxB D_l_cell
  have G_l_draws := ok_l_draws T.toTxB D_l_draws D_l_cell G_l_cell
  have G_l_at_most := ok_l_at_most (P := P) (w := w) (K := K) (base := base) T.toTxB D_l_at_most
  have G_l_of := ok_l_of (P := P) (w := w) (K := K) (base := base) T.toTxB D_l_of
  have G_l_length := ok_l_length (P := P) (w := w) (K := K) (base := base) T.toTxB D_l_length
  have G_l_small := ok_l_small (P := P) (w := w) (K := K) (base := base) T.toTxB D_l_small
  have G_l_form_for := ok_l_form_for (P := P) (w := w) (K := K) (base := base) T.toTxB D_l_form_for
  have G_l_told := ok_l_told T.toTxB D_l_told D_l_of G_l_of
  have G_l_lists := ok_l_lists T.toTxB D_l_lists D_l_draws D_l_form_for D_l_at_most G_l_draws G_l_form_for G_l_at_most
  have G_l_cells := ok_l_cells T.toTxB D_l_cells D_l_draws D_l_form_for D_l_of D_l_told G_l_draws G_l_form_for G_l_of G_l_told
  have G_l_asked := ok_l_asked T.toTxB D_l_asked D_l_of D_l_length G_l_of G_l_length
  have M_Known := c_Known.M
  have G_Known := ok_Known (P := P) (w := w) (base := base) c_Known.F T
  have b_Known := c_Known.b
  refine Fun.okG D_law.F sc_law (fun vs H Q E h => ?_) (fun cdv A outer s H vs Q E hg hr h => ?_)
  · obtain ⟨a, ns, rfl, _⟩ := h
    rfl
  · obtain ⟨a, scr, rfl, hS, hnl, q⟩ := h
    refine ⟨_, (pss_cons (ps_set (i := 1) sc_law.nd rfl (.inl rfl) (pe_call G_l_draws (hr.mono (by decide)) (by rfl) D_l_draws.g D_l_draws.F.kp D_l_draws.b .nil pass0 (pa_cons (pv 0) (pa_cons pe_int (pa_cons (pe_lst (pa_cons pe_int (pa_cons pe_int (pa_cons pe_int pa_nil)))) pa_nil)))))
    (pss_cons (ps_set (i := 2) sc_law.nd rfl (.inr rfl) (pe_lc (own := [("draw", 3)]) (g := gName 3) (by rfl) sc_law.nd (pi_list (pe_call G_l_draws (hr.mono (by decide)) (by rfl) D_l_draws.g D_l_draws.F.kp D_l_draws.b .nil pass0 (pa_cons (pv 0) (pa_cons pe_int (pa_cons (pe_lc (own := [("k", 4)]) (g := gName 4) (by rfl) sc_law.nd (pi_range1 (by rfl) T.n_range (pa_cons (pe_op op_add pe_int (pe_ix ix_list (pv 1) pe_int (fun _ _ => rfl))) pa_nil)) (blkOk_by (own := [("k", 4)]) (N := ["script", "shape", "values", "draw", "k", "lists", "differences", "known", "made", "passed", "number", "found", "length", "due", "again", "told"]) (sc := defScope s_law) (by decide +kernel)) (fun _ _ _ _ _ => pg_name (i := 4) sc_law.nd rfl (Or.inl rfl)) (fun _ _ _ _ _ => pts_nil) (fun _ _ _ _ _ => (pe_op op_pow pe_int pe_int))) pa_nil))))) (blkOk_by (own := [("draw", 3)]) (N := ["script", "shape", "values", "draw", "k", "lists", "differences", "known", "made", "passed", "number", "found", "length", "due", "again", "told"]) (sc := defScope s_law) (by decide +kernel)) (fun _ _ _ _ _ => pg_name (i := 3) sc_law.nd rfl (Or.inl rfl)) (fun _ _ _ _ _ => pts_nil) (fun _ _ _ _ _ => (pe_call G_l_small (hr.mono (by decide)) (by rfl) D_l_small.g D_l_small.F.kp D_l_small.b .nil pass0 (pa_cons (pv 3) pa_nil)))))
    (pss_cons (ps_asg (pe_call G_l_lists (hr.mono (by decide)) (by rfl) D_l_lists.g D_l_lists.F.kp D_l_lists.b .nil pass0 (pa_cons (pv 0) (pa_cons (pe_op op_add pe_int (pe_ix ix_list (pv 1) pe_int (fun _ _ => rfl))) (pa_cons (pv 2) pa_nil)))) (pg_tup (by rfl) (pgs_cons (pg_name (i := 5) sc_law.nd rfl (.inl rfl)) (pgs_cons (pg_name (i := 6) sc_law.nd rfl (.inl rfl)) pgs_nil))))
    (pss_cons (ps_set (i := 7) sc_law.nd rfl (.inr rfl) (pe_lst (pa_cons (pe_callB call_len_seq (by rfl) T.n_len PySem.boot_len (pa_cons (pv 2) pa_nil)) (pa_cons (pv 6) (pa_cons (pv 5) (pa_cons (pe_lst pa_nil) pa_nil))))))
    (pss_cons (ps_expr (pe_call G_l_cells (hr.mono (by decide)) (by rfl) D_l_cells.g D_l_cells.F.kp D_l_cells.b .nil pass0 (pa_cons (pv 0) (pa_cons (pv 7) (pa_cons (pv 2) pa_nil)))))
    (pss_cons (ps_set (i := 8) sc_law.nd rfl (.inl rfl) (pe_make M_Known G_Known (hr.mono (by decide)) rfl T.mg_Known b_Known .nil pass0 (pa_cons (pe_ix ix_list (pv 7) pe_int (fun _ _ => rfl)) (pa_cons (pe_callTy call_list_of (by rfl) T.n_list (by decide +kernel) (pa_cons (pe_ix ix_list (pv 7) pe_int (fun _ _ => rfl)) pa_nil)) (pa_cons (pe_callTy call_list_of (by rfl) T.n_list (by decide +kernel) (pa_cons (pe_ix ix_list (pv 7) pe_int (fun _ _ => rfl)) pa_nil)) (pa_cons (pe_callTy call_list_of (by rfl) T.n_list (by decide +kernel) (pa_cons (pe_ix ix_list (pv 7) pe_int (fun _ _ => rfl)) pa_nil)) (pa_cons (pe_lst pa_nil) (pa_cons (pe_lst pa_nil) pa_nil))))))))
    (pss_cons (ps_set (i := 9) sc_law.nd rfl (.inl rfl) (pe_callTy call_list_of (by rfl) T.n_list (by decide +kernel) (pa_cons (pv 2) pa_nil)))
    (Evl.pss_cut (ps_if (pt_cmpR op_eq (pe_ix ix_list (pv 1) pe_int (fun _ _ => rfl)) pe_int (nomark _))
    (pss_one (ps_set (i := 9) sc_law.nd rfl (.inl rfl) (pe_callTy call_tuple_of (by rfl) T.n_tuple (by decide +kernel) (pa_cons (pv 2) pa_nil))))
    pss_nil)
    (pss_cons (ps_for PassesOwn.never rfl (pi_range1 (by rfl) T.n_range (pa_cons (pe_callB call_len_seq (by rfl) T.n_len PySem.boot_len (pa_cons (pv 5) pa_nil)) pa_nil)) (pg_name (i := 10) sc_law.nd rfl (.inr rfl))
    (pss_cons (ps_for PassesOwn.never rfl (pi_list (pe_call G_l_asked (hr.mono (by decide)) (by rfl) D_l_asked.g D_l_asked.F.kp D_l_asked.b .nil pass0 (pa_cons (pv 7) (pa_cons (pv 2) (pa_cons (pv 10) pa_nil))))) (pg_name (i := 4) sc_law.nd rfl (.inl rfl))
    (pss_cons (ps_set (i := 11) sc_law.nd rfl (.inl rfl) (pe_call G_value_at (hr.mono (by decide)) (by rfl) D_value_at.g D_value_at.F.kp D_value_at.b .nil pass0 (pa_cons (pv 8) (pa_cons (pv 9) (pa_cons (pv 10) (pa_cons (pv 4) pa_nil))))))
    (pss_one (ps_if (pt_cmpR op_ne (pe_callB (call_reprS hg hr.units) (by rfl) T.n_repr (by decide +kernel) (pa_cons (pv 11) pa_nil)) (pe_callB (call_reprS hg hr.units) (by rfl) T.n_repr (by decide +kernel) (pa_cons (pe_call G_l_told (hr.mono (by decide)) (by rfl) D_l_told.g D_l_told.F.kp D_l_told.b .nil pass0 (pa_cons (pv 7) (pa_cons (pv 2) (pa_cons (pv 10) (pa_cons (pv 4) pa_nil))))) pa_nil)) (nomark _))
    (pss_one (ps_ret pe_bl))
    pss_nil))))
    (pss_cons (ps_set (i := 12) sc_law.nd rfl (.inl rfl) (pe_call G_l_of (hr.mono (by decide)) (by rfl) D_l_of.g D_l_of.F.kp D_l_of.b .nil pass0 (pa_cons (pe_call G_l_length (hr.mono (by decide)) (by rfl) D_l_length.g D_l_length.F.kp D_l_length.b .nil pass0 (pa_cons (pv 5) (pa_cons (pv 10) pa_nil))) (pa_cons (pv 2) pa_nil))))
    (pss_cons (ps_setLc (i := 13) (own := [("k", 4)]) (g := gName 4) (by rfl) sc_law.nd rfl rfl (sw_true rfl rfl rfl (by decide +kernel)) (pi_range1 (by rfl) T.n_range (pa_cons (pv 12) pa_nil)) (blkOk_by (own := [("k", 4)]) (N := ["script", "shape", "values", "draw", "k", "lists", "differences", "known", "made", "passed", "number", "found", "length", "due", "again", "told"]) (sc := defScope s_law) (by decide +kernel)) (fun _ _ _ _ _ => pg_name (i := 4) sc_law.nd rfl (Or.inl rfl)) (fun _ _ _ _ _ => pts_nil) (fun _ _ _ _ _ => (pe_call G_l_told (hr.mono (by decide)) (by rfl) D_l_told.g D_l_told.F.kp D_l_told.b .nil pass0 (pa_cons (pv 7) (pa_cons (pv 2) (pa_cons (pv 10) (pa_cons (pv 4) pa_nil)))))))
    (pss_one (ps_for PassesOwn.never rfl (pi_range1 (by rfl) T.n_range (pa_cons pe_int pa_nil)) (pg_name (i := 14) sc_law.nd rfl (.inl rfl))
    (pss_cons (ps_set (i := 11) sc_law.nd rfl (.inl rfl) (pe_call G_content (hr.mono (by decide)) (by rfl) D_content.g D_content.F.kp D_content.b .nil pass0 (pa_cons (pv 8) (pa_cons (pv 9) (pa_cons (pv 10) pa_nil)))))
    (pss_cons (ps_if (PW.pt (pw_or (pt_not (pt_val (pe_callB call_isi (by rfl) T.n_isinstance (by decide +kernel) (pa_cons (pv 11) (pa_cons (pe_bltn (v := .ty "list") (u := .type "list") (by rfl) T.n_list (by decide +kernel) rfl) pa_nil))))) (pw_or1 (pt_cmpR op_ne (pe_callB (call_reprS hg hr.units) (by rfl) T.n_repr (by decide +kernel) (pa_cons (pv 11) pa_nil)) (pe_callB (call_reprS hg hr.units) (by rfl) T.n_repr (by decide +kernel) (pa_cons (pv 13) pa_nil)) (nomark _)))))
    (pss_one (ps_ret pe_bl))
    pss_nil)
    (pss_cons (ps_expr (pe_bm PySem.F.plainAttrs_list PySem.F.slot_list_append PySem.F.type_list_append mt_append (pv 11) (pa_cons pe_int pa_nil)))
    (pss_one (ps_asg (pe_op op_add (pe_ix ix_list (pv 11) pe_int (fun _ _ => rfl)) pe_int) (pg_sub (pv 11) pe_int set_list))))))))))))
    (pss_cons (ps_set (i := 15) sc_law.nd rfl (.inl rfl) (pe_lst (pa_cons (pe_fld (pv 8) rfl) (pa_cons (pe_fld (pv 8) rfl) (pa_cons (pe_fld (pv 8) rfl) (pa_cons (pe_fld (pv 8) rfl) (pa_cons (pe_fld (pv 8) rfl) (pa_cons (pe_fld (pv 8) rfl) (pa_cons (pe_callTy call_list_of (by rfl) T.n_list (by decide +kernel) (pa_cons (pv 9) pa_nil)) pa_nil)))))))))
    (pss_one (ps_ret (pe_cmpR op_eq (pe_callB (call_reprS hg hr.units) (by rfl) T.n_repr (by decide +kernel) (pa_cons (pv 15) pa_nil)) (pe_callB (call_reprS hg hr.units) (by rfl) T.n_repr (by decide +kernel) (pa_cons (pe_lst (pa_cons (pe_ix ix_list (pv 7) pe_int (fun _ _ => rfl)) (pa_cons (pe_ix ix_list (pv 7) pe_int (fun _ _ => rfl)) (pa_cons (pe_ix ix_list (pv 7) pe_int (fun _ _ => rfl)) (pa_cons (pe_ix ix_list (pv 7) pe_int (fun _ _ => rfl)) (pa_cons (pe_lst pa_nil) (pa_cons (pe_lst pa_nil) (pa_cons (pv 2) pa_nil)))))))) pa_nil)) (nomark _)))))))))))))), ?_⟩
    -- shape
    refine ⟨_, rfl, by show 3 ≤ sizeLine; decide, fun Z nZ => ?_⟩
    generalize hG1 : upd H Z _ = H1
    obtain ⟨s1, e1⟩ := new_of nZ hG1
    refine ⟨a, Z, scr, [4, 4, 2], 1, rfl, s1.seq hS, by decide, by decide, SqL.of e1, by decide, by decide, fun SH ss H2 hl hb s2 nSH eSH => ?_⟩
    have ssl : ss.length = 3 := hl
    obtain ⟨b00, b01⟩ := hb 0 ss[0] 4 (List.getElem?_eq_getElem (by omega)) rfl
    obtain ⟨b10, b11⟩ := hb 1 ss[1] 4 (List.getElem?_eq_getElem (by omega)) rfl
    obtain ⟨n0, hn0⟩ : ∃ n : Nat, (1 : Int) + ss[0] = (n : Nat) := ⟨(1 + ss[0]).toNat, by omega⟩
    obtain ⟨n1, hn1⟩ : ∃ n : Nat, (1 : Int) + ss[1] = (n : Nat) := ⟨(1 + ss[1]).toNat, by omega⟩
    have sA := s1.trans s2
    -- values
    refine ⟨_, rfl, _, rfl, SH, _, _, _, rfl, rfl, SqL.of eSH, ints_at (j := 0) (by omega), _, _, rfl, rfl, ?_⟩
    dsimp only
    rw [hn0]
    refine ⟨n0, rfl, by omega, by omega, fun Z2 nZ2 => ?_⟩
    refine lc_vals (walk_range (lo := 0) (n := n0)) nZ2 (fun _ => .int (10 ^ 9)) (by omega) (fun _ _ => trivial) (fun i x H3 H3' Q' hi s3 y q' => ?_) (fun H3 s3 e3 => ?_)
    · obtain ⟨rfl, rfl⟩ := y
      exact ⟨rfl, _, _, rfl, rfl, ⟨by decide, by decide, by decide⟩, q' _ (Same.refl _)⟩
    generalize hss : ((List.range n0).map fun _ => (10 ^ 9 : Int)) = s2s
    have hsl : s2s.length = n0 := by rw [← hss, List.length_map, List.length_range]
    have e3 : H3 Z2 = some (.lst (s2s.map V.int)) := by
      rw [e3, ← hss, List.map_map]
      rfl
    refine ⟨a, Z2, scr, s2s, 2, rfl, (sA.trans s3).seq hS, by decide, by decide, SqL.of e3, by omega, fun x hx => ?_, fun D2 dr H4 hdl hb2 s4 nD2 eD2 => ?_⟩
    · rw [← hss] at hx
      obtain ⟨_, _, rfl⟩ := List.mem_map.mp hx
      exact ⟨by decide, by decide⟩
    have sB := (sA.trans s3).trans s4
    refine ⟨D2, rfl, ⟨_, SqL.of eD2⟩, fun VL nVL => ?_⟩
    refine lc_list (K := K) (a := D2) (xs := dr.map V.int) (fun i G => Same H4 G ∧ ∃ vs : List Int, G VL = some (.lst (vs.map V.int)) ∧ vs.length = i ∧ VsB vs) ⟨same_new nVL, [], upd_same, rfl, fun x h => (List.not_mem_nil h).elim⟩ (fun i G _ h => h.1.seq (SqL.of eD2)) (fun k x G hx hP => ?_) (fun G hP => ?_)
    · obtain ⟨sG, vs, eV, hvl, hvs⟩ := hP
      have hk : k < dr.length := by
        have := (List.getElem?_eq_some_iff.mp hx).1
        rwa [List.length_map] at this
      rw [List.getElem?_map, List.getElem?_eq_getElem hk] at hx
      cases hx
      refine ⟨rfl, _, rfl, _, rfl, fun r r0 r1 => ⟨_, eV, by rw [List.length_map]; exact small_sz (by omega), same_mut sG nVL, vs ++ [r], by rw [upd_same, List.map_append]; rfl, by rw [List.length_append, hvl]; rfl, fun z hz => ?_⟩⟩
      rcases List.mem_append.mp hz with hz | hz
      · exact hvs z hz
      · rw [List.mem_singleton.mp hz]
        exact ⟨r0, r1⟩
    obtain ⟨s5, vals, eV, hvl, hvs⟩ := hP
    rw [List.length_map] at hvl
    have sC := sB.trans s5
    have hvl : vals.length = n0 := by omega
    -- lists
    refine ⟨_, rfl, _, rfl, SH, _, _, _, rfl, rfl, SqL.of ((s3.trans (s4.trans s5)) _ _ eSH), ints_at (j := 1) (by omega), _, _, rfl, rfl, ?_⟩
    dsimp only
    rw [hn1]
    refine ⟨_, rfl, a, VL, n1, scr, vals, rfl, sC.seq hS, SqL.of eV, by omega, hvs, by omega, fun t al ad xl xd ls bs H6 s6 et el ed nal nad ne dl dd lok hls hbs lsb hsm => ?_⟩
    refine ⟨t, _, rfl, SqT.of et, rfl, _, _, rfl, _, _, rfl, rfl, ?_⟩
    -- known
    have sD := sC.trans s6
    have eV6 := s6 _ _ eV
    refine ⟨_, rfl, VL, _, rfl, .inl (SqL.of eV6), _, rfl, _, rfl, Nat.zero_le _, fun ac nac => ⟨by show 4 ≤ sizeLine; decide, fun kp nkp => ?_⟩⟩
    rw [List.length_map]
    have nkc : kp ≠ ac := (ne_of_none upd_same nkp).symm
    have s7 : Same H6 (upd (upd H6 ac (.lst [])) kp (.lst [.int (vals.length : Nat), .ref ad, .ref al, .ref ac])) := (same_new nac).trans (same_new nkp)
    have lk7 : LkAt K (upd (upd H6 ac (.lst [])) kp (.lst [.int (vals.length : Nat), .ref ad, .ref al, .ref ac])) kp ad al ac (vals.length : Nat) xl [] ls [] := ⟨upd_same, s7 _ _ el, (upd_ne nkc.symm).trans upd_same, dpa_same s7 _ _ dl, .nil⟩
    generalize upd (upd H6 ac _) kp _ = H7 at s7 lk7
    refine ⟨_, rfl, _, rfl, _, rfl, a, kp, ad, al, ac, VL, _, xl, ls, scr, vals, rfl, fun G b => sq_but hS (sD.trans s7) (sD.free nac) b, fun G b => sq_but (SqL.of eV6) s7 nac b, by omega, lk7, nkc, ne_of_none el nac, lok, by omega, by omega, lsb, fun xc cs H8 b8 lk8 cok hcl bnd con => ?_⟩
    have eV8 := b8 _ _ (ne_of_none eV6 nac) (s7 _ _ eV6)
    have ed8 := b8 _ _ (ne_of_none ed nac) (s7 _ _ ed)
    have eSH6 := (s3.trans (s4.trans (s5.trans s6))) _ _ eSH
    have eSH8 := b8 _ _ (ne_of_none eSH6 nac) (s7 _ _ eSH6)
    have dd8 := dpa_but lk7.c b8 _ _ (noLs_b3 _) (dpa_same s7 _ _ dd)
    -- made
    refine ⟨_, rfl, kp, _, _, _, rfl, rfl, SqL.of lk8.k, atI_nat (j := 0) rfl, _, rfl, kp, _, _, _, rfl, rfl, SqL.of lk8.k, atI_nat (j := 1) rfl, ad, xd, rfl, .inl (SqL.of ed8), fun bd nbd => ?_⟩
    generalize hg : upd H8 bd _ = H9
    obtain ⟨s9, e9⟩ := new_of nbd hg
    refine ⟨_, rfl, kp, _, _, _, rfl, rfl, SqL.of (s9 _ _ lk8.k), atI_nat (j := 2) rfl, al, xl, rfl, .inl (SqL.of (s9 _ _ lk8.l)), fun bl nbl => ?_⟩
    generalize hg : upd H9 bl _ = H10
    obtain ⟨s10, e10⟩ := new_of nbl hg
    have S10 := s9.trans s10
    refine ⟨_, rfl, kp, _, _, _, rfl, rfl, SqL.of (S10 _ _ lk8.k), atI_nat (j := 3) rfl, ac, xc, rfl, .inl (SqL.of (S10 _ _ lk8.c)), fun bc nbc => ?_⟩
    generalize hg : upd H10 bc _ = H11
    obtain ⟨s11, e11⟩ := new_of nbc hg
    refine ⟨Nat.zero_le _, fun bt nbt => ?_⟩
    generalize hg : upd H11 bt _ = H12
    obtain ⟨s12, e12⟩ := new_of nbt hg
    refine ⟨Nat.zero_le _, fun bf nbf => ?_⟩
    generalize hg : upd H12 bf _ = H13
    obtain ⟨s13, e13⟩ := new_of nbf hg
    refine fun x dx nx ndx hne => ?_
    have s14 : Same H13 (upd (upd H13 dx (.own x)) x (.ins C dx [])) := fun b o e => by
      rw [upd_ne (ne_of_none e nx), upd_ne (ne_of_none e ndx)]
      exact e
    have S13 := S10.trans (s11.trans (s12.trans s13))
    refine ⟨x, dx, bd, bl, bc, bt, bf, _, xd, xl, xc, [], [], cs, rfl, upd_same, SqL.of (s14 _ _ ((s10.trans (s11.trans (s12.trans s13))) _ _ e9)), SqL.of (s14 _ _ ((s11.trans (s12.trans s13)) _ _ e10)), SqL.of (s14 _ _ ((s12.trans s13) _ _ e11)), SqL.of (s14 _ _ (s13 _ _ e12)), SqL.of (s14 _ _ e13), dpa_same (S13.trans s14) _ _ lk8.cx, by omega, fun G0 ad2 al2 ac2 at2 af2 ao fnd ky _ _ _ _ _ kn => ⟨rfl, ?_⟩⟩
    have sG : Same H8 G0 := fun b o e => by
      have e13 := S13 _ _ e
      exact ky b o (ne_of_none e13 nx) (s14 _ _ e13)
    clear ky
    -- passed
    refine ⟨_, rfl, VL, _, rfl, .inl (SqL.of (sG _ _ eV8)), fun pl npl => ?_⟩
    generalize hg1 : upd G0 pl _ = G1
    obtain ⟨g1, ep⟩ := new_of npl hg1
    refine ⟨fun σ' G' => Same G1 G' ∧ ∃ pa, Seq K G' pa vals ∧ σ' = [some (.ref a), some (.ref SH), some (.ref VL), none, none, some (.ref al), some (.ref ad), some (.ref kp), some (.ref x), some (.ref pa), none, none, none, none, none, none], ?_, ?_⟩
    · refine ⟨_, rfl, SH, _, _, _, rfl, rfl, SqL.of ((sG.trans g1) _ _ eSH8), ints_at (j := 2) (by omega), rfl, _, rfl, ite2 (fun e => ?_) (fun e => ⟨Same.refl _, pl, .inl (SqL.of ep), rfl⟩)⟩
      exact ⟨_, rfl, VL, _, rfl, .inl ⟨SqL.of ((sG.trans g1) _ _ eV8), fun tp ntp => ⟨same_new ntp, tp, .inr (SqT.of upd_same), rfl⟩⟩⟩
    intro σ' G2 hN
    obtain ⟨g2, pa, hpa, rfl⟩ := hN
    have sG2 := sG.trans (g1.trans g2)
    have lk2 := lk8.same sG2
    have eV2 := sG2 _ _ eV8
    have kn2 := kn.same (g1.trans g2)
    have hxl : xl.length = ls.length := by rw [dpa_len lk8.lx, List.length_map]
    have bal : ∀ {v : Int}, -1000 ≤ v ∧ v ≤ 1000 → v.natAbs.log2 < 1920 := fun {v} h => by
      by_cases h0 : v.natAbs = 0
      · rw [h0]
        decide
      · exact Nat.lt_trans ((Nat.log2_lt h0).mpr (show v.natAbs < 2 ^ 10 by omega)) (by decide)
    -- the numbers
    refine ⟨_, rfl, al, _, rfl, .inl (SqL.of lk2.l), _, rfl, by omega, by omega, ?_⟩
    refine for_range (lo := 0) (n := ((xl.length : Nat) : Int).toNat) (fun i σ G3 => Same G2 G3 ∧ ∃ (y4 y10 y11 y12 y13 y14 : Option V), σ = [some (.ref a), some (.ref SH), some (.ref VL), none, y4, some (.ref al), some (.ref ad), some (.ref kp), some (.ref x), some (.ref pa), y10, y11, y12, y13, y14, none]) ⟨Same.refl _, _, _, _, _, _, _, rfl⟩ (fun i σ G3 hi hP => ?_) (fun σ G3 hP => ?_)
    · obtain ⟨g3, y4, y10, y11, y12, y13, y14, rfl⟩ := hP
      rw [Int.zero_add]
      have hil : i < ls.length := by omega
      have lk3 := lk2.same g3
      have eV3 := SqL.of (K := K) (g3 _ _ eV2)
      have hL := LN_all lok (R := fun l => 0 ≤ wo vals l ∧ wo vals l ≤ 100) (fun j l e => lsb.new j l e) i i (Nat.le_refl _) hil
      have hLo := LN_ok lok i i (Nat.le_refl _) hil
      refine ⟨_, rfl, _, rfl, _, rfl, kp, ad, al, ac, VL, _, xl, xc, ls, cs, i, vals, rfl, lk3, eV3, lok, hil, by omega, cok, hcl, hL.1, hL.2, fun D zs G4 g4 eD hzl => ⟨D, rfl, ⟨_, SqL.of eD⟩, ?_⟩⟩
      refine for_list (K := K) (a := D) (xs := zs.map V.int) (fun j σ G5 => Same G4 G5 ∧ ∃ (y4 y11 : Option V), σ = [some (.ref a), some (.ref SH), some (.ref VL), none, y4, some (.ref al), some (.ref ad), some (.ref kp), some (.ref x), some (.ref pa), some (.int (i : Nat)), y11, y12, y13, y14, none]) ⟨Same.refl _, _, _, rfl⟩ (fun j σ G5 _ hP => SqL.of (hP.1 _ _ eD)) (fun j y σ G5 hy hP => ?_) (fun σ G5 hP => ?_)
      · obtain ⟨g5, y4, y11, rfl⟩ := hP
        have hj : j < zs.length := by
          have := (List.getElem?_eq_some_iff.mp hy).1
          rwa [List.length_map] at this
        rw [List.getElem?_map, List.getElem?_eq_getElem hj] at hy
        cases hy
        have g35 := (g3.trans g4).trans g5
        refine ⟨_, rfl, _, rfl, _, rfl, _, rfl, x, pa, i, zs[j], ls, cs, vals, rfl, ⟨⟨_, _, _, _, _, _, _, _, _, _, _, _, _, kn2.same g35, dpa_same g35 _ _ lk2.lx⟩⟩, hpa.same g35, lok, hil, cok, by omega, fun G6 v g6 tv => ?_⟩
        have g36 := g35.trans g6
        refine ⟨_, rfl, .inr ⟨v, rfl, bal (TV_bnd lsb bnd tv), ?_⟩⟩
        refine ⟨_, rfl, _, rfl, _, rfl, _, rfl, kp, ad, al, ac, VL, _, zs[j], xl, xc, ls, cs, i, vals, rfl, lk2.same g36, SqL.of (g36 _ _ eV2), lok, hil, by omega, cok, fun u tu => .inr ⟨u, rfl, bal (TV_bnd lsb bnd tu), rfl, _, rfl, ?_⟩⟩
        cases TV_uniq lok hil con tv tu
        rw [decide_eq_true rfl]
        exact iteF ⟨g5.trans g6, _, _, rfl⟩
      · obtain ⟨g5, y4, y11, rfl⟩ := hP
        have g35 := (g3.trans g4).trans g5
        have lk5 := lk2.same g35
        have eV5 := SqL.of (K := K) (g35 _ _ eV2)
        refine ⟨_, rfl, _, rfl, al, i, vals.length, ls, xl, rfl, SqL.of lk5.l, lk5.lx, lok, hil, by omega, fun v hv => ⟨_, rfl, v, VL, LN ls i, vals, rfl, hv, eV5, hLo, ?_⟩⟩
        obtain ⟨hL0, hL1⟩ := hL
        -- due
        refine ⟨_, rfl, _, rfl, by omega, by omega, fun DU nDU => ?_⟩
        refine lc_range (lo := 0) (n := (wo vals (LN ls i)).toNat) (fun t G6 => Same G5 G6 ∧ ∃ us : List Int, G6 DU = some (.lst (us.map V.int)) ∧ us.length = t ∧ (∀ j : Nat, j < t → TV ls vals cs i j (us.getD j 0)) ∧ ∀ u, u ∈ us → -1000 ≤ u ∧ u ≤ 1000) ⟨same_new nDU, [], upd_same, rfl, fun _ h => absurd h (Nat.not_lt_zero _), fun _ h => (List.not_mem_nil h).elim⟩ (fun t G6 ht hP => ?_) (fun G6 hP => ?_)
        · obtain ⟨g6, us, eU, hul, htv, hub⟩ := hP
          refine ⟨rfl, _, rfl, _, rfl, _, rfl, _, rfl, kp, ad, al, ac, VL, _, _, xl, xc, ls, cs, i, vals, rfl, lk5.same g6, SqL.of ((g35.trans g6) _ _ eV2), lok, hil, by omega, cok, fun u tu => ⟨_, eU, by rw [List.length_map]; exact small_sz (by omega), same_mut g6 nDU, us ++ [u], by rw [upd_same, List.map_append]; rfl, by rw [List.length_append, hul]; rfl, fun j hj => ?_, fun z hz => ?_⟩⟩
          · rw [List.getD_eq_getElem?_getD]
            by_cases hjt : j < t
            · rw [List.getElem?_append_left (by omega), ← List.getD_eq_getElem?_getD]
              exact htv j hjt
            · have hjt : j = us.length := by omega
              subst hjt
              rw [List.getElem?_append_right (Nat.le_refl _), Nat.sub_self]
              rw [hul]
              rw [Int.zero_add] at tu
              exact tu
          · rcases List.mem_append.mp hz with hz | hz
            · exact hub z hz
            · rw [List.mem_singleton.mp hz]
              exact TV_bnd lsb bnd tu
        · obtain ⟨g6, us, eU, hul, htv, hub⟩ := hP
          have hLn : ((wo vals (LN ls i)).toNat : Int) = wo vals (LN ls i) := Int.toNat_of_nonneg hL0
          refine ⟨2, rfl, by decide, by decide, ?_⟩
          have g36 := g35.trans g6
          refine for_range (lo := 0) (n := (2 : Int).toNat) (fun t σ G7 => Same G6 G7 ∧ ∃ (y11 y14 : Option V), σ = [some (.ref a), some (.ref SH), some (.ref VL), none, y4, some (.ref al), some (.ref ad), some (.ref kp), some (.ref x), some (.ref pa), some (.int (i : Nat)), y11, some (.int (wo vals (LN ls i))), some (.ref DU), y14, none]) ⟨Same.refl _, _, _, rfl⟩ (fun t σ G7 ht hP => ?_) (fun σ G7 hP => ?_)
          · obtain ⟨g7, y11, y14, rfl⟩ := hP
            have g37 := g36.trans g7
            refine ⟨_, rfl, _, rfl, _, rfl, x, pa, i, ls, cs, vals, rfl, ⟨⟨_, _, _, _, _, _, _, _, _, _, _, _, _, kn2.same g37, dpa_same g37 _ _ lk2.lx⟩⟩, hpa.same g37, lok, hil, by omega, cok, by omega, fun c hc => ?_, hL0, by omega, fun qa G8 c g8 nq eq hcl2 htv2 => ?_⟩
            · have := (bnd c hc).1
              omega
            have ecu : c = us := by
              refine List.ext_getElem (by omega) fun j h1 h2 => ?_
              have := TV_uniq lok hil con (htv2 j h1) (htv j (by omega))
              rw [List.getD_eq_getElem?_getD, List.getD_eq_getElem?_getD, List.getElem?_eq_getElem h1, List.getElem?_eq_getElem h2] at this
              exact this
            subst ecu
            have dq : Dp K G8 (.ref qa) (.list (c.map PyData.int)) := .lst (SqL.of eq) (dpa_ints c)
            have du : Dp K G8 (.ref DU) (.list (c.map PyData.int)) := .lst (SqL.of ((g7.trans g8) _ _ eU)) (dpa_ints c)
            have sm : smS (.list (c.map PyData.int)) = true := smSs_map PyData.int c fun z hz => by
              have := hub z hz
              show decide (z.natAbs < 10 ^ 60) = true
              exact decide_eq_true (by omega)
            have dep : (PyData.list (c.map PyData.int)).depth ≤ 60 := by
              have := depthS_map PyData.int 0 c fun _ _ => Nat.le_refl _
              show PyData.depthAll (c.map PyData.int) + 1 ≤ 60
              omega
            have szz : shS (.list (c.map PyData.int)) ≤ sizeLine := by
              have := shSs_map PyData.int 70 c fun _ _ => Nat.le_refl _
              show shSs (c.map PyData.int) + 10 ≤ sizeLine
              exact Nat.le_of_lt (small_sz5 (by omega))
            refine ⟨_, rfl, _, _, _, _, true, rfl, .ty "list", .base (.lst eq), kit_list, ?_⟩
            refine ⟨_, rfl, iteF ⟨_, rfl, .inl ⟨qa, _, rfl, dq, sm, dep, szz, _, rfl, .inl ⟨DU, _, rfl, du, sm, dep, szz, rfl, _, rfl, ?_⟩⟩⟩⟩
            rw [decide_eq_true rfl]
            refine iteF ⟨_, rfl, .inl ⟨rfl, _, SqL.of eq⟩, qa, _, _, rfl, rfl, eq, by rw [List.length_map]; exact small_sz5 (by omega), ?_⟩
            have eap : c.map V.int ++ [.int 0] = (c ++ [0]).map V.int := by rw [List.map_append]; rfl
            rw [eap]
            refine ⟨_, rfl, qa, _, _, _, rfl, rfl, SqL.of upd_same, ints_at (j := 0) (by rw [List.length_append]; exact Nat.succ_pos _), _, _, rfl, rfl, _, rfl, ?_⟩
            exact ⟨qa, _, 0, 0, rfl, rfl, upd_same, ixN_nat (by rw [List.length_map, List.length_append]; exact Nat.succ_pos _), g7.trans (same_mut (same_mut g8 nq) nq), _, _, rfl⟩
          · obtain ⟨g7, y11, y14, rfl⟩ := hP
            exact ⟨(g3.trans g4).trans (g5.trans (g6.trans g7)), _, _, _, _, _, _, rfl⟩
    · obtain ⟨g3, y4, y10, y11, y12, y13, y14, rfl⟩ := hP
      have kn3 := kn2.same g3
      have lk3 := lk2.same g3
      have sG3 := sG2.trans g3
      obtain ⟨dx3, e3x⟩ := kn3.ob
      refine ⟨_, rfl, x, C, _, _, _, rfl, e3x, T.cl, T.nM, knF_m _ _ _ _ _ _ _, _, rfl, x, C, _, _, _, rfl, e3x, T.cl, T.nD, knF_d _ _ _ _ _ _ _, _, rfl, x, C, _, _, _, rfl, e3x, T.cl, T.nL, knF_l _ _ _ _ _ _ _, _, rfl, x, C, _, _, _, rfl, e3x, T.cl, T.nC, knF_c _ _ _ _ _ _ _, _, rfl, x, C, _, _, _, rfl, e3x, T.cl, T.nT, knF_t _ _ _ _ _ _ _, _, rfl, x, C, _, _, _, rfl, e3x, T.cl, T.nF, knF_f _ _ _ _ _ _ _, ?_⟩
      refine ⟨_, rfl, pa, _, rfl, hpa.same g3, fun lp nlp => ⟨by show 7 ≤ sizeLine; decide, fun tl ntl => ?_⟩⟩
      generalize hg : upd (upd G3 lp _) tl _ = G4
      have g4 : Same G3 G4 := hg ▸ (same_new nlp).trans (same_new ntl)
      have nlt : lp ≠ tl := ne_of_none upd_same ntl
      have elp : G4 lp = some (.lst (vals.map V.int)) := by
        rw [← hg]
        exact (upd_ne nlt).trans upd_same
      have etl : G4 tl = some (.lst [.int (vals.length : Nat), .ref ad2, .ref al2, .ref ac2, .ref at2, .ref af2, .ref lp]) := by
        rw [← hg]
        exact upd_same
      have kn4 := kn3.same g4
      have lk4 := lk3.same g4
      have vis : smS (.int (vals.length : Nat)) = true := decide_eq_true (by omega)
      have msm : smS (tellD (vals.length : Nat) bs ls cs vals) = true := tellD_sm (smSs_map b3 bs hsm) (smSs_map Ld.enc ls fun l hl => sm_ld (by omega) hvs lok lsb (by omega) hl) (smSs_map Ce.enc cs fun c hc => sm_ce (by omega) hvs cok bnd hc) (smSs_map PyData.int vals fun z hz => decide_eq_true (by have := hvs z hz; omega)) vis
      have msh : shS (tellD (vals.length : Nat) bs ls cs vals) ≤ sizeLine := tellD_sh (by omega) (by omega) (by omega) (by omega)
      have dtl : Dp K G4 (.ref tl) (tellD (vals.length : Nat) bs ls cs vals) := .lst (SqL.of etl) (.cons (.int _) (.cons (.lst (SqL.of kn4.d) (dpa_same (sG3.trans g4) _ _ dd8)) (.cons (.lst (SqL.of kn4.l) lk4.lx) (.cons (.lst (SqL.of kn4.c) kn4.cx) (.cons (.lst (SqL.of kn4.t) .nil) (.cons (.lst (SqL.of kn4.f) .nil) (.cons (.lst (SqL.of elp) (dpa_ints vals)) .nil)))))))
      refine ⟨_, rfl, .inl ⟨tl, _, rfl, dtl, msm, tellD_dp, msh, ?_⟩⟩
      refine ⟨_, rfl, kp, _, _, _, rfl, rfl, SqL.of lk4.k, atI_nat (j := 0) rfl, _, rfl, kp, _, _, _, rfl, rfl, SqL.of lk4.k, atI_nat (j := 1) rfl, _, rfl, kp, _, _, _, rfl, rfl, SqL.of lk4.k, atI_nat (j := 2) rfl, _, rfl, kp, _, _, _, rfl, rfl, SqL.of lk4.k, atI_nat (j := 3) rfl, ?_⟩
      refine ⟨Nat.zero_le _, fun ea nea => ⟨Nat.zero_le _, fun eb neb => ⟨_, rfl, by show 7 ≤ sizeLine; decide, fun t2 nt2 => ?_⟩⟩⟩
      generalize hg : upd (upd (upd G4 ea _) eb _) t2 _ = G5
      have sea := same_new (o := .lst []) nea
      have seb := same_new (o := .lst []) neb
      have g5 : Same G4 G5 := hg ▸ (sea.trans seb).trans (same_new nt2)
      have ne1 : ea ≠ eb := ne_of_none upd_same neb
      have ne2 : ea ≠ t2 := ne_of_none ((upd_ne ne1).trans upd_same) nt2
      have ne3 : eb ≠ t2 := ne_of_none upd_same nt2
      have eea : G5 ea = some (.lst []) := by
        rw [← hg]
        exact (upd_ne ne2).trans ((upd_ne ne1).trans upd_same)
      have eeb : G5 eb = some (.lst []) := by
        rw [← hg]
        exact (upd_ne ne3).trans upd_same
      have et2 : G5 t2 = some (.lst [.int (vals.length : Nat), .ref ad, .ref al, .ref ac, .ref ea, .ref eb, .ref VL]) := by
        rw [← hg]
        exact upd_same
      have lk5 := lk4.same g5
      have sG5 := sG3.trans (g4.trans g5)
      have dt2 : Dp K G5 (.ref t2) (tellD (vals.length : Nat) bs ls cs vals) := .lst (SqL.of et2) (.cons (.int _) (.cons (.lst (SqL.of (sG5 _ _ ed8)) (dpa_same sG5 _ _ dd8)) (.cons (.lst (SqL.of lk5.l) lk5.lx) (.cons (.lst (SqL.of lk5.c) lk5.cx) (.cons (.lst (SqL.of eea) .nil) (.cons (.lst (SqL.of eeb) .nil) (.cons (.lst (SqL.of (sG5 _ _ eV8)) (dpa_ints vals)) .nil)))))))
      refine .inl ⟨t2, _, rfl, dt2, msm, tellD_dp, msh, rfl, ?_⟩
      rw [decide_eq_true rfl]
      exact q _
end
end SW

namespace SW
open PySem PySem.Spec PyProof.Rows L2
theorem txk_mk {K : PySem.W.Frag} {h : Heap} {mg : PySem.Str → Option Value} {C : Addr} (X : K.In h) (G : h.Ns mainGlobals mg) (B : TxB mg) (aC : PySem.W.nsIn K mainGlobals "Known" = some (some (.ref C)))
    (pg : PySem.W.plainGet K C Str.empty = true) (hd : PySem.W.hasDictIn K C = true) (po : PySem.W.plainOver K C = true) (sa : PySem.W.findIn K (.ref C) "__setattr__" = some (some (.builtin "object.__setattr__")))
    (nM : PySem.W.findIn K (.ref C) "many" = some none) (nD : PySem.W.findIn K (.ref C) "differences" = some none) (nL : PySem.W.findIn K (.ref C) "lists" = some none) (nC : PySem.W.findIn K (.ref C) "cells" = some none) (nT : PySem.W.findIn K (.ref C) "taken" = some none) (nF : PySem.W.findIn K (.ref C) "fresh" = some none) (nO : PySem.W.findIn K (.ref C) "_found" = some none) : TxK K mg C :=
  ⟨B, ⟨pg, hd, po, sa⟩, nM, nD, nL, nC, nT, nF, nO, PySem.W.mg_of X G aC⟩
def ckk_mk {K : PySem.W.Frag} {C f : Addr} {oc : Value} {od an : Option Addr} {sl : Array (Option Value)} {kV doc pm cd ct : Value}
    (a : PySem.W.findIn K (.ref C) "__init__" = some (some (.ref f))) (i : PySem.W.isFn K (.ref f) = true) (l : K.lookup f = some ⟨oc, od, .func (PySem.W.fnOf "__init__" "Known.__init__" (defArgs s_Known) (defBody s_Known) (defScope s_Known) .none kV doc pm an cd ct), sl⟩) (c : PySem.W.codeIn K cd "Known.__init__" = true) (k : PySem.W.keepIn K (.ref f) = true)
    (mk : PySem.W.makesIn K C = true) (kc : PySem.W.keepIn K (.ref C) = true) : CkK K C :=
  ⟨f, _, fun_mk (st := s_Known) l c k, (fun_mk (st := s_Known) l c k).binds (ps := ["self", "many", "differences", "lists", "cells", "taken", "fresh"]) fun _ _ _ _ _ _ us hl => match us, hl with | [_, _, _, _, _, _, _], _ => rfl, ⟨mk, a, i, kc⟩⟩
def ckl_mk {K : PySem.W.Frag} {C f : Addr} {oc : Value} {od an : Option Addr} {sl : Array (Option Value)} {kV doc pm cd ct : Value}
    (a : PySem.W.findIn K (.ref C) "length" = some (some (.ref f))) (i : PySem.W.isFn K (.ref f) = true) (l : K.lookup f = some ⟨oc, od, .func (PySem.W.fnOf "length" "Known.length" (defArgs s_length) (defBody s_length) (defScope s_length) .none kV doc pm an cd ct), sl⟩) (c : PySem.W.codeIn K cd "Known.length" = true) (k : PySem.W.keepIn K (.ref f) = true) : CkL K C :=
  ⟨f, _, fun_mk (st := s_length) l c k, (fun_mk (st := s_length) l c k).binds (ps := ["self", "number"]) fun _ _ _ _ _ _ us hl => match us, hl with | [_, _], _ => rfl, ⟨a, i, k⟩⟩
end SW

namespace SW
open PySem PySem.Spec PyProof.Rows L2
theorem all_mk {P : Program} {w : World} {K : PySem.W.Frag} {mg : PySem.Str → Option Value} {fa C : Addr} (hfa : mg "law" = some (.ref fa)) (T : TxK K mg C) (c_Known : CkK K C) (c_length : CkL K C)
  (D_law : Df K mg "law" s_law ["script"]) (hb : ∀ (s : Shared) (v : Value), BindsTo s D_law.fd ⟨[v], []⟩ [("script", v)]) (D_worth_of : Df K mg "worth_of" s_worth_of ["form", "values"]) (D_value_at : Df K mg "value_at" s_value_at ["known", "values", "number", "k"]) (D_content : Df K mg "content" s_content ["known", "values", "number"]) (D_cells_by_index : Df K mg "_cells_by_index" s_cells_by_index ["known", "values", "number"]) (D_unknown_content : Df K mg "_unknown_content" s_unknown_content ["cells", "length"]) (D_l_cell : Df K mg "_law_cell" s_l_cell ["script", "k"]) (D_l_draws : Df K mg "_law_draws" s_l_draws ["script", "place", "sizes"]) (D_l_at_most : Df K mg "_law_at_most" s_l_at_most ["f", "g"]) (D_l_of : Df K mg "_law_of" s_l_of ["form", "values"]) (D_l_length : Df K mg "_law_length" s_l_length ["lists", "number"]) (D_l_small : Df K mg "_law_small" s_l_small ["draw"]) (D_l_form_for : Df K mg "_law_form_for" s_l_form_for ["draw", "values", "target"]) (D_l_told : Df K mg "_law_told" s_l_told ["known", "values", "number", "k"]) (D_l_lists : Df K mg "_law_lists" s_l_lists ["script", "count", "values"]) (D_l_cells : Df K mg "_law_cells" s_l_cells ["script", "known", "values"]) (D_l_asked : Df K mg "_law_asked" s_l_asked ["known", "values", "number"]) :
    ∃ fd : FuncData, (∀ (s : Shared) (v : Value), BindsTo s fd ⟨[v], []⟩ [("script", v)]) ∧ ∀ base : Heap, K.In base → base.Ns mainGlobals mg → FnOkG P w K mg base CX0 5 fa fd ["script"] (spLaw K) := by
  have e := hfa.symm.trans D_law.g
  cases e
  exact ⟨D_law.fd, hb, fun base _ _ => ok_law T c_Known c_length D_law D_worth_of D_value_at D_content D_cells_by_index D_unknown_content D_l_cell D_l_draws D_l_at_most D_l_of D_l_length D_l_small D_l_form_for D_l_told D_l_lists D_l_cells D_l_asked⟩
end SW

open PySem PySem.W PyProof.Rows
set_option maxHeartbeats 0 in
theorem PySem.Challenge.cw_swornrun_k15_values_and_contents_holds : PySem.Challenge.rw_swornrun_k15_values_and_contents.Holds := by
  w_on; o_law; k_head; (case hw => w_witness2)
  k_fill
  refine SW.walk_ofG (l := PySem.Challenge.rw_swornrun_k15_values_and_contents) (n := 63) (k := 5) (x := "script") (sp := fun w => SW.spLaw _) rfl (by decide) rfl ⟨rfl, by decide, by decide⟩ (fun w h Y => PySem.W.kIn_of Y) ?F (fun _ _ a ns hl _ hS => ⟨a, ns, rfl, hS, hl, fun _ => rfl⟩)
  case F =>
    intro w mg fa h KX G hmg
    refine' SW.all_mk hmg (SW.txk_mk KX G ⟨PySem.W.mg_none_of KX G ?n_len, PySem.W.mg_none_of KX G ?n_range, PySem.W.mg_none_of KX G ?n_int, PySem.W.mg_none_of KX G ?n_abs, PySem.W.mg_none_of KX G ?n_isinstance, PySem.W.mg_none_of KX G ?n_list, PySem.W.mg_none_of KX G ?n_str, PySem.W.mg_none_of KX G ?n_bool, PySem.W.mg_none_of KX G ?n_tuple, PySem.W.mg_none_of KX G ?n_min, PySem.W.mg_none_of KX G ?n_max, PySem.W.mg_none_of KX G ?n_sum, PySem.W.mg_none_of KX G ?n_sorted, PySem.W.mg_none_of KX G ?n_any, PySem.W.mg_none_of KX G ?n_all, PySem.W.mg_none_of KX G ?n_zip, PySem.W.mg_none_of KX G ?n_enumerate, PySem.W.mg_none_of KX G ?n_reversed, PySem.W.mg_none_of KX G ?n_dict, PySem.W.mg_none_of KX G ?n_set, PySem.W.mg_none_of KX G ?n_repr, PySem.W.mg_none_of KX G ?n_ord⟩ ?aC ?pg ?hd ?po ?sa ?nM ?nD ?nL ?nC ?nT ?nF ?nO) (SW.ckk_mk ?ia ?ii ?il ?ic ?ik ?mk ?kc) (SW.ckl_mk ?ja ?ji ?jl ?jc ?jk) (SW.df_mk KX G ?a0 ?l0 ?c0 ?k0 (fun _ _ _ _ _ _ us hl => match us, hl with | [_], _ => rfl)) (fun s v => .of_eq rfl) (SW.df_mk KX G ?a1 ?l1 ?c1 ?k1 (fun _ _ _ _ _ _ us hl => match us, hl with | [_, _], _ => rfl)) (SW.df_mk KX G ?a2 ?l2 ?c2 ?k2 (fun _ _ _ _ _ _ us hl => match us, hl with | [_, _, _, _], _ => rfl)) (SW.df_mk KX G ?a3 ?l3 ?c3 ?k3 (fun _ _ _ _ _ _ us hl => match us, hl with | [_, _, _], _ => rfl)) (SW.df_mk KX G ?a4 ?l4 ?c4 ?k4 (fun _ _ _ _ _ _ us hl => match us, hl with | [_, _, _], _ => rfl)) (SW.df_mk KX G ?a5 ?l5 ?c5 ?k5 (fun _ _ _ _ _ _ us hl => match us, hl with | [_, _], _ => rfl)) (SW.df_mk KX G ?a6 ?l6 ?c6 ?k6 (fun _ _ _ _ _ _ us hl => match us, hl with | [_, _], _ => rfl)) (SW.df_mk KX G ?a7 ?l7 ?c7 ?k7 (fun _ _ _ _ _ _ us hl => match us, hl with | [_, _, _], _ => rfl)) (SW.df_mk KX G ?a8 ?l8 ?c8 ?k8 (fun _ _ _ _ _ _ us hl => match us, hl with | [_, _], _ => rfl)) (SW.df_mk KX G ?a9 ?l9 ?c9 ?k9 (fun _ _ _ _ _ _ us hl => match us, hl with | [_, _], _ => rfl)) (SW.df_mk KX G ?a10 ?l10 ?c10 ?k10 (fun _ _ _ _ _ _ us hl => match us, hl with | [_, _], _ => rfl)) (SW.df_mk KX G ?a11 ?l11 ?c11 ?k11 (fun _ _ _ _ _ _ us hl => match us, hl with | [_], _ => rfl)) (SW.df_mk KX G ?a12 ?l12 ?c12 ?k12 (fun _ _ _ _ _ _ us hl => match us, hl with | [_, _, _], _ => rfl)) (SW.df_mk KX G ?a13 ?l13 ?c13 ?k13 (fun _ _ _ _ _ _ us hl => match us, hl with | [_, _, _, _], _ => rfl)) (SW.df_mk KX G ?a14 ?l14 ?c14 ?k14 (fun _ _ _ _ _ _ us hl => match us, hl with | [_, _, _], _ => rfl)) (SW.df_mk KX G ?a15 ?l15 ?c15 ?k15 (fun _ _ _ _ _ _ us hl => match us, hl with | [_, _, _], _ => rfl)) (SW.df_mk KX G ?a16 ?l16 ?c16 ?k16 (fun _ _ _ _ _ _ us hl => match us, hl with | [_, _, _], _ => rfl))
    (case a0 => k_is)
    (case l0 => k_is)
    (case c0 => k_is)
    (case k0 => k_is)
    (case a1 => k_is)
    (case l1 => k_is)
    (case c1 => k_is)
    (case k1 => k_is)
    (case a2 => k_is)
    (case l2 => k_is)
    (case c2 => k_is)
    (case k2 => k_is)
    (case a3 => k_is)
    (case l3 => k_is)
    (case c3 => k_is)
    (case k3 => k_is)
    (case a4 => k_is)
    (case l4 => k_is)
    (case c4 => k_is)
    (case k4 => k_is)
    (case a5 => k_is)
    (case l5 => k_is)
    (case c5 => k_is)
    (case k5 => k_is)
    (case a6 => k_is)
    (case l6 => k_is)
    (case c6 => k_is)
    (case k6 => k_is)
    (case a7 => k_is)
    (case l7 => k_is)
    (case c7 => k_is)
    (case k7 => k_is)
    (case a8 => k_is)
    (case l8 => k_is)
    (case c8 => k_is)
    (case k8 => k_is)
    (case a9 => k_is)
    (case l9 => k_is)
    (case c9 => k_is)
    (case k9 => k_is)
    (case a10 => k_is)
    (case l10 => k_is)
    (case c10 => k_is)
    (case k10 => k_is)
    (case a11 => k_is)
    (case l11 => k_is)
    (case c11 => k_is)
    (case k11 => k_is)
    (case a12 => k_is)
    (case l12 => k_is)
    (case c12 => k_is)
    (case k12 => k_is)
    (case a13 => k_is)
    (case l13 => k_is)
    (case c13 => k_is)
    (case k13 => k_is)
    (case a14 => k_is)
    (case l14 => k_is)
    (case c14 => k_is)
    (case k14 => k_is)
    (case a15 => k_is)
    (case l15 => k_is)
    (case c15 => k_is)
    (case k15 => k_is)
    (case a16 => k_is)
    (case l16 => k_is)
    (case c16 => k_is)
    (case k16 => k_is)
    (case n_len => k_is)
    (case n_range => k_is)
    (case n_int => k_is)
    (case n_abs => k_is)
    (case n_isinstance => k_is)
    (case n_list => k_is)
    (case n_str => k_is)
    (case n_bool => k_is)
    (case n_tuple => k_is)
    (case n_min => k_is)
    (case n_max => k_is)
    (case n_sum => k_is)
    (case n_sorted => k_is)
    (case n_any => k_is)
    (case n_all => k_is)
    (case n_zip => k_is)
    (case n_enumerate => k_is)
    (case n_reversed => k_is)
    (case n_dict => k_is)
    (case n_set => k_is)
    (case n_repr => k_is)
    (case n_ord => k_is)
    (case aC => k_is)
    (case pg => k_is)
    (case hd => k_is)
    (case po => k_is)
    (case sa => k_is)
    (case nM => k_is)
    (case nD => k_is)
    (case nL => k_is)
    (case nC => k_is)
    (case nT => k_is)
    (case nF => k_is)
    (case nO => k_is)
    (case ia => k_is)
    (case ii => k_is)
    (case il => k_is)
    (case ic => k_is)
    (case ik => k_is)
    (case mk => k_is)
    (case kc => k_is)
    (case ja => k_is)
    (case ji => k_is)
    (case jl => k_is)
    (case jc => k_is)
    (case jk => k_is)
