import PyProof.Rows.All
import Wide.All
import OpenK.AllK
import Wide.FinOn
import HandS.ForMost
import HandS.IsInst
import HandS.Evl
import HandS.SetIn
import HandS.Walk
import HandS.Star
import HandS.Zip
import HandS.Style
import HandS.Wide
import HandS.DictComp
import KE.KeyNested
import KE.KDictKeyed
import HandS.DeepEq
import HandS.RaiseMore
import HandS.Conv
import HandS.TupAny
import HandS.Deep
import HandS.CallLocal
import PySem.Challenge.RW_swornrun_k17_ways_cover
set_option Elab.async false
set_option linter.all false
set_option maxRecDepth 100000
set_option maxHeartbeats 4000000
namespace SW
open PySem PySem.Spec PyProof.Rows L2
def topS (i : Nat) : Stmt := PySem.Challenge.pw_swornrun_k17_ways_cover.main.body.getD i (.Pass ⟨0, 0, 0, 0⟩)
/-- the built-in names stand for what they are -/
structure TxB (mg : PySem.Str → Option Value) : Prop where
  n_len : mg "len" = none
  n_range : mg "range" = none
  n_int : mg "int" = none
  n_abs : mg "abs" = none
  n_isinstance : mg "isinstance" = none
  n_list : mg "list" = none
  n_str : mg "str" = none
  n_bool : mg "bool" = none
  n_tuple : mg "tuple" = none
  n_min : mg "min" = none
  n_max : mg "max" = none
  n_sum : mg "sum" = none
  n_sorted : mg "sorted" = none
  n_any : mg "any" = none
  n_all : mg "all" = none
  n_zip : mg "zip" = none
  n_enumerate : mg "enumerate" = none
  n_reversed : mg "reversed" = none
  n_dict : mg "dict" = none
  n_set : mg "set" = none
  n_repr : mg "repr" = none
  n_ord : mg "ord" = none
/-- a def of the text -/
structure Df (K : PySem.W.Frag) (mg : PySem.Str → Option Value) (x : PySem.Str) (st : Stmt) (ps : List PySem.Str) where
  f : Addr
  fd : FuncData
  F : Fun K x x st f fd
  rb : ∀ us : List Value, us.length = ps.length → bindArgs fd ⟨us, []⟩ = pure (ps.zip us)
  g : mg x = some (.ref f)
theorem Df.b {K : PySem.W.Frag} {mg : PySem.Str → Option Value} {x : PySem.Str} {st : Stmt} {ps : List PySem.Str} (D : Df K mg x st ps) : Binds K D.fd ps [] := .all D.rb
/-- .. of what the head tells -/
def df_mk {x : PySem.Str} {st : Stmt} {ps : List PySem.Str} {K : PySem.W.Frag} {h : Heap} {mg : PySem.Str → Option Value} (X : K.In h) (G : h.Ns mainGlobals mg) {f : Addr} {oc : Value} {od an : Option Addr} {sl : Array (Option Value)} {kV doc pm cd ct : Value}
    (a : PySem.W.nsIn K mainGlobals x = some (some (.ref f))) (l : K.lookup f = some ⟨oc, od, .func (PySem.W.fnOf x x (defArgs st) (defBody st) (defScope st) .none kV doc pm an cd ct), sl⟩) (c : PySem.W.codeIn K cd x = true) (k : PySem.W.keepIn K (.ref f) = true)
    (hb : ∀ (kV doc pm : Value) (an : Option Addr) (cd ct : Value) (us : List Value), us.length = ps.length → bindArgs (PySem.W.fnOf x x (defArgs st) (defBody st) (defScope st) .none kV doc pm an cd ct) ⟨us, []⟩ = pure (ps.zip us)) : Df K mg x st ps :=
  ⟨f, _, fun_mk l c k, hb kV doc pm an cd ct, PySem.W.mg_of X G a⟩
theorem m_of {K : PySem.W.Frag} {h : Heap} {mg : PySem.Str → Option Value} {x : PySem.Str} {v u : Value} (X : K.In h) (G : h.Ns mainGlobals mg) (e : PySem.W.nsIn K mainGlobals x = some (some v)) (q : v = u) : mg x = some u := by
  rw [← q]
  exact PySem.W.mg_of X G e
theorem sqt_mk {K : PySem.W.Frag} {aT : Addr} {od : Option Addr} {its : Array Value} {n : Nat} {sl : Array (Option Value)} {xs : List V} (l : K.lookup aT = some ⟨.type "tuple", od, .seq its n, sl⟩) (hs : its.size ≤ sizeLine) (r : Vals xs its.toList) : ∀ H, SqT K H aT xs :=
  fun H => .inr ⟨_, its, n, l, rfl, rfl, hs, r⟩
theorem same_new {H : Hp} {p : Addr} {o : HO} (h : H p = none) : Same H (upd H p o) := fun b x e => by
  rw [upd_ne (ne_of_none e h)]
  exact e
/-- an object that H does not know has changed -/
theorem same_mut {H H' : Hp} {p : Addr} {o : HO} (s : Same H H') (h : H p = none) : Same H (upd H' p o) := fun b x e => by
  rw [upd_ne (ne_of_none e h)]
  exact s _ _ e
theorem new_of {H H1 : Hp} {p : Addr} {o : HO} (n : H p = none) (h : upd H p o = H1) : Same H H1 ∧ H1 p = some o := by
  subst h
  exact ⟨same_new n, upd_same⟩
/-- all that was tracked is as it was, but what stands at h -/
def But (h : Addr) (H H' : Hp) : Prop := ∀ b o, b ≠ h → H b = some o → H' b = some o
theorem But.refl (h : Addr) (H : Hp) : But h H H := fun _ _ _ e => e
theorem But.trans {h : Addr} {H H1 H2 : Hp} (a : But h H H1) (b : But h H1 H2) : But h H H2 := fun c o n e => b c o n (a c o n e)
theorem Same.but {h : Addr} {H H' : Hp} (a : Same H H') : But h H H' := fun c o _ e => a c o e
/-- the hand at h: the list of draws at d, and a place in it -/
structure Hand (H : Hp) (h d : Addr) (ds : List Int) : Prop where
  at_ : ∃ i : Nat, H h = some (.lst [.ref d, .int (i : Nat)])
  ds_ : H d = some (.lst (ds.map V.int))
  ne : d ≠ h
theorem Hand.same {H H' : Hp} {h d : Addr} {ds : List Int} (a : Hand H h d ds) (s : Same H H') : Hand H' h d ds := by
  obtain ⟨⟨i, h1⟩, h2, h3⟩ := a
  exact ⟨⟨i, s _ _ h1⟩, s _ _ h2, h3⟩
theorem small_sz {n : Nat} (h : n ≤ 1000) : n < sizeLine := Nat.lt_of_le_of_lt h (by decide)
theorem small_sz5 {n : Nat} (h : n ≤ 100000) : n < sizeLine := Nat.lt_of_le_of_lt h (by decide)
theorem ixN_nat {n j : Nat} (h : j < n) : ixN n (j : Int) = some j := by
  unfold ixN
  rw [if_pos (by omega), if_pos (by omega)]
  rfl
theorem hand_ne {H : Hp} {h d p : Addr} {ds : List Int} (hd : Hand H h d ds) (n : H p = none) : p ≠ h := by
  obtain ⟨⟨i, e⟩, _, _⟩ := hd
  exact (ne_of_none e n).symm
theorem hand_ne2 {H : Hp} {h d p : Addr} {ds : List Int} (hd : Hand H h d ds) (n : H p = none) : p ≠ d := (ne_of_none hd.ds_ n).symm
/-- something else than the hand and its draws has changed -/
theorem Hand.upd {H : Hp} {h d p : Addr} {o : HO} {ds : List Int} (a : Hand H h d ds) (h1 : p ≠ h) (h2 : p ≠ d) : Hand (L2.upd H p o) h d ds := by
  obtain ⟨⟨i, e1⟩, e2, e3⟩ := a
  exact ⟨⟨i, (upd_ne h1.symm).trans e1⟩, (upd_ne h2.symm).trans e2, e3⟩
theorem But.new {a : Addr} {H H' : Hp} {p : Addr} {o : HO} (b : But a H H') (n : H p = none) : But a H (L2.upd H' p o) := fun c u hc e => (upd_ne (ne_of_none e n)).trans (b c u hc e)
theorem But.free {a : Addr} {H H' : Hp} {p : Addr} (b : But a H H') (hp : p ≠ a) (n : H' p = none) : H p = none := by
  cases e : H p with
  | none => rfl
  | some u =>
    rw [b p u hp e] at n
    cases n
/-! ### written texts in a row; a text n times -/
def tStrs (ws : List PySem.Str) : TA := fun _ H Q => Q (ws.map V.str) H
theorem pa_strs {X : Cx} {es : List Expr} {ws : List PySem.Str} (h : StrEs es ws) : PA X es (tStrs ws) := by
  induction h with
  | nil => exact pa_nil
  | cons x j p _ ih => exact pa_cons pe_str ih
def rMulS : R2 := fun x y H Q => ∃ (z : PySem.Str) (n : Int), x = .str z ∧ y = .int n ∧ 0 ≤ n ∧ n ≤ 1000 ∧ z.length ≤ 1000 ∧ Q (.str (Txt.mul z n)) H
theorem op_mul_str {X : Cx} : OpR X (binaryOp .Mult) rMulS := by
  intro pins s σ H x y v u Q I rx ry h
  obtain ⟨z, n, rfl, rfl, h0, h1, hz, q⟩ := h
  obtain ⟨t, rfl⟩ := rx
  obtain ⟨t', rfl⟩ := ry
  refine SB.mul ⟨?_, ?_, ?_⟩ fun t' k => ⟨.str _, H, I.tok k, ⟨t', rfl⟩, q⟩
  · rw [Bool.or_eq_false_iff]
    exact ⟨decide_eq_false (by omega), decide_eq_false (by omega)⟩
  · intro hn _ hc
    have hd : (2 ^ 63 - 1 : Int) / 1000 ≤ (2 ^ 63 - 1) / n := by
      have : n * 9223372036854775 ≤ 2 ^ 63 - 1 := by omega
      have h2 : (9223372036854775 : Int) ≤ (2 ^ 63 - 1) / n := Int.le_ediv_of_mul_le (by omega) (by rw [Int.mul_comm]; exact this)
      have h3 : (2 ^ 63 - 1 : Int) / 1000 = 9223372036854775 := by decide
      omega
    have h3 : (2 ^ 63 - 1 : Int) / 1000 = 9223372036854775 := by decide
    omega
  · intro _ _
    have hb : z.length * n.toNat ≤ 1000 * 1000 := Nat.mul_le_mul hz (by omega)
    unfold Builtin.Str.tooLong
    refine decide_eq_false ?_
    have : (1000 * 1000 : Nat) ≤ sizeLine := by decide
    omega
theorem foldl_app {c : Nat} : ∀ (n : Nat) (a : Array Nat), ((List.replicate n #[c]).foldl (· ++ ·) a).toList = a.toList ++ List.replicate n c
  | 0, a => by simp
  | n + 1, a => by
    rw [List.replicate_succ, List.foldl_cons, foldl_app n]
    simp [List.replicate_succ]
theorem mul_one_sign (c : Nat) (n : Int) : (Txt.mul ⟨#[c]⟩ n).cps.toList = List.replicate n.toNat c := by
  unfold Txt.mul
  by_cases h1 : n < 1
  · rw [if_pos h1, show n.toNat = 0 by omega]
    rfl
  · rw [if_neg h1]
    by_cases h2 : (n == 1 || (⟨#[c]⟩ : PySem.Str).length == 0) = true
    · rw [if_pos h2]
      have h3 : n = 1 := by
        rcases Bool.or_eq_true_iff.mp h2 with h | h
        · exact eq_of_beq h
        · exact absurd (eq_of_beq h) (by show ¬ (1 : Nat) = 0; decide)
      subst h3
      rfl
    · rw [if_neg h2]
      show ((List.replicate n.toNat #[c]).foldl (· ++ ·) #[]).toList = _
      rw [foldl_app]
      rfl
theorem join_len1 : ∀ (ys : List PySem.Str), (Str.join "" ys).length = (ys.map (·.length)).sum
  | [] => rfl
  | [x] => by
    show x.length = (x.length :: []).sum
    rw [List.sum_cons]
    rfl
  | x :: y :: r => by
    show (x ++ "" ++ Str.join "" (y :: r)).length = _
    have h := join_len1 (y :: r)
    rw [TL.len_tl] at h ⊢
    rw [TL.tl_append, TL.tl_append, List.length_append, List.length_append, h, List.map_cons, List.sum_cons, TL.len_tl]
    rfl
theorem join_len (ys : List PySem.Str) : (Txt.join "" ys).length = (ys.map (·.length)).sum := by
  rw [TL.join_eq, join_len1]
theorem sum_const {ys : List PySem.Str} {b : Nat} (h : ∀ y ∈ ys, y.length ≤ b) : (ys.map (·.length)).sum ≤ ys.length * b := by
  induction ys with
  | nil => exact Nat.zero_le _
  | cons a r ih =>
    have h1 := h a List.mem_cons_self
    have h2 := ih fun y hy => h y (List.mem_cons_of_mem _ hy)
    rw [List.map_cons, List.sum_cons, List.length_cons, Nat.add_mul]
    omega
theorem str_at {z : PySem.Str} {r : Int} (h0 : 0 ≤ r) (h1 : r < z.length) : ∃ c, atI z.cps.toList r = some c := by
  obtain ⟨j, rfl⟩ : ∃ j : Nat, r = j := ⟨r.toNat, by omega⟩
  have hl : z.cps.toList.length = z.length := rfl
  have hj : j < z.cps.toList.length := by omega
  exact ⟨_, atI_nat (List.getElem?_eq_getElem hj)⟩
theorem strs_at {ws : List PySem.Str} {r : Int} (h0 : 0 ≤ r) (h1 : r < ws.length) : ∃ z, z ∈ ws ∧ atI (ws.map V.str) r = some (.str z) := by
  obtain ⟨j, rfl⟩ : ∃ j : Nat, r = j := ⟨r.toNat, by omega⟩
  have hj : j < ws.length := by omega
  refine ⟨ws[j], List.getElem_mem hj, atI_nat ?_⟩
  rw [List.getElem?_map, List.getElem?_eq_getElem hj]
  rfl
/-- a loop over a text's signs -/
theorem for_str {x : PySem.Str} {g : TG} {tb : TS} {D : Ends} {σ : L2.St} {H : Hp} (Pv : Nat → L2.St → Hp → Prop) (h0 : Pv 0 σ H)
    (hs : ∀ i c σ H, x.cps.toList[i]? = some c → Pv i σ H → g (.str ⟨#[c]⟩) σ H fun σ2 H2 => tb { D with nx := Pv (i + 1), ct := Pv (i + 1), bk := D.nx } σ2 H2) (hd : ∀ σ H, Pv x.cps.toList.length σ H → D.nx σ H) :
    ∃ W : Nat → Nat → L2.St → Hp → Prop, (∃ m, W 0 m σ H) ∧ ∀ i m σ H, W i m σ H →
      ((Its x).stop i H ∧ D.nx σ H) ∨ ((Its x).go i H ∧ ∃ N : L2.St → Hp → Prop, (∀ σ' H', N σ' H' → ∃ m', m' < m ∧ W (i + 1) m' σ' H') ∧ ∀ v H', (Its x).yld i H v H' → g v σ H' fun σ2 H2 => tb { D with nx := N, ct := N, bk := D.nx } σ2 H2) := by
  refine ⟨fun i m σ H => m = x.cps.toList.length - i ∧ i ≤ x.cps.toList.length ∧ Pv i σ H, ⟨x.cps.toList.length, by simp, Nat.zero_le _, h0⟩, ?_⟩
  rintro i m σ H ⟨rfl, hi, p⟩
  by_cases hlt : i < x.cps.toList.length
  · refine .inr ⟨hlt, Pv (i + 1), fun σ' H' p' => ⟨x.cps.toList.length - (i + 1), by omega, rfl, hlt, p'⟩, fun v H' y => ?_⟩
    obtain ⟨e, c, hc, hv⟩ := y
    subst e hv
    exact hs i c σ _ (by rw [Array.getElem?_toList]; exact hc) p
  · have e : i = x.cps.toList.length := by omega
    subst e
    exact .inl ⟨Nat.le_refl _, hd σ H p⟩
abbrev mk (l : List Nat) : PySem.Str := ⟨l.toArray⟩
theorem mk_cp (z : PySem.Str) : mk z.cps.toList = z := rfl
theorem cp_mk (l : List Nat) : (mk l).cps.toList = l := rfl
theorem flat_strs (ws : List PySem.Str) : (ws.map V.str).all flatV = true := by
  induction ws with
  | nil => rfl
  | cons a r ih =>
    rw [List.map_cons, List.all_cons, ih]
    rfl
theorem inV_strs (a : PySem.Str) (ws : List PySem.Str) : inV (.str a) (ws.map V.str) = decide (a ∈ ws) := by
  induction ws with
  | nil => rfl
  | cons b r ih =>
    show ((b == a) || inV (.str a) (r.map V.str)) = _
    rw [ih]
    by_cases e : b = a
    · subst e
      simp
    · rw [beq_eq_false_iff_ne.mpr e]
      by_cases m : a ∈ r
      · simp [m]
      · simp [m, Ne.symm e]
theorem cut2 (z : PySem.Str) (i : Nat) (h : i < z.length) : cutS z (some (i : Int)) (some ((i : Int) + 2)) = mk ((z.cps.toList.drop i).take 2) := by
  have e1 : HT.sIx z.length 0 (some (i : Int)) = i := by
    rw [HT.sIx_nat]
    omega
  have e2 : HT.sIx z.length z.length (some ((i : Int) + 2)) = min (i + 2) z.length := by
    rw [show ((i : Int) + 2) = ((i + 2 : Nat) : Int) by omega, HT.sIx_nat]
  unfold cutS
  rw [e1, e2]
  show mk _ = mk _
  congr 1
  have hl : (z.cps.toList.drop i).length = z.length - i := by
    rw [List.length_drop]
    rfl
  by_cases h2 : i + 2 ≤ z.length
  · rw [show min (i + 2) z.length - i = 2 by omega]
  · rw [Nat.min_eq_right (by omega), List.take_of_length_le (by omega), List.take_of_length_le (by omega)]
theorem cut_nat (z : PySem.Str) (i n : Nat) (h : i + n ≤ z.length) : cutS z (some (i : Int)) (some ((i + n : Nat) : Int)) = mk ((z.cps.toList.drop i).take n) := by
  have e1 : HT.sIx z.length 0 (some (i : Int)) = i := by
    rw [HT.sIx_nat]
    omega
  have e2 : HT.sIx z.length z.length (some ((i + n : Nat) : Int)) = i + n := by
    rw [HT.sIx_nat]
    omega
  unfold cutS
  rw [e1, e2, show i + n - i = n by omega]
theorem str_ne (z : PySem.Str) : (!decide (V.str z = V.str "")) = decide (z.cps.toList ≠ []) := by
  by_cases h : z.cps.toList = []
  · have e : z = "" := by
      rw [← mk_cp z, h]
      rfl
    subst e
    rfl
  · have e : ¬ V.str z = V.str "" := fun e => h (by
      injection e with e
      rw [e]
      rfl)
    rw [decide_eq_false e, decide_eq_true h]
    rfl
theorem le_dec (n m : Nat) : decide ((n : Int) ≤ (m : Int)) = decide (n ≤ m) := decide_eq_decide.mpr Int.ofNat_le
theorem str_dec (x y : PySem.Str) : decide (V.str x = V.str y) = decide (x = y) := decide_eq_decide.mpr ⟨fun h => by injection h, fun h => by rw [h]⟩
theorem sz5 {n : Nat} (h : n ≤ 100000) : n ≤ sizeLine := Nat.le_trans h (by decide)
theorem sz5' {n : Nat} (h : n ≤ 100000) : n < sizeLine := Nat.lt_of_le_of_lt h (by decide)
theorem at_nat {xs : List V} {z : Int} {j : Nat} {v : V} (e : z = (j : Int)) (h : xs[j]? = some v) : atI xs z = some v := at_of e h
end SW

namespace SW
open PySem PySem.Spec PyProof.Rows L2
theorem app_len (x y : PySem.Str) : (x ++ y).length = x.length + y.length := by
  rw [TL.len_tl, TL.tl_append, List.length_append, ← TL.len_tl, ← TL.len_tl]
theorem mul_len (n : Int) : (Txt.mul " " n).length = n.toNat := by
  rw [TL.len_tl]
  show (Txt.mul ⟨#[32]⟩ n).cps.toList.length = _
  rw [mul_one_sign, List.length_replicate]
/-! ### data: what is read stays -/
mutual
theorem dp_same {K : PySem.W.Frag} {H H' : Hp} (s : Same H H') : ∀ (d : PyData) (v : V), Dp K H v d → Dp K H' v d
  | .none, _, h => by
    cases h
    exact .non
  | .bool b, _, h => by
    cases h
    exact .bl b
  | .int i, _, h => by
    cases h
    exact .int i
  | .str x, _, h => by
    cases h
    exact .str x
  | .list ds, _, h => by
    cases h with
    | lst hs ha => exact .lst (s.seq hs) (dpa_same s ds _ ha)
  | .tuple ds, _, h => by
    cases h with
    | tup hs ha =>
      refine .tup ?_ (dpa_same s ds _ ha)
      rcases hs with (hs | ⟨o, hs⟩) | hs
      · exact .inl (.inl (s _ _ hs))
      · exact .inl (.inr ⟨o, s _ _ hs⟩)
      · exact .inr hs
  | .dict _, _, h => by cases h
theorem dpa_same {K : PySem.W.Frag} {H H' : Hp} (s : Same H H') : ∀ (ds : List PyData) (vs : List V), DpAll K H vs ds → DpAll K H' vs ds
  | [], _, h => by
    cases h
    exact .nil
  | d :: ds, _, h => by
    cases h with
    | cons h1 h2 => exact .cons (dp_same s d _ h1) (dpa_same s ds _ h2)
end
theorem sqt_same {K : PySem.W.Frag} {H H' : Hp} (s : Same H H') {a : Addr} {xs : List V} (hs : SqT K H a xs) : SqT K H' a xs := by
  rcases hs with (hs | ⟨o, hs⟩) | hs
  · exact .inl (.inl (s _ _ hs))
  · exact .inl (.inr ⟨o, s _ _ hs⟩)
  · exact .inr hs
theorem _root_.L2.Dp.same {K : PySem.W.Frag} {H H' : Hp} {d : PyData} {v : V} (h : Dp K H v d) (s : Same H H') : Dp K H' v d := dp_same s d v h
mutual
/-- no list within -/
def noL : PyData → Bool
  | .tuple ds => noLs ds
  | .list _ => false
  | .dict _ => false
  | _ => true
def noLs : List PyData → Bool
  | [] => true
  | d :: ds => noL d && noLs ds
end
mutual
theorem dp_but {K : PySem.W.Frag} {H H' : Hp} {h : Addr} {ys : List V} (hl : H h = some (.lst ys)) (s : But h H H') : ∀ (d : PyData) (v : V), noL d = true → Dp K H v d → Dp K H' v d
  | .none, _, _, e => by
    cases e
    exact .non
  | .bool b, _, _, e => by
    cases e
    exact .bl b
  | .int i, _, _, e => by
    cases e
    exact .int i
  | .str x, _, _, e => by
    cases e
    exact .str x
  | .list ds, _, n, _ => by
    unfold noL at n
    cases n
  | .tuple ds, _, n, e => by
    cases e with
    | tup hs ha =>
      refine .tup ?_ (dpa_but hl s ds _ (by unfold noL at n; exact n) ha)
      rcases hs with (hs | ⟨o, hs⟩) | hs
      · refine .inl (.inl (s _ _ (fun e => ?_) hs))
        rw [e, hl] at hs
        cases hs
      · refine .inl (.inr ⟨o, s _ _ (fun e => ?_) hs⟩)
        rw [e, hl] at hs
        cases hs
      · exact .inr hs
  | .dict _, _, _, e => by cases e
theorem dpa_but {K : PySem.W.Frag} {H H' : Hp} {h : Addr} {ys : List V} (hl : H h = some (.lst ys)) (s : But h H H') : ∀ (ds : List PyData) (vs : List V), noLs ds = true → DpAll K H vs ds → DpAll K H' vs ds
  | [], _, _, e => by
    cases e
    exact .nil
  | d :: ds, _, n, e => by
    unfold noLs at n
    rw [Bool.and_eq_true] at n
    cases e with
    | cons h1 h2 => exact .cons (dp_but hl s d _ n.1 h1) (dpa_but hl s ds _ n.2 h2)
end
theorem Hand.dp {K : PySem.W.Frag} {H H' : Hp} {h d0 : Addr} {ds : List Int} (a : Hand H h d0 ds) (s : But h H H') {d : PyData} {v : V} (n : noL d = true) (e : Dp K H v d) : Dp K H' v d := by
  obtain ⟨⟨i, hl⟩, _, _⟩ := a
  exact dp_but hl s d v n e
def isN : PyData → Bool
  | .none => true
  | _ => false
theorem dp_isN {K : PySem.W.Frag} {H : Hp} {d : PyData} {v : V} (h : Dp K H v d) : decide (v = V.non) = isN d := by
  cases h <;> rfl
theorem dp_tup2 {K : PySem.W.Frag} {H : Hp} {t : Addr} {v1 v2 : V} {d1 d2 : PyData} (h : H t = some (.tup [v1, v2])) (h1 : Dp K H v1 d1) (h2 : Dp K H v2 d2) : Dp K H (.ref t) (.tuple [d1, d2]) :=
  .tup (SqT.of h) (.cons h1 (.cons h2 .nil))
theorem dp_tup3 {K : PySem.W.Frag} {H : Hp} {t : Addr} {v1 v2 v3 : V} {d1 d2 d3 : PyData} (h : H t = some (.tup [v1, v2, v3])) (h1 : Dp K H v1 d1) (h2 : Dp K H v2 d2) (h3 : Dp K H v3 d3) : Dp K H (.ref t) (.tuple [d1, d2, d3]) :=
  .tup (SqT.of h) (.cons h1 (.cons h2 (.cons h3 .nil)))
theorem dp_tup4 {K : PySem.W.Frag} {H : Hp} {t : Addr} {v1 v2 v3 v4 : V} {d1 d2 d3 d4 : PyData} (h : H t = some (.tup [v1, v2, v3, v4])) (h1 : Dp K H v1 d1) (h2 : Dp K H v2 d2) (h3 : Dp K H v3 d3) (h4 : Dp K H v4 d4) : Dp K H (.ref t) (.tuple [d1, d2, d3, d4]) :=
  .tup (SqT.of h) (.cons h1 (.cons h2 (.cons h3 (.cons h4 .nil))))
/-! ### lists of texts, compared -/
theorem dpa_strs {K : PySem.W.Frag} {H : Hp} : ∀ ws : List PySem.Str, DpAll K H (ws.map V.str) (ws.map PyData.str)
  | [] => .nil
  | x :: r => .cons (.str x) (dpa_strs r)
theorem dp_strs {K : PySem.W.Frag} {H : Hp} {a : Addr} {ws : List PySem.Str} (h : SqL K H a (ws.map V.str)) : Dp K H (.ref a) (.list (ws.map PyData.str)) := .lst h (dpa_strs ws)
theorem vals_strs : ∀ {ws : List PySem.Str} {us : List Value} {j : Nat} {x : PySem.Str}, Vals (ws.map V.str) us → ws[j]? = some x → ∃ t, us[j]? = some (.str x t)
  | _, _, _, _, r, h => by
    obtain ⟨u, h1, h2⟩ := r.get (x := V.str _) (by rw [List.getElem?_map, h]; rfl)
    obtain ⟨t, rfl⟩ := h2
    exact ⟨t, h1⟩
/-- == of two lists of texts -/
def rEqS (K : PySem.W.Frag) : R2 := fun x y H Q => ∃ (a b : Addr) (ws vs : List PySem.Str), x = .ref a ∧ y = .ref b ∧ SqL K H a (ws.map V.str) ∧ SqL K H b (vs.map V.str) ∧ Q (.bl (decide (ws = vs))) H
theorem all_eq {ws vs : List PySem.Str} (hl : ws.length = vs.length) : ((List.range ws.length).all fun j => decide (ws[j]? = vs[j]?)) = decide (ws = vs) := by
  by_cases h : ws = vs
  · subst h
    rw [decide_eq_true rfl, List.all_eq_true]
    exact fun j _ => decide_eq_true rfl
  · rw [decide_eq_false h]
    refine Bool.eq_false_iff.mpr fun e => h ?_
    rw [List.all_eq_true] at e
    refine List.ext_getElem? fun j => ?_
    by_cases hj : j < ws.length
    · exact of_decide_eq_true (e j (List.mem_range.mpr hj))
    · rw [List.getElem?_eq_none (by omega), List.getElem?_eq_none (by omega)]
theorem op_eqS {X : Cx} (hu : X.A.units < cLine) : OpR X (compareOp .Eq) (rEqS X.K) := by
  intro pins s σ H x y v u Q I rx ry h
  obtain ⟨a, b, ws, vs, rfl, rfl, ha, hb, q⟩ := h
  cases rx
  cases ry
  obtain ⟨its, r1, p1, _⟩ := I.list ha
  obtain ⟨jts, r2, p2, _⟩ := I.list hb
  have l1 := r1.length
  have l2 := r2.length
  rw [List.length_map] at l1 l2
  by_cases hl : ws.length = vs.length
  · refine SeqAt.eq_listAt (e := fun j => decide (ws[j]? = vs[j]?)) p1.isList p2.isList (by simp only [List.size_toArray]; omega) hu (fun j h1 h2 => ?_) ?_
    · simp only [List.size_toArray] at h1 h2
      obtain ⟨t1, e1⟩ := vals_strs (x := ws[j]) r1 (List.getElem?_eq_getElem (by omega))
      obtain ⟨t2, e2⟩ := vals_strs (x := vs[j]) r2 (List.getElem?_eq_getElem (by omega))
      have f1 : its.toArray[j] = .str ws[j] t1 := by
        rw [List.getElem?_eq_getElem h1] at e1
        injection e1 with e1
      have f2 : jts.toArray[j] = .str vs[j] t2 := by
        rw [List.getElem?_eq_getElem h2] at e2
        injection e2 with e2
      rw [f1, f2]
      have e3 : decide (ws[j]? = vs[j]?) = (ws[j] == vs[j]) := by
        rw [List.getElem?_eq_getElem (by omega), List.getElem?_eq_getElem (by omega)]
        by_cases h : ws[j] = vs[j]
        · rw [h]
          simp
        · rw [decide_eq_false (fun e => h (Option.some.inj e)), beq_eq_false_iff_ne.mpr h]
      rw [e3]
      exact SeqAt.EqAt.str_str _ _ _ _
    · have e4 : ((List.range its.toArray.size).all fun j => decide (ws[j]? = vs[j]?)) = decide (ws = vs) := by
        rw [List.size_toArray, ← l1]
        exact all_eq hl
      rw [e4]
      exact ⟨.bl _, H, I, rfl, q⟩
  · refine SeqAt.eq_list_lengthsAt p1.isList p2.isList (by simp only [List.size_toArray]; exact bne_iff_ne.mpr (by omega)) hu ?_
    rw [decide_eq_false (fun e => hl (by rw [e]))] at q
    exact ⟨.bl _, H, I, rfl, q⟩
end SW

namespace SW
open PySem PySem.Spec PyProof.Rows L2
/-! ### a def that is called where no object is being shown -/
structure FnOkG (P : Program) (w : World) (K : PySem.W.Frag) (mg : PySem.Str → Option Value) (base : Heap) (CX : CXT) (k : Nat) (f : Addr) (fd : FuncData) (ps : List PySem.Str) (sp : Sp) : Prop where
  run : ∀ (A : Around) (outer : List Env) (s : Shared) (H : Hp) (args : Args) (us : List Value) (vs : List V) (Q : VK) (E : XK),
    A.guards = some [] → Room k A → Env0 P w K mg base A outer s H → BindsTo s fd args (ps.zip us) → Vals vs us → sp vs H Q E →
    codeAny (model P w) A (.call (.ref f) args) (CR CX outer P w H s Q E) s
theorem Fun.okG {P : Program} {w : World} {K : PySem.W.Frag} {mg : PySem.Str → Option Value} {base : Heap} {x qual : PySem.Str} {st : Stmt} {f : Addr} {fd : FuncData} {N ps : List PySem.Str} {k : Nat} {sp : Sp}
    (F : Fun K x qual st f fd) (S : FnScope N ps (defScope st)) (len : ∀ vs H Q E, sp vs H Q E → vs.length = ps.length)
    (hbody : ∀ (cdv : Value) (A : Around) (outer : List Env) (s : Shared) (H : Hp) (vs : List V) (Q : VK) (E : XK),
      (A.deeper (envOfC qual (defScope st) s.heap.objs.size f cdv)).guards = some [] → Room k (A.deeper (envOfC qual (defScope st) s.heap.objs.size f cdv)) → sp vs H Q E →
      ∃ t, PSs (cxOf CX0 P w K mg base N qual (defScope st) f cdv A outer s H E).nox (defBody st) t ∧ t { nx := fun _ H' => Q .non H', rt := Q } (L2.start N vs) H) :
    FnOkG P w K mg base CX0 (k + 1) f fd ps sp := by
  obtain ⟨oc, od, kV, doc, pm, an, cdv, ct, osl, rfl, lk, hcd⟩ := F.ex
  refine ⟨fun A outer s H args us vs Q E hg hr e0 hb r hsp => ?_⟩
  have hl := len vs H Q E hsp
  have KX := PySem.W.Frag.In.keeps e0.mod.kin fun b o e => (e0.bs b o e).1
  have lim := Heap.NoLimit.keeps e0.mod.nolimit fun b o e => (e0.bs b o e).1
  refine codeAny_call_function hr.depth (KX f _ lk) rfl S.co S.gen rfl (PySem.W.codeRec_of KX hcd) (hb _ _ _ _ (wpAny_newFunctionEnv_cells S.kind (fun y hy => ?_) fun env he s1 i => ?_))
  · obtain ⟨n, v⟩ := y
    rcases S.par n (List.of_mem_zip hy).1 with q | q
    · exact .inl q
    · exact .inr ⟨q, PySem.W.cellsFrom_some _ _ [] (.inl q)⟩
  · subst he
    refine ⟨lim.keeps i.toInCall.keep, codeAny_func ?_⟩
    obtain ⟨t, ht, hq⟩ := hbody cdv A outer s H vs Q E hg (hr.deeper _) hsp
    have I : L2.Inv (cxOf CX0 P w K mg base N qual (defScope st) f cdv A outer s H E) [] (L2.start N vs) H s1 := inv_start S hr.hd e0 hl r i
    refine wpAny_mono ((PSs.nox ht).run [] s1 (L2.start N vs) H _ I hq) (fun fl s' hs => ?_) fun e s' hs => hs
    have fin : ∀ {σ' : L2.St} {H' : Hp} {v : V} {u : Value}, L2.Inv (cxOf CX0 P w K mg base N qual (defScope st) f cdv A outer s H E) [] σ' H' s' → RelV v u → Q v H' → CE outer P w H s Q u s' :=
      fun J rv q => ⟨_, _, J.os, J.bare, J.base, J.hok, rv, q⟩
    cases fl with
    | next =>
      obtain ⟨σ', H', J, q⟩ := hs
      exact fin (v := .non) (u := .none) J rfl q
    | brk =>
      obtain ⟨_, _, _, q⟩ := hs
      exact q.elim
    | cont =>
      obtain ⟨_, _, _, q⟩ := hs
      exact q.elim
    | ret u =>
      obtain ⟨v, σ', H', J, rv, q⟩ := hs
      exact fin J rv q
/-- the law's own call -/
theorem law_callG {P : Program} {w : World} {K : PySem.W.Frag} {mg mb : PySem.Str → Option Value} {k : Nat} {fa a : Addr} {fd : FuncData} {x : PySem.Str} {sp : Sp} {s₁ : Shared} {vs : List Value} {ns : List Int}
    (KX : K.In s₁.heap) (hns : s₁.heap.Ns mainGlobals mg) (hb : s₁.heap.Ns builtinsNs mb) (hbb : ∀ x : PySem.Str, x ≠ Str.ofString "__name__" → mb x = bootBuiltins x) (hlim : s₁.heap.NoLimit) (hg : s₁.gens = #[])
    (ha : s₁.heap.get? a = some { cls := .type "list", data := .seq vs.toArray }) (hi : IntsAre vs ns) (hl : ns.length ≤ sizeLine) (hr : Room k callerA)
    (F : ∀ base : Heap, K.In base → base.Ns mainGlobals mg → FnOkG P w K mg base CX0 k fa fd [x] sp) (hbind : ∀ (s : Shared) (u : Value), BindsTo s fd ⟨[u], []⟩ [(x, u)])
    (hsp : ∀ H, Only H → SqL K H a (ns.map V.int) → sp [.ref a] H (fun v _ => v = .bl true) fun _ _ _ => False) :
    codeAny (model P w) callerA (.call (.ref fa) ⟨[.ref a], []⟩) (fun r s' => r = .ok (.ret (.bool true)) ∧ OldK s₁.heap s'.heap ∧ s'.os = s₁.os ∧ AllBare s'.gens) s₁ := by
  have rv := vals_ints hi
  have lenV := IntsAre.length hi
  have core : ∀ H : Hp, Only H → SqL K H a (ns.map V.int) → HOk P w H s₁.heap → (∀ b, H b ≠ none → b = a) → (H a ≠ none → List.lookup a K = none) →
      codeAny (model P w) callerA (.call (.ref fa) ⟨[.ref a], []⟩) (fun r s' => r = .ok (.ret (.bool true)) ∧ OldK s₁.heap s'.heap ∧ s'.os = s₁.os ∧ AllBare s'.gens) s₁ := by
    intro H hO hS hok hA hK
    have noA : ∀ {b : Addr} {o : Obj}, s₁.heap.get? b = some o → (∀ vs n, o.data ≠ .seq vs n) → H b = none := by
      intro b o e d
      cases hb' : H b with
      | none => rfl
      | some u =>
        have := hA b (by rw [hb']; exact fun z => nomatch z)
        subst this
        rw [ha] at e
        cases e
        exact absurd rfl (d _ _)
    have base_of : ∀ {b : Addr} {o : Obj}, s₁.heap.get? b = some o → H b = none → (hidT s₁.heap H).get? b = some o := fun e n => hidT_get e n
    have nsK : ∀ {b : Addr} {m : PySem.Str → Option Value}, s₁.heap.Ns b m → (hidT s₁.heap H).Ns b m := by
      rintro b m ⟨o, es, ep, e, d, r⟩
      exact ⟨o, es, ep, base_of e (noA e (by intro vs n; rw [d]; exact fun z => nomatch z)), d, r⟩
    have hKb : K.In (hidT s₁.heap H) := by
      intro b o e
      refine base_of (KX b o e) ?_
      cases hb' : H b with
      | none => rfl
      | some u =>
        have := hA b (by rw [hb']; exact fun z => nomatch z)
        subst this
        rw [hK (by rw [hb']; exact fun z => nomatch z)] at e
        cases e
    have hM : Mod K mg (hidT s₁.heap H) := by
      obtain ⟨mc, h1, h2⟩ := hlim
      exact ⟨hKb, nsK hns, ⟨mb, nsK hb, hbb⟩, ⟨mc, nsK h1, h2⟩⟩
    have e0 : Env0 P w K mg (hidT s₁.heap H) callerA [] s₁ H :=
      { frames := rfl, mod := hM, bs := fun b o e => of_hidT e, bsz := Nat.le_of_eq (hidT_size s₁.heap H), funs := trivial, frf := fun b hb => (List.not_mem_nil hb).elim, hok := hok, bare := AllBare.of_eq hg }
    refine codeAny_mono ((F _ hKb (nsK hns)).run callerA [] s₁ H ⟨[.ref a], []⟩ [.ref a] [.ref a] (fun v _ => v = .bl true) (fun _ _ _ => False) rfl hr e0 (hbind s₁ _) (.cons rfl .nil) (hsp H hO hS)) fun r s' h => ?_
    cases r with
    | error e => exact h.elim
    | ok fl =>
      cases fl with
      | next => exact h.elim
      | brk => exact h.elim
      | cont => exact h.elim
      | ret u =>
        obtain ⟨v, H', os, bare, un, hok', r', q⟩ := h
        subst q
        cases r'
        refine ⟨rfl, OldK.of_keep fun b o e => ?_, os, bare⟩
        cases hb' : H b with
        | none => exact un.keep b o e hb' (fun z => List.not_mem_nil z) (fun z => List.not_mem_nil z)
        | some u =>
          rcases hO b with z | ⟨ob, xs, z⟩
          · rw [hb'] at z
            cases z
          · have h1 := un.frzs b _ _ z
            have h2 := hok b _ z
            have h3 := hok' b _ h1
            have h4 := h2.1
            have h5 := h3.1
            rw [e] at h4
            cases h4
            exact h5
  cases hk : List.lookup a K with
  | none =>
    refine core (fun b => if b = a then some (.frz { cls := .type "list", data := .seq vs.toArray } (.lst (ns.map V.int))) else none) (fun b => ?_) (.inl (.inr ⟨_, if_pos rfl⟩)) (fun b u z => ?_) (fun b z => ?_) fun _ => hk
    · by_cases hb : b = a
      · exact .inr ⟨_, _, if_pos hb⟩
      · exact .inl (if_neg hb)
    · by_cases hb : b = a
      · have z' := (if_pos hb).symm.trans z
        cases z'
        subst hb
        exact ⟨ha, by rw [List.length_map]; exact hl, vs, 0, rv, ha⟩
      · have z' := (if_neg hb).symm.trans z
        cases z'
    · by_cases hb : b = a
      · exact hb
      · exact absurd (if_neg hb) z
  | some o =>
    have e := KX a o hk
    rw [ha] at e
    cases e
    refine core (fun _ => none) (fun _ => .inl rfl) (.inr ⟨_, vs.toArray, 0, hk, rfl, rfl, rfl, by rw [List.size_toArray, lenV]; exact hl, rv⟩) (fun b u z => nomatch z) (fun b z => absurd rfl z) fun z => absurd rfl z
theorem walk_ofG {l : PySem.W.OpenLaw} {n k : Nat} {q : Program} {loose : List PySem.Str} {XP : (PySem.Str → Option Value) → Heap → Prop} {YP : World → Heap → Prop} {d : DefRec} {K : Params → PySem.W.Frag} {sp : World → Sp} {x : PySem.Str}
    (hn : l.most = some n) (hn2 : n ≤ sizeLine) (hdf : d.params.defaults = []) (hr : Room k callerA) (hY : ∀ (w : World) (h : Heap), YP w h → (K w.params).In h)
    (F : ∀ (w : World) (mg : PySem.Str → Option Value) (fa : Addr) (h : Heap), (K w.params).In h → h.Ns mainGlobals mg → mg d.name = some (.ref fa) →
      ∃ fd, (∀ (s : Shared) (u : Value), BindsTo s fd ⟨[u], []⟩ [(x, u)]) ∧ ∀ base : Heap, (K w.params).In base → base.Ns mainGlobals mg → FnOkG l.prog w (K w.params) mg base CX0 k fa fd [x] (sp w))
    (hsp : ∀ (w : World) (H : Hp) (a : Addr) (ns : List Int), ns.length ≤ n → Only H → SqL (K w.params) H a (ns.map V.int) → sp w [.ref a] H (fun v _ => v = .bl true) fun _ _ _ => False) :
    PySem.W.WalkO q loose XP YP l.row.toRowW d [] fun f vs => call f vs :=
  Att.attach_call hn hdf fun w s₀ s₁ mg mb fa o pm cd doc a vs ns G Y ho hd hcd hmg hobj hints hlen hg => by
    have KX := hY w s₁.heap Y
    obtain ⟨fd, hb, hF⟩ := F w mg fa s₁.heap KX G.T.g hmg
    exact law_callG KX G.T.g G.T.b G.T.builtins G.T.nolimit hg hobj hints (Nat.le_trans hlen hn2) hr hF hb fun H hO hS => hsp w H a ns hlen hO hS
end SW

namespace SW
open PySem PySem.Spec PyProof.Rows L2
def rLenK (K : PySem.W.Frag) : List V → Hp → VK → Prop := fun xs H Q => ∃ p ys, xs = [.ref p] ∧ (SqL K H p ys ∨ SqT K H p ys) ∧ Q (.int (ys.length : Nat)) H
/-! ### data in lists -/
theorem dpa_snoc {K : PySem.W.Frag} {H : Hp} : ∀ {vs : List V} {ds : List PyData} {v : V} {d : PyData}, DpAll K H vs ds → Dp K H v d → DpAll K H (vs ++ [v]) (ds ++ [d])
  | _, _, _, _, .nil, h => .cons h .nil
  | _, _, _, _, .cons h1 h2, h => .cons h1 (dpa_snoc h2 h)
theorem dpa_len {K : PySem.W.Frag} {H : Hp} : ∀ {vs : List V} {ds : List PyData}, DpAll K H vs ds → vs.length = ds.length
  | _, _, .nil => rfl
  | _, _, .cons _ h => congrArg (· + 1) (dpa_len h)
theorem dpa_get {K : PySem.W.Frag} {H : Hp} : ∀ {vs : List V} {ds : List PyData} {j : Nat} {v : V}, DpAll K H vs ds → vs[j]? = some v → ∃ d, ds[j]? = some d ∧ Dp K H v d
  | _, _, 0, _, .cons h _, e => by
    cases e
    exact ⟨_, rfl, h⟩
  | _, _, j + 1, _, .cons _ h, e => dpa_get (j := j) h e
theorem dpa_get' {K : PySem.W.Frag} {H : Hp} : ∀ {vs : List V} {ds : List PyData} {j : Nat} {d : PyData}, DpAll K H vs ds → ds[j]? = some d → ∃ v, vs[j]? = some v ∧ Dp K H v d
  | _, _, 0, _, .cons h _, e => by
    cases e
    exact ⟨_, rfl, h⟩
  | _, _, j + 1, _, .cons _ h, e => dpa_get' (j := j) h e
theorem dpa_set {K : PySem.W.Frag} {H : Hp} : ∀ {vs : List V} {ds : List PyData} {j : Nat} {v : V} {d : PyData}, DpAll K H vs ds → Dp K H v d → DpAll K H (vs.set j v) (ds.set j d)
  | _, _, _, _, _, .nil, _ => .nil
  | _, _, 0, _, _, .cons _ h, e => .cons e h
  | _, _, j + 1, _, _, .cons h1 h, e => .cons h1 (dpa_set (j := j) h e)
theorem dpa_app {K : PySem.W.Frag} {H : Hp} : ∀ {vs us : List V} {ds es : List PyData}, DpAll K H vs ds → DpAll K H us es → DpAll K H (vs ++ us) (ds ++ es)
  | _, _, _, _, .nil, h => h
  | _, _, _, _, .cons h1 h2, h => .cons h1 (dpa_app h2 h)
theorem dpa_drop {K : PySem.W.Frag} {H : Hp} : ∀ {vs : List V} {ds : List PyData} (n : Nat), DpAll K H vs ds → DpAll K H (vs.drop n) (ds.drop n)
  | _, _, 0, h => h
  | _, _, _ + 1, .nil => .nil
  | _, _, n + 1, .cons _ h => dpa_drop n h
theorem dpa_take {K : PySem.W.Frag} {H : Hp} : ∀ {vs : List V} {ds : List PyData} (n : Nat), DpAll K H vs ds → DpAll K H (vs.take n) (ds.take n)
  | _, _, 0, _ => .nil
  | _, _, _ + 1, .nil => .nil
  | _, _, n + 1, .cons h1 h => .cons h1 (dpa_take n h)
theorem dpa_rev {K : PySem.W.Frag} {H : Hp} : ∀ {vs : List V} {ds : List PyData}, DpAll K H vs ds → DpAll K H vs.reverse ds.reverse
  | _, _, .nil => .nil
  | _, _, .cons h1 h => by
    rw [List.reverse_cons, List.reverse_cons]
    exact dpa_snoc (dpa_rev h) h1
theorem dpa_ints {K : PySem.W.Frag} {H : Hp} : ∀ ns : List Int, DpAll K H (ns.map V.int) (ns.map PyData.int)
  | [] => .nil
  | x :: r => .cons (.int x) (dpa_ints r)
theorem dpa_ints' {K : PySem.W.Frag} {H : Hp} : ∀ {vs : List V} {ns : List Int}, DpAll K H vs (ns.map PyData.int) → vs = ns.map V.int
  | _, [], .nil => rfl
  | _, _ :: _, .cons (.int x) h => congrArg (V.int x :: ·) (dpa_ints' h)
theorem dpa_bls' {K : PySem.W.Frag} {H : Hp} : ∀ {vs : List V} {ns : List Bool}, DpAll K H vs (ns.map PyData.bool) → vs = ns.map V.bl
  | _, [], .nil => rfl
  | _, _ :: _, .cons (.bl x) h => congrArg (V.bl x :: ·) (dpa_bls' h)
theorem int_dec (x y : Int) : decide (V.int x = V.int y) = decide (x = y) := decide_eq_decide.mpr ⟨fun h => by injection h, fun h => by rw [h]⟩
/-! ### parts of lists -/
theorem cutv_from (xs : List V) (n : Nat) : cutV xs (some (n : Int)) none = xs.drop n := by
  unfold cutV
  rw [HT.sIx_nat, HT.sIx_none]
  by_cases h : n ≤ xs.length
  · rw [Nat.min_eq_left h]
    exact List.take_of_length_le (by rw [List.length_drop]; exact Nat.le_refl _)
  · rw [Nat.min_eq_right (by omega), List.drop_eq_nil_of_le (Nat.le_refl _), List.drop_eq_nil_of_le (by omega)]
    exact List.take_nil
theorem cutv_first (xs : List V) (n : Nat) : cutV xs none (some (n : Int)) = xs.take n := by
  unfold cutV
  rw [HT.sIx_nat, HT.sIx_none, List.drop_zero, Nat.sub_zero]
  by_cases h : n ≤ xs.length
  · rw [Nat.min_eq_left h]
  · rw [Nat.min_eq_right (by omega), List.take_of_length_le (Nat.le_refl _), List.take_of_length_le (by omega)]
theorem cutv_part (xs : List V) (n m : Nat) (h : n ≤ m) : cutV xs (some (n : Int)) (some (m : Int)) = (xs.drop n).take (m - n) := by
  unfold cutV
  rw [HT.sIx_nat, HT.sIx_nat]
  by_cases h1 : n ≤ xs.length
  · rw [Nat.min_eq_left h1]
    by_cases h2 : m ≤ xs.length
    · rw [Nat.min_eq_left h2]
    · rw [Nat.min_eq_right (by omega), List.take_of_length_le (by rw [List.length_drop]; exact Nat.le_refl _), List.take_of_length_le (by rw [List.length_drop]; omega)]
  · rw [List.drop_eq_nil_of_le (show xs.length ≤ min n xs.length by omega), List.drop_eq_nil_of_le (show xs.length ≤ n by omega), List.take_nil, List.take_nil]
theorem at_neg1 {xs : List V} {v : V} (h : xs[xs.length - 1]? = some v) : atI xs (-1) = some v := by
  have hl : xs ≠ [] := fun e => by
    rw [e] at h
    cases h
  have e := List.dropLast_concat_getLast hl
  rw [← List.getLast?_eq_getElem?, List.getLast?_eq_getLast hl] at h
  cases h
  conv => lhs; rw [← e]
  exact atI_last _ _
/-! ### a comprehension over any walk, whose items are data without lists -/
theorem lc_data {K : PySem.W.Frag} {J : It} {n : Nat} {G : Hp → Prop} {Y : Nat → Hp → V → Hp → Prop} (w : Walk J n G Y) {g : TG} {te : TE} {vs : List Nat} {σ : L2.St} {H1 : Hp} {D : Addr} {Qd : Hp → Prop} (hD : H1 D = none) (f : Nat → PyData) (hn : n ≤ 100000)
    (hf : ∀ i, i < n → noL (f i) = true) (hG : ∀ H, Same H1 H → G H)
    (hs : ∀ (i : Nat) (x : V) (H H' : Hp) (Q : V → Hp → Prop), i < n → Same H1 H → Y i H x H' → (∀ y H4, Same H H4 → Dp K H4 y (f i) → Q y H4) → g x (wipe σ vs) H' fun σ2 H2 => wipe σ2 vs = wipe σ vs ∧ te σ2 H2 Q)
    (hd : ∀ H ys, Same H1 H → H D = some (.lst ys) → DpAll K H ys ((List.range n).map f) → Qd H) :
    ∃ W : Nat → Nat → Hp → Prop, (∃ m, W 0 m (upd H1 D (.lst []))) ∧ ∀ i m H, W i m H → (J.stop i H ∧ Qd H) ∨ (J.go i H ∧ ∃ Nx : Hp → Prop, (∀ H', Nx H' → ∃ m', m' < m ∧ W (i + 1) m' H') ∧
      ∀ x H', J.yld i H x H' → g x (wipe σ vs) H' fun σ2 H2 => wipe σ2 vs = wipe σ vs ∧ tYes σ2 H2 fun b H3 => if b = true then te σ2 H3 fun y H4 => ∃ acc, H4 D = some (.lst acc) ∧ acc.length < sizeLine ∧ Nx (upd H4 D (.lst (acc ++ [y]))) else Nx H3) := by
  let Pv : Nat → Hp → Prop := fun i H => Same H1 H ∧ ∃ ys, H D = some (.lst ys) ∧ DpAll K H ys ((List.range i).map f)
  refine ⟨fun i m H => m = n - i ∧ i ≤ n ∧ Pv i H, ⟨n, rfl, Nat.zero_le _, same_new hD, [], upd_same, .nil⟩, ?_⟩
  rintro i m H ⟨rfl, hi, s1, ys, e, ha⟩
  by_cases hlt : i < n
  · refine .inr ⟨w.goes i H hlt (hG H s1), Pv (i + 1), fun H' p => ⟨n - (i + 1), by omega, rfl, hlt, p⟩, fun x H' y => ?_⟩
    refine hs i x H H' _ hlt s1 (w.yields i H x H' hlt (hG H s1) y) fun y H4 s4 h4 => ?_
    have e4 : H4 D = some (.lst ys) := s4 _ _ e
    refine ⟨ys, e4, ?_, same_mut (s1.trans s4) hD, ys ++ [y], upd_same, ?_⟩
    · rw [dpa_len ha, List.length_map, List.length_range]
      exact small_sz5 (by omega)
    · rw [List.range_succ, List.map_append]
      have b4 : But D H4 (upd H4 D (.lst (ys ++ [y]))) := fun c o hc eo => (upd_ne hc).trans eo
      refine dpa_snoc (dpa_but e4 b4 _ _ ?_ (dpa_same s4 _ _ ha)) (dp_but e4 b4 _ _ (hf i hlt) h4)
      clear h4 e4 s4 ha
      generalize hr : List.range i = l
      have : ∀ j, j ∈ l → j < n := fun j hj => by
        rw [← hr] at hj
        have := List.mem_range.mp hj
        omega
      clear hr
      induction l with
      | nil => rfl
      | cons a r ih =>
        show (noL (f a) && noLs (r.map f)) = true
        rw [hf a (this a List.mem_cons_self), ih fun j hj => this j (List.mem_cons_of_mem _ hj)]
        rfl
  · have : i = n := by omega
    subst this
    exact .inl ⟨w.stops H (hG H s1), hd H ys s1 e ha⟩
theorem range_map {α β : Type} (xs : List α) (g : α → β) (f : Nat → β) (h : ∀ i x, xs[i]? = some x → f i = g x) : (List.range xs.length).map f = xs.map g := by
  refine List.ext_getElem? fun i => ?_
  rw [List.getElem?_map, List.getElem?_map]
  by_cases hi : i < xs.length
  · rw [List.getElem?_range hi, List.getElem?_eq_getElem hi]
    exact congrArg some (h i _ (List.getElem?_eq_getElem hi))
  · rw [List.getElem?_eq_none (by rw [List.length_range]; omega), List.getElem?_eq_none (by omega)]
    rfl
theorem ints_get {ns : List Int} {j : Nat} {n : Int} (h : ns[j]? = some n) : (ns.map V.int)[j]? = some (.int n) := by
  rw [List.getElem?_map, h]
  rfl
theorem ints_at {ns : List Int} {j : Nat} (h : j < ns.length) : atI (ns.map V.int) (j : Int) = some (.int ns[j]) := atI_nat (ints_get (List.getElem?_eq_getElem h))
end SW

namespace SW
open PySem PySem.Spec PyProof.Rows L2
/-! This text stands for SwTw and SwTg in laws whose program reads no texts (the same names: never both). -/
/-! ### a promise that nobody calls for -/
theorem fn_never {P : Program} {w : World} {K : PySem.W.Frag} {mg : PySem.Str → Option Value} {base : Heap} {k : Nat} {f : Addr} {fd : FuncData} {ps : List PySem.Str} : FnOk P w K mg base CX0 k f fd ps (fun _ _ _ _ => False) :=
  ⟨fun _ _ _ _ h => h.elim, fun _ _ _ _ _ _ _ _ _ _ _ _ _ h => h.elim⟩
theorem fn_or {P : Program} {w : World} {K : PySem.W.Frag} {mg : PySem.Str → Option Value} {base : Heap} {CX : CXT} {k : Nat} {f : Addr} {fd : FuncData} {ps : List PySem.Str} {sp1 sp2 : Sp} (F : FnOk P w K mg base CX k f fd ps sp1) (G : FnOk P w K mg base CX k f fd ps sp2) :
    FnOk P w K mg base CX k f fd ps (fun vs H Q E => sp1 vs H Q E ∨ sp2 vs H Q E) :=
  ⟨fun vs H Q E h => h.elim (F.len vs H Q E) (G.len vs H Q E), fun A outer s H args us vs Q E hr he hb hv h => h.elim (F.run A outer s H args us vs Q E hr he hb hv) (G.run A outer s H args us vs Q E hr he hb hv)⟩
/-! ### data opened -/
theorem dp_str_inv {K : PySem.W.Frag} {H : Hp} {v : V} {x : PySem.Str} (h : Dp K H v (.str x)) : v = .str x := by
  cases h
  rfl
theorem dp_int_inv {K : PySem.W.Frag} {H : Hp} {v : V} {i : Int} (h : Dp K H v (.int i)) : v = .int i := by
  cases h
  rfl
theorem dp_bl_inv {K : PySem.W.Frag} {H : Hp} {v : V} {b : Bool} (h : Dp K H v (.bool b)) : v = .bl b := by
  cases h
  rfl
theorem dp_tup_inv {K : PySem.W.Frag} {H : Hp} {v : V} {ds : List PyData} (h : Dp K H v (.tuple ds)) : ∃ a xs, v = .ref a ∧ SqT K H a xs ∧ DpAll K H xs ds := by
  cases h with
  | tup hs ha => exact ⟨_, _, rfl, hs, ha⟩
theorem dp_inv2 {K : PySem.W.Frag} {H : Hp} {v : V} {d1 d2 : PyData} (h : Dp K H v (.tuple [d1, d2])) : ∃ a v1 v2, v = .ref a ∧ SqT K H a [v1, v2] ∧ Dp K H v1 d1 ∧ Dp K H v2 d2 := by
  obtain ⟨a, xs, e, hs, ha⟩ := dp_tup_inv h
  cases ha with
  | cons h1 ha =>
    cases ha with
    | cons h2 ha =>
      cases ha
      exact ⟨a, _, _, e, hs, h1, h2⟩
theorem dp_inv3 {K : PySem.W.Frag} {H : Hp} {v : V} {d1 d2 d3 : PyData} (h : Dp K H v (.tuple [d1, d2, d3])) : ∃ a v1 v2 v3, v = .ref a ∧ SqT K H a [v1, v2, v3] ∧ Dp K H v1 d1 ∧ Dp K H v2 d2 ∧ Dp K H v3 d3 := by
  obtain ⟨a, xs, e, hs, ha⟩ := dp_tup_inv h
  cases ha with
  | cons h1 ha =>
    cases ha with
    | cons h2 ha =>
      cases ha with
      | cons h3 ha =>
        cases ha
        exact ⟨a, _, _, _, e, hs, h1, h2, h3⟩
theorem dp_inv4 {K : PySem.W.Frag} {H : Hp} {v : V} {d1 d2 d3 d4 : PyData} (h : Dp K H v (.tuple [d1, d2, d3, d4])) : ∃ a v1 v2 v3 v4, v = .ref a ∧ SqT K H a [v1, v2, v3, v4] ∧ Dp K H v1 d1 ∧ Dp K H v2 d2 ∧ Dp K H v3 d3 ∧ Dp K H v4 d4 := by
  obtain ⟨a, xs, e, hs, ha⟩ := dp_tup_inv h
  cases ha with
  | cons h1 ha =>
    cases ha with
    | cons h2 ha =>
      cases ha with
      | cons h3 ha =>
        cases ha with
        | cons h4 ha =>
          cases ha
          exact ⟨a, _, _, _, _, e, hs, h1, h2, h3, h4⟩
theorem int_at {ns : List Int} {r : Int} (h0 : 0 ≤ r) (h1 : r < ns.length) : ∃ z, z ∈ ns ∧ atI (ns.map V.int) r = some (.int z) := by
  obtain ⟨j, rfl⟩ : ∃ j : Nat, r = j := ⟨r.toNat, by omega⟩
  have hj : j < ns.length := by omega
  refine ⟨ns[j], List.getElem_mem hj, atI_nat ?_⟩
  rw [List.getElem?_map, List.getElem?_eq_getElem hj]
  rfl
theorem But.same {h : Addr} {H H1 H2 : Hp} (a : But h H H1) (b : Same H1 H2) : But h H H2 := a.trans (Same.but b)
theorem tup_at {K : PySem.W.Frag} {H : Hp} {xs : List V} {ds : List PyData} {j : Nat} {d : PyData} (ha : DpAll K H xs ds) (e : ds[j]? = some d) : ∃ v, atI xs (j : Int) = some v ∧ Dp K H v d := by
  obtain ⟨v, h1, h2⟩ := dpa_get' ha e
  exact ⟨v, atI_nat h1, h2⟩
end SW

namespace SW
open PySem PySem.Spec PyProof.Rows L2
/-! ### dicts whose keys are tuples within tuples -/
mutual
theorem nest_of {X : Cx} {pins : List (Addr × Obj)} {σ : L2.St} {H : Hp} {s : Shared} (I : Inv X pins σ H s) : ∀ (k : NestedKey) (v : V) (u : Value), Dp X.K H v k.data → RelV v u → NestedIs s.heap k u
  | .none, _, u, h, r => by
    unfold NestedKey.data at h
    cases h
    cases r
    exact .none
  | .num i, _, u, h, r => by
    unfold NestedKey.data at h
    cases h
    obtain ⟨t, rfl⟩ := r
    exact .int i t
  | .text x, _, u, h, r => by
    unfold NestedKey.data at h
    cases h
    obtain ⟨t, rfl⟩ := r
    exact .text x t
  | .tup ks, _, u, h, r => by
    unfold NestedKey.data at h
    cases h with
    | tup hs ha =>
      cases r
      obtain ⟨its, rv, ⟨o, h1, h2, n, h3⟩, _⟩ := I.tuple hs
      exact .tup h1 h2 h3 (nests_of I ks _ _ ha rv)
theorem nests_of {X : Cx} {pins : List (Addr × Obj)} {σ : L2.St} {H : Hp} {s : Shared} (I : Inv X pins σ H s) : ∀ (ks : List NestedKey) (vs : List V) (us : List Value), DpAll X.K H vs (NestedKey.datas ks) → Vals vs us → NestedAll s.heap ks us
  | [], _, us, h, r => by
    unfold NestedKey.datas at h
    cases h
    cases r
    exact .nil
  | k :: ks, _, us, h, r => by
    unfold NestedKey.datas at h
    cases h with
    | cons h1 h2 =>
      cases r with
      | cons r1 r2 => exact .cons (nest_of I k _ _ h1 r1) (nests_of I ks _ _ h2 r2)
end
mutual
theorem noL_nk : ∀ k : NestedKey, noL k.data = true
  | .none => by unfold NestedKey.data; rfl
  | .num _ => by unfold NestedKey.data; rfl
  | .text _ => by unfold NestedKey.data; rfl
  | .tup ks => by
    unfold NestedKey.data
    show noLs (NestedKey.datas ks) = true
    exact noLs_nk ks
theorem noLs_nk : ∀ ks : List NestedKey, noLs (NestedKey.datas ks) = true
  | [] => by unfold NestedKey.datas; rfl
  | k :: ks => by
    unfold NestedKey.datas
    show (noL k.data && noLs (NestedKey.datas ks)) = true
    rw [noL_nk k, noLs_nk ks]
    rfl
end
mutual
theorem dp_tups {K : PySem.W.Frag} {H H' : Hp} (m : ∀ b xs, SqT K H b xs → SqT K H' b xs) : ∀ (d : PyData) (v : V), noL d = true → Dp K H v d → Dp K H' v d
  | .none, _, _, e => by
    cases e
    exact .non
  | .bool b, _, _, e => by
    cases e
    exact .bl b
  | .int i, _, _, e => by
    cases e
    exact .int i
  | .str x, _, _, e => by
    cases e
    exact .str x
  | .list ds, _, n, _ => by
    unfold noL at n
    cases n
  | .tuple ds, _, n, e => by
    cases e with
    | tup hs ha => exact .tup (m _ _ hs) (dpa_tups m ds _ (by unfold noL at n; exact n) ha)
  | .dict _, _, _, e => by cases e
theorem dpa_tups {K : PySem.W.Frag} {H H' : Hp} (m : ∀ b xs, SqT K H b xs → SqT K H' b xs) : ∀ (ds : List PyData) (vs : List V), noLs ds = true → DpAll K H vs ds → DpAll K H' vs ds
  | [], _, _, e => by
    cases e
    exact .nil
  | d :: ds, _, n, e => by
    unfold noLs at n
    rw [Bool.and_eq_true] at n
    cases e with
    | cons h1 h2 => exact .cons (dp_tups m d _ n.1 h1) (dpa_tups m ds _ n.2 h2)
end
def ExO (o : Obj) (a : Addr) : HO := .ext fun h => h.get? a = some o
/-- a pair in the dict, and where its key stands -/
def NPair (K : PySem.W.Frag) (H : Hp) (p : NestedKey × V) (q : NestedKey × Addr × Value) : Prop := p.1 = q.1 ∧ Dp K H (.ref q.2.1) p.1.data ∧ p.1.depth ≤ 8 ∧ RelV p.2 q.2.2
/-- at a stands a dict of these pairs -/
structure DN (P : Program) (w : World) (K : PySem.W.Frag) (H : Hp) (a : Addr) (kvs : List (NestedKey × V)) : Prop where
  sm : (a == sysModules) = false
  ln : kvs.length ≤ sizeLine
  ob : ∃ (o : Obj) (es : Array DictEntry) (ep : Nat) (xs : List (NestedKey × Addr × Value)), H a = some (ExO o a) ∧ o.ExactDict ∧ o.data = .dict es ep ∧ es.toList = xs.map (entryOfKey (nestedKind P w)) ∧ (xs.map (·.1)).Nodup ∧ Paired (NPair K H) kvs xs
theorem npair_mono {K : PySem.W.Frag} {H H' : Hp} (m : ∀ (d : PyData) (v : V), noL d = true → Dp K H v d → Dp K H' v d) : ∀ {kvs : List (NestedKey × V)} {xs : List (NestedKey × Addr × Value)}, Paired (NPair K H) kvs xs → Paired (NPair K H') kvs xs
  | _, _, .nil => .nil
  | _, _, .cons h t => .cons ⟨h.1, m _ _ (noL_nk _) h.2.1, h.2.2.1, h.2.2.2⟩ (npair_mono m t)
theorem DN.same {P : Program} {w : World} {K : PySem.W.Frag} {H H' : Hp} {a : Addr} {kvs : List (NestedKey × V)} (D : DN P w K H a kvs) (s : Same H H') : DN P w K H' a kvs := by
  obtain ⟨o, es, ep, xs, e, h1, h2, h3, h4, r⟩ := D.ob
  exact ⟨D.sm, D.ln, o, es, ep, xs, s _ _ e, h1, h2, h3, h4, npair_mono (fun d v _ h => dp_same s d v h) r⟩
/-- a list elsewhere has changed -/
theorem DN.but {P : Program} {w : World} {K : PySem.W.Frag} {H H' : Hp} {a h : Addr} {ys : List V} {kvs : List (NestedKey × V)} (D : DN P w K H a kvs) (hl : H h = some (.lst ys)) (s : But h H H') : DN P w K H' a kvs := by
  obtain ⟨o, es, ep, xs, e, h1, h2, h3, h4, r⟩ := D.ob
  refine ⟨D.sm, D.ln, o, es, ep, xs, s _ _ (fun q => ?_) e, h1, h2, h3, h4, npair_mono (fun d v n hd => dp_but hl s d v n hd) r⟩
  rw [q, hl] at e
  cases e
theorem npair_is {X : Cx} {pins : List (Addr × Obj)} {σ : L2.St} {H : Hp} {s : Shared} (I : Inv X pins σ H s) : ∀ {kvs : List (NestedKey × V)} {xs : List (NestedKey × Addr × Value)}, Paired (NPair X.K H) kvs xs → ∀ x, x ∈ xs → (nestedKind X.prog X.w).is s.heap x.1 x.2.1
  | _, _, .nil, _, hx => nomatch hx
  | _, _, .cons h t, x, hx => by
    rcases List.mem_cons.mp hx with rfl | hx
    · obtain ⟨e, hd, hp, _⟩ := h
      rw [e] at hd hp
      exact ⟨nest_of I _ _ _ hd rfl, hp⟩
    · exact npair_is I t x hx
theorem dn_of {X : Cx} {pins : List (Addr × Obj)} {σ : L2.St} {H : Hp} {s : Shared} {a : Addr} {kvs : List (NestedKey × V)} (I : Inv X pins σ H s) (D : DN X.prog X.w X.K H a kvs) : ∃ xs, Paired (NPair X.K H) kvs xs ∧ s.heap.DictOfH (nestedKind X.prog X.w) a xs := by
  obtain ⟨o, es, ep, xs, e, h1, h2, h3, h4, r⟩ := D.ob
  obtain ⟨g, _, _⟩ := (show ObjOk X.prog X.w H s.heap a (ExO o a) from I.hok a _ e)
  exact ⟨xs, r, o, es, ep, g, h1, h2, h3, npair_is I r, h4⟩
theorem npair_val {K : PySem.W.Frag} {H : Hp} (k : NestedKey) : ∀ {kvs : List (NestedKey × V)} {xs : List (NestedKey × Addr × Value)}, Paired (NPair K H) kvs xs → RelO (valV kvs k) ((atKey xs k).map (·.2))
  | _, _, .nil => trivial
  | p :: ps, q :: qs, .cons h t => by
    by_cases e : p.1 = k
    · have b : atKey (q :: qs) k = some q.2 := by simp [atKey, List.find?_cons, h.1.symm.trans e]
      rw [valV_pos e, b]
      exact h.2.2.2
    · have e2 : ¬ q.1 = k := fun z => e (h.1.trans z)
      have b : atKey (q :: qs) k = atKey qs k := by simp [atKey, List.find?_cons, e2]
      rw [valV_neg e, b]
      exact npair_val k t
theorem npair_put {K : PySem.W.Frag} {H : Hp} {k : NestedKey} {b : Addr} {y : V} {u : Value} (hd : Dp K H (.ref b) k.data) (hp : k.depth ≤ 8) (ry : RelV y u) {kvs : List (NestedKey × V)} {xs : List (NestedKey × Addr × Value)} (r : Paired (NPair K H) kvs xs) : Paired (NPair K H) (putK kvs k y) (storedH xs k b u) := by
  have e : (kvs.any fun kv => decide (kv.1 = k)) = (atKey xs k).isSome := by
    rw [valV_any, (npair_val k r).isSome_eq, Option.isSome_map]
  unfold putK storedH
  rw [e]
  by_cases hq : (atKey xs k).isSome = true
  · rw [if_pos hq, if_pos hq]
    clear e hq
    induction r with
    | nil => exact .nil
    | @cons p q ps qs h t ih =>
      refine .cons ?_ ih
      obtain ⟨h1, h2, h3, h4⟩ := h
      show NPair K H (if p.1 = k then (p.1, y) else p) (if q.1 = k then (q.1, q.2.1, u) else q)
      by_cases e : p.1 = k
      · rw [if_pos e, if_pos (h1.symm.trans e)]
        exact ⟨h1, h2, h3, ry⟩
      · rw [if_neg e, if_neg (fun z => e (h1.trans z))]
        exact ⟨h1, h2, h3, h4⟩
  · rw [if_neg hq, if_neg hq]
    clear e hq
    induction r with
    | nil => exact .cons ⟨rfl, hd, hp, ry⟩ .nil
    | cons h t ih => exact .cons h ih
theorem paired_len {α β : Type} {R : α → β → Prop} : ∀ {xs : List α} {ys : List β}, Paired R xs ys → xs.length = ys.length
  | _, _, .nil => rfl
  | _, _, .cons _ t => congrArg Nat.succ (paired_len t)
theorem putN_len (c : List (NestedKey × V)) (k : NestedKey) (x : V) : (putK c k x).length ≤ c.length + 1 := by
  unfold putK
  split
  · rw [List.length_map]
    omega
  · rw [List.length_append]
    exact Nat.le_refl _
theorem dp_ext {K : PySem.W.Frag} {H : Hp} {a : Addr} {o : Obj} {u : HO} (e : H a = some (ExO o a)) (d : PyData) (v : V) (n : noL d = true) (h : Dp K H v d) : Dp K (upd H a u) v d :=
  dp_tups (fun b xs hs => by
    have ne : ∀ {z : HO}, H b = some z → z ≠ ExO o a → b ≠ a := fun h1 h2 q => by
      rw [q, e] at h1
      exact h2 (Option.some.inj h1).symm
    rcases hs with (hs | ⟨p, hs⟩) | hs
    · exact .inl (.inl ((upd_ne (ne hs (fun q => nomatch q))).trans hs))
    · exact .inl (.inr ⟨p, (upd_ne (ne hs (fun q => nomatch q))).trans hs⟩)
    · exact .inr hs) d v n h
theorem nk_is {X : Cx} {pins : List (Addr × Obj)} {σ : L2.St} {H : Hp} {s : Shared} (I : Inv X pins σ H s) {k : NestedKey} {b : Addr} (hd : Dp X.K H (.ref b) k.data) (hp : k.depth ≤ 8) : (nestedKind X.prog X.w).is s.heap k b := ⟨nest_of I _ _ _ hd rfl, hp⟩
theorem nk_room1 {X : Cx} (hu : X.A.units + 65 < cLine) : (nestedKind X.prog X.w).room X.A.in1 := by
  show X.A.units + 1 + 8 < cLine
  omega
theorem nk_room {X : Cx} (hu : X.A.units + 65 < cLine) : (nestedKind X.prog X.w).room X.A := by
  show X.A.units + 8 < cLine
  omega
section
variable {X : Cx}
/-- d[k], there -/
def rIxN (P : Program) (w : World) (K : PySem.W.Frag) : R2 := fun x y H Q => ∃ (a b : Addr) (kvs : List (NestedKey × V)) (k : NestedKey) (v : V), x = .ref a ∧ y = .ref b ∧ DN P w K H a kvs ∧ Dp K H (.ref b) k.data ∧ k.depth ≤ 8 ∧ valV kvs k = some v ∧ Q v H
theorem ix_nest (hu : X.A.units + 65 < cLine) : IxR X (rIxN X.prog X.w X.K) := by
  intro value slice pins s σ H x y v u Q I rx ry h hs
  obtain ⟨a, b, kvs, k, r, rfl, rfl, D, hd, hp, hv, q⟩ := h
  cases rx
  cases ry
  obtain ⟨xs, rel, dd⟩ := dn_of I D
  have rv := npair_val k rel
  rw [hv] at rv
  obtain ⟨w', hw, rw'⟩ := RelO.some_of rv
  obtain ⟨p, hp1, hp2⟩ := Option.map_eq_some_iff.mp hw
  refine tail_any dd.typeIs slot_dict_getitem.lookup (wpAny_getItem_heap (nk_room1 hu) (nk_is I hd hp) dd hp1 ?_) hs
  rw [hp2]
  exact ⟨r, H, I.tok _, rw', q⟩
/-- k not in d -/
def rNotN (P : Program) (w : World) (K : PySem.W.Frag) : R2 := fun x y H Q => ∃ (b a : Addr) (kvs : List (NestedKey × V)) (k : NestedKey), x = .ref b ∧ y = .ref a ∧ DN P w K H a kvs ∧ Dp K H (.ref b) k.data ∧ k.depth ≤ 8 ∧ Q (.bl (!(valV kvs k).isSome)) H
theorem op_notN' (hu : X.A.units + 65 < cLine) : OpR X (compareOp .NotIn) (rNotN X.prog X.w X.K) := by
  intro pins s σ H x y v u Q I rx ry h
  obtain ⟨b, a, kvs, k, rfl, rfl, D, hd, hp, q⟩ := h
  cases rx
  cases ry
  obtain ⟨xs, rel, dd⟩ := dn_of I D
  refine wpAny_notIn_heap (nk_room1 hu) (nk_is I hd hp) D.sm dd ?_
  have e := (npair_val k rel).isSome_eq
  rw [Option.isSome_map] at e
  rw [← e]
  exact ⟨.bl _, H, I.tok _, rfl, q⟩
theorem dn_put {pins : List (Addr × Obj)} {σ : L2.St} {H : Hp} {s : Shared} {a b : Addr} {kvs : List (NestedKey × V)} {xs : List (NestedKey × Addr × Value)} {k : NestedKey} {y : V} {u : Value} {h' : Heap} {tk : Nat} (I : Inv X pins σ H s) (D : DN X.prog X.w X.K H a kvs) (rel : Paired (NPair X.K H) kvs xs)
    (hd : Dp X.K H (.ref b) k.data) (hp : k.depth ≤ 8) (ry : RelV y u) (hz : kvs.length < sizeLine) (dd : h'.DictOfH (nestedKind X.prog X.w) a (storedH xs k b u)) (sb : Heap.SameBut a s.heap h') :
    ∃ o', Inv X pins σ (upd H a (ExO o' a)) { s with heap := h', toks := tk } ∧ DN X.prog X.w X.K (upd H a (ExO o' a)) a (putK kvs k y) := by
  obtain ⟨o, es, ep, xs0, e, _⟩ := D.ob
  obtain ⟨o', es', ep', g1, g2, g3, g4, _, g5⟩ := dd
  have mv : ∀ (d : PyData) (v : V), noL d = true → Dp X.K H v d → Dp X.K (upd H a (ExO o' a)) v d := fun d v n hv => dp_ext e d v n hv
  refine ⟨o', d_write I (by rw [e]; exact True.intro) sb ⟨o', g1⟩ ⟨g1, ⟨o', g1⟩, fun h1 h2 k1 k2 => k2 _ k1⟩, D.sm, ?_, o', es', ep', _, upd_same, g2, g3, g4, g5, npair_mono mv (npair_put hd hp ry rel)⟩
  have := putN_len kvs k y
  omega
/-- d[k] = y -/
def rSetN (P : Program) (w : World) (K : PySem.W.Frag) : TSet := fun o i v H Q => ∃ (a b : Addr) (kvs : List (NestedKey × V)) (k : NestedKey), o = .ref a ∧ i = .ref b ∧ DN P w K H a kvs ∧ Dp K H (.ref b) k.data ∧ k.depth ≤ 8 ∧ kvs.length < sizeLine ∧
  ∀ o', DN P w K (upd H a (ExO o' a)) a (putK kvs k v) → Q (upd H a (ExO o' a))
theorem set_nest (hu : X.A.units + 65 < cLine) : PSet X (rSetN X.prog X.w X.K) := by
  intro pins s σ H o i v ov iv u Q I ro ri rv h
  obtain ⟨a, b, kvs, k, rfl, rfl, D, hd, hp, hz, q⟩ := h
  cases ro
  cases ri
  obtain ⟨xs, rel, dd⟩ := dn_of I D
  refine wpAny_setItem_heap (hsz := by rw [← paired_len rel]; omega) (nk_room1 hu) (nk_is I hd hp) dd fun h' dd' sb => ?_
  obtain ⟨o', I', D'⟩ := dn_put I D rel hd hp rv hz dd' sb
  exact ⟨_, I', q o' D'⟩
/-- d[k] = y, in a comprehension -/
theorem dn_comp {pins : List (Addr × Obj)} {σ : L2.St} {H : Hp} {s : Shared} {E : Value → Shared → Prop} {a b : Addr} {kvs : List (NestedKey × V)} {k : NestedKey} {y : V} {u : Value} {Q : Unit → Shared → Prop} (hu : X.A.units + 65 < cLine) (I : Inv X pins σ H s) (D : DN X.prog X.w X.K H a kvs) (hd : Dp X.K H (.ref b) k.data) (hp : k.depth ≤ 8) (rv : RelV y u) (hz : kvs.length < sizeLine)
    (q : ∀ o' s', DN X.prog X.w X.K (upd H a (ExO o' a)) a (putK kvs k y) → Inv X pins σ (upd H a (ExO o' a)) s' → Q () s') : wpAny (model X.prog X.w) X.A (dictSet a (.ref b) u) Q E s := by
  obtain ⟨xs, rel, dd⟩ := dn_of I D
  refine wpAny_dictSet_heap (hsz := by rw [← paired_len rel]; omega) (nk_room hu) (nk_is I hd hp) dd fun h' dd' sb => ?_
  obtain ⟨o', I', D'⟩ := dn_put I D rel hd hp rv hz dd' sb
  exact q o' _ D' I'
end
end SW

namespace SW
open PySem PySem.Spec PyProof.Rows L2
/-! ### {(k, l): v for .. in ..}, keys tuples within tuples -/
/-- what a turn's pair asks, when it is stored -/
def StN (P : Program) (w : World) (K : PySem.W.Frag) (D : Addr) (y z : V) (H : Hp) (Nx : Hp → Prop) : Prop :=
  ∃ (kvs : List (NestedKey × V)) (k : NestedKey) (b : Addr), y = .ref b ∧ DN P w K H D kvs ∧ Dp K H (.ref b) k.data ∧ k.depth ≤ 8 ∧ kvs.length < sizeLine ∧ ∀ o', DN P w K (upd H D (ExO o' D)) D (putK kvs k z) → Nx (upd H D (ExO o' D))
/-- one turn of the walk -/
def TnN (P : Program) (w : World) (K : PySem.W.Frag) (g : TG) (tt : TT) (tk tv : TE) (σ : L2.St) (vs : List Nat) (D : Addr) (Nx : Hp → Prop) (x : V) (H : Hp) : Prop :=
  g x (wipe σ vs) H fun σ2 H2 => wipe σ2 vs = wipe σ vs ∧ tt σ2 H2 fun b H3 => if b = true then tk σ2 H3 fun y H4 => tv σ2 H4 fun z H5 => StN P w K D y z H5 Nx else Nx H3
def tDcN (P : Program) (w : World) (K : PySem.W.Frag) (wi : TI) (g : TG) (tt : TT) (tk tv : TE) (vs : List Nat) : TE := fun σ H Q => wi σ H fun J H1 => ∀ D o, H1 D = none → DN P w K (upd H1 D (ExO o D)) D [] →
  ∃ W : Nat → Nat → Hp → Prop, (∃ m, W 0 m (upd H1 D (ExO o D))) ∧ ∀ i m H, W i m H → (J.stop i H ∧ Q (.ref D) H) ∨ (J.go i H ∧ ∃ Nx : Hp → Prop, (∀ H', Nx H' → ∃ m', m' < m ∧ W (i + 1) m' H') ∧ ∀ x H', J.yld i H x H' → TnN P w K g tt tk tv σ vs D Nx x H')
abbrev eD : Obj := { cls := .type "dict", data := .dict #[] }
theorem dn_empty {P : Program} {w : World} {K : PySem.W.Frag} {H : Hp} (D : Addr) (hs : (D == sysModules) = false) : DN P w K (upd H D (ExO eD D)) D [] :=
  ⟨hs, Nat.zero_le _, eD, #[], 0, [], upd_same, ⟨rfl, rfl, rfl⟩, rfl, rfl, List.nodup_nil, .nil⟩
section
variable {X : Cx}
theorem dcN_core {pins : List (Addr × Obj)} {s : Shared} {σ : L2.St} {H : Hp} {Q : VK} {kx vx tg iter : Expr} {ifs : List Expr} {scope : Scope} {own : List (PySem.Str × Nat)} {pos pos' : Pos} {wi : TI} {g : TG} {tt : TT} {tk tv : TE} {use : Option (Value → Sem Unit)} {Qf : Value → Shared → Prop} (hu : X.A.units + 65 < cLine) (hc : X.calm = true) (hN : X.N.Nodup) (I : Inv X pins σ H s) (hi : PI X tg iter wi) (bk : BlkOk X.N X.env.scope scope own)
    (hg : ∀ s H C cl fp, PG (X.blk s H scope (compEnvC scope cl C X.env) fp) tg g) (ht : ∀ s H C cl fp, PTs (X.blk s H scope (compEnvC scope cl C X.env) fp) ifs tt)
    (hk : ∀ s H C cl fp, PE (X.blk s H scope (compEnvC scope cl C X.env) fp) kx tk) (hv : ∀ s H C cl fp, PE (X.blk s H scope (compEnvC scope cl C X.env) fp) vx tv) (hs : ∀ x, foldedSetIterable iter X.env x = pure x)
    (h : tDcN X.prog X.w X.K wi g tt tk tv (own.map (·.2)) σ H Q)
    (hRR : ∀ D C s' m H', Inv X pins σ H' s' → Q (.ref D) H' → s'.heap.Ns C m → FpOk X pins H' C → compPost (model X.prog X.w) X.A X.xe use Qf (.ref D) C (.ok .next) s') :
    wpAny (model X.prog X.w) X.A (comprehension (.DictComp kx vx [⟨tg, iter, ifs, 0⟩] scope pos) scope X.env pos' newDict false (eval iter X.env) use) Qf X.xe s := by
  have outer : ∀ y, y ∈ scope.names → y.2 = .free → ∃ c, X.env.cells.lookup y.1 = some c := fun y hy e => (bk.free y hy e).elim (fun k => I.ok.has _ (.inl k)) fun k => I.ok.has _ (.inr k)
  refine wpAny_comprehension_free (use := use) rfl hs (closure_ok outer) bk.kind (fun y hy e => by rw [bk.uniq y hy, e]) ?_
  refine thn (hi.run pins s σ H _ I h) fun _ s1 k1 => thn k1 fun _ s2 k2 => ?_
  obtain ⟨it, fp, tn, J, Ha, rfl, Ia, T, sta, fa, q⟩ := k2
  refine wpAny_newObj_type (newEnv_comp ?_)
  have free : Ha s2.heap.objs.size = none := Ia.hok.fresh (Nat.le_refl _)
  have apart : (s2.heap.objs.size == sysModules) = false := beq_eq_false_iff_ne.mpr (Ne.symm (Nat.ne_of_lt Ia.big))
  -- the empty dict
  obtain ⟨W, ⟨m0, w0⟩, turn⟩ := q s2.heap.objs.size eD free (dn_empty _ apart)
  have grow : ∀ b o, s2.heap.get? b = some o → (s2.heap.push eD).get? b = some o := fun b o e => Heap.get?_push_of_some _ e
  have Ib : Inv X pins σ (upd Ha s2.heap.objs.size (ExO eD s2.heap.objs.size)) { s2 with heap := s2.heap.push eD } :=
    Ia.laid (t' := s2.toks) grow (Nat.le_refl _) ⟨Heap.get?_push_size _ rfl, ⟨eD, Heap.get?_push_size _ rfl⟩, fun _ _ a b => b _ a⟩
  have below : ∀ b, b ∈ fp → b < s2.heap.objs.size := fun b hb => (T.obj _ _ sta b hb).elim fun _ e => Heap.lt_size e.1
  have fb : ∀ b, b ∈ fp → FpOk X pins (upd Ha s2.heap.objs.size (ExO eD s2.heap.objs.size)) b ∧ b < (s2.heap.push eD).objs.size := fun b hb => by
    refine ⟨⟨(upd_ne (Nat.ne_of_lt (below b hb))).trans (fa b hb).1, (fa b hb).2⟩, ?_⟩
    rw [Heap.size_push]
    exact Nat.lt_succ_of_lt (below b hb)
  have stb : tn 0 (s2.heap.push eD) := T.keep _ _ _ sta fun b _ o e => grow b o e
  generalize hD : s2.heap.objs.size = D at *
  generalize hHb : upd Ha D (ExO eD D) = Hb at *
  generalize hsb : ({ s2 with heap := s2.heap.push eD } : Shared) = sb at *
  have hpb : sb.heap = s2.heap.push eD := by rw [← hsb]
  rw [← hpb] at fb stb
  have Ic := block_start Ib bk hN fb
  generalize hcl : cellsFrom (sb.heap.objs.size + 1) scope.names (cloFrom X.env.cells scope.names []) = cl at *
  generalize hsc : ({ sb with heap := pushCells (sb.heap.push eD) scope.names } : Shared) = sc at *
  have stc : tn 0 sc.heap := T.keep _ _ _ stb fun b _ o e => by
    rw [← hsc]
    exact pushCells_keeps _ _ _ _ (Heap.get?_push_of_some _ e)
  show codeAny (model X.prog X.w) X.A (.compStart (.DictComp kx vx [⟨tg, iter, ifs, 0⟩] scope pos) 0 (.ref it) (.ref D) (compEnvC scope cl sb.heap.objs.size X.env)) (compPost (model X.prog X.w) X.A X.xe use Qf (.ref D) sb.heap.objs.size) sc
  have rg := hg sb Hb sb.heap.objs.size cl fp
  have rt := ht sb Hb sb.heap.objs.size cl fp
  have rk := hk sb Hb sb.heap.objs.size cl fp
  have rv := hv sb Hb sb.heap.objs.size cl fp
  have place : (compEnvC scope cl sb.heap.objs.size X.env).locals = sb.heap.objs.size := rfl
  generalize compEnvC scope cl sb.heap.objs.size X.env = env at *
  let Y : Cx := X.blk sb Hb scope env fp
  let wv := wipe σ (own.map (·.2))
  have mine : ∀ {τ : L2.St} {G : Hp} {s' : Shared}, Inv Y [] τ G s' → (∀ b, b ∈ fp → G b = none) → ∀ b, b ∈ fp → FpOk Y [] G b := fun {τ G s'} J1 hn b hb =>
    ⟨hn b hb, (J1.ok.exf b hb).1, J1.ok.exfs b hb, .inl hb, fun x c e => (J1.ok.exf b hb).2 x c e, fun p hp => nomatch (show p ∈ ([] : List (Addr × Obj)) from hp)⟩
  have run : codeAny (model X.prog X.w) X.A (.compLoop (.DictComp kx vx [⟨tg, iter, ifs, 0⟩] scope pos) 0 (.ref it) (.ref D) env) (compPost (model X.prog X.w) X.A X.xe use Qf (.ref D) sb.heap.objs.size) sc := by
    refine compLoop_anyD (fun n s' => ∃ i G, Inv Y [] wv G s' ∧ tn i s'.heap ∧ (∀ b, b ∈ fp → G b = none) ∧ W i n G) (fun n s5 hI => ?_) m0 ⟨0, Hb, Ic, stc, fun b hb => (fb b hb).1.1, w0⟩
    obtain ⟨i, G, I5, st5, n5, w5⟩ := hI
    rcases turn i n G w5 with ⟨stop, ready⟩ | ⟨go, Nx, less, step⟩
    · -- the end
      refine thnF (T.done Y rfl rfl rfl hc i [] s5 wv G (fun _ _ => False) I5 (mine I5 n5) st5 stop) fun r s6 k6 => ?_
      obtain ⟨rfl, I6⟩ := k6
      have here : G sb.heap.objs.size = none := place ▸ I6.free
      have back : Inv X pins σ G s6 := Ib.call' (ch := fp) I6.os I6.base I6.hok I6.bare fun b hb => (fb b hb).1.elim fun _ z => ⟨z.2.2.1, z.1, z.2.2.2.1, z.2.2.2.2⟩
      obtain ⟨m, hm, _⟩ := I6.loc
      have hm : s6.heap.Ns env.locals m := hm
      rw [place] at hm
      exact hRR D sb.heap.objs.size s6 m G back ready hm (Ib.fpOk (Nat.le_refl _) here)
    · -- one more
      refine thnF (T.item Y rfl rfl rfl hc i [] s5 wv G (fun _ _ => False) I5 (mine I5 n5) st5 go) fun r s6 k6 => ?_
      obtain ⟨u, rfl, k6⟩ := k6
      refine thnF k6 fun _ s7 k7 => ?_
      obtain ⟨x, G7, I7, r7, y7, st7, n7⟩ := k7
      have hold : Inv Y ([] ++ pinsAt fp s7.heap) wv G7 s7 := I7.pinned (mine I7 n7) (T.obj _ _ st7)
      refine thnF (rg.run _ s7 wv G7 x u _ hold r7 (step x G7 y7)) fun _ s8 k8 => ?_
      obtain ⟨σ8, G8, I8, wipe8, q8⟩ := k8
      refine thnF (rt.run _ s8 σ8 G8 _ I8 q8) fun ok s9 k9 => ?_
      obtain ⟨G9, I9, q9⟩ := k9
      have next : ∀ {s' : Shared} {G' : Hp}, Inv Y ([] ++ pinsAt fp s7.heap) σ8 G' s' → Nx G' → ∃ m, m < n ∧ ∃ i G', Inv Y [] wv G' s' ∧ tn i s'.heap ∧ (∀ b, b ∈ fp → G' b = none) ∧ W i m G' := fun {s' G'} I' nx => by
        obtain ⟨m', hlt, hw⟩ := less G' nx
        have held : ∀ b, b ∈ fp → ∀ o, s7.heap.get? b = some o → s'.heap.get? b = some o ∧ G' b = none := fun b hb o e =>
          (I'.pin (b, o) (List.mem_append_right _ (List.mem_append_right _ (mem_pinsAt hb e)))).elim fun e1 z => ⟨e1, z.1⟩
        refine ⟨m', hlt, i + 1, G', (I'.unpinned (pins := [])).weak (by
          have e := congrArg List.length wipe8
          rw [wipe_length] at e
          exact e.symm) (fun j v e => ?_), T.keep _ _ _ st7 fun b hb o e => (held b hb o e).1, fun b hb => ?_, hw⟩
        · have e : (wipe σ (own.map (·.2)))[j]? = some (some v) := e
          rw [← wipe8] at e
          exact (wipe_some e).1
        · exact (T.obj _ _ st7 b hb).elim fun o e => (held b hb o e.1).2
      cases ok with
      | false =>
        rw [if_neg Bool.false_ne_true] at q9 ⊢
        exact next I9 q9
      | true =>
        rw [if_pos rfl] at q9 ⊢
        refine thnF (rk.run _ s9 σ8 G9 _ I9 q9) fun kv sd kd => ?_
        obtain ⟨y, Gd, Id, rd, qd⟩ := kd
        refine thnF (rv.run _ sd σ8 Gd _ Id qd) fun vv se ke => ?_
        obtain ⟨z, Ge, Ie, re, kvs, k, bb, rfl, Dn, hdk, hdp, hz, nx⟩ := ke
        cases rd
        exact dn_comp (X := Y) hu Ie Dn hdk hdp re hz fun o' sf D' If => next If (nx o' D')
  exact codeAny_compStart_dict run (T.self X.A 0 _ _ _ stc run)
theorem pe_dcN {kx vx tg iter : Expr} {ifs : List Expr} {scope : Scope} {own : List (PySem.Str × Nat)} {pos : Pos} {wi : TI} {g : TG} {tt : TT} {tk tv : TE} (hu : X.A.units + 65 < cLine) (hc : X.calm = true) (hN : X.N.Nodup) (hi : PI X tg iter wi) (bk : BlkOk X.N X.env.scope scope own)
    (hg : ∀ s H C cl fp, PG (X.blk s H scope (compEnvC scope cl C X.env) fp) tg g) (ht : ∀ s H C cl fp, PTs (X.blk s H scope (compEnvC scope cl C X.env) fp) ifs tt)
    (hk : ∀ s H C cl fp, PE (X.blk s H scope (compEnvC scope cl C X.env) fp) kx tk) (hv : ∀ s H C cl fp, PE (X.blk s H scope (compEnvC scope cl C X.env) fp) vx tv) (hs : ∀ x, foldedSetIterable iter X.env x = pure x := by intro _; rfl) :
    PE X (.DictComp kx vx [⟨tg, iter, ifs, 0⟩] scope pos) (tDcN X.prog X.w X.K wi g tt tk tv (own.map (·.2))) := by
  constructor
  intro pins s σ H Q I h
  rw [arm_eval_DictComp]
  refine dcN_core (use := none) hu hc hN I hi bk hg ht hk hv hs h fun D C s' m H' I' q hn f => ?_
  obtain ⟨f0, f1, f2, f3, f4, f5⟩ := f
  exact ⟨m, hn, fun h'' sb => ⟨.ref D, H', I'.turned (t' := s'.toks) (fun b o hb e => (sb.2 b hb).trans e) f0 f1 f3 f4 f5, rfl, q⟩⟩
/-- name = {..} on one line, the name a local -/
theorem ps_setDcN {i : Nat} {y : PySem.Str} {py : Pos} {kx vx tg iter : Expr} {ifs : List Expr} {scope : Scope} {own : List (PySem.Str × Nat)} {pos spos : Pos} {wi : TI} {g : TG} {tt : TT} {tk tv : TE} (hu : X.A.units + 65 < cLine) (hc : X.calm = true) (hN : X.N.Nodup) (hy : X.N[i]? = some y) (hyl : X.env.scope.names.lookup y = some .local)
    (hsw : swapsWith (.DictComp kx vx [⟨tg, iter, ifs, 0⟩] scope pos) (some (.Name y py)) spos.line X.env = pure true) (hi : PI X tg iter wi) (bk : BlkOk X.N X.env.scope scope own)
    (hg : ∀ s H C cl fp, PG (X.blk s H scope (compEnvC scope cl C X.env) fp) tg g) (ht : ∀ s H C cl fp, PTs (X.blk s H scope (compEnvC scope cl C X.env) fp) ifs tt)
    (hk : ∀ s H C cl fp, PE (X.blk s H scope (compEnvC scope cl C X.env) fp) kx tk) (hv : ∀ s H C cl fp, PE (X.blk s H scope (compEnvC scope cl C X.env) fp) vx tv) (hs : ∀ x, foldedSetIterable iter X.env x = pure x := by intro _; rfl) :
    PS X (.Assign [.Name y py] (.DictComp kx vx [⟨tg, iter, ifs, 0⟩] scope pos) spos) (tAsg (tDcN X.prog X.w X.K wi g tt tk tv (own.map (·.2))) (gName i)) := by
  refine ⟨fun pins s σ H D I h => ?_⟩
  rw [exec_Assign_Name_used _ _ _ _ hsw]
  refine wpAny_bind (wpAny_standAt (wpAny_bind ?_))
  show wpAny _ X.A (do let _ ← comprehension (.DictComp kx vx [⟨tg, iter, ifs, 0⟩] scope pos) scope X.env (firstIterPos [⟨tg, iter, ifs, 0⟩] pos) newDict false (eval iter X.env) (some (assign (.Name y py) X.env))) _ _ s
  have h : tDcN X.prog X.w X.K wi g tt tk tv (own.map (·.2)) σ H (fun x H1 => gName i x σ H1 D.nx) := h
  refine wpAny_bind (thn (dcN_core (Qf := fun _ s' => SP X pins D .next s') hu hc hN I hi bk hg ht hk hv hs h fun L C s' m H' I' q hn f => ?_) fun _ s' hq => wpAny_pure (wpAny_pure hq))
  show wpAny _ _ (assign (.Name y py) X.env (.ref L)) _ _ _
  refine wpAny_assign_Name (store_ok2 (v := V.ref L) I' hN hy (.inl hyl) rfl (fun s2 I2 ⟨a, sb, ha⟩ => ?_) (.inr hyl))
  obtain ⟨f0, f1, f2, f3, f4, f5⟩ := f
  have haC : C ≠ a := by
    rcases ha with z | z
    · rw [z]; exact f1
    · exact fun e => f4 y a z e.symm
  refine ⟨m, hn.sameBut sb haC, fun h3 sb3 => ?_⟩
  exact ⟨_, H', I2.turned (t' := s2.toks) (fun b o hb e => (sb3.2 b hb).trans e) f0 f1 f3 f4 f5, q⟩
theorem swD_true {kx vx : Expr} {gs : List Comprehension} {scope : Scope} {pos py : Pos} {y : PySem.Str} {l : Nat} {env : Env} (hk : env.scope.kind = .function) (hy : env.scope.names.lookup y = some .local) (hl : (py.line == pos.line) = true)
    (ha : (scope.names.any fun (n, k) => n == y && (k == .local || k == .cell)) = false) : swapsWith (.DictComp kx vx gs scope pos) (some (.Name y py)) l env = pure true := by
  have ky : env.kindOf y = some .local := hy
  have hb : env.blockKind = .function := by unfold Env.blockKind; rw [hk]; rfl
  unfold swapsWith
  simp only [hb, ky, ha, Expr.pos, hl]
  rfl
end
theorem dcN_it {P : Program} {w : World} {K : PySem.W.Frag} {J : It} {n : Nat} {G : Hp → Prop} {Y : Nat → Hp → V → Hp → Prop} (wk : Walk J n G Y) {g : TG} {tk tv : TE} {vs : List Nat} {σ : L2.St} {H1 : Hp} {D : Addr} {o : Obj} {Qd : Hp → Prop} (Pv : Nat → Hp → Prop) (h0 : Pv 0 (upd H1 D (ExO o D))) (hG : ∀ i H, i ≤ n → Pv i H → G H)
    (hs : ∀ (i : Nat) (x : V) (H H' : Hp), i < n → Pv i H → Y i H x H' → g x (wipe σ vs) H' fun σ2 H2 => wipe σ2 vs = wipe σ vs ∧ tk σ2 H2 fun y H4 => tv σ2 H4 fun z H5 => StN P w K D y z H5 (Pv (i + 1))) (hd : ∀ H, Pv n H → Qd H) :
    ∃ W : Nat → Nat → Hp → Prop, (∃ m, W 0 m (upd H1 D (ExO o D))) ∧ ∀ i m H, W i m H → (J.stop i H ∧ Qd H) ∨ (J.go i H ∧ ∃ Nx : Hp → Prop, (∀ H', Nx H' → ∃ m', m' < m ∧ W (i + 1) m' H') ∧ ∀ x H', J.yld i H x H' → TnN P w K g tYes tk tv σ vs D Nx x H') := by
  refine ⟨fun i m H => m = n - i ∧ i ≤ n ∧ Pv i H, ⟨n, by simp, Nat.zero_le _, h0⟩, ?_⟩
  rintro i m H ⟨rfl, hi, p⟩
  have q := hG i H hi p
  by_cases hlt : i < n
  · exact .inr ⟨wk.goes i H hlt q, Pv (i + 1), fun H' p' => ⟨n - (i + 1), by omega, rfl, hlt, p'⟩, fun x H' y => hs i x H H' hlt p (wk.yields i H x H' hlt q y)⟩
  · have e : i = n := by omega
    subst e
    exact .inl ⟨wk.stops H q, hd H p⟩
end SW

namespace SW
open PySem PySem.Spec PyProof.Rows L2
/-! ### comprehensions by their values -/
theorem lc_vals {J : It} {n : Nat} {G : Hp → Prop} {Y : Nat → Hp → V → Hp → Prop} (w : Walk J n G Y) {g : TG} {te : TE} {vs : List Nat} {σ : L2.St} {H1 : Hp} {D : Addr} {Qd : Hp → Prop} (hD : H1 D = none) (f : Nat → V) (hn : n ≤ 100000) (hG : ∀ H, Same H1 H → G H)
    (hs : ∀ (i : Nat) (x : V) (H H' : Hp) (Q : V → Hp → Prop), i < n → Same H1 H → Y i H x H' → (∀ H4, Same H H4 → Q (f i) H4) → g x (wipe σ vs) H' fun σ2 H2 => wipe σ2 vs = wipe σ vs ∧ te σ2 H2 Q)
    (hd : ∀ H, Same H1 H → H D = some (.lst ((List.range n).map f)) → Qd H) :
    ∃ W : Nat → Nat → Hp → Prop, (∃ m, W 0 m (upd H1 D (.lst []))) ∧ ∀ i m H, W i m H → (J.stop i H ∧ Qd H) ∨ (J.go i H ∧ ∃ Nx : Hp → Prop, (∀ H', Nx H' → ∃ m', m' < m ∧ W (i + 1) m' H') ∧
      ∀ x H', J.yld i H x H' → g x (wipe σ vs) H' fun σ2 H2 => wipe σ2 vs = wipe σ vs ∧ tYes σ2 H2 fun b H3 => if b = true then te σ2 H3 fun y H4 => ∃ acc, H4 D = some (.lst acc) ∧ acc.length < sizeLine ∧ Nx (upd H4 D (.lst (acc ++ [y]))) else Nx H3) := by
  let Pv : Nat → Hp → Prop := fun i H => Same H1 H ∧ H D = some (.lst ((List.range i).map f))
  refine ⟨fun i m H => m = n - i ∧ i ≤ n ∧ Pv i H, ⟨n, rfl, Nat.zero_le _, same_new hD, upd_same⟩, ?_⟩
  rintro i m H ⟨rfl, hi, s1, e⟩
  by_cases hlt : i < n
  · refine .inr ⟨w.goes i H hlt (hG H s1), Pv (i + 1), fun H' p => ⟨n - (i + 1), by omega, rfl, hlt, p⟩, fun x H' y => ?_⟩
    refine hs i x H H' _ hlt s1 (w.yields i H x H' hlt (hG H s1) y) fun H4 s4 => ?_
    refine ⟨_, s4 _ _ e, ?_, same_mut (s1.trans s4) hD, ?_⟩
    · rw [List.length_map, List.length_range]
      exact small_sz5 (by omega)
    · rw [List.range_succ, List.map_append, upd_same]
      rfl
  · have : i = n := by omega
    subst this
    exact .inl ⟨w.stops H (hG H s1), hd H s1 e⟩
/-- over a range, each item drawn from the hand -/
theorem lc_drawn {α : Type} {K : PySem.W.Frag} {lo : Int} {n : Nat} {h d : Addr} {ds : List Int} {g : TG} {te : TE} {vs : List Nat} {σ : L2.St} {H1 : Hp} {D : Addr} {Qd : Hp → Prop} (enc : α → PyData) (R : α → Prop) (hE : ∀ e, R e → noL (enc e) = true) (hn : n ≤ 1000) (hH : Hand H1 h d ds) (hD : H1 D = none)
    (hs : ∀ (i : Nat) (x : V) (H : Hp) (Q : V → Hp → Prop), i < n → But h H1 H → Hand H h d ds → x = .int (lo + i) → (∀ y e H4, But h H H4 → Hand H4 h d ds → R e → Dp K H4 y (enc e) → Q y H4) → g x (wipe σ vs) H fun σ2 H2 => wipe σ2 vs = wipe σ vs ∧ te σ2 H2 Q)
    (hd : ∀ H ys (es : List α), But h H1 H → Hand H h d ds → H D = some (.lst ys) → D ≠ h → D ≠ d → DpAll K H ys (es.map enc) → es.length = n → (∀ e, e ∈ es → R e) → Qd H) :
    ∃ W : Nat → Nat → Hp → Prop, (∃ m, W 0 m (upd H1 D (.lst []))) ∧ ∀ i m H, W i m H → ((Itr lo n).stop i H ∧ Qd H) ∨ ((Itr lo n).go i H ∧ ∃ Nx : Hp → Prop, (∀ H', Nx H' → ∃ m', m' < m ∧ W (i + 1) m' H') ∧
      ∀ x H', (Itr lo n).yld i H x H' → g x (wipe σ vs) H' fun σ2 H2 => wipe σ2 vs = wipe σ vs ∧ tYes σ2 H2 fun b H3 => if b = true then te σ2 H3 fun y H4 => ∃ acc, H4 D = some (.lst acc) ∧ acc.length < sizeLine ∧ Nx (upd H4 D (.lst (acc ++ [y]))) else Nx H3) := by
  have w : Walk (Itr lo n) n (fun _ => True) (YFn fun i => .int (lo + i)) := walk_range
  have hDh := hand_ne hH hD
  have hDd := hand_ne2 hH hD
  let Pv : Nat → Hp → Prop := fun i H => But h H1 H ∧ Hand H h d ds ∧ ∃ (ys : List V) (es : List α), H D = some (.lst ys) ∧ DpAll K H ys (es.map enc) ∧ es.length = i ∧ ∀ e, e ∈ es → R e
  refine ⟨fun i m H => m = n - i ∧ i ≤ n ∧ Pv i H, ⟨n, rfl, Nat.zero_le _, (But.refl h H1).new hD, hH.upd hDh hDd, [], [], upd_same, .nil, rfl, fun _ h => nomatch h⟩, ?_⟩
  rintro i m H ⟨rfl, hi, b1, hh, ys, es, e, ha, hl, hR⟩
  by_cases hlt : i < n
  · refine .inr ⟨w.goes i H hlt trivial, Pv (i + 1), fun H' p => ⟨n - (i + 1), by omega, rfl, hlt, p⟩, fun x H' y => ?_⟩
    obtain ⟨rfl, hx⟩ := w.yields i H x H' hlt trivial y
    refine hs i x _ _ hlt b1 hh hx fun y e4 H4 b4 hh4 hr4 h4 => ?_
    have e5 := b4 _ _ hDh e
    obtain ⟨k, hk⟩ := hh.at_
    have all : ∀ es : List α, (∀ e, e ∈ es → R e) → noLs (es.map enc) = true := fun es => by
      induction es with
      | nil => exact fun _ => rfl
      | cons a r ih =>
        intro hr
        show (noL (enc a) && noLs (r.map enc)) = true
        rw [hE a (hr a List.mem_cons_self), ih fun e he => hr e (List.mem_cons_of_mem _ he)]
        rfl
    have hbut : But D H4 (upd H4 D (.lst (ys ++ [y]))) := fun b o hne e => (upd_ne hne).trans e
    refine ⟨ys, e5, ?_, (b1.trans b4).new hD, hh4.upd hDh hDd, ys ++ [y], es ++ [e4], upd_same, ?_, by rw [List.length_append, hl]; rfl, fun e he => ?_⟩
    · rw [dpa_len ha, List.length_map]
      exact small_sz5 (by omega)
    · rw [List.map_append]
      exact dpa_snoc (dpa_but e5 hbut _ _ (all es hR) (dpa_but hk b4 _ _ (all es hR) ha)) (dp_but e5 hbut _ _ (hE _ hr4) h4)
    · rcases List.mem_append.mp he with he | he
      · exact hR e he
      · rw [List.mem_singleton.mp he]
        exact hr4
  · have : i = n := by omega
    subst this
    exact .inl ⟨w.stops H trivial, hd H ys es b1 hh e hDh hDd ha hl hR⟩
theorem dp_mem {K : PySem.W.Frag} {H : Hp} {xs : List V} {α : Type} {es : List α} {enc : α → PyData} {j : Nat} (ha : DpAll K H xs (es.map enc)) (hj : j < es.length) : ∃ v, xs[j]? = some v ∧ Dp K H v (enc es[j]) :=
  dpa_get' (j := j) ha (by rw [List.getElem?_map, List.getElem?_eq_getElem hj]; rfl)
theorem range_fn {α β : Type} (xs : List α) (g : α → β) : (List.range xs.length).map (fun i => if h : i < xs.length then some (g xs[i]) else none) = xs.map fun x => some (g x) :=
  range_map xs (fun x => some (g x)) _ fun i x h => by
    obtain ⟨h1, h2⟩ := List.getElem?_eq_some_iff.mp h
    rw [dif_pos h1, h2]
end SW

namespace SW
open PySem PySem.Spec PyProof.Rows L2
/-! ### enumerate(xs) in a comprehension -/
theorem walk_enum {K : PySem.W.Frag} {a : Addr} {xs : List V} : Walk (Ite K a) xs.length (fun H => SqL K H a xs) (fun i H v H' => ∃ T x, v = .ref T ∧ H T = none ∧ H' = L2.upd H T (.tup [.int (i : Nat), x]) ∧ xs[i]? = some x) :=
  ⟨fun i _ hi q => ⟨xs, xs[i], q, by simp [hi]⟩, fun _ q => ⟨xs, q, Nat.le_refl _⟩, fun _ _ _ _ _ q y => by
    obtain ⟨T, x, h1, h2, h3, h4⟩ := y
    exact ⟨T, x, h1, h2, h3, h4 xs q⟩⟩
end SW

namespace SW
open PySem PySem.Spec PyProof.Rows L2
abbrev s_l_cell : Stmt := topS 27
theorem sc_l_cell : FnScope ["script", "k"] ["script", "k"] (defScope s_l_cell) := ⟨rfl, rfl, rfl, by decide +kernel, rfl, by decide +kernel, by decide +kernel⟩

abbrev s_l_draws : Stmt := topS 28
theorem sc_l_draws : FnScope ["script", "place", "sizes", "primes", "cell", "rest", "draws", "k", "first", "mixed"] ["script", "place", "sizes"] (defScope s_l_draws) := ⟨rfl, rfl, rfl, by decide +kernel, rfl, by decide +kernel, by decide +kernel⟩

section
variable {P : Program} {w : World} {K : PySem.W.Frag} {mg : PySem.Str → Option Value} {base : Heap}
def spCell (K : PySem.W.Frag) : Sp := fun vs H Q _ => ∃ (a : Addr) (ns : List Int) (k : Int), vs = [.ref a, .int k] ∧ SqL K H a (ns.map V.int) ∧ ∀ r : Int, Q (.int r) H
theorem ok_l_cell (T : TxB mg) (D_l_cell : Df K mg "_law_cell" s_l_cell ["script", "k"]) : FnOk P w K mg base CX0 1 D_l_cell.f D_l_cell.fd ["script", "k"] (spCell K) := by
  refine D_l_cell.F.ok sc_l_cell (fun vs H Q E h => ?_) (fun cdv A outer s H vs Q E hr h => ?_)
  · obtain ⟨a, ns, k, rfl, _⟩ := h
    rfl
  · obtain ⟨a, ns, k, rfl, hS, q⟩ := h
    refine ⟨_, (pss_cons (ps_if (pt_cmpR op_gt (pe_callB call_len_seq (by rfl) T.n_len PySem.boot_len (pa_cons (pv 0) pa_nil)) pe_int (nomark _))
    (pss_one (ps_ret (pe_ix ix_list (pv 0) (pe_op op_mod (pe_callTy call_int1 (by rfl) T.n_int (by decide +kernel) (pa_cons (pv 1) pa_nil)) (pe_callB call_len_seq (by rfl) T.n_len PySem.boot_len (pa_cons (pv 0) pa_nil))) (fun _ _ => rfl))))
    pss_nil)
    (pss_one (ps_ret pe_int))), ?_⟩
    refine ⟨_, rfl, a, _, rfl, .inl hS, _, _, rfl, rfl, _, rfl, ite2 (fun e => ?_) (fun e => q 0)⟩
    have e := of_decide_eq_true e
    rw [List.length_map] at e
    refine ⟨_, rfl, _, rfl, .inl ⟨_, rfl, _, rfl, a, _, rfl, .inl hS, _, _, rfl, rfl, by rw [List.length_map]; exact e, ?_⟩⟩
    rw [List.length_map]
    have hk0 : 0 ≤ k % (ns.length : Int) := Int.emod_nonneg _ (by omega)
    have hk1 : k % (ns.length : Int) < ns.length := Int.emod_lt_of_pos _ (by omega)
    dsimp only
    generalize k % (ns.length : Int) = z at hk0 hk1
    obtain ⟨j, rfl⟩ : ∃ j : Nat, z = j := ⟨z.toNat, by omega⟩
    exact ⟨a, _, _, _, rfl, rfl, hS, ints_at (by omega), q _⟩
def primesL : List V := [.int 2147483647, .int 998244353, .int 1000000007, .int 1000000009, .int 4294967291, .int 1073741789, .int 536870909, .int 2305843009213693951]
theorem prime_at {z : Int} (h0 : 0 ≤ z) (h1 : z < 8) : ∃ p : Int, atI primesL z = some (.int p) ∧ 0 < p ∧ p < 2 ^ 62 := by
  obtain ⟨j, rfl⟩ : ∃ j : Nat, z = j := ⟨z.toNat, by omega⟩
  match j, h1 with
  | 0, _ => exact ⟨_, atI_nat rfl, by decide, by decide⟩
  | 1, _ => exact ⟨_, atI_nat rfl, by decide, by decide⟩
  | 2, _ => exact ⟨_, atI_nat rfl, by decide, by decide⟩
  | 3, _ => exact ⟨_, atI_nat rfl, by decide, by decide⟩
  | 4, _ => exact ⟨_, atI_nat rfl, by decide, by decide⟩
  | 5, _ => exact ⟨_, atI_nat rfl, by decide, by decide⟩
  | 6, _ => exact ⟨_, atI_nat rfl, by decide, by decide⟩
  | 7, _ => exact ⟨_, atI_nat rfl, by decide, by decide⟩
  | n + 8, h => exact absurd h (by omega)
/-- each draw lies below its size -/
def Below (ds ss : List Int) : Prop := ∀ (j : Nat) (d s : Int), ds[j]? = some d → ss[j]? = some s → 0 ≤ d ∧ d < s
def spDr (K : PySem.W.Frag) : Sp := fun vs H Q _ => ∃ (a z : Addr) (ns ss : List Int) (p : Int), vs = [.ref a, .int p, .ref z] ∧ SqL K H a (ns.map V.int) ∧ 0 ≤ p ∧ p ≤ 1000 ∧ SqL K H z (ss.map V.int) ∧ ss.length ≤ 1000 ∧ (∀ s, s ∈ ss → 0 < s ∧ s.natAbs < 2 ^ 200) ∧
  ∀ D ds H', ds.length = ss.length → Below ds ss → Same H H' → H D = none → H' D = some (.lst (ds.map V.int)) → Q (.ref D) H'
theorem ok_l_draws (T : TxB mg) (D_l_draws : Df K mg "_law_draws" s_l_draws ["script", "place", "sizes"]) (D_l_cell : Df K mg "_law_cell" s_l_cell ["script", "k"]) (G_l_cell : FnOk P w K mg base CX0 1 D_l_cell.f D_l_cell.fd ["script", "k"] (spCell K)) : FnOk P w K mg base CX0 2 D_l_draws.f D_l_draws.fd ["script", "place", "sizes"] (spDr K) := by
  refine D_l_draws.F.ok sc_l_draws (fun vs H Q E h => ?_) (fun cdv A outer s H vs Q E hr h => ?_)
  · obtain ⟨a, z, ns, ss, p, rfl, _⟩ := h
    rfl
  · obtain ⟨a, z, ns, ss, p, rfl, hS, hp0, hp7, hz, hzl, hsz, q⟩ := h
    have hml : (ss.map V.int).length = ss.length := List.length_map _
    refine ⟨_, (pss_cons (ps_set (i := 3) sc_l_draws.nd rfl (.inl rfl) (pe_lst (pa_cons pe_int (pa_cons pe_int (pa_cons pe_int (pa_cons pe_int (pa_cons pe_int (pa_cons pe_int (pa_cons pe_int (pa_cons pe_int pa_nil))))))))))
    (pss_cons (ps_set (i := 4) sc_l_draws.nd rfl (.inl rfl) (pe_callB call_abs (by rfl) T.n_abs (by decide +kernel) (pa_cons (pe_call G_l_cell (hr.mono (by decide)) (by rfl) D_l_cell.g D_l_cell.F.kp D_l_cell.b .nil pass0 (pa_cons (pv 0) (pa_cons (pv 1) pa_nil))) pa_nil)))
    (pss_cons (ps_set (i := 5) sc_l_draws.nd rfl (.inl rfl) pe_int)
    (Evl.pss_cut (ps_if (pt_cmpR op_ge (pv 4) (pe_op op_pow pe_int pe_int) (nomark _))
    (pss_one (ps_set (i := 5) sc_l_draws.nd rfl (.inl rfl) (pv 4)))
    pss_nil)
    (pss_cons (ps_set (i := 6) sc_l_draws.nd rfl (.inl rfl) (pe_lst pa_nil))
    (pss_cons (ps_for PassesOwn.never rfl (pi_range1 (by rfl) T.n_range (pa_cons (pe_callB call_len_seq (by rfl) T.n_len PySem.boot_len (pa_cons (pv 2) pa_nil)) pa_nil)) (pg_name (i := 7) sc_l_draws.nd rfl (.inl rfl))
    (pss_one (ps_if (pt_cmpR op_gt (pv 5) pe_int (nomark _))
    (pss_cons (ps_expr (pe_bm PySem.F.plainAttrs_list PySem.F.slot_list_append PySem.F.type_list_append mt_append (pv 6) (pa_cons (pe_op op_mod (pe_callTy call_int1 (by rfl) T.n_int (by decide +kernel) (pa_cons (pv 5) pa_nil)) (pe_ix ix_list (pv 2) (pv 7) (fun _ _ => rfl))) pa_nil)))
    (pss_one (ps_set (i := 5) sc_l_draws.nd rfl (.inl rfl) (pe_op op_fdivW (pv 5) (pe_ix ix_list (pv 2) (pv 7) (fun _ _ => rfl))))))
    (pss_cons (ps_set (i := 8) sc_l_draws.nd rfl (.inl rfl) (pe_op op_mod (pe_callTy call_int1 (by rfl) T.n_int (by decide +kernel) (pa_cons (pe_op op_add (pe_op op_mul (pe_op op_add (pe_op op_add (pe_op op_add (pv 4) pe_int) (pe_op op_mul pe_int (pv 1))) (pv 7)) pe_int) (pe_op op_mul pe_int (pv 7))) pa_nil)) (pe_ix ix_list (pv 3) (pe_op op_mod (pv 7) pe_int) (fun _ _ => rfl))))
    (pss_cons (ps_set (i := 9) sc_l_draws.nd rfl (.inl rfl) (pe_op op_mod (pe_callTy call_int1 (by rfl) T.n_int (by decide +kernel) (pa_cons (pe_op op_add (pe_op op_add (pe_op op_mul (pv 8) (pv 8)) (pe_op op_mul pe_int (pv 7))) (pv 1)) pa_nil)) (pe_ix ix_list (pv 3) (pe_op op_mod (pe_op op_add (pv 7) pe_int) pe_int) (fun _ _ => rfl))))
    (pss_cons (ps_set (i := 9) sc_l_draws.nd rfl (.inl rfl) (pe_op op_mod (pe_callTy call_int1 (by rfl) T.n_int (by decide +kernel) (pa_cons (pe_op op_add (pe_op op_add (pe_op op_mul (pv 9) pe_int) (pe_op op_mul (pv 8) pe_int)) (pv 7)) pa_nil)) (pe_ix ix_list (pv 3) (pe_op op_mod (pe_op op_add (pv 7) pe_int) pe_int) (fun _ _ => rfl))))
    (pss_one (ps_expr (pe_bm PySem.F.plainAttrs_list PySem.F.slot_list_append PySem.F.type_list_append mt_append (pv 6) (pa_cons (pe_op op_mod (pe_callTy call_int1 (by rfl) T.n_int (by decide +kernel) (pa_cons (pe_op op_fdivW (pv 9) pe_int) pa_nil)) (pe_ix ix_list (pv 2) (pv 7) (fun _ _ => rfl))) pa_nil))))))))))
    (pss_one (ps_ret (pv 6))))))))), ?_⟩
    -- primes
    refine ⟨by show 8 ≤ sizeLine; decide, fun pr hpr => ?_⟩
    have s1 := same_new (o := .lst primesL) hpr
    -- cell, rest
    refine ⟨_, rfl, _, rfl, a, ns, p, rfl, s1.seq hS, fun r => ⟨r, rfl, ?_⟩⟩
    generalize (if r < 0 then -r else r) = c
    refine ⟨fun σ' H' => ∃ y5 : Int, σ' = [some (.ref a), some (.int p), some (.ref z), some (.ref pr), some (.int c), some (.int y5), none, none, none, none] ∧ H' = upd H pr (.lst primesL), ?_, ?_⟩
    · refine ⟨_, rfl, _, _, rfl, rfl, ⟨by decide, by decide, by decide⟩, _, _, rfl, rfl, _, rfl, ite2 (fun e => ?_) (fun e => ?_)⟩
      · exact ⟨_, rfl, _, rfl, rfl⟩
      · exact ⟨_, rfl, rfl⟩
    · intro σ' H' hN
      obtain ⟨y5, rfl, rfl⟩ := hN
      -- draws = []
      refine ⟨Nat.zero_le _, fun D hD => ?_⟩
      have s2 := s1.trans (same_new (o := .lst []) hD)
      have hDH : H D = none := s1.free hD
      refine ⟨_, rfl, z, _, rfl, .inl (s2.seq hz), _, rfl, by omega, by rw [hml]; omega, ?_⟩
      rw [hml]
      have ne : pr ≠ D := ne_of_none upd_same hD
      refine for_range (lo := 0) (n := ((ss.length : Nat) : Int).toNat) (fun i σ H2 => ∃ (y5 : Int) (y7 y8 y9 : Option V) (ds : List Int), σ = [some (.ref a), some (.int p), some (.ref z), some (.ref pr), some (.int c), some (.int y5), some (.ref D), y7, y8, y9] ∧ ds.length = i ∧ Below ds ss ∧ Same H H2 ∧ H2 pr = some (.lst primesL) ∧ H2 D = some (.lst (ds.map V.int)))
        ⟨y5, _, _, _, [], rfl, rfl, (fun _ _ _ h _ => nomatch h : Below [] ss), s2, (upd_ne ne).trans upd_same, upd_same⟩ (fun i σ H2 hi hP => ?_) (fun σ H2 hP => ?_)
      · obtain ⟨y5, y7, y8, y9, ds, rfl, hl, hb, s3, e3, e4⟩ := hP
        have hi' : i < ss.length := by omega
        have ei : (0 : Int) + (i : Nat) = (i : Nat) := by omega
        have hz2 := s3.seq hz
        have zat : atI (ss.map V.int) ((0 : Int) + (i : Nat)) = some (.int ss[i]) := by
          rw [ei]
          exact ints_at hi'
        obtain ⟨p0, p1⟩ := hsz _ (List.getElem_mem hi')
        have grow : ∀ d : Int, 0 ≤ d → d < ss[i] → Below (ds ++ [d]) ss := fun d d0 d1 j d' s' g1 g2 => by
          by_cases hj : j < ds.length
          · rw [List.getElem?_append_left hj] at g1
            exact hb j d' s' g1 g2
          · rw [List.getElem?_append_right (by omega)] at g1
            have hj0 : j = ds.length := by
              refine Classical.byContradiction fun hne => ?_
              obtain ⟨m, hm⟩ : ∃ m, j - ds.length = m + 1 := ⟨j - ds.length - 1, by omega⟩
              rw [hm] at g1
              cases g1
            subst hj0
            rw [Nat.sub_self] at g1
            cases g1
            have g2' : ss[ds.length]? = some ss[i] := by
              rw [hl]
              exact List.getElem?_eq_getElem hi'
            rw [g2'] at g2
            cases g2
            exact ⟨d0, d1⟩
        refine ⟨_, rfl, _, _, rfl, rfl, _, rfl, ite2 (fun e => ?_) (fun e => ?_)⟩
        · refine ⟨_, rfl, .inl ⟨rfl, _, SqL.of e4⟩, _, rfl, .inl ⟨_, rfl, _, rfl, _, rfl, z, _, _, _, rfl, rfl, hz2, zat, _, _, rfl, rfl, p0, ?_⟩⟩
          refine ⟨D, _, _, rfl, rfl, e4, by rw [List.length_map]; exact small_sz5 (by omega), ?_⟩
          have b1 : 0 ≤ y5 % ss[i] := Int.emod_nonneg _ (by omega)
          have b2 : y5 % ss[i] < ss[i] := Int.emod_lt_of_pos _ p0
          dsimp only
          generalize y5 % ss[i] = d at b1 b2
          have s4 : Same H (upd H2 D (.lst (ds.map V.int ++ [.int d]))) := same_mut s3 hDH
          refine ⟨_, rfl, _, rfl, _, rfl, z, _, _, _, rfl, rfl, s4.seq hz, zat, _, _, rfl, rfl, wide_div p0 p1 (by decide) (by decide), ?_⟩
          exact ⟨_, _, _, _, ds ++ [d], rfl, by rw [List.length_append, hl]; rfl, grow d b1 b2, s4, (upd_ne ne).trans e3, by rw [upd_same, List.map_append]; rfl⟩
        · have hp : SqL K H2 pr primesL := SqL.of e3
          have m8 : ∀ x : Int, 0 ≤ x % 8 ∧ x % 8 < 8 := fun x => ⟨Int.emod_nonneg _ (by decide), Int.emod_lt_of_pos _ (by decide)⟩
          obtain ⟨q1, qa, qb, qc⟩ := prime_at (m8 (0 + (i : Nat))).1 (m8 _).2
          obtain ⟨q2, qd, qe, qf⟩ := prime_at (m8 (0 + (i : Nat) + 3)).1 (m8 _).2
          obtain ⟨q3, qg, qh, qi⟩ := prime_at (m8 (0 + (i : Nat) + 5)).1 (m8 _).2
          refine ⟨_, rfl, _, _, rfl, rfl, _, rfl, _, _, rfl, rfl, .inl ⟨by decide, by decide⟩, _, _, rfl, rfl, _, rfl, _, _, rfl, rfl, _, _, rfl, rfl, .inr ⟨by decide, by decide⟩, _, rfl, _, _, rfl, rfl, .inl ⟨by decide, by decide⟩, _, _, rfl, rfl, .inl ⟨_, rfl, ?_⟩⟩
          refine ⟨_, rfl, _, rfl, _, _, rfl, rfl, (by show (0 : Int) < _; decide), pr, _, _, _, rfl, rfl, hp, qa, _, _, rfl, rfl, qb, ?_⟩
          have a1 := Int.emod_nonneg ((c + 1 + 31 * p + (0 + (i : Nat))) * 48271 + 69621 * (0 + (i : Nat))) (show q1 ≠ 0 by omega)
          have a2 := Int.emod_lt_of_pos ((c + 1 + 31 * p + (0 + (i : Nat))) * 48271 + 69621 * (0 + (i : Nat))) qb
          dsimp only
          generalize ((c + 1 + 31 * p + (0 + (i : Nat))) * 48271 + 69621 * (0 + (i : Nat))) % q1 = x at a1 a2
          -- mixed
          refine ⟨_, rfl, _, rfl, _, _, rfl, rfl, .inl ⟨by omega, by omega⟩, _, rfl, _, _, rfl, rfl, .inl ⟨by decide, by decide⟩, _, _, rfl, rfl, _, rfl, _, _, rfl, rfl, .inl ⟨_, rfl, ?_⟩⟩
          refine ⟨_, rfl, _, rfl, _, _, rfl, rfl, _, _, rfl, rfl, (by show (0 : Int) < _; decide), pr, _, _, _, rfl, rfl, hp, qd, _, _, rfl, rfl, qe, ?_⟩
          dsimp only
          generalize (x * x + 16807 * (0 + (i : Nat)) + p) % q2 = y
          refine ⟨_, rfl, _, _, rfl, rfl, .inr ⟨by decide, by decide⟩, _, rfl, _, _, rfl, rfl, .inr ⟨by decide, by decide⟩, _, _, rfl, rfl, _, rfl, _, _, rfl, rfl, .inl ⟨_, rfl, ?_⟩⟩
          refine ⟨_, rfl, _, rfl, _, _, rfl, rfl, _, _, rfl, rfl, (by show (0 : Int) < _; decide), pr, _, _, _, rfl, rfl, hp, qg, _, _, rfl, rfl, qh, ?_⟩
          dsimp only
          generalize (y * 69621 + x * 16807 + (0 + (i : Nat))) % q3 = u
          refine ⟨_, rfl, .inl ⟨rfl, _, SqL.of e4⟩, _, rfl, _, _, rfl, rfl, wide_div (b := 5) (by decide) (by decide) (by decide) (by decide), .inl ⟨_, rfl, ?_⟩⟩
          refine ⟨_, rfl, _, rfl, z, _, _, _, rfl, rfl, hz2, zat, _, _, rfl, rfl, p0, ?_⟩
          refine ⟨D, _, _, rfl, rfl, e4, by rw [List.length_map]; exact small_sz5 (by omega), ?_⟩
          have b1 : 0 ≤ u / 16 % ss[i] := Int.emod_nonneg _ (by omega)
          have b2 : u / 16 % ss[i] < ss[i] := Int.emod_lt_of_pos _ p0
          exact ⟨_, _, _, _, ds ++ [u / 16 % ss[i]], rfl, by rw [List.length_append, hl]; rfl, grow _ b1 b2, same_mut s3 hDH, (upd_ne ne).trans e3, by rw [upd_same, List.map_append]; rfl⟩
      · obtain ⟨y5, y7, y8, y9, ds, rfl, hl, hb, s3, e3, e4⟩ := hP
        exact ⟨_, rfl, q D ds H2 (by omega) hb s3 hDH e4⟩
end
end SW

namespace SW
open PySem PySem.Spec PyProof.Rows L2
/-! ### the shown text of small data -/
mutual
def smS : PyData → Bool
  | .none => true
  | .bool _ => true
  | .int i => decide (i.natAbs < 10 ^ 60)
  | .str x => decide ((PyData.shown (.str x)).length ≤ 70)
  | .list ds => smSs ds
  | .tuple ds => smSs ds
  | _ => false
def smSs : List PyData → Bool
  | [] => true
  | d :: r => smS d && smSs r
end
mutual
def shS : PyData → Nat
  | .list ds => shSs ds + 10
  | .tuple ds => shSs ds + 10
  | _ => 70
def shSs : List PyData → Nat
  | [] => 0
  | d :: r => shS d + 10 + shSs r
end
theorem of_len (z : String) : (Str.ofString z).length = z.toList.length := by
  rw [TL.len_tl]
  rw [TL.tl_ofString, List.length_map]
theorem int_len (i : Int) (h : i.natAbs < 10 ^ 60) : (Str.ofString (toString i)).length ≤ 70 := by
  rw [of_len]
  show (Int.repr i).toList.length ≤ 70
  have key : ∀ n : Nat, n < 10 ^ 60 → n.repr.toList.length ≤ 60 := fun n hn => by
    have := (Nat.length_repr_le_iff (n := n) (k := 60) (by decide)).mpr hn
    exact this
  cases i with
  | ofNat n =>
    have := key n (by simpa using h)
    show (Nat.repr n).toList.length ≤ 70
    omega
  | negSucc n =>
    have := key (n + 1) (by simpa using h)
    show ("-" ++ Nat.repr (n + 1)).toList.length ≤ 70
    rw [String.toList_append, List.length_append]
    have : "-".toList.length = 1 := rfl
    omega
theorem tf_len : ∀ (ts : List PySem.Str) (k : Nat) (acc : PySem.Str), (textFrom k acc ts).length ≤ acc.length + (ts.map fun t => t.length + 2).sum
  | [], _, _ => Nat.le_add_right _ _
  | t :: r, k, acc => by
    have h := tf_len r (k + 1) (acc ++ Str.ofString (if k > 0 then ", " else "") ++ t)
    show (textFrom (k + 1) (acc ++ Str.ofString (if k > 0 then ", " else "") ++ t) r).length ≤ _
    rw [app_len, app_len] at h
    rw [List.map_cons, List.sum_cons]
    have h2 : (Str.ofString (if k > 0 then ", " else "")).length ≤ 2 := by
      by_cases hk : k > 0
      · rw [if_pos hk]
        decide
      · rw [if_neg hk]
        decide
    omega
theorem jn_len (z : PySem.Str) (hz : z.length ≤ 2) : ∀ ts : List PySem.Str, (Str.join z ts).length ≤ (ts.map fun t => t.length + 2).sum
  | [] => Nat.zero_le _
  | [x] => by
    show x.length ≤ (x.length + 2) + 0
    omega
  | x :: y :: r => by
    have h := jn_len z hz (y :: r)
    show (x ++ z ++ Str.join z (y :: r)).length ≤ _
    rw [app_len, app_len, List.map_cons, List.sum_cons]
    omega
mutual
theorem smS_shown : ∀ d : PyData, smS d = true → d.showable = true ∧ d.hasDict = false ∧ d.shown.length ≤ shS d
  | .none, _ => ⟨rfl, rfl, by decide⟩
  | .bool b, _ => ⟨rfl, rfl, by cases b <;> decide⟩
  | .int i, h => by
    have h := of_decide_eq_true (by unfold smS at h; exact h)
    refine ⟨decide_eq_true ?_, rfl, int_len i h⟩
    refine Nat.lt_of_le_of_lt (m := 200) ?_ (by decide)
    by_cases h0 : i.natAbs = 0
    · rw [h0]
      decide
    · refine Nat.le_of_lt ((Nat.log2_lt h0).mpr (Nat.lt_of_lt_of_le h (by decide)))
  | .list ds, h => by
    have ⟨h1, h2, h3⟩ := smSs_shown ds (by unfold smS at h; exact h)
    refine ⟨h1, h2, ?_⟩
    show (listText (PyData.shownAll ds)).length ≤ shSs ds + 10
    unfold listText
    rw [app_len]
    have := tf_len (PyData.shownAll ds) 0 (Str.ofString "[")
    have e1 : (Str.ofString "[").length = 1 := rfl
    have e2 : (Str.ofString "]").length = 1 := rfl
    omega
  | .tuple ds, h => by
    have ⟨h1, h2, h3⟩ := smSs_shown ds (by unfold smS at h; exact h)
    refine ⟨h1, h2, ?_⟩
    show (tupleText (PyData.shownAll ds)).length ≤ shSs ds + 10
    unfold tupleText
    rw [app_len, app_len]
    have := jn_len (Str.ofString ", ") (by decide) (PyData.shownAll ds)
    have e1 : (Str.ofString "(").length = 1 := rfl
    have e2 : (Str.ofString (if ((PyData.shownAll ds).length == 1) = true then ",)" else ")")).length ≤ 2 := by
      by_cases hk : ((PyData.shownAll ds).length == 1) = true
      · rw [if_pos hk]
        decide
      · rw [if_neg hk]
        decide
    omega
  | .str x, h => ⟨rfl, rfl, of_decide_eq_true (by unfold smS at h; exact h)⟩
  | .dict _, h => by
    unfold smS at h
    cases h
theorem smSs_shown : ∀ ds : List PyData, smSs ds = true → PyData.showableAll ds = true ∧ PyData.hasDictAll ds = false ∧ ((PyData.shownAll ds).map fun t => t.length + 2).sum ≤ shSs ds
  | [], _ => ⟨rfl, rfl, Nat.le_refl _⟩
  | d :: r, h => by
    unfold smSs at h
    rw [Bool.and_eq_true] at h
    have ⟨a1, a2, a3⟩ := smS_shown d h.1
    have ⟨b1, b2, b3⟩ := smSs_shown r h.2
    refine ⟨?_, ?_, ?_⟩
    · show (d.showable && PyData.showableAll r) = true
      rw [a1, b1]
      rfl
    · show (d.hasDict || PyData.hasDictAll r) = false
      rw [a2, b2]
      rfl
    · show ((d.shown :: PyData.shownAll r).map fun t => t.length + 2).sum ≤ shS d + 10 + shSs r
      rw [List.map_cons, List.sum_cons]
      omega
end
theorem smSs_map {α : Type} (f : α → PyData) : ∀ xs : List α, (∀ x, x ∈ xs → smS (f x) = true) → smSs (xs.map f) = true
  | [], _ => rfl
  | x :: r, h => by
    show (smS (f x) && smSs (r.map f)) = true
    rw [h x List.mem_cons_self, smSs_map f r fun y hy => h y (List.mem_cons_of_mem _ hy)]
    rfl
theorem shSs_map {α : Type} (f : α → PyData) (b : Nat) : ∀ xs : List α, (∀ x, x ∈ xs → shS (f x) ≤ b) → shSs (xs.map f) ≤ xs.length * (b + 10)
  | [], _ => Nat.zero_le _
  | x :: r, h => by
    have h1 := h x List.mem_cons_self
    have h2 := shSs_map f b r fun y hy => h y (List.mem_cons_of_mem _ hy)
    show shS (f x) + 10 + shSs (r.map f) ≤ (r.length + 1) * (b + 10)
    rw [Nat.add_mul]
    omega
theorem depthS_map {α : Type} (f : α → PyData) (b : Nat) : ∀ xs : List α, (∀ x, x ∈ xs → (f x).depth ≤ b) → PyData.depthAll (xs.map f) ≤ b
  | [], _ => Nat.zero_le _
  | x :: r, h => by
    have h1 := h x List.mem_cons_self
    have h2 := depthS_map f b r fun y hy => h y (List.mem_cons_of_mem _ hy)
    show max (f x).depth (PyData.depthAll (r.map f)) ≤ b
    omega
def rReprS (K : PySem.W.Frag) : List V → Hp → VK → Prop := fun vs H Q => (∃ (a : Addr) (d : PyData), vs = [.ref a] ∧ Dp K H (.ref a) d ∧ smS d = true ∧ d.depth ≤ 60 ∧ shS d ≤ sizeLine ∧ Q (.str d.shown) H) ∨ ∃ i : Int, vs = [.int i] ∧ i.natAbs.log2 < 1920 ∧ Q (.str (toString i)) H
theorem call_reprS {X : Cx} (hg : X.A.guards = some []) (hu : X.A.units + 64 < cLine) : CallR X (.builtin "repr") (rReprS X.K) := by
  intro pins s σ H xs us Q I r h
  rcases h with ⟨a, d, rfl, hd, sm, dp, sz, q⟩ | ⟨i, h1, h2, h3⟩
  · cases r with
    | cons r1 r2 =>
      cases r2
      cases r1
      obtain ⟨as, rd⟩ := Dp.reads I d _ _ hd rfl
      have ⟨h1, h2, h3⟩ := smS_shown d sm
      exact repr_of_reads' rd h1 (PyData.noDict_hsm h2) hg (by omega) (fun _ _ e => e) (fun h' u tk hk => ⟨.str _, H, I.kept hk, ⟨u, rfl⟩, q⟩) (Nat.le_trans h3 sz)
  · exact SkE.call_repr_int pins s σ H xs us Q I r ⟨i, h1, h2, h3⟩
end SW

namespace SW
open PySem PySem.Spec PyProof.Rows L2
/-! ### list(d) of a dict with nested keys -/
def KeysN (K : PySem.W.Frag) (H : Hp) (kvs : List (NestedKey × V)) (bs : List Addr) : Prop := Paired (fun (p : NestedKey × V) (b : Addr) => Dp K H (.ref b) p.1.data) kvs bs
theorem keysN_of {K : PySem.W.Frag} {H : Hp} {kvs : List (NestedKey × V)} {xs : List (NestedKey × Addr × Value)} (r : Paired (NPair K H) kvs xs) : KeysN K H kvs (xs.map fun x => x.2.1) := by
  unfold KeysN
  induction r with
  | nil => exact .nil
  | cons h t ih => exact .cons h.2.1 ih
def rListN (P : Program) (w : World) (K : PySem.W.Frag) : List V → Hp → VK → Prop := fun xs H Q => ∃ d kvs, xs = [V.ref d] ∧ DN P w K H d kvs ∧ ∀ p bs, H p = none → KeysN K H kvs bs → Q (.ref p) (upd H p (.lst (bs.map V.ref)))
theorem call_list_dN {X : Cx} (hc : X.calm = true) : CallR X (.type "list") (rListN X.prog X.w X.K) := by
  intro pins s σ H xs us Q I r h
  obtain ⟨d, kvs, rfl, D, q⟩ := h
  obtain ⟨u, rfl, rx⟩ := r.one
  cases rx
  obtain ⟨o, es, ep, ks, e0, hx, hdt, he, hn, pr⟩ := D.ob
  obtain ⟨ho, _, _⟩ := (show ObjOk X.prog X.w H s.heap d (ExO o d) from I.hok d _ e0)
  have l1 : es.size = ks.length := size_of_entries he
  have l2 : kvs.length = ks.length := paired_len pr
  have z := D.ln
  refine PySem.W.kdl_call (kdl_raw D.sm hx hdt) (I.ok.hd hc) ho (by omega) fun h' tk acc' c' kp e it => ?_
  have ea : acc'.toList = ks.map fun x => Value.ref x.2.1 := by
    have hl : acc'.toList.length = ks.length := by rw [Array.length_toList, it.1]; exact l1
    apply List.ext_getElem?
    intro j
    rw [List.getElem?_map]
    cases hj : acc'.toList[j]? with
    | none =>
      have h1 := List.getElem?_eq_none_iff.mp hj
      rw [List.getElem?_eq_none (by omega)]
      all_goals rfl
    | some v =>
      obtain ⟨en, hen, hv⟩ := it.2 j v (by rw [← Array.getElem?_toList]; exact hj)
      have qe := entry_at he j
      rw [hen] at qe
      cases hb : ks[j]? with
      | none =>
        rw [hb] at qe
        exact nomatch (show some en = none from qe)
      | some b =>
        rw [hb] at qe
        have e2 : en = entryOfKey (nestedKind X.prog X.w) b := Option.some.inj qe
        rw [hv, e2]
        all_goals rfl
  have eb : acc'.toList = (ks.map fun x => x.2.1).map Value.ref := by rw [ea, List.map_map]; all_goals rfl
  have rv : Vals ((ks.map fun x => x.2.1).map V.ref) acc'.toList := by rw [eb]; exact vals_refs _
  have hz : ((ks.map fun x => x.2.1).map V.ref).length ≤ sizeLine := by rw [List.length_map, List.length_map]; omega
  refine ⟨.ref s.heap.objs.size, _, I.laid (t' := tk) (o := .lst ((ks.map fun x => x.2.1).map V.ref)) kp (Nat.le_refl _) ?_, rfl, q _ _ (I.hok.fresh (Nat.le_refl _)) (keysN_of pr)⟩
  exact ⟨hz, acc'.toList, c', rv, by rw [Array.toArray_toList]; exact e⟩
end SW

namespace SW
open PySem PySem.Spec PyProof.Rows L2
/-! ### a call of a def whose promise wants the guards -/
section
variable {X : Cx} {CX : CXT} {k : Nat} {f : Addr} {fd : FuncData} {ps : List PySem.Str} {sp : Sp} {dvs : List V} {ds : List Value} {E : XK}
theorem run_fnG {pins : List (Addr × Obj)} {σ : L2.St} {H : Hp} {s : Shared} {Q : VK} {us : List Value} {vs : List V} (gd : X.A.guards = some []) (len : ∀ vs H Q E, sp vs H Q E → vs.length = ps.length) (F : FnOkG X.prog X.w X.K X.mg X.base CX k f fd ps sp) (hr : Room k X.A) (hb : Binds X.K fd ps ds) (hd : Vals dvs ds) (hx : Passes CX X E)
    (I : Inv X pins σ H s) (r : Vals vs us) (h : sp (vs ++ dvs) H Q E) : wpAny (model X.prog X.w) X.A (call (.ref f) us) (EP X pins σ Q) X.xe s := by
  have r2 : Vals (vs ++ dvs) (us ++ ds) := r.append hd
  have hl : (us ++ ds).length = ps.length := by
    rw [← r2.length]
    exact len _ _ _ _ h
  refine wpAny_call (codeAny_mono (F.run X.A X.stack s H ⟨us, []⟩ (us ++ ds) (vs ++ dvs) Q E gd hr I.env0 (hb s us I.kIn hl) r2 h) fun r s' hq => ?_)
  cases r with
  | error e => exact hx pins σ H s e s' I hq
  | ok fl =>
    cases fl with
    | ret u => exact I.after hq
    | next => exact False.elim hq
    | brk => exact False.elim hq
    | cont => exact False.elim hq
theorem pe_callG {x : PySem.Str} {p pos : Pos} {e : Expr} {es : List Expr} {t : TA} (gd : X.A.guards = some []) (len : ∀ vs H Q E, sp vs H Q E → vs.length = ps.length) (F : FnOkG X.prog X.w X.K X.mg X.base CX k f fd ps sp) (hr : Room k X.A) (hg : Gl X x) (hm : X.mg x = some (.ref f)) (hk : PySem.W.keepIn X.K (.ref f) = true) (hb : Binds X.K fd ps ds) (hd : Vals dvs ds) (hx : Passes CX X E)
    (ha : PA X (e :: es) t) (hdb : (x == ("__debug__" : PySem.Str)) = false := by decide) (he : starEach (e :: es) X.env = (false, eval e X.env) :: starEach es X.env := by rfl) (hpl : (backTo pos (starEach es X.env)).any (·.1) = false := by rfl) :
    PE X (.Call (.Name x p) (e :: es) [] pos) (tCall sp dvs E t) := by
  refine ⟨fun pins s σ H Q I h => ?_⟩
  refine wpAny_Call_Name_kw (ld_glob I hg hm ?_ hdb)
  refine PySem.W.callWith_K (h₀ := X.base) I.ok.mod.kin hk (thn (ha.run pos pins s σ H _ I h) fun us s1 ⟨vs, H1, I1, r, q⟩ => ⟨I1.kIn, ?_⟩) he hpl
  exact run_fnG gd len F hr hb hd hx I1 r q
end
end SW

namespace SW
open PySem PySem.Spec PyProof.Rows L2
/-! ### t + u and t[a:b] of tuples, whatever object comes of it -/
section
variable {X : Cx}
def rCatB (K : PySem.W.Frag) : R2 := fun x y H Q => ∃ a b xs ys, x = .ref a ∧ y = .ref b ∧ SqT K H a xs ∧ SqT K H b ys ∧ xs.length + ys.length ≤ sizeLine ∧ ∀ p H', Same H H' → SqT K H' p (xs ++ ys) → Q (.ref p) H'
theorem op_catB : OpR X (binaryOp .Add) (rCatB X.K) := by
  intro pins s σ H x y v u Q I rx ry h
  obtain ⟨a, b, xs, ys, h1, h2, h3, h4, h5, q⟩ := h
  refine op_catA pins s σ H x y v u Q I rx ry ⟨a, b, xs, ys, h1, h2, h3, h4, h5, fun e => ?_, fun _ e => ?_, fun _ _ p np => ?_⟩
  · subst e
    exact q b H (Same.refl _) h4
  · subst e
    refine q a H (Same.refl _) ?_
    rw [List.append_nil]
    exact h3
  · exact q p _ (same_new np) (SqT.of upd_same)
def rSlB (K : PySem.W.Frag) : V → Option Int → Option Int → Hp → VK → Prop := fun x lo hi H Q => ∃ a xs, x = .ref a ∧ SqT K H a xs ∧ ∀ p H', Same H H' → SqT K H' p (cutV xs lo hi) → Q (.ref p) H'
theorem sl_tupB : SlR X (rSlB X.K) := by
  intro pins s σ H x v vl vu lo hi sl Q I rx hs pl pu h
  obtain ⟨a, xs, h1, h2, q⟩ := h
  refine sl_tupA pins s σ H x v vl vu lo hi sl Q I rx hs pl pu ⟨a, xs, h1, h2, fun e => ?_, fun _ p np => ?_⟩
  · refine q a H (Same.refl _) ?_
    unfold cutV
    rw [e.1, e.2, List.drop_zero, Nat.sub_zero, List.take_length]
    exact h2
  · exact q p _ (same_new np) (SqT.of upd_same)
end
theorem cut_m1 (xs : List V) (v : V) : cutV (xs ++ [v]) none (some (-1)) = xs := by
  unfold cutV
  have e : HT.sIx (xs ++ [v]).length (xs ++ [v]).length (some (-1)) = xs.length := by
    show (if (-1 : Int) < 0 then ((-1 : Int) + ((xs ++ [v]).length : Int)).toNat else min (-1 : Int).toNat (xs ++ [v]).length) = _
    rw [if_pos (by decide), List.length_append]
    show ((-1 : Int) + ((xs.length + 1 : Nat) : Int)).toNat = _
    omega
  rw [e, HT.sIx_none, List.drop_zero, Nat.sub_zero, List.take_left]
theorem dpa_split {K : PySem.W.Frag} {H : Hp} : ∀ {ds es : List PyData} {xs : List V}, DpAll K H xs (ds ++ es) → ∃ ys zs, xs = ys ++ zs ∧ DpAll K H ys ds ∧ DpAll K H zs es
  | [], _, xs, h => ⟨[], xs, rfl, .nil, h⟩
  | d :: ds, es, _, .cons h1 h2 => by
    obtain ⟨ys, zs, e, h3, h4⟩ := dpa_split h2
    exact ⟨_ :: ys, zs, by rw [e]; rfl, .cons h1 h3, h4⟩
end SW

namespace SW
open PySem PySem.Spec PyProof.Rows L2
/-! ### forms, lists, cells -/
abbrev Fm := Int × Int
def f2 (f : Fm) : PyData := .tuple [.int f.1, .int f.2]
inductive Ld where
  | new (l : Fm)
  | wr (o : Nat) (i v : Fm)
def Ld.enc : Ld → PyData
  | .new l => .tuple [.str "new", f2 l]
  | .wr o i v => .tuple [.str "written", .int o, f2 i, f2 v]
structure Ce where
  n : Nat
  i : Fm
  v : Fm
def Ce.enc (c : Ce) : PyData := .tuple [.int c.n, f2 c.i, f2 c.v]
def wo (vs : List Int) (f : Fm) : Int := if f.1 = 0 then f.2 else vs.getD (f.1 - 1).toNat 0 + f.2
def fok (n : Nat) (f : Fm) : Prop := 0 ≤ f.1 ∧ f.1 ≤ n
def Ld.ok (m j : Nat) : Ld → Prop
  | .new l => fok m l
  | .wr o i v => o < j ∧ fok m i ∧ fok m v
def LsOk (m : Nat) (ls : List Ld) : Prop := ∀ (j : Nat) (l : Ld), ls[j]? = some l → l.ok m j
def Ce.ok (m : Nat) (c : Ce) : Prop := fok m c.i ∧ fok m c.v
/-- a value by the written ones; else the new list below -/
def wrF (ls : List Ld) (vs : List Int) : Nat → Nat → Int → Sum Int Nat
  | 0, num, _ => .inr num
  | f + 1, num, k => match ls[num]? with
    | some (.wr o i v) => if k = wo vs i then .inl (wo vs v) else wrF ls vs f o k
    | _ => .inr num
def WR (ls : List Ld) (vs : List Int) (num : Nat) (k : Int) : Sum Int Nat := wrF ls vs (num + 1) num k
theorem wrF_fuel {m : Nat} {ls : List Ld} (vs : List Int) (h : LsOk m ls) (k : Int) : ∀ (f g num : Nat), num < f → num < g → wrF ls vs f num k = wrF ls vs g num k
  | 0, _, _, h1, _ => absurd h1 (Nat.not_lt_zero _)
  | _, 0, _, _, h2 => absurd h2 (Nat.not_lt_zero _)
  | f + 1, g + 1, num, h1, h2 => by
    unfold wrF
    cases e : ls[num]? with
    | none => rfl
    | some l =>
      cases l with
      | new l => rfl
      | wr o i v =>
        have hk := (h num _ e).1
        dsimp only
        rw [wrF_fuel vs h k f g o (by omega) (by omega)]
theorem WR_new {ls : List Ld} {vs : List Int} {num : Nat} {k : Int} {l : Fm} (e : ls[num]? = some (.new l)) : WR ls vs num k = .inr num := by
  unfold WR wrF
  rw [e]
theorem WR_wr {m : Nat} {ls : List Ld} {vs : List Int} {num : Nat} {k : Int} {o : Nat} {i v : Fm} (h : LsOk m ls) (e : ls[num]? = some (.wr o i v)) : WR ls vs num k = if k = wo vs i then .inl (wo vs v) else WR ls vs o k := by
  have hk := (h num _ e).1
  unfold WR
  rw [wrF, e]
  dsimp only
  rw [wrF_fuel vs h k num (o + 1) o hk (Nat.lt_succ_self _)]
theorem WR_base {m : Nat} {ls : List Ld} {vs : List Int} (h : LsOk m ls) (k : Int) : ∀ (n num b : Nat), num ≤ n → num < ls.length → WR ls vs num k = .inr b → ∃ l, ls[b]? = some (.new l)
  | n, num, b, hn, hl, e => by
    cases g : ls[num]? with
    | none =>
      rw [List.getElem?_eq_none_iff] at g
      omega
    | some d =>
      cases d with
      | new l =>
        rw [WR_new g] at e
        cases e
        exact ⟨l, g⟩
      | wr o i v =>
        have hk := (h num _ g).1
        rw [WR_wr h g] at e
        by_cases hw : k = wo vs i
        · rw [if_pos hw] at e
          cases e
        · rw [if_neg hw] at e
          cases n with
          | zero => omega
          | succ n => exact WR_base h k n o b (by omega) (by omega) e
/-- the length's form -/
def lnF (ls : List Ld) : Nat → Nat → Fm
  | 0, _ => (0, 0)
  | f + 1, num => match ls[num]? with
    | some (.wr o _ _) => lnF ls f o
    | some (.new l) => l
    | none => (0, 0)
def LN (ls : List Ld) (num : Nat) : Fm := lnF ls (num + 1) num
theorem lnF_fuel {m : Nat} {ls : List Ld} (h : LsOk m ls) : ∀ (f g num : Nat), num < f → num < g → lnF ls f num = lnF ls g num
  | 0, _, _, h1, _ => absurd h1 (Nat.not_lt_zero _)
  | _, 0, _, _, h2 => absurd h2 (Nat.not_lt_zero _)
  | f + 1, g + 1, num, h1, h2 => by
    unfold lnF
    cases e : ls[num]? with
    | none => rfl
    | some l =>
      cases l with
      | new l => rfl
      | wr o i v =>
        have hk := (h num _ e).1
        exact lnF_fuel h f g o (by omega) (by omega)
theorem LN_new {ls : List Ld} {num : Nat} {l : Fm} (e : ls[num]? = some (.new l)) : LN ls num = l := by
  unfold LN lnF
  rw [e]
theorem LN_wr {m : Nat} {ls : List Ld} {num o : Nat} {i v : Fm} (h : LsOk m ls) (e : ls[num]? = some (.wr o i v)) : LN ls num = LN ls o := by
  have hk := (h num _ e).1
  unfold LN
  rw [lnF, e]
  exact lnF_fuel h num (o + 1) o hk (Nat.lt_succ_self _)
theorem LN_ok {m : Nat} {ls : List Ld} (h : LsOk m ls) : ∀ (n num : Nat), num ≤ n → num < ls.length → fok m (LN ls num)
  | n, num, hn, hl => by
    have g := List.getElem?_eq_getElem hl
    cases d : ls[num] with
    | new l =>
      rw [d] at g
      rw [LN_new g]
      exact h _ _ g
    | wr o i v =>
      rw [d] at g
      have hk := (h num _ g).1
      rw [LN_wr h g]
      cases n with
      | zero => omega
      | succ n => exact LN_ok h n o (by omega) (by omega)
/-! ### the value of the cell with the greatest index not above -/
def IsB (ps : List (Int × Int)) (k v : Int) : Prop := (∃ a, (a, v) ∈ ps ∧ a ≤ k ∧ ∀ b u, (b, u) ∈ ps → b ≤ k → b ≤ a) ∨ (v = 0 ∧ ∀ b u, (b, u) ∈ ps → ¬ b ≤ k)
def Cons1 (ps : List (Int × Int)) : Prop := ∀ a v u, (a, v) ∈ ps → (a, u) ∈ ps → v = u
theorem IsB_uniq {ps : List (Int × Int)} {k v u : Int} (c : Cons1 ps) (h1 : IsB ps k v) (h2 : IsB ps k u) : v = u := by
  rcases h1 with ⟨a, h1, h2', h3⟩ | ⟨e, h3⟩
  · rcases h2 with ⟨b, g1, g2, g3⟩ | ⟨e, g3⟩
    · have e1 := h3 b u g1 g2
      have e2 := g3 a v h1 h2'
      have e : a = b := by omega
      subst e
      exact c a v u h1 g1
    · exact absurd h2' (g3 a v h1)
  · rcases h2 with ⟨b, g1, g2, g3⟩ | ⟨e2, g3⟩
    · exact absurd g2 (h3 b u g1)
    · rw [e, e2]
theorem IsB_perm {ps qs : List (Int × Int)} {k v : Int} (hp : ps.Perm qs) (h : IsB ps k v) : IsB qs k v := by
  rcases h with ⟨a, h1, h2, h3⟩ | ⟨e, h3⟩
  · exact .inl ⟨a, hp.mem_iff.mp h1, h2, fun b u hb => h3 b u (hp.mem_iff.mpr hb)⟩
  · exact .inr ⟨e, fun b u hb => h3 b u (hp.mem_iff.mpr hb)⟩
theorem IsB_nil (k : Int) : IsB [] k 0 := .inr ⟨rfl, fun _ _ h => nomatch h⟩
theorem IsB_up {ps : List (Int × Int)} {k v a w : Int} (hs : ∀ b u, (b, u) ∈ ps → b ≤ a) (h : IsB ps k v) : IsB (ps ++ [(a, w)]) k (if a ≤ k then w else v) := by
  by_cases ha : a ≤ k
  · rw [if_pos ha]
    refine .inl ⟨a, List.mem_append_right _ (List.mem_singleton.mpr rfl), ha, fun b u hb _ => ?_⟩
    rcases List.mem_append.mp hb with hb | hb
    · exact hs b u hb
    · rw [(Prod.mk.inj (List.mem_singleton.mp hb)).1]
      exact Int.le_refl _
  · rw [if_neg ha]
    rcases h with ⟨c, h1, h2, h3⟩ | ⟨e, h3⟩
    · refine .inl ⟨c, List.mem_append_left _ h1, h2, fun b u hb hbk => ?_⟩
      rcases List.mem_append.mp hb with hb | hb
      · exact h3 b u hb hbk
      · have := (Prod.mk.inj (List.mem_singleton.mp hb)).1
        omega
    · refine .inr ⟨e, fun b u hb => ?_⟩
      rcases List.mem_append.mp hb with hb | hb
      · exact h3 b u hb
      · rw [(Prod.mk.inj (List.mem_singleton.mp hb)).1]
        exact ha
/-- later ones are above -/
theorem IsB_more {ps qs : List (Int × Int)} {k v : Int} (hq : ∀ b u, (b, u) ∈ qs → ¬ b ≤ k) (h : IsB ps k v) : IsB (ps ++ qs) k v := by
  rcases h with ⟨c, h1, h2, h3⟩ | ⟨e, h3⟩
  · refine .inl ⟨c, List.mem_append_left _ h1, h2, fun b u hb hbk => ?_⟩
    rcases List.mem_append.mp hb with hb | hb
    · exact h3 b u hb hbk
    · exact absurd hbk (hq b u hb)
  · refine .inr ⟨e, fun b u hb => ?_⟩
    rcases List.mem_append.mp hb with hb | hb
    · exact h3 b u hb
    · exact hq b u hb
def prs (cs : List Ce) (vs : List Int) (b : Nat) : List (Int × Int) := (cs.filter fun c => decide (c.n = b)).map fun c => (wo vs c.i, wo vs c.v)
def TV (ls : List Ld) (vs : List Int) (cs : List Ce) (num : Nat) (k v : Int) : Prop := match WR ls vs num k with
  | .inl w => v = w
  | .inr b => IsB (prs cs vs b) k v
theorem TV_uniq {m : Nat} {ls : List Ld} {vs : List Int} {cs : List Ce} {num : Nat} {k v u : Int} (h : LsOk m ls) (hl : num < ls.length) (c : ∀ b l, ls[b]? = some (.new l) → Cons1 (prs cs vs b)) (h1 : TV ls vs cs num k v) (h2 : TV ls vs cs num k u) : v = u := by
  unfold TV at h1 h2
  cases e : WR ls vs num k with
  | inl w =>
    rw [e] at h1 h2
    exact Eq.trans h1 (Eq.symm h2)
  | inr b =>
    rw [e] at h1 h2
    obtain ⟨l, hb⟩ := WR_base h k num num b (Nat.le_refl _) hl e
    exact IsB_uniq (c b l hb) h1 h2
theorem prs_snoc (cs : List Ce) (vs : List Int) (b : Nat) (c : Ce) : prs (cs ++ [c]) vs b = prs cs vs b ++ if c.n = b then [(wo vs c.i, wo vs c.v)] else [] := by
  unfold prs
  rw [List.filter_append, List.map_append]
  by_cases h : c.n = b
  · rw [if_pos h, show List.filter (fun c : Ce => decide (c.n = b)) [c] = [c] by simp [h]]
    rfl
  · rw [if_neg h, show List.filter (fun c : Ce => decide (c.n = b)) [c] = [] by simp [h]]
    rfl
/-! ### the content, laid from the left -/
structure Lay (ys : List (Int × Int)) (L : Int) (i : Nat) (c : List Int) (v : Int) : Prop where
  len : (c.length : Int) ≤ L
  ok : ∀ j : Nat, j < c.length → IsB ys j (c.getD j 0)
  val : ∀ k, (∀ b u, (b, u) ∈ ys.take i → b ≤ k) → IsB (ys.take i) k v
  le : ∀ b u, (b, u) ∈ ys.take i → b ≤ c.length ∨ L ≤ c.length
theorem lay_nil {ys : List (Int × Int)} {L : Int} (hL : 0 ≤ L) : Lay ys L 0 [] 0 := ⟨hL, fun _ h => absurd h (Nat.not_lt_zero _), fun k _ => IsB_nil k, fun _ _ h => nomatch h⟩
theorem rep_getD (c : List Int) (v : Int) (n j : Nat) : (c ++ List.replicate n v).getD j 0 = if j < c.length then c.getD j 0 else if j < c.length + n then v else 0 := by
  rw [List.getD_eq_getElem?_getD, List.getElem?_append]
  by_cases h : j < c.length
  · rw [if_pos h, if_pos h, ← List.getD_eq_getElem?_getD]
  · rw [if_neg h, if_neg h, List.getElem?_replicate]
    by_cases h2 : j < c.length + n
    · rw [if_pos h2, if_pos (by omega)]
      rfl
    · rw [if_neg h2, if_neg (by omega)]
      rfl
theorem srt_split {ys : List (Int × Int)} {i : Nat} {a w : Int} (hs : ys.Pairwise fun x y => x.1 ≤ y.1) (e : ys[i]? = some (a, w)) : (∀ b u, (b, u) ∈ ys.take i → b ≤ a) ∧ (∀ b u, (b, u) ∈ ys.drop i → a ≤ b) ∧ ys.take (i + 1) = ys.take i ++ [(a, w)] := by
  obtain ⟨hi, he⟩ := List.getElem?_eq_some_iff.mp e
  have h1 : ys = ys.take i ++ (a, w) :: ys.drop (i + 1) := by
    rw [← he, List.getElem_cons_drop, List.take_append_drop]
  have h2 : ys.drop i = (a, w) :: ys.drop (i + 1) := by rw [← he, List.getElem_cons_drop]
  rw [h1] at hs
  obtain ⟨_, q2, q3⟩ := List.pairwise_append.mp hs
  obtain ⟨q4, _⟩ := List.pairwise_cons.mp q2
  refine ⟨fun b u hb => q3 (b, u) hb (a, w) List.mem_cons_self, fun b u hb => ?_, ?_⟩
  · rw [h2] at hb
    rcases List.mem_cons.mp hb with hb | hb
    · rw [(Prod.mk.inj hb).1]
      exact Int.le_refl _
    · exact q4 (b, u) hb
  · rw [List.take_succ_eq_append_getElem hi, he]
theorem lay_step {ys : List (Int × Int)} {L : Int} {i : Nat} {c : List Int} {v a w : Int} (hs : ys.Pairwise fun x y => x.1 ≤ y.1) (e : ys[i]? = some (a, w)) (l : Lay ys L i c v) : Lay ys L (i + 1) (c ++ List.replicate ((if L < a then L else a) - (c.length : Int)).toNat v) w := by
  obtain ⟨s1, s2, s3⟩ := srt_split hs e
  have hlen := l.len
  have clen : (c ++ List.replicate ((if L < a then L else a) - (c.length : Int)).toNat v).length = c.length + ((if L < a then L else a) - (c.length : Int)).toNat := by rw [List.length_append, List.length_replicate]
  refine ⟨?_, fun j hj => ?_, fun k hk => ?_, fun b u hb => ?_⟩
  · rw [clen]
    split <;> omega
  · rw [rep_getD]
    rw [clen] at hj
    by_cases h : j < c.length
    · rw [if_pos h]
      exact l.ok j h
    · rw [if_neg h, if_pos hj]
      have hja : (j : Int) < a ∧ (j : Int) < L := by
        split at hj <;> omega
      have hb := l.val j fun b u hb => by
        rcases l.le b u hb with h1 | h1 <;> omega
      have := IsB_more (qs := ys.drop i) (fun b u hb => by have := s2 b u hb; omega) hb
      rw [List.take_append_drop] at this
      exact this
  · rw [s3] at hk ⊢
    have ha := hk a w (List.mem_append_right _ (List.mem_singleton.mpr rfl))
    have := IsB_up (w := w) s1 (l.val k fun b u hb => hk b u (List.mem_append_left _ hb))
    rw [if_pos ha] at this
    exact this
  · rw [clen]
    rw [s3] at hb
    rcases List.mem_append.mp hb with hb | hb
    · rcases l.le b u hb with h1 | h1
      · left
        omega
      · right
        omega
    · have := (Prod.mk.inj (List.mem_singleton.mp hb)).1
      subst this
      split <;> omega
theorem lay_end {ys : List (Int × Int)} {L : Int} {i : Nat} {c : List Int} {v : Int} (hi : ys.length ≤ i) (l : Lay ys L i c v) : ((c ++ List.replicate (L - (c.length : Int)).toNat v).length : Int) = L ∧ ∀ j : Nat, (j : Int) < L → IsB ys j ((c ++ List.replicate (L - (c.length : Int)).toNat v).getD j 0) := by
  have hlen := l.len
  refine ⟨?_, fun j hj => ?_⟩
  · rw [List.length_append, List.length_replicate]
    omega
  · rw [rep_getD]
    by_cases h : j < c.length
    · rw [if_pos h]
      exact l.ok j h
    · rw [if_neg h, if_pos (by omega)]
      have hb := l.val j fun b u hb => by
        rcases l.le b u hb with h1 | h1 <;> omega
      rw [List.take_of_length_le hi] at hb
      exact hb
end SW

namespace SW
open PySem PySem.Spec PyProof.Rows L2
theorem units65 {k : Nat} {A : Around} (r : Room k A) : A.units + 65 < cLine := by
  have := r.un
  omega
/-! ### what is known, as an object -/
abbrev s_Known : Stmt := inClass (topS 2) 0
theorem sc_Known : FnScope ["self", "many", "differences", "lists", "cells", "taken", "fresh", "m", "number", "index", "_"] ["self", "many", "differences", "lists", "cells", "taken", "fresh"] (defScope s_Known) := ⟨rfl, rfl, rfl, by decide +kernel, rfl, by decide +kernel, by decide +kernel⟩
abbrev s_length : Stmt := inClass (topS 2) 2
theorem sc_length : FnScope ["self", "number", "made"] ["self", "number"] (defScope s_length) := ⟨rfl, rfl, rfl, by decide +kernel, rfl, by decide +kernel, by decide +kernel⟩
structure TxK (K : PySem.W.Frag) (mg : PySem.Str → Option Value) (C : Addr) : Prop extends TxB mg where
  cl : Cls K C
  nM : NoAttr K C "many"
  nD : NoAttr K C "differences"
  nL : NoAttr K C "lists"
  nC : NoAttr K C "cells"
  nT : NoAttr K C "taken"
  nF : NoAttr K C "fresh"
  nO : NoAttr K C "_found"
  mg_Known : mg "Known" = some (.ref C)
def knF (m : Int) (ad al ac at_ af ao : Addr) : List (PySem.Str × V) := putF "_found" (.ref ao) (putF "fresh" (.ref af) (putF "taken" (.ref at_) (putF "cells" (.ref ac) (putF "lists" (.ref al) (putF "differences" (.ref ad) (putF "many" (.int m) []))))))
theorem knF_eq (m : Int) (ad al ac at_ af ao : Addr) : knF m ad al ac at_ af ao = ([("many", .int m), ("differences", .ref ad), ("lists", .ref al), ("cells", .ref ac), ("taken", .ref at_), ("fresh", .ref af), ("_found", .ref ao)] : List (PySem.Str × V)) := by
  have ne : ∀ {x y : PySem.Str} {v u : V} {r : List (PySem.Str × V)}, ¬ x = y → putF y v ((x, u) :: r) = (x, u) :: putF y v r := fun {x y v u r} h => by
    show (if x = y then (x, v) :: r else (x, u) :: putF y v r) = _
    rw [if_neg h]
  unfold knF
  have e : ∀ (y : PySem.Str) (v : V), putF y v [] = [(y, v)] := fun _ _ => rfl
  repeat (first | rw [e] | rw [ne (by decide +kernel)])
theorem knF_m (m : Int) (ad al ac at_ af ao : Addr) : (knF m ad al ac at_ af ao).lookup ("many" : PySem.Str) = some (.int m) := by
  rw [knF_eq]
  rfl
theorem knF_d (m : Int) (ad al ac at_ af ao : Addr) : (knF m ad al ac at_ af ao).lookup ("differences" : PySem.Str) = some (.ref ad) := by
  rw [knF_eq]
  rfl
theorem knF_l (m : Int) (ad al ac at_ af ao : Addr) : (knF m ad al ac at_ af ao).lookup ("lists" : PySem.Str) = some (.ref al) := by
  rw [knF_eq]
  rfl
theorem knF_c (m : Int) (ad al ac at_ af ao : Addr) : (knF m ad al ac at_ af ao).lookup ("cells" : PySem.Str) = some (.ref ac) := by
  rw [knF_eq]
  rfl
theorem knF_t (m : Int) (ad al ac at_ af ao : Addr) : (knF m ad al ac at_ af ao).lookup ("taken" : PySem.Str) = some (.ref at_) := by
  rw [knF_eq]
  rfl
theorem knF_f (m : Int) (ad al ac at_ af ao : Addr) : (knF m ad al ac at_ af ao).lookup ("fresh" : PySem.Str) = some (.ref af) := by
  rw [knF_eq]
  rfl
theorem knF_o (m : Int) (ad al ac at_ af ao : Addr) : (knF m ad al ac at_ af ao).lookup ("_found" : PySem.Str) = some (.ref ao) := by
  rw [knF_eq]
  rfl
theorem knF_no (m : Int) (ad al ac at_ af ao : Addr) {x : PySem.Str} (h : x ∉ (["many", "differences", "lists", "cells", "taken", "fresh", "_found"] : List PySem.Str)) : (knF m ad al ac at_ af ao).lookup x = none := by
  unfold knF
  rw [lookup_putF, if_neg (fun e => h (by rw [e]; simp)), lookup_putF, if_neg (fun e => h (by rw [e]; simp)), lookup_putF, if_neg (fun e => h (by rw [e]; simp)), lookup_putF, if_neg (fun e => h (by rw [e]; simp)), lookup_putF, if_neg (fun e => h (by rw [e]; simp)), lookup_putF, if_neg (fun e => h (by rw [e]; simp)), lookup_putF, if_neg (fun e => h (by rw [e]; simp))]
  rfl
def ck (c : Ce) : NestedKey := .tup [.num c.n, .tup [.num c.i.1, .num c.i.2]]
theorem ck_data (c : Ce) : (ck c).data = .tuple [.int c.n, f2 c.i] := by
  simp only [ck, NestedKey.data, NestedKey.datas, f2]
theorem ck_depth (c : Ce) : (ck c).depth ≤ 8 := by
  simp only [ck, NestedKey.depth, NestedKey.depthAll]
  decide
/-- the found cells' places, by number and index -/
structure FdOk (K : PySem.W.Frag) (H : Hp) (cs : List Ce) (fnd : List (NestedKey × V)) : Prop where
  all : ∀ c, c ∈ cs → ∃ v, valV fnd (ck c) = some v
  some : ∀ k v, valV fnd k = some v → ∃ (m : Nat) (c : Ce), cs[m]? = some c ∧ ck c = k ∧ v = .int m
theorem FdOk.nil (K : PySem.W.Frag) (H : Hp) : FdOk K H [] [] := ⟨fun _ h => (List.not_mem_nil h).elim, fun _ _ h => by cases h⟩
theorem FdOk.mono {K : PySem.W.Frag} {H H' : Hp} {cs : List Ce} {fnd : List (NestedKey × V)} (m : ∀ (d : PyData) (v : V), noL d = true → Dp K H v d → Dp K H' v d) (f : FdOk K H cs fnd) : FdOk K H' cs fnd := ⟨f.all, f.some⟩
theorem FdOk.put {K : PySem.W.Frag} {H : Hp} {cs : List Ce} {fnd : List (NestedKey × V)} {c : Ce} (f : FdOk K H cs fnd) : FdOk K H (cs ++ [c]) (putK fnd (ck c) (.int (cs.length : Nat))) := by
  refine ⟨fun d hd => ?_, fun k u h => ?_⟩
  · rw [valV_put]
    by_cases e : ck d = ck c
    · exact ⟨_, if_pos e⟩
    · rw [if_neg e]
      rcases List.mem_append.mp hd with hd | hd
      · exact f.all d hd
      · rw [List.mem_singleton.mp hd] at e
        exact absurd rfl e
  · rw [valV_put] at h
    by_cases e : k = ck c
    · rw [if_pos e] at h
      cases h
      exact ⟨cs.length, c, by rw [List.getElem?_append_right (Nat.le_refl _), Nat.sub_self]; rfl, e.symm, rfl⟩
    · rw [if_neg e] at h
      obtain ⟨m, d, h1, h2, h3⟩ := f.some k u h
      exact ⟨m, d, by rw [List.getElem?_append_left (List.getElem?_eq_some_iff.mp h1).1]; exact h1, h2, h3⟩
structure KnAt (P : Program) (w : World) (K : PySem.W.Frag) (C : Addr) (H : Hp) (p ad al ac at_ af ao : Addr) (m : Int) (xd xl xc xt xf : List V) (cs : List Ce) (fnd : List (NestedKey × V)) : Prop where
  ob : ∃ dx, H p = some (.ins C dx (knF m ad al ac at_ af ao))
  d : H ad = some (.lst xd)
  l : H al = some (.lst xl)
  c : H ac = some (.lst xc)
  t : H at_ = some (.lst xt)
  f : H af = some (.lst xf)
  o : DN P w K H ao fnd
  fd : FdOk K H cs fnd
  cx : DpAll K H xc (cs.map Ce.enc)
  le : fnd.length ≤ cs.length
theorem noLs_ce : ∀ cs : List Ce, noLs (cs.map Ce.enc) = true
  | [] => rfl
  | _ :: r => noLs_ce r
theorem KnAt.same {P : Program} {w : World} {K : PySem.W.Frag} {C : Addr} {H H' : Hp} {p ad al ac at_ af ao : Addr} {m : Int} {xd xl xc xt xf : List V} {cs : List Ce} {fnd : List (NestedKey × V)} (k : KnAt P w K C H p ad al ac at_ af ao m xd xl xc xt xf cs fnd) (s : Same H H') : KnAt P w K C H' p ad al ac at_ af ao m xd xl xc xt xf cs fnd := by
  obtain ⟨dx, e⟩ := k.ob
  exact ⟨⟨dx, s _ _ e⟩, s _ _ k.d, s _ _ k.l, s _ _ k.c, s _ _ k.t, s _ _ k.f, k.o.same s, k.fd.mono fun d v _ h => dp_same s d v h, dpa_same s _ _ k.cx, k.le⟩
theorem putF_len (f : PySem.Str) (v : V) : ∀ fs : List (PySem.Str × V), (putF f v fs).length ≤ fs.length + 1
  | [] => Nat.le_refl _
  | (g, u) :: r => by
    show (if g = f then (g, v) :: r else (g, u) :: putF f v r).length ≤ _
    by_cases e : g = f
    · rw [if_pos e]
      exact Nat.le_succ _
    · rw [if_neg e]
      exact Nat.succ_le_succ (putF_len f v r)
theorem pl_len {f : PySem.Str} {v : V} {fs : List (PySem.Str × V)} {n : Nat} (h : fs.length ≤ n) : (putF f v fs).length ≤ n + 1 := Nat.le_trans (putF_len f v fs) (Nat.succ_le_succ h)
theorem fld_step {G : Hp} {p a : Addr} {o u z : HO} (hp : G p = some o) (na : G a = none) : a ≠ p ∧ (∀ b y, b ≠ p → G b = some y → upd (upd G a z) p u b = some y) ∧ upd (upd G a z) p u p = some u ∧ upd (upd G a z) p u a = some z := by
  have ne : a ≠ p := (ne_of_none hp na).symm
  exact ⟨ne, fun b y hb e => (upd_ne hb).trans ((upd_ne (ne_of_none e na)).trans e), upd_same, (upd_ne ne).trans upd_same⟩
theorem was_none {H G : Hp} {p a : Addr} (k : ∀ b y, b ≠ p → H b = some y → G b = some y) (ne : a ≠ p) (na : G a = none) : H a = none := by
  cases e : H a with
  | none => rfl
  | some y =>
    rw [k a y ne e] at na
    cases na
theorem sq_keep {K : PySem.W.Frag} {H G : Hp} {p a C dx : Addr} {fs : List (PySem.Str × V)} {xs : List V} (hp : H p = some (.ins C dx fs)) (k : ∀ b y, b ≠ p → H b = some y → G b = some y) (s : SqL K H a xs) : SqL K G a xs := by
  have ne : ∀ {y : HO}, H a = some y → (∀ C dx fs, y ≠ .ins C dx fs) → a ≠ p := fun h1 h2 q => by
    rw [q, hp] at h1
    exact h2 _ _ _ (Option.some.inj h1).symm
  rcases s with (h | ⟨o, h⟩) | h
  · exact .inl (.inl (k _ _ (ne h fun _ _ _ q => nomatch q) h))
  · exact .inl (.inr ⟨o, k _ _ (ne h fun _ _ _ q => nomatch q) h⟩)
  · exact .inr h
theorem dp_keep {K : PySem.W.Frag} {H G : Hp} {p C dx : Addr} {fs : List (PySem.Str × V)} (hp : H p = some (.ins C dx fs)) (k : ∀ b y, b ≠ p → H b = some y → G b = some y) (d : PyData) (v : V) (n : noL d = true) (h : Dp K H v d) : Dp K G v d :=
  dp_tups (fun a xs s => by
    have ne : ∀ {y : HO}, H a = some y → (∀ C dx fs, y ≠ .ins C dx fs) → a ≠ p := fun h1 h2 q => by
      rw [q, hp] at h1
      exact h2 _ _ _ (Option.some.inj h1).symm
    rcases s with (h | ⟨o, h⟩) | h
    · exact .inl (.inl (k _ _ (ne h fun _ _ _ q => nomatch q) h))
    · exact .inl (.inr ⟨o, k _ _ (ne h fun _ _ _ q => nomatch q) h⟩)
    · exact .inr h) d v n h
theorem dpa_keep {K : PySem.W.Frag} {H G : Hp} (m : ∀ (d : PyData) (v : V), noL d = true → Dp K H v d → Dp K G v d) : ∀ {ds : List PyData} {vs : List V}, noLs ds = true → DpAll K H vs ds → DpAll K G vs ds
  | [], _, _, h => by
    cases h
    exact .nil
  | d :: ds, _, n, h => by
    unfold noLs at n
    rw [Bool.and_eq_true] at n
    cases h with
    | cons h1 h2 => exact .cons (m _ _ n.1 h1) (dpa_keep m n.2 h2)
section
variable {P : Program} {w : World} {K : PySem.W.Frag} {mg : PySem.Str → Option Value} {base : Heap} {C : Addr}
def spKnown (P : Program) (w : World) (K : PySem.W.Frag) (C : Addr) : Sp := fun vs H Q _ => ∃ (p dx bd bl bc bt bf : Addr) (m : Int) (xd xl xc xt xf : List V) (cs : List Ce), vs = [.ref p, .int m, .ref bd, .ref bl, .ref bc, .ref bt, .ref bf] ∧ H p = some (.ins C dx []) ∧ SqL K H bd xd ∧ SqL K H bl xl ∧ SqL K H bc xc ∧ SqL K H bt xt ∧ SqL K H bf xf ∧ DpAll K H xc (cs.map Ce.enc) ∧ cs.length ≤ 1000 ∧
  ∀ H' ad al ac at_ af ao fnd, (∀ b o, b ≠ p → H b = some o → H' b = some o) → H ad = none → H al = none → H ac = none → H at_ = none → H af = none → H ao = none → ([ad, al, ac, at_, af] : List Addr).Nodup → KnAt P w K C H' p ad al ac at_ af ao m xd xl xc xt xf cs fnd → Q .non H'
theorem ok_Known {f : Addr} {fd : FuncData} (F : Fun K "__init__" "Known.__init__" s_Known f fd) (T : TxK K mg C) : FnOk P w K mg base CX0 1 f fd ["self", "many", "differences", "lists", "cells", "taken", "fresh"] (spKnown P w K C) := by
  refine F.ok sc_Known (fun vs H Q E h => ?_) (fun cdv A outer s H vs Q E hr h => ?_)
  · obtain ⟨p, dx, bd, bl, bc, bt, bf, m, xd, xl, xc, xt, xf, cs, rfl, _⟩ := h
    rfl
  · obtain ⟨p, dx, bd, bl, bc, bt, bf, m, xd, xl, xc, xt, xf, cs, rfl, hp, h1, h2, h3, h4, h5, hc, hcl, q⟩ := h
    refine ⟨_, pss_cons (ps_fld (pv 0) (pv 1) rfl)
      (pss_cons (ps_fld (pv 0) (pe_callTy call_list_of (by rfl) T.n_list (by decide +kernel) (pa_cons (pv 2) pa_nil)) rfl)
      (pss_cons (ps_fld (pv 0) (pe_callTy call_list_of (by rfl) T.n_list (by decide +kernel) (pa_cons (pv 3) pa_nil)) rfl)
      (pss_cons (ps_fld (pv 0) (pe_callTy call_list_of (by rfl) T.n_list (by decide +kernel) (pa_cons (pv 4) pa_nil)) rfl)
      (pss_cons (ps_fld (pv 0) (pe_callTy call_list_of (by rfl) T.n_list (by decide +kernel) (pa_cons (pv 5) pa_nil)) rfl)
      (pss_cons (ps_fld (pv 0) (pe_callTy call_list_of (by rfl) T.n_list (by decide +kernel) (pa_cons (pv 6) pa_nil)) rfl)
      (pss_one (ps_fld (pv 0) (pe_dcN (own := [("m", 7), ("number", 8), ("index", 9), ("_", 10)]) (g := gTup K 2 (gCons (gName 7) (gCons (gTup K 3 (gCons (gName 8) (gCons (gName 9) (gCons (gName 10) gNil)))) gNil))) (units65 hr) (by rfl) sc_Known.nd (pi_enum (by rfl) T.n_enumerate (pa_cons (pe_fld (pv 0) rfl) pa_nil)) (blkOk_by (own := [("m", 7), ("number", 8), ("index", 9), ("_", 10)]) (N := ["self", "many", "differences", "lists", "cells", "taken", "fresh", "m", "number", "index", "_"]) (sc := defScope s_Known) (by decide +kernel))
        (fun _ _ _ _ _ => pg_tup rfl (pgs_cons (pg_name (i := 7) sc_Known.nd rfl (Or.inl rfl)) (pgs_cons (pg_tup rfl (pgs_cons (pg_name (i := 8) sc_Known.nd rfl (Or.inl rfl)) (pgs_cons (pg_name (i := 9) sc_Known.nd rfl (Or.inl rfl)) (pgs_cons (pg_name (i := 10) sc_Known.nd rfl (Or.inl rfl)) pgs_nil)))) pgs_nil))) (fun _ _ _ _ _ => pts_nil) (fun _ _ _ _ _ => pe_tup (pa_cons (pv 8) (pa_cons (pv 9) pa_nil))) (fun _ _ _ _ _ => pv 7)) rfl))))))), ?_⟩
    have c0 : ([] : List (PySem.Str × V)).length ≤ 0 := Nat.le_refl _
    -- many
    refine ⟨_, rfl, _, rfl, p, C, dx, [], rfl, hp, T.cl, T.nM, (by show 0 < 1000; decide), ?_⟩
    have k1 : ∀ b y, b ≠ p → H b = some y → upd H p (.ins C dx (putF "many" (.int m) [])) b = some y := fun b y hb e => (upd_ne hb).trans e
    have e1 : upd H p (.ins C dx (putF "many" (.int m) [])) p = some (.ins C dx (putF "many" (.int m) [])) := upd_same
    generalize upd H p (.ins C dx (putF "many" (.int m) [])) = G1 at k1 e1
    -- differences
    refine ⟨_, rfl, bd, xd, rfl, .inl (sq_keep hp k1 h1), fun ad nd => ⟨_, rfl, p, C, dx, _, rfl, (upd_ne (ne_of_none e1 nd)).trans e1, T.cl, T.nD, Nat.lt_of_le_of_lt (pl_len c0) (by decide), ?_⟩⟩
    obtain ⟨n2, s2, e2, d2⟩ := fld_step (u := .ins C dx (putF "differences" (.ref ad) (putF "many" (.int m) []))) (z := .lst xd) e1 nd
    have k2 : ∀ b y, b ≠ p → H b = some y → _ := fun b y hb e => s2 b y hb (k1 b y hb e)
    have hnd := was_none k1 n2 nd
    generalize upd (upd G1 ad _) p _ = G2 at s2 e2 d2 k2
    -- lists
    refine ⟨_, rfl, bl, xl, rfl, .inl (sq_keep hp k2 h2), fun al nl => ⟨_, rfl, p, C, dx, _, rfl, (upd_ne (ne_of_none e2 nl)).trans e2, T.cl, T.nL, Nat.lt_of_le_of_lt (pl_len (pl_len c0)) (by decide), ?_⟩⟩
    obtain ⟨n3, s3, e3, l3⟩ := fld_step (u := .ins C dx (putF "lists" (.ref al) (putF "differences" (.ref ad) (putF "many" (.int m) [])))) (z := .lst xl) e2 nl
    have k3 : ∀ b y, b ≠ p → H b = some y → _ := fun b y hb e => s3 b y hb (k2 b y hb e)
    have hnl := was_none k2 n3 nl
    have d3 := s3 _ _ n2 d2
    generalize upd (upd G2 al _) p _ = G3 at s3 e3 l3 k3 d3
    -- cells
    refine ⟨_, rfl, bc, xc, rfl, .inl (sq_keep hp k3 h3), fun ac nc => ⟨_, rfl, p, C, dx, _, rfl, (upd_ne (ne_of_none e3 nc)).trans e3, T.cl, T.nC, Nat.lt_of_le_of_lt (pl_len (pl_len (pl_len c0))) (by decide), ?_⟩⟩
    obtain ⟨n4, s4, e4, c4⟩ := fld_step (u := .ins C dx (putF "cells" (.ref ac) (putF "lists" (.ref al) (putF "differences" (.ref ad) (putF "many" (.int m) []))))) (z := .lst xc) e3 nc
    have k4 : ∀ b y, b ≠ p → H b = some y → _ := fun b y hb e => s4 b y hb (k3 b y hb e)
    have hnc := was_none k3 n4 nc
    have d4 := s4 _ _ n2 d3
    have l4 := s4 _ _ n3 l3
    generalize upd (upd G3 ac _) p _ = G4 at s4 e4 c4 k4 d4 l4
    -- taken
    refine ⟨_, rfl, bt, xt, rfl, .inl (sq_keep hp k4 h4), fun at_ nt => ⟨_, rfl, p, C, dx, _, rfl, (upd_ne (ne_of_none e4 nt)).trans e4, T.cl, T.nT, Nat.lt_of_le_of_lt (pl_len (pl_len (pl_len (pl_len c0)))) (by decide), ?_⟩⟩
    obtain ⟨n5, s5, e5, t5⟩ := fld_step (u := .ins C dx (putF "taken" (.ref at_) (putF "cells" (.ref ac) (putF "lists" (.ref al) (putF "differences" (.ref ad) (putF "many" (.int m) [])))))) (z := .lst xt) e4 nt
    have k5 : ∀ b y, b ≠ p → H b = some y → _ := fun b y hb e => s5 b y hb (k4 b y hb e)
    have hnt := was_none k4 n5 nt
    have d5 := s5 _ _ n2 d4
    have l5 := s5 _ _ n3 l4
    have c5 := s5 _ _ n4 c4
    generalize upd (upd G4 at_ _) p _ = G5 at s5 e5 t5 k5 d5 l5 c5
    -- fresh
    refine ⟨_, rfl, bf, xf, rfl, .inl (sq_keep hp k5 h5), fun af nf => ⟨_, rfl, p, C, dx, _, rfl, (upd_ne (ne_of_none e5 nf)).trans e5, T.cl, T.nF, Nat.lt_of_le_of_lt (pl_len (pl_len (pl_len (pl_len (pl_len c0))))) (by decide), ?_⟩⟩
    obtain ⟨n6, s6, e6, f6⟩ := fld_step (u := .ins C dx (putF "fresh" (.ref af) (putF "taken" (.ref at_) (putF "cells" (.ref ac) (putF "lists" (.ref al) (putF "differences" (.ref ad) (putF "many" (.int m) []))))))) (z := .lst xf) e5 nf
    have k6 : ∀ b y, b ≠ p → H b = some y → _ := fun b y hb e => s6 b y hb (k5 b y hb e)
    have hnf := was_none k5 n6 nf
    have hnod : ([ad, al, ac, at_, af] : List Addr).Nodup := by
      simp only [List.nodup_cons, List.mem_cons, List.not_mem_nil, or_false, not_or, List.nodup_nil, and_true, not_false_eq_true]
      exact ⟨⟨ne_of_none d2 nl, ne_of_none d3 nc, ne_of_none d4 nt, ne_of_none d5 nf⟩, ⟨ne_of_none l3 nc, ne_of_none l4 nt, ne_of_none l5 nf⟩, ⟨ne_of_none c4 nt, ne_of_none c5 nf⟩, ne_of_none t5 nf⟩
    have d6 := s6 _ _ n2 d5
    have l6 := s6 _ _ n3 l5
    have c6 := s6 _ _ n4 c5
    have t6 := s6 _ _ n5 t5
    generalize upd (upd G5 af _) p _ = G6 at s6 e6 f6 k6 d6 l6 c6 t6
    -- the found cells
    have hcc := dpa_keep (dp_keep hp k6) (noLs_ce cs) hc
    have hxl : xc.length = cs.length := by rw [dpa_len hc, List.length_map]
    refine ⟨_, rfl, p, C, dx, _, _, rfl, e6, T.cl, T.nC, (by rw [lookup_putF, if_neg (by decide +kernel), lookup_putF, if_neg (by decide +kernel), lookup_putF, if_pos rfl]), ac, xc, rfl, SqL.of c6, fun D o nD dn0 => ?_⟩
    have keepD0 : ∀ {G G' : Hp} {ob : Obj}, G D = some (ExO ob D) → (∀ b y, b ≠ D → G b = some y → G' b = some y) → ∀ (d : PyData) (v : V), noL d = true → Dp K G v d → Dp K G' v d := fun {G G' ob} eD m d v n h =>
      dp_tups (fun a xs s => by
        have ne : ∀ {y : HO}, G a = some y → y ≠ ExO ob D → a ≠ D := fun h1 h2 q => by
          rw [q, eD] at h1
          exact h2 (Option.some.inj h1).symm
        rcases s with (h | ⟨o, h⟩) | h
        · exact .inl (.inl (m _ _ (ne h fun q => nomatch q) h))
        · exact .inl (.inr ⟨o, m _ _ (ne h fun q => nomatch q) h⟩)
        · exact .inr h) d v n h
    refine dcN_it (walk_enum (K := K) (a := ac) (xs := xc)) (fun i G => (∀ b y, b ≠ D → G6 b = some y → G b = some y) ∧ ∃ fnd, DN P w K G D fnd ∧ fnd.length ≤ i ∧ FdOk K G (cs.take i) fnd)
      ⟨fun b y hb e => (upd_ne hb).trans e, [], dn0, Nat.le_refl _, FdOk.nil K _⟩ (fun i G _ hP => SqL.of (hP.1 _ _ (ne_of_none c6 nD) c6)) (fun i x G G' hi hP y => ?_) (fun G hP => ?_)
    · obtain ⟨T0, x, rfl, nT0, rfl, hx⟩ := y
      obtain ⟨m6, fnd, dn, hfl, fd⟩ := hP
      have hic : i < cs.length := by omega
      obtain ⟨v, g1, g2⟩ := dp_mem hcc hic
      rw [hx] at g1
      cases g1
      have sT := same_new (o := .tup [.int (i : Nat), x]) nT0
      have S6 : ∀ (d : PyData) (v : V), noL d = true → Dp K G6 v d → Dp K G v d := fun d v n h => dp_tups (fun a xs s => by
        rcases s with (h | ⟨o, h⟩) | h
        · exact .inl (.inl (m6 _ _ (ne_of_none h nD) h))
        · exact .inl (.inr ⟨o, m6 _ _ (ne_of_none h nD) h⟩)
        · exact .inr h) d v n h
      have g3 := dp_same sT _ _ (S6 _ _ (by rfl) g2)
      obtain ⟨t, v1, v2, v3, rfl, ht, w1, w2, w3⟩ := dp_inv3 g3
      have eT : upd G T0 (.tup [.int (i : Nat), .ref t]) T0 = some (.tup [.int (i : Nat), .ref t]) := upd_same
      have dnT := dn.same sT
      generalize hGT : upd G T0 (.tup [.int (i : Nat), .ref t]) = G' at sT g3 ht w1 w2 w3 eT dnT
      refine ⟨T0, _, rfl, SqT.of eT, rfl, _, _, rfl, _, _, rfl, t, _, rfl, ht, rfl, _, _, rfl, _, _, rfl, _, _, rfl, rfl, rfl, rfl, ?_⟩
      refine ⟨_, rfl, _, rfl, by show (2 : Nat) ≤ sizeLine; decide, fun kt nk => ⟨_, rfl, ?_⟩⟩
      have sk := same_new (o := .tup [v1, v2]) nk
      have dk : Dp K (upd G' kt (.tup [v1, v2])) (.ref kt) (ck cs[i]).data := by
        rw [ck_data]
        exact dp_tup2 (d1 := .int cs[i].n) (d2 := f2 cs[i].i) (upd_same (H := G')) (w1.same sk) (w2.same sk)
      have dn' := dnT.same sk
      refine ⟨fnd, ck cs[i], kt, rfl, dn', dk, ck_depth _, Nat.lt_of_le_of_lt hfl (Nat.lt_of_lt_of_le hic (Nat.le_trans hcl (by decide))), fun o' dn2 => ?_⟩
      have mv : ∀ b y, b ≠ D → upd G' kt (.tup [v1, v2]) b = some y → upd (upd G' kt (.tup [v1, v2])) D (ExO o' D) b = some y := fun b y hb e => (upd_ne hb).trans e
      refine ⟨fun b y hb e => mv _ _ hb (sk _ _ (sT _ _ (m6 b y hb e))), _, dn2, Nat.le_trans (putN_len _ _ _) (Nat.succ_le_succ hfl), ?_⟩
      have hlt : (cs.take i).length = i := by
        rw [List.length_take]
        omega
      have := FdOk.put (c := cs[i]) fd
      rw [hlt] at this
      rw [List.take_succ, List.getElem?_eq_getElem hic]
      exact ⟨this.all, this.some⟩
    · obtain ⟨m6, fnd, dn, hfl, fd⟩ := hP
      rw [hxl, List.take_length] at fd
      obtain ⟨oo, _, _, _, eD, _⟩ := dn.ob
      have hpD : p ≠ D := ne_of_none e6 nD
      have e7 := m6 _ _ hpD e6
      have st : ∀ b y, b ≠ p → G b = some y → upd G p (.ins C dx (putF "_found" (.ref D) (putF "fresh" (.ref af) (putF "taken" (.ref at_) (putF "cells" (.ref ac) (putF "lists" (.ref al) (putF "differences" (.ref ad) (putF "many" (.int m) [])))))))) b = some y := fun b y hb e => (upd_ne hb).trans e
      have m7 : ∀ b y, b ≠ p → G6 b = some y → upd G p (.ins C dx (putF "_found" (.ref D) (putF "fresh" (.ref af) (putF "taken" (.ref at_) (putF "cells" (.ref ac) (putF "lists" (.ref al) (putF "differences" (.ref ad) (putF "many" (.int m) [])))))))) b = some y := fun b y hb e => st _ _ hb (m6 b y (ne_of_none e nD) e)
      refine ⟨_, rfl, p, C, dx, _, rfl, e7, T.cl, T.nO, Nat.lt_of_le_of_lt (pl_len (pl_len (pl_len (pl_len (pl_len (pl_len c0)))))) (by decide), ?_⟩
      have mvd : ∀ (d : PyData) (v : V), noL d = true → Dp K G v d → Dp K _ v d := dp_keep e7 st
      refine q _ ad al ac at_ af D fnd (fun b y hb e => m7 _ _ hb (k6 b y hb e)) hnd hnl hnc hnt hnf (was_none k6 (Ne.symm hpD) nD) hnod ⟨⟨dx, upd_same⟩, m7 _ _ n2 d6, m7 _ _ n3 l6, m7 _ _ n4 c6, m7 _ _ n5 t6, m7 _ _ n6 f6, ?_, fd.mono mvd, dpa_keep (dp_keep e6 m7) (noLs_ce cs) hcc, by omega⟩
      obtain ⟨oo, es, ep, xs, eD, r1, r2, r3, r4, r5⟩ := dn.ob
      exact ⟨dn.sm, dn.ln, oo, es, ep, xs, st _ _ hpD.symm eD, r1, r2, r3, r4, npair_mono mvd r5⟩
end
end SW

namespace SW
open PySem PySem.Spec PyProof.Rows L2
abbrev s_l_at_most : Stmt := topS 30
theorem sc_l_at_most : FnScope ["f", "g"] ["f", "g"] (defScope s_l_at_most) := ⟨rfl, rfl, rfl, by decide +kernel, rfl, by decide +kernel, by decide +kernel⟩

abbrev s_l_of : Stmt := topS 33
theorem sc_l_of : FnScope ["form", "values"] ["form", "values"] (defScope s_l_of) := ⟨rfl, rfl, rfl, by decide +kernel, rfl, by decide +kernel, by decide +kernel⟩

abbrev s_l_length : Stmt := topS 34
theorem sc_l_length : FnScope ["lists", "number", "step"] ["lists", "number"] (defScope s_l_length) := ⟨rfl, rfl, rfl, by decide +kernel, rfl, by decide +kernel, by decide +kernel⟩

abbrev s_l_small : Stmt := topS 37
theorem sc_l_small : FnScope ["draw"] ["draw"] (defScope s_l_small) := ⟨rfl, rfl, rfl, by decide +kernel, rfl, by decide +kernel, by decide +kernel⟩

abbrev s_l_form_for : Stmt := topS 38
theorem sc_l_form_for : FnScope ["draw", "values", "target", "j"] ["draw", "values", "target"] (defScope s_l_form_for) := ⟨rfl, rfl, rfl, by decide +kernel, rfl, by decide +kernel, by decide +kernel⟩

abbrev s_l_less : Stmt := topS 29
theorem sc_l_less : FnScope ["f", "g"] ["f", "g"] (defScope s_l_less) := ⟨rfl, rfl, rfl, by decide +kernel, rfl, by decide +kernel, by decide +kernel⟩

abbrev s_l_opposite : Stmt := topS 31
theorem sc_l_opposite : FnScope ["difference"] ["difference"] (defScope s_l_opposite) := ⟨rfl, rfl, rfl, by decide +kernel, rfl, by decide +kernel, by decide +kernel⟩

abbrev s_less : Stmt := topS 3
theorem sc_less : FnScope ["f", "g"] ["f", "g"] (defScope s_less) := ⟨rfl, rfl, rfl, by decide +kernel, rfl, by decide +kernel, by decide +kernel⟩

abbrev s_at_most : Stmt := topS 4
theorem sc_at_most : FnScope ["f", "g"] ["f", "g"] (defScope s_at_most) := ⟨rfl, rfl, rfl, by decide +kernel, rfl, by decide +kernel, by decide +kernel⟩

abbrev s_opposite : Stmt := topS 5
theorem sc_opposite : FnScope ["difference", "u", "v", "c"] ["difference"] (defScope s_opposite) := ⟨rfl, rfl, rfl, by decide +kernel, rfl, by decide +kernel, by decide +kernel⟩

abbrev s_l_compared : Stmt := topS 42
theorem sc_l_compared : FnScope ["sign", "left", "right", "truths"] ["sign", "left", "right"] (defScope s_l_compared) := ⟨rfl, rfl, rfl, by decide +kernel, rfl, by decide +kernel, by decide +kernel⟩

abbrev s_l_base : Stmt := topS 39
theorem sc_l_base : FnScope ["rule", "k", "kind", "table", "slope"] ["rule", "k"] (defScope s_l_base) := ⟨rfl, rfl, rfl, by decide +kernel, rfl, by decide +kernel, by decide +kernel⟩

theorem wo_at {ns : List Int} {f : Fm} (h : fok ns.length f) (h0 : ¬ f.1 = 0) : ∃ z, atI (ns.map V.int) (f.1 - 1) = some (.int z) ∧ wo ns f = z + f.2 := by
  obtain ⟨h1, h2⟩ := h
  obtain ⟨j, hj⟩ : ∃ j : Nat, f.1 - 1 = j := ⟨(f.1 - 1).toNat, by omega⟩
  have hl : j < ns.length := by omega
  refine ⟨ns[j], ?_, ?_⟩
  · rw [hj]
    exact ints_at hl
  · unfold wo
    rw [if_neg h0, hj, Int.toNat_natCast, List.getD_eq_getElem?_getD, List.getElem?_eq_getElem hl]
    rfl
def CsOk (m : Nat) (cs : List Ce) : Prop := ∀ c, c ∈ cs → c.ok m
section
variable {P : Program} {w : World} {K : PySem.W.Frag} {mg : PySem.Str → Option Value} {base : Heap} {C : Addr}
def spLOf (K : PySem.W.Frag) : Sp := fun vs H Q _ => ∃ (v : V) (b : Addr) (f : Fm) (ns : List Int), vs = [v, .ref b] ∧ Dp K H v (f2 f) ∧ SqL K H b (ns.map V.int) ∧ fok ns.length f ∧ Q (.int (wo ns f)) H
theorem ok_l_of (T : TxB mg) (D_l_of : Df K mg "_law_of" s_l_of ["form", "values"]) : FnOk P w K mg base CX0 1 D_l_of.f D_l_of.fd ["form", "values"] (spLOf K) := by
  refine D_l_of.F.ok sc_l_of (fun vs H Q E h => ?_) (fun cdv A outer s H vs Q E hr h => ?_)
  · obtain ⟨v, b, f, ns, rfl, _⟩ := h
    rfl
  · obtain ⟨v, b, f, ns, rfl, hv, hb, hf, q⟩ := h
    obtain ⟨t, v1, v2, rfl, ht, h1, h2⟩ := dp_inv2 hv
    cases dp_int_inv h1
    cases dp_int_inv h2
    refine ⟨_, (pss_cons (ps_if (pt_cmpR op_eq (pe_ix ix_tup (pv 0) pe_int (fun _ _ => rfl)) pe_int (nomark _))
    (pss_one (ps_ret (pe_ix ix_tup (pv 0) pe_int (fun _ _ => rfl))))
    pss_nil)
    (pss_one (ps_ret (pe_op op_add (pe_ix ix_list (pv 1) (pe_op op_sub (pe_ix ix_tup (pv 0) pe_int (fun _ _ => rfl)) pe_int) (fun _ _ => rfl)) (pe_ix ix_tup (pv 0) pe_int (fun _ _ => rfl)))))), ?_⟩
    refine ⟨_, rfl, t, _, _, _, rfl, rfl, ht, atI_nat (j := 0) rfl, rfl, _, rfl, ?_⟩
    rw [int_dec]
    refine ite2 (fun e => ?_) (fun e => ?_)
    · have e := of_decide_eq_true e
      have ew : wo ns f = f.2 := if_pos e
      rw [ew] at q
      exact ⟨_, rfl, t, _, _, _, rfl, rfl, ht, atI_nat (j := 1) rfl, q⟩
    · have e : ¬ f.1 = 0 := fun h => e (decide_eq_true h)
      obtain ⟨z, hz, ez⟩ := wo_at hf e
      rw [ez] at q
      exact ⟨_, rfl, _, rfl, t, _, _, _, rfl, rfl, ht, atI_nat (j := 0) rfl, _, _, rfl, rfl, b, _, _, _, rfl, rfl, hb, hz, _, rfl, t, _, _, _, rfl, rfl, ht, atI_nat (j := 1) rfl, _, _, rfl, rfl, q⟩
def spAtMost (K : PySem.W.Frag) : Sp := fun vs H Q _ => ∃ (u v : V) (f g : Fm), vs = [u, v] ∧ Dp K H u (f2 f) ∧ Dp K H v (f2 g) ∧ ∀ t H', Same H H' → H' t = some (.tup [.int f.1, .int g.1, .int (g.2 - f.2)]) → Q (.ref t) H'
theorem ok_l_at_most (T : TxB mg) (D_l_at_most : Df K mg "_law_at_most" s_l_at_most ["f", "g"]) : FnOk P w K mg base CX0 1 D_l_at_most.f D_l_at_most.fd ["f", "g"] (spAtMost K) := by
  refine D_l_at_most.F.ok sc_l_at_most (fun vs H Q E h => ?_) (fun cdv A outer s H vs Q E hr h => ?_)
  · obtain ⟨u, v, f, g, rfl, _⟩ := h
    rfl
  · obtain ⟨u, v, f, g, rfl, hu, hv, q⟩ := h
    obtain ⟨t, v1, v2, rfl, ht, h1, h2⟩ := dp_inv2 hu
    cases dp_int_inv h1
    cases dp_int_inv h2
    obtain ⟨t2, v1, v2, rfl, ht2, h1, h2⟩ := dp_inv2 hv
    cases dp_int_inv h1
    cases dp_int_inv h2
    refine ⟨_, (pss_one (ps_ret (pe_tup (pa_cons (pe_ix ix_tup (pv 0) pe_int (fun _ _ => rfl)) (pa_cons (pe_ix ix_tup (pv 1) pe_int (fun _ _ => rfl)) (pa_cons (pe_op op_sub (pe_ix ix_tup (pv 1) pe_int (fun _ _ => rfl)) (pe_ix ix_tup (pv 0) pe_int (fun _ _ => rfl))) pa_nil)))))), ?_⟩
    exact ⟨_, rfl, t, _, _, _, rfl, rfl, ht, atI_nat (j := 0) rfl, _, rfl, t2, _, _, _, rfl, rfl, ht2, atI_nat (j := 0) rfl, _, rfl, t2, _, _, _, rfl, rfl, ht2, atI_nat (j := 1) rfl, _, rfl, t, _, _, _, rfl, rfl, ht, atI_nat (j := 1) rfl, _, _, rfl, rfl, by show (3 : Nat) ≤ sizeLine; decide, fun p np => q p _ (same_new np) upd_same⟩
def spLLength (K : PySem.W.Frag) : Sp := fun vs H Q _ => ∃ (al : Addr) (num m : Nat) (ls : List Ld) (xl : List V), vs = [.ref al, .int num] ∧ SqL K H al xl ∧ DpAll K H xl (ls.map Ld.enc) ∧ LsOk m ls ∧ num < ls.length ∧ ls.length ≤ 1000 ∧ ∀ v, Dp K H v (f2 (LN ls num)) → Q v H
theorem ok_l_length (T : TxB mg) (D_l_length : Df K mg "_law_length" s_l_length ["lists", "number"]) : FnOk P w K mg base CX0 1 D_l_length.f D_l_length.fd ["lists", "number"] (spLLength K) := by
  refine D_l_length.F.ok sc_l_length (fun vs H Q E h => ?_) (fun cdv A outer s H vs Q E hr h => ?_)
  · obtain ⟨al, num, m, ls, xl, rfl, _⟩ := h
    rfl
  · obtain ⟨al, num, m, ls, xl, rfl, hal, hx, lok, hnum, hll, q⟩ := h
    refine ⟨_, (pss_cons (ps_for PassesOwn.never rfl (pi_range1 (by rfl) T.n_range (pa_cons (pe_callB call_len_seq (by rfl) T.n_len PySem.boot_len (pa_cons (pv 0) pa_nil)) pa_nil)) (pg_name (i := 2) sc_l_length.nd rfl (.inl rfl))
    (pss_cons (ps_if (pt_cmpR op_eq (pe_ix ix_tup (pe_ix ix_list (pv 0) (pv 1) (fun _ _ => rfl)) pe_int (fun _ _ => rfl)) pe_str (nomark _))
    (pss_one (ps_ret (pe_ix ix_tup (pe_ix ix_list (pv 0) (pv 1) (fun _ _ => rfl)) pe_int (fun _ _ => rfl))))
    pss_nil)
    (pss_one (ps_set (i := 1) sc_l_length.nd rfl (.inl rfl) (pe_ix ix_tup (pe_ix ix_list (pv 0) (pv 1) (fun _ _ => rfl)) pe_int (fun _ _ => rfl))))))
    (pss_one (ps_ret pe_non))), ?_⟩
    have hxl : xl.length = ls.length := by rw [dpa_len hx, List.length_map]
    have get : ∀ {j : Nat} {l : Ld}, ls[j]? = some l → ∃ v, xl[j]? = some v ∧ Dp K H v l.enc := fun {j l} h => dpa_get' hx (by rw [List.getElem?_map, h]; rfl)
    refine ⟨_, rfl, al, _, rfl, .inl hal, _, rfl, by omega, by omega, ?_⟩
    refine for_range (lo := 0) (n := ((xl.length : Nat) : Int).toNat) (fun i σ G => G = H ∧ ∃ (mm : Nat) (y2 : Option V), σ = [some (.ref al), some (.int mm), y2] ∧ mm + i ≤ num ∧ LN ls num = LN ls mm) ⟨rfl, num, _, rfl, Nat.le_refl _, rfl⟩ (fun i σ G hi hP => ?_) (fun σ G hP => ?_)
    · obtain ⟨rfl, mm, y2, rfl, hmm, hln⟩ := hP
      have hml : mm < ls.length := by omega
      have hl := List.getElem?_eq_getElem hml
      obtain ⟨v, g, d⟩ := get hl
      generalize ls[mm] = l at hl d
      cases l with
      | new f =>
        obtain ⟨t, v1, v2, rfl, ht, w1, w2⟩ := dp_inv2 d
        cases dp_str_inv w1
        rw [LN_new hl] at hln
        rw [hln] at q
        exact ⟨_, rfl, _, rfl, al, _, _, _, rfl, rfl, hal, atI_nat g, t, _, _, _, rfl, rfl, ht, atI_nat (j := 0) rfl, rfl, _, rfl, iteT ⟨_, rfl, _, rfl, al, _, _, _, rfl, rfl, hal, atI_nat g, t, _, _, _, rfl, rfl, ht, atI_nat (j := 1) rfl, q _ w2⟩⟩
      | wr o i2 u =>
        obtain ⟨t, v1, v2, v3, v4, rfl, ht, w1, w2, w3, w4⟩ := dp_inv4 d
        cases dp_str_inv w1
        cases dp_int_inv w2
        have ho := (lok _ _ hl).1
        rw [LN_wr lok hl] at hln
        exact ⟨_, rfl, _, rfl, al, _, _, _, rfl, rfl, hal, atI_nat g, t, _, _, _, rfl, rfl, ht, atI_nat (j := 0) rfl, rfl, _, rfl, iteF ⟨_, rfl, _, rfl, al, _, _, _, rfl, rfl, hal, atI_nat g, t, _, _, _, rfl, rfl, ht, atI_nat (j := 1) rfl, rfl, o, _, rfl, by omega, hln⟩⟩
    · obtain ⟨rfl, mm, y2, rfl, hmm, hln⟩ := hP
      omega
def spSmall : Sp := fun vs H Q _ => ∃ d : Int, vs = [.int d] ∧ ∀ r : Int, -(10 ^ 10) ≤ r → r ≤ 10 ^ 10 → Q (.int r) H
theorem ok_l_small (T : TxB mg) (D_l_small : Df K mg "_law_small" s_l_small ["draw"]) : FnOk P w K mg base CX0 1 D_l_small.f D_l_small.fd ["draw"] spSmall := by
  refine D_l_small.F.ok sc_l_small (fun vs H Q E h => ?_) (fun cdv A outer s H vs Q E hr h => ?_)
  · obtain ⟨d, rfl, _⟩ := h
    rfl
  · obtain ⟨d, rfl, q⟩ := h
    refine ⟨_, (pss_cons (ps_if (pt_cmpR op_eq (pe_op op_mod (pe_callTy call_int1 (by rfl) T.n_int (by decide +kernel) (pa_cons (pv 0) pa_nil)) pe_int) pe_int (nomark _))
    (pss_one (ps_ret (pe_op op_mul (pe_op op_sub pe_int (pe_op op_mul pe_int (pe_op op_mod (pe_callTy call_int1 (by rfl) T.n_int (by decide +kernel) (pa_cons (pe_op op_fdivW (pv 0) pe_int) pa_nil)) pe_int))) (pe_op op_add (pe_op op_pow pe_int pe_int) (pe_op op_mod (pe_callTy call_int1 (by rfl) T.n_int (by decide +kernel) (pa_cons (pe_op op_fdivW (pv 0) pe_int) pa_nil)) pe_int)))))
    pss_nil)
    (pss_one (ps_ret (pe_op op_sub (pe_op op_mod (pe_callTy call_int1 (by rfl) T.n_int (by decide +kernel) (pa_cons (pe_op op_fdivW (pv 0) pe_int) pa_nil)) pe_int) pe_int)))), ?_⟩
    refine ⟨_, rfl, .inl ⟨_, rfl, _, _, rfl, rfl, by show (0 : Int) < 12; decide, rfl, _, rfl, ite2 (fun _ => ?_) (fun _ => ?_)⟩⟩
    · refine ⟨_, rfl, _, _, rfl, rfl, ⟨by decide, by decide⟩, .inl ⟨_, rfl, _, _, rfl, rfl, by show (0 : Int) < 2; decide, _, _, rfl, rfl, .inl ⟨by decide, by decide⟩, _, _, rfl, rfl, ?_⟩⟩
      refine ⟨_, _, rfl, rfl, ⟨by decide, by decide, by decide⟩, _, rfl, _, _, rfl, rfl, ⟨by decide, by decide⟩, .inl ⟨_, rfl, _, _, rfl, rfl, by show (0 : Int) < 1000; decide, _, _, rfl, rfl, _, _, rfl, rfl, .inl ⟨by omega, by omega⟩, ?_⟩⟩
      have a0 : 0 ≤ d / 12 % 2 := Int.emod_nonneg _ (by decide)
      have a1 : d / 12 % 2 < 2 := Int.emod_lt_of_pos _ (by decide)
      have b0 : 0 ≤ d / 24 % 1000 := Int.emod_nonneg _ (by decide)
      have b1 : d / 24 % 1000 < 1000 := Int.emod_lt_of_pos _ (by decide)
      have e : ∀ x y : Int, 0 ≤ x → x < 2 → 0 ≤ y → y < 1000 → -(10 ^ 10) ≤ (1 - 2 * x) * (10 ^ 9 + y) ∧ (1 - 2 * x) * (10 ^ 9 + y) ≤ 10 ^ 10 := fun x y h1 h2 h3 h4 => by
        have : x = 0 ∨ x = 1 := by omega
        rcases this with rfl | rfl
        · rw [show (1 - 2 * (0 : Int)) = 1 by decide, Int.one_mul]
          omega
        · rw [show (1 - 2 * (1 : Int)) = -1 by decide, Int.neg_one_mul]
          omega
      have := e _ _ a0 a1 b0 b1
      exact q _ this.1 this.2
    · refine ⟨_, rfl, _, _, rfl, rfl, ⟨by decide, by decide⟩, .inl ⟨_, rfl, _, _, rfl, rfl, by show (0 : Int) < 12; decide, _, _, rfl, rfl, ?_⟩⟩
      have a0 : 0 ≤ d / 12 % 12 := Int.emod_nonneg _ (by decide)
      have a1 : d / 12 % 12 < 12 := Int.emod_lt_of_pos _ (by decide)
      exact q _ (by show _ ≤ d / 12 % 12 - 3; omega) (by show d / 12 % 12 - 3 ≤ _; omega)
def spFormFor (K : PySem.W.Frag) : Sp := fun vs H Q _ => ∃ (b : Addr) (d z : Int) (ns : List Int), vs = [.int d, .ref b, .int z] ∧ SqL K H b (ns.map V.int) ∧ ns.length ≤ 1000 ∧ ∀ (t : Addr) (f : Fm) (H' : Hp), Same H H' → H' t = some (.tup [.int f.1, .int f.2]) → fok ns.length f → wo ns f = z → Q (.ref t) H'
theorem ok_l_form_for (T : TxB mg) (D_l_form_for : Df K mg "_law_form_for" s_l_form_for ["draw", "values", "target"]) : FnOk P w K mg base CX0 1 D_l_form_for.f D_l_form_for.fd ["draw", "values", "target"] (spFormFor K) := by
  refine D_l_form_for.F.ok sc_l_form_for (fun vs H Q E h => ?_) (fun cdv A outer s H vs Q E hr h => ?_)
  · obtain ⟨b, d, z, ns, rfl, _⟩ := h
    rfl
  · obtain ⟨b, d, z, ns, rfl, hb, hnl, q⟩ := h
    refine ⟨_, (pss_cons (ps_set (i := 3) sc_l_form_for.nd rfl (.inl rfl) (pe_op op_mod (pe_callTy call_int1 (by rfl) T.n_int (by decide +kernel) (pa_cons (pv 0) pa_nil)) (pe_op op_add (pe_callB call_len_seq (by rfl) T.n_len PySem.boot_len (pa_cons (pv 1) pa_nil)) pe_int)))
    (pss_cons (ps_if (pt_cmpR op_eq (pv 3) pe_int (nomark _))
    (pss_one (ps_ret (pe_tup (pa_cons pe_int (pa_cons (pv 2) pa_nil)))))
    pss_nil)
    (pss_one (ps_ret (pe_tup (pa_cons (pv 3) (pa_cons (pe_op op_sub (pv 2) (pe_ix ix_list (pv 1) (pe_op op_sub (pv 3) pe_int) (fun _ _ => rfl))) pa_nil))))))), ?_⟩
    refine ⟨_, rfl, .inl ⟨_, rfl, _, rfl, b, _, rfl, .inl hb, _, _, rfl, rfl, _, _, rfl, rfl, by rw [List.length_map]; omega, ?_⟩⟩
    rw [List.length_map]
    have j0 : 0 ≤ d % ((ns.length : Nat) + 1 : Int) := Int.emod_nonneg _ (by omega)
    have j1 : d % ((ns.length : Nat) + 1 : Int) < (ns.length : Nat) + 1 := Int.emod_lt_of_pos _ (by omega)
    dsimp only
    generalize d % ((ns.length : Nat) + 1 : Int) = j at j0 j1
    refine ⟨_, rfl, rfl, _, rfl, ?_⟩
    rw [int_dec]
    refine ite2 (fun e => ?_) (fun e => ?_)
    · exact ⟨_, rfl, by show (2 : Nat) ≤ sizeLine; decide, fun t nt => q t (0, z) _ (same_new nt) upd_same ⟨Int.le_refl _, by show (0 : Int) ≤ _; omega⟩ rfl⟩
    · have e : ¬ j = 0 := fun h => e (decide_eq_true h)
      have hf : fok ns.length (j, 0) := ⟨j0, by show j ≤ _; omega⟩
      obtain ⟨y, hy, ey⟩ := wo_at hf e
      refine ⟨_, rfl, _, rfl, _, rfl, _, rfl, _, _, rfl, rfl, b, _, _, _, rfl, rfl, hb, hy, _, _, rfl, rfl, by show (2 : Nat) ≤ sizeLine; decide, fun t nt => q t (j, z - y) _ (same_new nt) upd_same ⟨j0, by show j ≤ _; omega⟩ ?_⟩
      have h1 : wo ns (j, z - y) = ns.getD (j - 1).toNat 0 + (z - y) := if_neg e
      have h2 : wo ns (j, 0) = ns.getD (j - 1).toNat 0 + 0 := if_neg e
      have ey : wo ns (j, 0) = y + 0 := ey
      omega

def spLess (K : PySem.W.Frag) : Sp := fun vs H Q _ => ∃ (u v : V) (f g : Fm), vs = [u, v] ∧ Dp K H u (f2 f) ∧ Dp K H v (f2 g) ∧ ∀ t H', Same H H' → H' t = some (.tup [.int f.1, .int g.1, .int (g.2 - f.2 - 1)]) → Q (.ref t) H'
theorem ok_l_less (T : TxB mg) (D_l_less : Df K mg "_law_less" s_l_less ["f", "g"]) : FnOk P w K mg base CX0 1 D_l_less.f D_l_less.fd ["f", "g"] (spLess K) := by
  refine D_l_less.F.ok sc_l_less (fun vs H Q E h => ?_) (fun cdv A outer s H vs Q E hr h => ?_)
  · obtain ⟨u, v, f, g, rfl, _⟩ := h
    rfl
  · obtain ⟨u, v, f, g, rfl, hu, hv, q⟩ := h
    obtain ⟨t, v1, v2, rfl, ht, h1, h2⟩ := dp_inv2 hu
    cases dp_int_inv h1
    cases dp_int_inv h2
    obtain ⟨t2, v1, v2, rfl, ht2, h1, h2⟩ := dp_inv2 hv
    cases dp_int_inv h1
    cases dp_int_inv h2
    refine ⟨_, (pss_one (ps_ret (pe_tup (pa_cons (pe_ix ix_tup (pv 0) pe_int (fun _ _ => rfl)) (pa_cons (pe_ix ix_tup (pv 1) pe_int (fun _ _ => rfl)) (pa_cons (pe_op op_sub (pe_op op_sub (pe_ix ix_tup (pv 1) pe_int (fun _ _ => rfl)) (pe_ix ix_tup (pv 0) pe_int (fun _ _ => rfl))) pe_int) pa_nil)))))), ?_⟩
    exact ⟨_, rfl, t, _, _, _, rfl, rfl, ht, atI_nat (j := 0) rfl, _, rfl, t2, _, _, _, rfl, rfl, ht2, atI_nat (j := 0) rfl, _, rfl, t2, _, _, _, rfl, rfl, ht2, atI_nat (j := 1) rfl, _, rfl, t, _, _, _, rfl, rfl, ht, atI_nat (j := 1) rfl, _, _, rfl, rfl, _, _, rfl, rfl, by show (3 : Nat) ≤ sizeLine; decide, fun p np => q p _ (same_new np) upd_same⟩
theorem ok_less (T : TxB mg) (D_less : Df K mg "less" s_less ["f", "g"]) : FnOk P w K mg base CX0 1 D_less.f D_less.fd ["f", "g"] (spLess K) := by
  refine D_less.F.ok sc_less (fun vs H Q E h => ?_) (fun cdv A outer s H vs Q E hr h => ?_)
  · obtain ⟨u, v, f, g, rfl, _⟩ := h
    rfl
  · obtain ⟨u, v, f, g, rfl, hu, hv, q⟩ := h
    obtain ⟨t, v1, v2, rfl, ht, h1, h2⟩ := dp_inv2 hu
    cases dp_int_inv h1
    cases dp_int_inv h2
    obtain ⟨t2, v1, v2, rfl, ht2, h1, h2⟩ := dp_inv2 hv
    cases dp_int_inv h1
    cases dp_int_inv h2
    refine ⟨_, (pss_one (ps_ret (pe_tup (pa_cons (pe_ix ix_tup (pv 0) pe_int (fun _ _ => rfl)) (pa_cons (pe_ix ix_tup (pv 1) pe_int (fun _ _ => rfl)) (pa_cons (pe_op op_sub (pe_op op_sub (pe_ix ix_tup (pv 1) pe_int (fun _ _ => rfl)) (pe_ix ix_tup (pv 0) pe_int (fun _ _ => rfl))) pe_int) pa_nil)))))), ?_⟩
    exact ⟨_, rfl, t, _, _, _, rfl, rfl, ht, atI_nat (j := 0) rfl, _, rfl, t2, _, _, _, rfl, rfl, ht2, atI_nat (j := 0) rfl, _, rfl, t2, _, _, _, rfl, rfl, ht2, atI_nat (j := 1) rfl, _, rfl, t, _, _, _, rfl, rfl, ht, atI_nat (j := 1) rfl, _, _, rfl, rfl, _, _, rfl, rfl, by show (3 : Nat) ≤ sizeLine; decide, fun p np => q p _ (same_new np) upd_same⟩
theorem ok_at_most (T : TxB mg) (D_at_most : Df K mg "at_most" s_at_most ["f", "g"]) : FnOk P w K mg base CX0 1 D_at_most.f D_at_most.fd ["f", "g"] (spAtMost K) := by
  refine D_at_most.F.ok sc_at_most (fun vs H Q E h => ?_) (fun cdv A outer s H vs Q E hr h => ?_)
  · obtain ⟨u, v, f, g, rfl, _⟩ := h
    rfl
  · obtain ⟨u, v, f, g, rfl, hu, hv, q⟩ := h
    obtain ⟨t, v1, v2, rfl, ht, h1, h2⟩ := dp_inv2 hu
    cases dp_int_inv h1
    cases dp_int_inv h2
    obtain ⟨t2, v1, v2, rfl, ht2, h1, h2⟩ := dp_inv2 hv
    cases dp_int_inv h1
    cases dp_int_inv h2
    refine ⟨_, (pss_one (ps_ret (pe_tup (pa_cons (pe_ix ix_tup (pv 0) pe_int (fun _ _ => rfl)) (pa_cons (pe_ix ix_tup (pv 1) pe_int (fun _ _ => rfl)) (pa_cons (pe_op op_sub (pe_ix ix_tup (pv 1) pe_int (fun _ _ => rfl)) (pe_ix ix_tup (pv 0) pe_int (fun _ _ => rfl))) pa_nil)))))), ?_⟩
    exact ⟨_, rfl, t, _, _, _, rfl, rfl, ht, atI_nat (j := 0) rfl, _, rfl, t2, _, _, _, rfl, rfl, ht2, atI_nat (j := 0) rfl, _, rfl, t2, _, _, _, rfl, rfl, ht2, atI_nat (j := 1) rfl, _, rfl, t, _, _, _, rfl, rfl, ht, atI_nat (j := 1) rfl, _, _, rfl, rfl, by show (3 : Nat) ≤ sizeLine; decide, fun p np => q p _ (same_new np) upd_same⟩
def spOpp (K : PySem.W.Frag) : Sp := fun vs H Q _ => ∃ (u : Addr) (a b c : Int), vs = [.ref u] ∧ SqT K H u [.int a, .int b, .int c] ∧ ∀ t H', Same H H' → H' t = some (.tup [.int b, .int a, .int (-c - 1)]) → Q (.ref t) H'
theorem ok_l_opposite (T : TxB mg) (D_l_opposite : Df K mg "_law_opposite" s_l_opposite ["difference"]) : FnOk P w K mg base CX0 1 D_l_opposite.f D_l_opposite.fd ["difference"] (spOpp K) := by
  refine D_l_opposite.F.ok sc_l_opposite (fun vs H Q E h => ?_) (fun cdv A outer s H vs Q E hr h => ?_)
  · obtain ⟨u, a, b, c, rfl, _⟩ := h
    rfl
  · obtain ⟨u, a, b, c, rfl, hu, q⟩ := h
    refine ⟨_, (pss_one (ps_ret (pe_tup (pa_cons (pe_ix ix_tup (pv 0) pe_int (fun _ _ => rfl)) (pa_cons (pe_ix ix_tup (pv 0) pe_int (fun _ _ => rfl)) (pa_cons (pe_op op_sub (pe_un un_neg (pe_ix ix_tup (pv 0) pe_int (fun _ _ => rfl))) pe_int) pa_nil)))))), ?_⟩
    exact ⟨_, rfl, u, _, _, _, rfl, rfl, hu, atI_nat (j := 1) rfl, _, rfl, u, _, _, _, rfl, rfl, hu, atI_nat (j := 0) rfl, _, rfl, u, _, _, _, rfl, rfl, hu, atI_nat (j := 2) rfl, _, rfl, _, _, rfl, rfl, by show (3 : Nat) ≤ sizeLine; decide, fun p np => q p _ (same_new np) upd_same⟩
theorem ok_opposite (T : TxB mg) (D_opposite : Df K mg "opposite" s_opposite ["difference"]) : FnOk P w K mg base CX0 1 D_opposite.f D_opposite.fd ["difference"] (spOpp K) := by
  refine D_opposite.F.ok sc_opposite (fun vs H Q E h => ?_) (fun cdv A outer s H vs Q E hr h => ?_)
  · obtain ⟨u, a, b, c, rfl, _⟩ := h
    rfl
  · obtain ⟨u, a, b, c, rfl, hu, q⟩ := h
    refine ⟨_, (pss_cons (ps_asg (pv 0) (pg_tup (by rfl) (pgs_cons (pg_name (i := 1) sc_opposite.nd rfl (.inl rfl)) (pgs_cons (pg_name (i := 2) sc_opposite.nd rfl (.inl rfl)) (pgs_cons (pg_name (i := 3) sc_opposite.nd rfl (.inl rfl)) pgs_nil)))))
    (pss_one (ps_ret (pe_tup (pa_cons (pv 2) (pa_cons (pv 1) (pa_cons (pe_op op_sub (pe_un un_neg (pv 3)) pe_int) pa_nil))))))), ?_⟩
    refine ⟨_, rfl, u, _, rfl, hu, rfl, _, _, rfl, _, _, rfl, _, _, rfl, rfl, ?_⟩
    exact ⟨_, rfl, _, rfl, _, rfl, _, rfl, _, _, rfl, rfl, by show (3 : Nat) ≤ sizeLine; decide, fun p np => q p _ (same_new np) upd_same⟩
/-- the kinds of a new list -/
structure Ru where
  k : Int
  q : Addr
  t : List Int
  s : Int
def Ru.ok (r : Ru) : Prop := r.t.length = 3 ∧ (∀ z, z ∈ r.t → -10 ≤ z ∧ z ≤ 10) ∧ 0 ≤ r.s ∧ r.s ≤ 10
def RuAt (K : PySem.W.Frag) (H : Hp) (v : V) (r : Ru) : Prop := ∃ p, v = .ref p ∧ SqT K H p [.int r.k, .ref r.q, .int r.s] ∧ H r.q = some (.lst (r.t.map V.int))
def spBase (K : PySem.W.Frag) : Sp := fun vs H Q _ => ∃ (v : V) (k : Int) (r : Ru), vs = [v, .int k] ∧ RuAt K H v r ∧ r.ok ∧ -1000 ≤ k ∧ k ≤ 1000 ∧ ∀ z : Int, -20000 ≤ z → z ≤ 20000 → Q (.int z) H
theorem ok_l_base (T : TxB mg) (D_l_base : Df K mg "_law_base" s_l_base ["rule", "k"]) : FnOk P w K mg base CX0 1 D_l_base.f D_l_base.fd ["rule", "k"] (spBase K) := by
  refine D_l_base.F.ok sc_l_base (fun vs H Q E h => ?_) (fun cdv A outer s H vs Q E hr h => ?_)
  · obtain ⟨v, k, r, rfl, _⟩ := h
    rfl
  · obtain ⟨v, k, r, rfl, ⟨p, rfl, hp, hq⟩, ⟨hl, hb, hs0, hs1⟩, hk0, hk1, q⟩ := h
    refine ⟨_, (pss_cons (ps_asg (pv 0) (pg_tup (by rfl) (pgs_cons (pg_name (i := 2) sc_l_base.nd rfl (.inl rfl)) (pgs_cons (pg_name (i := 3) sc_l_base.nd rfl (.inl rfl)) (pgs_cons (pg_name (i := 4) sc_l_base.nd rfl (.inl rfl)) pgs_nil)))))
    (pss_cons (ps_if (pt_cmpR op_eq (pv 2) pe_int (nomark _))
    (pss_one (ps_ret (pe_ix ix_list (pv 3) (pe_op op_mod (pe_callTy call_int1 (by rfl) T.n_int (by decide +kernel) (pa_cons (pv 1) pa_nil)) (pe_callB call_len_seq (by rfl) T.n_len PySem.boot_len (pa_cons (pv 3) pa_nil))) (fun _ _ => rfl))))
    pss_nil)
    (pss_cons (ps_if (pt_cmpR op_eq (pv 2) pe_int (nomark _))
    (pss_one (ps_ret (pe_op op_add (pe_op op_add (pe_ix ix_list (pv 3) pe_int (fun _ _ => rfl)) (pe_op op_mul (pv 4) (pv 1))) (pe_op op_mul (pe_ix ix_list (pv 3) pe_int (fun _ _ => rfl)) (pe_callTy call_int1 (by rfl) T.n_int (by decide +kernel) (pa_cons (pe_cmpR op_gt (pv 1) pe_int (nomark _)) pa_nil))))))
    pss_nil)
    (pss_one (ps_ret (pe_ix ix_list (pv 3) pe_int (fun _ _ => rfl))))))), ?_⟩
    have at_ : ∀ j : Nat, j < 3 → ∃ z : Int, atI (r.t.map V.int) (j : Nat) = some (.int z) ∧ -10 ≤ z ∧ z ≤ 10 := fun j hj => ⟨_, ints_at (by omega), hb _ (List.getElem_mem (by omega))⟩
    refine ⟨_, rfl, p, _, rfl, hp, rfl, _, _, rfl, _, _, rfl, _, _, rfl, rfl, ?_⟩
    obtain ⟨z0, a0, l0, u0⟩ := at_ 0 (by decide)
    obtain ⟨z1, a1, l1, u1⟩ := at_ 1 (by decide)
    refine ⟨_, rfl, rfl, _, rfl, ite2 (fun _ => ?_) (fun _ => ?_)⟩
    · refine ⟨_, rfl, _, rfl, .inl ⟨_, rfl, _, rfl, r.q, _, rfl, .inl (SqL.of hq), _, _, rfl, rfl, by rw [List.length_map]; omega, ?_⟩⟩
      rw [List.length_map, hl]
      have m0 : 0 ≤ k % ((3 : Nat) : Int) := Int.emod_nonneg _ (by decide)
      have m1 : k % ((3 : Nat) : Int) < ((3 : Nat) : Int) := Int.emod_lt_of_pos _ (by decide)
      dsimp only
      generalize k % ((3 : Nat) : Int) = j at m0 m1
      obtain ⟨j, rfl⟩ : ∃ t : Nat, j = t := ⟨j.toNat, by omega⟩
      obtain ⟨z, a, l, u⟩ := at_ j (by omega)
      exact ⟨r.q, _, _, _, rfl, rfl, SqL.of hq, a, q z (by omega) (by omega)⟩
    · refine ⟨_, rfl, rfl, _, rfl, ite2 (fun _ => ?_) (fun _ => ?_)⟩
      · refine ⟨_, rfl, r.q, _, _, _, rfl, rfl, SqL.of hq, a0, _, rfl, _, rfl, _, _, rfl, rfl, .inl ⟨by omega, by omega⟩, _, _, rfl, rfl, ?_⟩
        have e1 : r.s * k ≤ 10000 ∧ -10000 ≤ r.s * k := by
          have h1 : r.s * k ≤ 10 * 1000 := by
            by_cases hk : 0 ≤ k
            · exact Int.mul_le_mul hs1 hk1 hk (by decide)
            · have : r.s * k ≤ 0 := Int.mul_nonpos_of_nonneg_of_nonpos hs0 (by omega)
              omega
          have h2 : -(r.s * k) ≤ 10 * 1000 := by
            rw [← Int.mul_neg]
            by_cases hk : 0 ≤ -k
            · exact Int.mul_le_mul hs1 (by omega) hk (by decide)
            · have : r.s * -k ≤ 0 := Int.mul_nonpos_of_nonneg_of_nonpos hs0 (by omega)
              omega
          omega
        refine ⟨_, rfl, r.q, _, _, _, rfl, rfl, SqL.of hq, a1, _, rfl, _, _, rfl, rfl, .inr ⟨_, rfl, _, _, rfl, rfl, .inl ⟨by omega, by omega⟩, _, _, rfl, rfl, ?_⟩⟩
        dsimp only
        by_cases h2 : (2 : Int) < k
        · rw [decide_eq_true h2]
          exact q _ (by show -20000 ≤ z0 + r.s * k + z1 * 1; omega) (by show z0 + r.s * k + z1 * 1 ≤ 20000; omega)
        · rw [decide_eq_false h2]
          exact q _ (by show -20000 ≤ z0 + r.s * k + z1 * 0; omega) (by show z0 + r.s * k + z1 * 0 ≤ 20000; omega)
      · exact ⟨_, rfl, r.q, _, _, _, rfl, rfl, SqL.of hq, a0, q z0 (by omega) (by omega)⟩
/-- a comparison of two ints by its sign -/
def sgs : List PySem.Str := ["<", "<=", ">", ">=", "==", "!="]
theorem sgs_ix {z : PySem.Str} (h : z ∈ sgs) : ∃ j : Nat, j < 6 ∧ (sgs.map V.str)[j]? = some (.str z) ∧ ∀ (m : Nat) (z' : V), m < j → (sgs.map V.str)[m]? = some z' → eqV z' (.str z) = false := by
  have no : ∀ (j : Nat) (z : PySem.Str), (∀ m, m < j → ∀ x, sgs[m]? = some x → (x == z) = false) → ∀ (m : Nat) (z' : V), m < j → (sgs.map V.str)[m]? = some z' → eqV z' (.str z) = false := fun j z h m z' hm e => by
    rw [List.getElem?_map] at e
    obtain ⟨x, hx, rfl⟩ := Option.map_eq_some_iff.mp e
    exact h m hm x hx
  simp only [sgs, List.mem_cons, List.not_mem_nil, or_false] at h
  rcases h with rfl | rfl | rfl | rfl | rfl | rfl
  · exact ⟨0, by decide, rfl, no 0 _ (by decide)⟩
  · refine ⟨1, by decide, rfl, no 1 _ ?_⟩
    intro m hm x hx
    match m, hm, hx with
    | 0, _, hx => cases hx; decide +kernel
  · refine ⟨2, by decide, rfl, no 2 _ ?_⟩
    intro m hm x hx
    match m, hm, hx with
    | 0, _, hx => cases hx; decide +kernel
    | 1, _, hx => cases hx; decide +kernel
  · refine ⟨3, by decide, rfl, no 3 _ ?_⟩
    intro m hm x hx
    match m, hm, hx with
    | 0, _, hx => cases hx; decide +kernel
    | 1, _, hx => cases hx; decide +kernel
    | 2, _, hx => cases hx; decide +kernel
  · refine ⟨4, by decide, rfl, no 4 _ ?_⟩
    intro m hm x hx
    match m, hm, hx with
    | 0, _, hx => cases hx; decide +kernel
    | 1, _, hx => cases hx; decide +kernel
    | 2, _, hx => cases hx; decide +kernel
    | 3, _, hx => cases hx; decide +kernel
  · refine ⟨5, by decide, rfl, no 5 _ ?_⟩
    intro m hm x hx
    match m, hm, hx with
    | 0, _, hx => cases hx; decide +kernel
    | 1, _, hx => cases hx; decide +kernel
    | 2, _, hx => cases hx; decide +kernel
    | 3, _, hx => cases hx; decide +kernel
    | 4, _, hx => cases hx; decide +kernel
theorem six_bl {b0 b1 b2 b3 b4 b5 : Bool} {j : Nat} (h : j < 6) : ∃ b, ([V.bl b0, V.bl b1, V.bl b2, V.bl b3, V.bl b4, V.bl b5] : List V)[j]? = some (.bl b) := by
  match j, h with
  | 0, _ => exact ⟨_, rfl⟩
  | 1, _ => exact ⟨_, rfl⟩
  | 2, _ => exact ⟨_, rfl⟩
  | 3, _ => exact ⟨_, rfl⟩
  | 4, _ => exact ⟨_, rfl⟩
  | 5, _ => exact ⟨_, rfl⟩
  | n + 6, h => exact absurd h (by omega)
def spCompared : Sp := fun vs H Q _ => ∃ (g : PySem.Str) (x y : Int), vs = [.str g, .int x, .int y] ∧ g ∈ sgs ∧ ∀ (b : Bool) H', Same H H' → Q (.bl b) H'
theorem ok_l_compared (T : TxB mg) (D_l_compared : Df K mg "_law_compared" s_l_compared ["sign", "left", "right"]) : FnOk P w K mg base CX0 1 D_l_compared.f D_l_compared.fd ["sign", "left", "right"] spCompared := by
  refine D_l_compared.F.ok sc_l_compared (fun vs H Q E h => ?_) (fun cdv A outer s H vs Q E hr h => ?_)
  · obtain ⟨g, x, y, rfl, _⟩ := h
    rfl
  · obtain ⟨g, x, y, rfl, hg, q⟩ := h
    refine ⟨_, (pss_cons (ps_set (i := 3) sc_l_compared.nd rfl (.inl rfl) (pe_lst (pa_cons (pe_cmpR op_lt (pv 1) (pv 2) (nomark _)) (pa_cons (pe_cmpR op_le (pv 1) (pv 2) (nomark _)) (pa_cons (pe_cmpR op_gt (pv 1) (pv 2) (nomark _)) (pa_cons (pe_cmpR op_ge (pv 1) (pv 2) (nomark _)) (pa_cons (pe_cmpR op_eq (pv 1) (pv 2) (nomark _)) (pa_cons (pe_cmpR op_ne (pv 1) (pv 2) (nomark _)) pa_nil))))))))
    (pss_one (ps_ret (pe_ix ix_list (pv 3) (pe_bm PySem.F.plainAttrs_list PySem.F.slot_list_index PySem.F.type_list_index mt_index (pe_lst (pa_strs (.cons _ _ _ (.cons _ _ _ (.cons _ _ _ (.cons _ _ _ (.cons _ _ _ (.cons _ _ _ .nil)))))))) (pa_cons (pv 0) pa_nil)) (fun _ _ => rfl))))), ?_⟩
    obtain ⟨j, hj, g1, g2⟩ := sgs_ix hg
    refine ⟨_, rfl, _, rfl, _, _, rfl, rfl, _, rfl, _, rfl, _, _, rfl, rfl, _, rfl, _, rfl, _, _, rfl, rfl, _, rfl, _, rfl, _, _, rfl, rfl, _, rfl, _, rfl, rfl, _, rfl, _, rfl, rfl, by show (6 : Nat) ≤ sizeLine; decide, fun l nl => ?_⟩
    generalize hg : upd H l _ = H1
    obtain ⟨s1, e1⟩ := new_of nl hg
    refine ⟨_, rfl, by show (6 : Nat) ≤ sizeLine; decide, fun l2 n2 => ?_⟩
    generalize hg : upd H1 l2 _ = H2
    obtain ⟨s2, e2⟩ := new_of n2 hg
    obtain ⟨b, g3⟩ := six_bl (b0 := decide (x < y)) (b1 := decide (x ≤ y)) (b2 := decide (y < x)) (b3 := decide (y ≤ x)) (b4 := decide (V.int x = V.int y)) (b5 := !decide (V.int x = V.int y)) hj
    exact ⟨.inl ⟨rfl, _, SqL.of e2⟩, _, rfl, l2, _, _, j, _, rfl, rfl, SqL.of e2, rfl, flat_strs sgs, g1, by show (g == g) = true; exact beq_self_eq_true g, g2, l, _, _, _, rfl, rfl, SqL.of (s2 _ _ e1), atI_nat g3, q b _ (s1.trans s2)⟩
end
end SW

namespace SW
open PySem PySem.Spec PyProof.Rows L2
abbrev T3 := Int × Int × Int
def b3 (t : T3) : PyData := .tuple [.int t.1, .int t.2.1, .int t.2.2]
/-! ### promises -/
inductive Pr where
  | all (n : Nat) (lo hi : Fm) (g : PySem.Str) (f : Fm)
  | mat (n : Nat) (lo hi : Fm) (g : PySem.Str) (o : Nat) (c : Int)
  | srt (n : Nat) (lo hi : Fm)
  | bel (n : Nat) (lo hi : Fm) (o : Nat) (a b : Fm)
  | eit (ws : List (List T3))
def Pr.enc : Pr → PyData
  | .all n lo hi g f => .tuple [.str "all", .int n, f2 lo, f2 hi, .str g, f2 f]
  | .mat n lo hi g o c => .tuple [.str "match", .int n, f2 lo, f2 hi, .str g, .int o, .int c]
  | .srt n lo hi => .tuple [.str "sorted", .int n, f2 lo, f2 hi]
  | .bel n lo hi o a b => .tuple [.str "below", .int n, f2 lo, f2 hi, .int o, f2 a, f2 b]
  | .eit ws => .tuple [.str "either", .tuple (ws.map fun w => .tuple (w.map b3))]
def Pr.ix : Pr → List Fm
  | .all _ lo _ _ _ => [lo]
  | .mat _ lo _ _ _ _ => [lo]
  | .srt _ lo _ => [lo]
  | .bel _ lo _ _ a _ => [lo, a]
  | .eit _ => []
def Ld.ix : Ld → List Fm
  | .new _ => []
  | .wr _ i _ => [i, (i.1, i.2 + 1)]
theorem noLs_b3 : ∀ bs : List T3, noLs (bs.map b3) = true
  | [] => rfl
  | _ :: r => noLs_b3 r
theorem noLs_f2s : ∀ bs : List Fm, noLs (bs.map f2) = true
  | [] => rfl
  | _ :: r => noLs_f2s r
theorem noLs_ld : ∀ ls : List Ld, noLs (ls.map Ld.enc) = true
  | [] => rfl
  | .new _ :: r => noLs_ld r
  | .wr _ _ _ :: r => noLs_ld r
theorem noLs_ways : ∀ ws : List (List T3), noLs (ws.map fun w => .tuple (w.map b3)) = true
  | [] => rfl
  | w :: r => by
    show (noLs (w.map b3) && noLs (r.map fun w => .tuple (w.map b3))) = true
    rw [noLs_b3, noLs_ways r]
    rfl
theorem noL_pr (p : Pr) : noL p.enc = true := by
  cases p with
  | eit ws =>
    show (true && (noLs (ws.map fun w => .tuple (w.map b3)) && true)) = true
    rw [noLs_ways]
    rfl
  | _ => rfl
theorem noLs_pr : ∀ ps : List Pr, noLs (ps.map Pr.enc) = true
  | [] => rfl
  | p :: r => by
    show (noL p.enc && noLs (r.map Pr.enc)) = true
    rw [noL_pr, noLs_pr r]
    rfl
/-! ### each once, in the order of the first ones -/
def addF (acc : List Fm) (f : Fm) : List Fm := if f ∈ acc then acc else acc ++ [f]
def dd (fs : List Fm) : List Fm := fs.foldl addF []
theorem dd_snoc (fs : List Fm) (f : Fm) : dd (fs ++ [f]) = addF (dd fs) f := by
  unfold dd
  rw [List.foldl_append]
  rfl
def nkF (f : Fm) : NestedKey := .tup [.num f.1, .num f.2]
theorem nkF_data (f : Fm) : (nkF f).data = f2 f := by simp only [nkF, NestedKey.data, NestedKey.datas, f2]
theorem nkF_depth (f : Fm) : (nkF f).depth ≤ 8 := by
  simp only [nkF, NestedKey.depth, NestedKey.depthAll]
  decide
theorem nkF_inj {f g : Fm} (h : nkF f = nkF g) : f = g := by
  unfold nkF at h
  injection h with h
  injection h with h1 h2
  injection h2 with h2 _
  injection h1 with h1
  injection h2 with h2
  exact Prod.ext h1 h2
def Keys (kvs : List (NestedKey × V)) (fs : List Fm) : Prop := kvs.map (·.1) = (dd fs).map nkF
theorem Keys.put {kvs : List (NestedKey × V)} {fs : List Fm} {f : Fm} {v : V} (h : Keys kvs fs) : Keys (putK kvs (nkF f) v) (fs ++ [f]) := by
  unfold Keys at h ⊢
  rw [dd_snoc]
  unfold addF putK
  have e : (kvs.any fun kv => decide (kv.1 = nkF f)) = decide (f ∈ dd fs) := by
    rw [Bool.eq_iff_iff, List.any_eq_true, decide_eq_true_iff]
    constructor
    · rintro ⟨kv, h1, h2⟩
      have : kv.1 ∈ kvs.map (·.1) := List.mem_map.mpr ⟨kv, h1, rfl⟩
      rw [h] at this
      obtain ⟨g, g1, g2⟩ := List.mem_map.mp this
      rw [of_decide_eq_true h2] at g2
      rw [← nkF_inj g2]
      exact g1
    · intro hf
      have : nkF f ∈ kvs.map (·.1) := by
        rw [h]
        exact List.mem_map.mpr ⟨f, hf, rfl⟩
      obtain ⟨kv, h1, h2⟩ := List.mem_map.mp this
      exact ⟨kv, h1, decide_eq_true h2⟩
  rw [e]
  by_cases hf : f ∈ dd fs
  · rw [decide_eq_true hf, if_pos rfl, if_pos hf, List.map_map, ← h]
    refine List.map_congr_left fun kv _ => ?_
    show (if kv.1 = nkF f then (kv.1, v) else kv).1 = kv.1
    split <;> rfl
  · rw [decide_eq_false hf, if_neg (by decide), if_neg hf, List.map_append, List.map_append, h]
    rfl
theorem dd_len (fs : List Fm) : (dd fs).length ≤ fs.length := by
  unfold dd
  have : ∀ (fs acc : List Fm), (fs.foldl addF acc).length ≤ acc.length + fs.length := fun fs => by
    induction fs with
    | nil => exact fun acc => Nat.le_refl _
    | cons f r ih =>
      intro acc
      have h1 := ih (addF acc f)
      have h2 : (addF acc f).length ≤ acc.length + 1 := by
        unfold addF
        split
        · omega
        · rw [List.length_append]
          exact Nat.le_refl _
      show (r.foldl addF (addF acc f)).length ≤ acc.length + (r.length + 1)
      omega
  have := this fs []
  rw [List.length_nil] at this
  omega
/-- the dict that is filled: at a, of these keys -/
structure Fnd (P : Program) (w : World) (K : PySem.W.Frag) (H : Hp) (a : Addr) (fs : List Fm) : Prop where
  ex : ∃ kvs, DN P w K H a kvs ∧ Keys kvs fs
  le : fs.length ≤ 1000
theorem Fnd.len {P : Program} {w : World} {K : PySem.W.Frag} {H : Hp} {a : Addr} {fs : List Fm} {kvs : List (NestedKey × V)} (h : Fnd P w K H a fs) (k : Keys kvs fs) : kvs.length ≤ 1000 := by
  have h1 : (kvs.map (·.1)).length = ((dd fs).map nkF).length := congrArg List.length k
  rw [List.length_map, List.length_map] at h1
  have := dd_len fs
  have := h.le
  omega
/-- what stands in one known -/
structure Ka where
  p : Addr
  ad : Addr
  al : Addr
  ac : Addr
  tk : Addr
  af : Addr
  ao : Addr
structure KnW (P : Program) (w : World) (K : PySem.W.Frag) (C : Addr) (H : Hp) (k : Ka) (m : Int) (bs : List T3) (ls : List Ld) (cs : List Ce) (ps : List Pr) (fs : List Fm) : Prop where
  ex : ∃ (xd xl xc xt xf : List V) (fnd : List (NestedKey × V)), KnAt P w K C H k.p k.ad k.al k.ac k.tk k.af k.ao m xd xl xc xt xf cs fnd ∧ DpAll K H xd (bs.map b3) ∧ DpAll K H xl (ls.map Ld.enc) ∧ DpAll K H xt (ps.map Pr.enc) ∧ DpAll K H xf (fs.map f2)
theorem KnW.same {P : Program} {w : World} {K : PySem.W.Frag} {C : Addr} {H H' : Hp} {k : Ka} {m : Int} {bs : List T3} {ls : List Ld} {cs : List Ce} {ps : List Pr} {fs : List Fm} (h : KnW P w K C H k m bs ls cs ps fs) (s : Same H H') : KnW P w K C H' k m bs ls cs ps fs := by
  obtain ⟨xd, xl, xc, xt, xf, fnd, h1, h2, h3, h4, h5⟩ := h.ex
  exact ⟨xd, xl, xc, xt, xf, fnd, h1.same s, dpa_same s _ _ h2, dpa_same s _ _ h3, dpa_same s _ _ h4, dpa_same s _ _ h5⟩
def ixs (ls : List Ld) (cs : List Ce) (ps : List Pr) (fs : List Fm) : List Fm := fs ++ cs.map (·.i) ++ (ls.map Ld.ix).flatten ++ (ps.map Pr.ix).flatten ++ [(0, 0)]
theorem fnd_set {P : Program} {w : World} {K : PySem.W.Frag} {G : Hp} {D : Addr} {fs : List Fm} {f : Fm} {b : Addr} {v : V} (F : Fnd P w K G D fs) (hf : fs.length < 1000) (hb : Dp K G (.ref b) (f2 f)) {Q : Hp → Prop} (q : ∀ o', Fnd P w K (upd G D (ExO o' D)) D (fs ++ [f]) → Q (upd G D (ExO o' D))) : rSetN P w K (.ref D) (.ref b) v G Q := by
  obtain ⟨kvs, dn, ks⟩ := F.ex
  have := F.len ks
  exact ⟨D, b, kvs, nkF f, rfl, rfl, dn, by rw [nkF_data]; exact hb, nkF_depth f, small_sz this, fun o' dn' => q o' ⟨⟨_, dn', ks.put⟩, by rw [List.length_append]; exact hf⟩⟩
theorem fnd_st {P : Program} {w : World} {K : PySem.W.Frag} {G : Hp} {D : Addr} {fs : List Fm} {f : Fm} {b : Addr} {v : V} (F : Fnd P w K G D fs) (hf : fs.length < 1000) (hb : Dp K G (.ref b) (f2 f)) {Q : Hp → Prop} (q : ∀ o', Fnd P w K (upd G D (ExO o' D)) D (fs ++ [f]) → Q (upd G D (ExO o' D))) : StN P w K D (.ref b) v G Q := by
  obtain ⟨kvs, dn, ks⟩ := F.ex
  have := F.len ks
  exact ⟨kvs, nkF f, b, rfl, dn, by rw [nkF_data]; exact hb, nkF_depth f, small_sz this, fun o' dn' => q o' ⟨⟨_, dn', ks.put⟩, by rw [List.length_append]; exact hf⟩⟩
theorem Fnd.same {P : Program} {w : World} {K : PySem.W.Frag} {G G' : Hp} {D : Addr} {fs : List Fm} (F : Fnd P w K G D fs) (s : Same G G') : Fnd P w K G' D fs := by
  obtain ⟨kvs, dn, ks⟩ := F.ex
  exact ⟨⟨kvs, dn.same s, ks⟩, F.le⟩
theorem sqt_ext {P : Program} {w : World} {K : PySem.W.Frag} {G : Hp} {D : Addr} {fs : List Fm} {a : Addr} {xs : List V} {u : HO} (F : Fnd P w K G D fs) (h : SqT K G a xs) : SqT K (upd G D u) a xs := by
  obtain ⟨kvs, dn, _⟩ := F.ex
  obtain ⟨o, _, _, _, e, _⟩ := dn.ob
  have ne : ∀ {z : HO}, G a = some z → z ≠ ExO o D → a ≠ D := fun h1 h2 q => by
    rw [q, e] at h1
    exact h2 (Option.some.inj h1).symm
  rcases h with (h | ⟨p, h⟩) | h
  · exact .inl (.inl ((upd_ne (ne h (fun q => nomatch q))).trans h))
  · exact .inl (.inr ⟨p, (upd_ne (ne h (fun q => nomatch q))).trans h⟩)
  · exact .inr h
theorem dpa6 {K : PySem.W.Frag} {H : Hp} {xs : List V} {d1 d2 d3 d4 d5 d6 : PyData} (h : DpAll K H xs [d1, d2, d3, d4, d5, d6]) : ∃ v1 v2 v3 v4 v5 v6, xs = [v1, v2, v3, v4, v5, v6] ∧ Dp K H v1 d1 ∧ Dp K H v2 d2 ∧ Dp K H v3 d3 ∧ Dp K H v4 d4 ∧ Dp K H v5 d5 ∧ Dp K H v6 d6 := by
  cases h with
  | cons h1 h => cases h with
    | cons h2 h => cases h with
      | cons h3 h => cases h with
        | cons h4 h => cases h with
          | cons h5 h => cases h with
            | cons h6 h =>
              cases h
              exact ⟨_, _, _, _, _, _, rfl, h1, h2, h3, h4, h5, h6⟩
theorem dpa7 {K : PySem.W.Frag} {H : Hp} {xs : List V} {d1 d2 d3 d4 d5 d6 d7 : PyData} (h : DpAll K H xs [d1, d2, d3, d4, d5, d6, d7]) : ∃ v1 v2 v3 v4 v5 v6 v7, xs = [v1, v2, v3, v4, v5, v6, v7] ∧ Dp K H v1 d1 ∧ Dp K H v2 d2 ∧ Dp K H v3 d3 ∧ Dp K H v4 d4 ∧ Dp K H v5 d5 ∧ Dp K H v6 d6 ∧ Dp K H v7 d7 := by
  cases h with
  | cons h1 h =>
    obtain ⟨v2, v3, v4, v5, v6, v7, rfl, q⟩ := dpa6 h
    exact ⟨_, _, _, _, _, _, _, rfl, h1, q⟩
theorem fix_le (ls : List Ld) : ((ls.map Ld.ix).flatten).length ≤ 2 * ls.length := by
  induction ls with
  | nil => exact Nat.le_refl _
  | cons l r ih =>
    rw [List.map_cons, List.flatten_cons, List.length_append, List.length_cons]
    have : l.ix.length ≤ 2 := by cases l <;> first | exact Nat.zero_le _ | exact Nat.le_refl _ | exact Nat.le_succ _
    omega
theorem pix_le (ps : List Pr) : ((ps.map Pr.ix).flatten).length ≤ 2 * ps.length := by
  induction ps with
  | nil => exact Nat.le_refl _
  | cons l r ih =>
    rw [List.map_cons, List.flatten_cons, List.length_append, List.length_cons]
    have : l.ix.length ≤ 2 := by cases l <;> first | exact Nat.zero_le _ | exact Nat.le_refl _ | exact Nat.le_succ _
    omega
theorem keysN_data {K : PySem.W.Frag} {H : Hp} : ∀ {kvs : List (NestedKey × V)} {bs : List Addr} {fs : List Fm}, KeysN K H kvs bs → kvs.map (·.1) = fs.map nkF → DpAll K H (bs.map V.ref) (fs.map f2)
  | _, _, [], .nil, _ => .nil
  | _, _, _ :: _, .nil, e => nomatch e
  | _, _, [], .cons _ _, e => nomatch e
  | _, _, f :: r, .cons h t, e => by
    injection e with e1 e2
    refine .cons ?_ (keysN_data t e2)
    rw [← nkF_data, ← e1]
    exact h
section
variable {P : Program} {w : World} {K : PySem.W.Frag} {mg : PySem.Str → Option Value} {base : Heap} {C : Addr}
end
end SW

namespace SW
open PySem PySem.Spec PyProof.Rows L2
/-! ### the values at indexes -/
def bsF (r : Ru) (k : Int) : Int := if r.k = 0 then r.t.getD (k % 3).toNat 0 else if r.k = 1 then r.t.getD 0 0 + r.s * k + r.t.getD 1 0 * (if 2 < k then 1 else 0) else r.t.getD 0 0
def cmpF (g : PySem.Str) (x y : Int) : Bool := if g = "<" then decide (x < y) else if g = "<=" then decide (x ≤ y) else if g = ">" then decide (y < x) else if g = ">=" then decide (y ≤ x) else if g = "==" then decide (x = y) else !decide (x = y)
def thF (ls : List Ld) (rf : Nat → Ru) (ns : List Int) : Nat → Nat → Int → Int
  | 0, num, k => bsF (rf num) k
  | f + 1, num, k => match ls[num]? with
    | some (.wr o i v) => if k = wo ns i then wo ns v else thF ls rf ns f o k
    | _ => bsF (rf num) k
/-- the value of a list at an index -/
def TH (ls : List Ld) (rf : Nat → Ru) (ns : List Int) (num : Nat) (k : Int) : Int := thF ls rf ns (num + 1) num k
theorem thF_fuel {m : Nat} {ls : List Ld} {rf : Nat → Ru} (ns : List Int) (h : LsOk m ls) (k : Int) : ∀ (f g num : Nat), num < f → num < g → thF ls rf ns f num k = thF ls rf ns g num k
  | 0, _, _, h1, _ => absurd h1 (Nat.not_lt_zero _)
  | _, 0, _, _, h2 => absurd h2 (Nat.not_lt_zero _)
  | f + 1, g + 1, num, h1, h2 => by
    unfold thF
    cases e : ls[num]? with
    | none => rfl
    | some l =>
      cases l with
      | new l => rfl
      | wr o i v =>
        have hk := (h num _ e).1
        dsimp only
        rw [thF_fuel ns h k f g o (by omega) (by omega)]
theorem TH_new {ls : List Ld} {rf : Nat → Ru} {ns : List Int} {num : Nat} {k : Int} {l : Fm} (e : ls[num]? = some (.new l)) : TH ls rf ns num k = bsF (rf num) k := by
  unfold TH thF
  rw [e]
theorem TH_wr {m : Nat} {ls : List Ld} {rf : Nat → Ru} {ns : List Int} {num : Nat} {k : Int} {o : Nat} {i v : Fm} (h : LsOk m ls) (e : ls[num]? = some (.wr o i v)) : TH ls rf ns num k = if k = wo ns i then wo ns v else TH ls rf ns o k := by
  have hk := (h num _ e).1
  unfold TH
  rw [thF, e]
  dsimp only
  rw [thF_fuel ns h k num (o + 1) o hk (Nat.lt_succ_self _)]
/-! ### the truth of promises -/
def inR (ls : List Ld) (ns : List Int) (n : Nat) (lo hi : Fm) (k : Int) : Prop := 0 ≤ k ∧ k < wo ns (LN ls n) ∧ wo ns lo ≤ k ∧ k < wo ns hi
def kpt (ns : List Int) (t : T3) : Prop := wo ns (t.1, 0) - wo ns (t.2.1, 0) ≤ t.2.2
def PrT (ls : List Ld) (rf : Nat → Ru) (ns : List Int) : Pr → Prop
  | .all n lo hi g f => ∀ k, inR ls ns n lo hi k → cmpF g (TH ls rf ns n k) (wo ns f) = true
  | .mat n lo hi g o c => ∀ k, inR ls ns n lo hi k → inR ls ns o lo hi k → cmpF g (TH ls rf ns n k) (TH ls rf ns o k + c) = true
  | .srt n lo hi => ∀ k l, inR ls ns n lo hi k → inR ls ns n lo hi l → k ≤ l → TH ls rf ns n k ≤ TH ls rf ns n l
  | .bel n lo hi o a b => ∀ k l, inR ls ns n lo hi k → inR ls ns o a b l → TH ls rf ns n k ≤ TH ls rf ns o l
  | .eit ws => ∃ w, w ∈ ws ∧ ∀ t, t ∈ w → kpt ns t
section
variable {P : Program} {w : World} {K : PySem.W.Frag} {mg : PySem.Str → Option Value} {base : Heap} {C : Addr}
def spBaseE (K : PySem.W.Frag) : Sp := fun vs H Q _ => ∃ (v : V) (k : Int) (r : Ru), vs = [v, .int k] ∧ RuAt K H v r ∧ r.ok ∧ -1000 ≤ k ∧ k ≤ 1001 ∧ (-20000 ≤ bsF r k → bsF r k ≤ 20000 → Q (.int (bsF r k)) H)
theorem ok_l_baseE (T : TxB mg) (D_l_base : Df K mg "_law_base" s_l_base ["rule", "k"]) : FnOk P w K mg base CX0 1 D_l_base.f D_l_base.fd ["rule", "k"] (spBaseE K) := by
  refine D_l_base.F.ok sc_l_base (fun vs H Q E h => ?_) (fun cdv A outer s H vs Q E hr h => ?_)
  · obtain ⟨v, k, r, rfl, _⟩ := h
    rfl
  · obtain ⟨v, k, r, rfl, ⟨p, rfl, hp, hq⟩, ⟨hl, hb, hs0, hs1⟩, hk0, hk1, q⟩ := h
    refine ⟨_, (pss_cons (ps_asg (pv 0) (pg_tup (by rfl) (pgs_cons (pg_name (i := 2) sc_l_base.nd rfl (.inl rfl)) (pgs_cons (pg_name (i := 3) sc_l_base.nd rfl (.inl rfl)) (pgs_cons (pg_name (i := 4) sc_l_base.nd rfl (.inl rfl)) pgs_nil)))))
    (pss_cons (ps_if (pt_cmpR op_eq (pv 2) pe_int (nomark _))
    (pss_one (ps_ret (pe_ix ix_list (pv 3) (pe_op op_mod (pe_callTy call_int1 (by rfl) T.n_int (by decide +kernel) (pa_cons (pv 1) pa_nil)) (pe_callB call_len_seq (by rfl) T.n_len PySem.boot_len (pa_cons (pv 3) pa_nil))) (fun _ _ => rfl))))
    pss_nil)
    (pss_cons (ps_if (pt_cmpR op_eq (pv 2) pe_int (nomark _))
    (pss_one (ps_ret (pe_op op_add (pe_op op_add (pe_ix ix_list (pv 3) pe_int (fun _ _ => rfl)) (pe_op op_mul (pv 4) (pv 1))) (pe_op op_mul (pe_ix ix_list (pv 3) pe_int (fun _ _ => rfl)) (pe_callTy call_int1 (by rfl) T.n_int (by decide +kernel) (pa_cons (pe_cmpR op_gt (pv 1) pe_int (nomark _)) pa_nil))))))
    pss_nil)
    (pss_one (ps_ret (pe_ix ix_list (pv 3) pe_int (fun _ _ => rfl))))))), ?_⟩
    have at_ : ∀ j : Nat, j < 3 → ∃ z : Int, atI (r.t.map V.int) (j : Nat) = some (.int z) ∧ (-10 ≤ z ∧ z ≤ 10) ∧ z = r.t.getD j 0 := fun j hj => ⟨_, ints_at (by omega), hb _ (List.getElem_mem (by omega)), by rw [List.getD_eq_getElem?_getD, List.getElem?_eq_getElem (by omega)]; rfl⟩
    refine ⟨_, rfl, p, _, rfl, hp, rfl, _, _, rfl, _, _, rfl, _, _, rfl, rfl, ?_⟩
    obtain ⟨z0, a0, ⟨l0, u0⟩, g0⟩ := at_ 0 (by decide)
    obtain ⟨z1, a1, ⟨l1, u1⟩, g1⟩ := at_ 1 (by decide)
    refine ⟨_, rfl, rfl, _, rfl, ?_⟩
    rw [int_dec]
    refine ite2 (fun ek => ?_) (fun ek => ?_)
    · refine ⟨_, rfl, _, rfl, .inl ⟨_, rfl, _, rfl, r.q, _, rfl, .inl (SqL.of hq), _, _, rfl, rfl, by rw [List.length_map]; omega, ?_⟩⟩
      rw [List.length_map, hl]
      have m0 : 0 ≤ k % ((3 : Nat) : Int) := Int.emod_nonneg _ (by decide)
      have m1 : k % ((3 : Nat) : Int) < ((3 : Nat) : Int) := Int.emod_lt_of_pos _ (by decide)
      dsimp only
      have ebs : bsF r k = r.t.getD (k % 3).toNat 0 := if_pos (of_decide_eq_true ek)
      have e3 : k % ((3 : Nat) : Int) = k % 3 := rfl
      rw [e3] at m0 m1 ⊢
      rw [ebs] at q
      generalize k % 3 = j at m0 m1 q
      obtain ⟨j, rfl⟩ : ∃ t : Nat, j = t := ⟨j.toNat, by omega⟩
      obtain ⟨z, a, ⟨l, u⟩, g⟩ := at_ j (by omega)
      rw [Int.toNat_natCast, ← g] at q
      exact ⟨r.q, _, _, _, rfl, rfl, SqL.of hq, a, q (by omega) (by omega)⟩
    · have ek : ¬ r.k = 0 := fun h => ek (decide_eq_true h)
      refine ⟨_, rfl, rfl, _, rfl, ?_⟩
      rw [int_dec]
      refine ite2 (fun ek1 => ?_) (fun ek1 => ?_)
      · have ebs : bsF r k = r.t.getD 0 0 + r.s * k + r.t.getD 1 0 * (if 2 < k then 1 else 0) := (if_neg ek).trans (if_pos (of_decide_eq_true ek1))
        rw [← g0, ← g1] at ebs
        refine ⟨_, rfl, r.q, _, _, _, rfl, rfl, SqL.of hq, a0, _, rfl, _, rfl, _, _, rfl, rfl, .inl ⟨by omega, by omega⟩, _, _, rfl, rfl, ?_⟩
        have e1 : r.s * k ≤ 10010 ∧ -10010 ≤ r.s * k := by
          have h1 : r.s * k ≤ 10 * 1001 := by
            by_cases hk : 0 ≤ k
            · exact Int.mul_le_mul hs1 hk1 hk (by decide)
            · have : r.s * k ≤ 0 := Int.mul_nonpos_of_nonneg_of_nonpos hs0 (by omega)
              omega
          have h2 : -(r.s * k) ≤ 10 * 1001 := by
            rw [← Int.mul_neg]
            by_cases hk : 0 ≤ -k
            · exact Int.mul_le_mul hs1 (by omega) hk (by decide)
            · have : r.s * -k ≤ 0 := Int.mul_nonpos_of_nonneg_of_nonpos hs0 (by omega)
              omega
          omega
        refine ⟨_, rfl, r.q, _, _, _, rfl, rfl, SqL.of hq, a1, _, rfl, _, _, rfl, rfl, .inr ⟨_, rfl, _, _, rfl, rfl, .inl ⟨by omega, by omega⟩, _, _, rfl, rfl, ?_⟩⟩
        dsimp only
        by_cases h2 : (2 : Int) < k
        · rw [decide_eq_true h2]
          rw [ebs, if_pos h2] at q
          exact q (by omega) (by omega)
        · rw [decide_eq_false h2]
          rw [ebs, if_neg h2] at q
          exact q (by omega) (by omega)
      · have ebs : bsF r k = r.t.getD 0 0 := (if_neg ek).trans (if_neg fun h => ek1 (decide_eq_true h))
        rw [ebs, ← g0] at q
        exact ⟨_, rfl, r.q, _, _, _, rfl, rfl, SqL.of hq, a0, q (by omega) (by omega)⟩
theorem sgs_ixE {z : PySem.Str} (h : z ∈ sgs) : ∃ j : Nat, j < 6 ∧ (sgs.map V.str)[j]? = some (.str z) ∧ (∀ (m : Nat) (z' : V), m < j → (sgs.map V.str)[m]? = some z' → eqV z' (.str z) = false) ∧
    ∀ x y : Int, ([V.bl (decide (x < y)), V.bl (decide (x ≤ y)), V.bl (decide (y < x)), V.bl (decide (y ≤ x)), V.bl (decide (V.int x = V.int y)), V.bl (!decide (V.int x = V.int y))] : List V)[j]? = some (.bl (cmpF z x y)) := by
  obtain ⟨j, h1, h2, h3⟩ := sgs_ix h
  refine ⟨j, h1, h2, h3, fun x y => ?_⟩
  rw [int_dec]
  have c0 : cmpF "<" x y = decide (x < y) := if_pos rfl
  have c1 : cmpF "<=" x y = decide (x ≤ y) := (if_neg (by decide +kernel)).trans (if_pos rfl)
  have c2 : cmpF ">" x y = decide (y < x) := (if_neg (by decide +kernel)).trans ((if_neg (by decide +kernel)).trans (if_pos rfl))
  have c3 : cmpF ">=" x y = decide (y ≤ x) := (if_neg (by decide +kernel)).trans ((if_neg (by decide +kernel)).trans ((if_neg (by decide +kernel)).trans (if_pos rfl)))
  have c4 : cmpF "==" x y = decide (x = y) := (if_neg (by decide +kernel)).trans ((if_neg (by decide +kernel)).trans ((if_neg (by decide +kernel)).trans ((if_neg (by decide +kernel)).trans (if_pos rfl))))
  have c5 : cmpF "!=" x y = !decide (x = y) := (if_neg (by decide +kernel)).trans ((if_neg (by decide +kernel)).trans ((if_neg (by decide +kernel)).trans ((if_neg (by decide +kernel)).trans (if_neg (by decide +kernel)))))
  match j, h1, h2 with
  | 0, _, h2 => cases h2; rw [← c0]; rfl
  | 1, _, h2 => cases h2; rw [← c1]; rfl
  | 2, _, h2 => cases h2; rw [← c2]; rfl
  | 3, _, h2 => cases h2; rw [← c3]; rfl
  | 4, _, h2 => cases h2; rw [← c4]; rfl
  | 5, _, h2 => cases h2; rw [← c5]; rfl
def spComparedE : Sp := fun vs H Q _ => ∃ (g : PySem.Str) (x y : Int), vs = [.str g, .int x, .int y] ∧ g ∈ sgs ∧ ∀ H', Same H H' → Q (.bl (cmpF g x y)) H'
theorem ok_l_comparedE (T : TxB mg) (D_l_compared : Df K mg "_law_compared" s_l_compared ["sign", "left", "right"]) : FnOk P w K mg base CX0 1 D_l_compared.f D_l_compared.fd ["sign", "left", "right"] spComparedE := by
  refine D_l_compared.F.ok sc_l_compared (fun vs H Q E h => ?_) (fun cdv A outer s H vs Q E hr h => ?_)
  · obtain ⟨g, x, y, rfl, _⟩ := h
    rfl
  · obtain ⟨g, x, y, rfl, hg, q⟩ := h
    refine ⟨_, (pss_cons (ps_set (i := 3) sc_l_compared.nd rfl (.inl rfl) (pe_lst (pa_cons (pe_cmpR op_lt (pv 1) (pv 2) (nomark _)) (pa_cons (pe_cmpR op_le (pv 1) (pv 2) (nomark _)) (pa_cons (pe_cmpR op_gt (pv 1) (pv 2) (nomark _)) (pa_cons (pe_cmpR op_ge (pv 1) (pv 2) (nomark _)) (pa_cons (pe_cmpR op_eq (pv 1) (pv 2) (nomark _)) (pa_cons (pe_cmpR op_ne (pv 1) (pv 2) (nomark _)) pa_nil))))))))
    (pss_one (ps_ret (pe_ix ix_list (pv 3) (pe_bm PySem.F.plainAttrs_list PySem.F.slot_list_index PySem.F.type_list_index mt_index (pe_lst (pa_strs (.cons _ _ _ (.cons _ _ _ (.cons _ _ _ (.cons _ _ _ (.cons _ _ _ (.cons _ _ _ .nil)))))))) (pa_cons (pv 0) pa_nil)) (fun _ _ => rfl))))), ?_⟩
    obtain ⟨j, hj, g1, g2, g3⟩ := sgs_ixE hg
    refine ⟨_, rfl, _, rfl, _, _, rfl, rfl, _, rfl, _, rfl, _, _, rfl, rfl, _, rfl, _, rfl, _, _, rfl, rfl, _, rfl, _, rfl, _, _, rfl, rfl, _, rfl, _, rfl, rfl, _, rfl, _, rfl, rfl, by show (6 : Nat) ≤ sizeLine; decide, fun l nl => ?_⟩
    generalize hg : upd H l _ = H1
    obtain ⟨s1, e1⟩ := new_of nl hg
    refine ⟨_, rfl, by show (6 : Nat) ≤ sizeLine; decide, fun l2 n2 => ?_⟩
    generalize hg : upd H1 l2 _ = H2
    obtain ⟨s2, e2⟩ := new_of n2 hg
    exact ⟨.inl ⟨rfl, _, SqL.of e2⟩, _, rfl, l2, _, _, j, _, rfl, rfl, SqL.of e2, rfl, flat_strs sgs, g1, by show (g == g) = true; exact beq_self_eq_true g, g2, l, _, _, _, rfl, rfl, SqL.of (s2 _ _ e1), atI_nat (g3 x y), q _ (s1.trans s2)⟩
end
end SW

namespace SW
open PySem PySem.Spec PyProof.Rows L2
abbrev s_l_there : Stmt := topS 40
theorem sc_l_there : FnScope ["world", "number", "k", "known", "values", "rules", "step", "one"] ["world", "number", "k"] (defScope s_l_there) := ⟨rfl, rfl, rfl, by decide +kernel, rfl, by decide +kernel, by decide +kernel⟩

abbrev s_l_range : Stmt := topS 43
theorem sc_l_range : FnScope ["world", "number", "lo", "hi", "known", "values", "rules", "end"] ["world", "number", "lo", "hi"] (defScope s_l_range) := ⟨rfl, rfl, rfl, by decide +kernel, rfl, by decide +kernel, by decide +kernel⟩

/-! ### the world -/
structure Wa where
  wt : Addr
  kp : Addr
  ad : Addr
  al : Addr
  ac : Addr
  tk : Addr
  b : Addr
  ru : Addr
  rf : Nat → Ru
def Wb (ns : List Int) (f : Fm) : Prop := -1000 ≤ wo ns f ∧ wo ns f ≤ 1000
def LB (ns : List Int) : Ld → Prop
  | .new f => 0 ≤ wo ns f ∧ wo ns f ≤ 100
  | .wr _ i v => Wb ns i ∧ Wb ns v
def LsB (ns : List Int) (ls : List Ld) : Prop := ∀ l, l ∈ ls → LB ns l
theorem LsB.new {ns : List Int} {ls : List Ld} (h : LsB ns ls) (j : Nat) (l : Fm) (e : ls[j]? = some (Ld.new l)) : 0 ≤ wo ns l ∧ wo ns l ≤ 100 := h _ (List.mem_of_getElem? e)
theorem LN_all {m : Nat} {ls : List Ld} (h : LsOk m ls) {R : Fm → Prop} (hR : ∀ (j : Nat) (l : Fm), ls[j]? = some (Ld.new l) → R l) : ∀ (n num : Nat), num ≤ n → num < ls.length → R (LN ls num)
  | n, num, hn, hl => by
    have g := List.getElem?_eq_getElem hl
    cases d : ls[num] with
    | new l =>
      rw [d] at g
      rw [LN_new g]
      exact hR _ _ g
    | wr o i v =>
      rw [d] at g
      have hk := (h num _ g).1
      rw [LN_wr h g]
      cases n with
      | zero => omega
      | succ n => exact LN_all h hR n o (by omega) (by omega)
/-- what of the world stays as it is -/
structure Wd (K : PySem.W.Frag) (H : Hp) (a : Wa) (m : Int) (ls : List Ld) (ns : List Int) : Prop where
  w : SqT K H a.wt [.ref a.kp, .ref a.b, .ref a.ru]
  k : H a.kp = some (.lst [.int m, .ref a.ad, .ref a.al, .ref a.ac, .ref a.tk])
  l : ∃ xl, H a.al = some (.lst xl) ∧ DpAll K H xl (ls.map Ld.enc)
  b : SqL K H a.b (ns.map V.int)
  r : ∃ xr, H a.ru = some (.lst xr) ∧ ∀ (j : Nat) (f : Fm), ls[j]? = some (Ld.new f) → ∃ v, xr[j]? = some v ∧ RuAt K H v (a.rf j) ∧ (a.rf j).ok
theorem RuAt.same {K : PySem.W.Frag} {H H' : Hp} {v : V} {r : Ru} (h : RuAt K H v r) (s : Same H H') : RuAt K H' v r := by
  obtain ⟨p, h1, h2, h3⟩ := h
  exact ⟨p, h1, sqt_same s h2, s _ _ h3⟩
theorem Wd.same {K : PySem.W.Frag} {H H' : Hp} {a : Wa} {m : Int} {ls : List Ld} {ns : List Int} (h : Wd K H a m ls ns) (s : Same H H') : Wd K H' a m ls ns := by
  obtain ⟨xl, l1, l2⟩ := h.l
  obtain ⟨xr, r1, r2⟩ := h.r
  refine ⟨sqt_same s h.w, s _ _ h.k, ⟨xl, s _ _ l1, dpa_same s _ _ l2⟩, s.seq h.b, xr, s _ _ r1, fun j f e => ?_⟩
  obtain ⟨v, q1, q2, q3⟩ := r2 j f e
  exact ⟨v, q1, q2.same s, q3⟩
section
variable {P : Program} {w : World} {K : PySem.W.Frag} {mg : PySem.Str → Option Value} {base : Heap} {C : Addr}
def spThere (K : PySem.W.Frag) : Sp := fun vs H Q _ => ∃ (a : Wa) (num : Nat) (m k : Int) (ls : List Ld) (ns : List Int), vs = [.ref a.wt, .int num, .int k] ∧ Wd K H a m ls ns ∧ LsOk ns.length ls ∧ LsB ns ls ∧ num < ls.length ∧ ls.length ≤ 1000 ∧ -1000 ≤ k ∧ k ≤ 1001 ∧ (-20000 ≤ TH ls a.rf ns num k → TH ls a.rf ns num k ≤ 20000 → Q (.int (TH ls a.rf ns num k)) H)
theorem ok_l_there (T : TxB mg) (D_l_there : Df K mg "_law_there" s_l_there ["world", "number", "k"]) (D_l_of : Df K mg "_law_of" s_l_of ["form", "values"]) (D_l_base : Df K mg "_law_base" s_l_base ["rule", "k"]) (G_l_of : FnOk P w K mg base CX0 1 D_l_of.f D_l_of.fd ["form", "values"] (spLOf K)) (G_l_base : FnOk P w K mg base CX0 1 D_l_base.f D_l_base.fd ["rule", "k"] (spBaseE K)) : FnOk P w K mg base CX0 2 D_l_there.f D_l_there.fd ["world", "number", "k"] (spThere K) := by
  refine D_l_there.F.ok sc_l_there (fun vs H Q E h => ?_) (fun cdv A outer s H vs Q E hr h => ?_)
  · obtain ⟨a, num, m, k, ls, ns, rfl, _⟩ := h
    rfl
  · obtain ⟨a, num, m, k, ls, ns, rfl, wd, lok, lsb, hnum, hll, hk0, hk1, q⟩ := h
    refine ⟨_, (pss_cons (ps_asg (pv 0) (pg_tup (by rfl) (pgs_cons (pg_name (i := 3) sc_l_there.nd rfl (.inl rfl)) (pgs_cons (pg_name (i := 4) sc_l_there.nd rfl (.inl rfl)) (pgs_cons (pg_name (i := 5) sc_l_there.nd rfl (.inl rfl)) pgs_nil)))))
    (pss_cons (ps_for PassesOwn.never rfl (pi_range1 (by rfl) T.n_range (pa_cons (pe_callB call_len_seq (by rfl) T.n_len PySem.boot_len (pa_cons (pe_ix ix_list (pv 3) pe_int (fun _ _ => rfl)) pa_nil)) pa_nil)) (pg_name (i := 6) sc_l_there.nd rfl (.inl rfl))
    (pss_cons (ps_set (i := 7) sc_l_there.nd rfl (.inl rfl) (pe_ix ix_list (pe_ix ix_list (pv 3) pe_int (fun _ _ => rfl)) (pv 1) (fun _ _ => rfl)))
    (pss_cons (ps_if (pt_cmpR op_eq (pe_ix ix_tup (pv 7) pe_int (fun _ _ => rfl)) pe_str (nomark _))
    (pss_one (ps_ret (pe_call G_l_base (hr.mono (by decide)) (by rfl) D_l_base.g D_l_base.F.kp D_l_base.b .nil pass0 (pa_cons (pe_ix ix_list (pv 5) (pv 1) (fun _ _ => rfl)) (pa_cons (pv 2) pa_nil)))))
    pss_nil)
    (pss_cons (ps_if (pt_cmpR op_eq (pv 2) (pe_call G_l_of (hr.mono (by decide)) (by rfl) D_l_of.g D_l_of.F.kp D_l_of.b .nil pass0 (pa_cons (pe_ix ix_tup (pv 7) pe_int (fun _ _ => rfl)) (pa_cons (pv 4) pa_nil))) (nomark _))
    (pss_one (ps_ret (pe_call G_l_of (hr.mono (by decide)) (by rfl) D_l_of.g D_l_of.F.kp D_l_of.b .nil pass0 (pa_cons (pe_ix ix_tup (pv 7) pe_int (fun _ _ => rfl)) (pa_cons (pv 4) pa_nil)))))
    pss_nil)
    (pss_one (ps_set (i := 1) sc_l_there.nd rfl (.inl rfl) (pe_ix ix_tup (pv 7) pe_int (fun _ _ => rfl))))))))
    (pss_one (ps_ret pe_non)))), ?_⟩
    obtain ⟨xl, l1, l2⟩ := wd.l
    obtain ⟨xr, r1, r2⟩ := wd.r
    have hxl : xl.length = ls.length := by rw [dpa_len l2, List.length_map]
    refine ⟨_, rfl, a.wt, _, rfl, wd.w, rfl, _, _, rfl, _, _, rfl, _, _, rfl, rfl, ?_⟩
    refine ⟨_, rfl, a.kp, _, _, _, rfl, rfl, SqL.of wd.k, atI_nat (j := 2) rfl, a.al, _, rfl, .inl (SqL.of l1), _, rfl, by omega, by omega, ?_⟩
    refine for_range (lo := 0) (n := ((xl.length : Nat) : Int).toNat) (fun i σ G => G = H ∧ ∃ (mm : Nat) (y6 y7 : Option V), σ = [some (.ref a.wt), some (.int mm), some (.int k), some (.ref a.kp), some (.ref a.b), some (.ref a.ru), y6, y7] ∧ mm + i ≤ num ∧ TH ls a.rf ns num k = TH ls a.rf ns mm k) ⟨rfl, num, _, _, rfl, Nat.le_refl _, rfl⟩ (fun i σ G hi hP => ?_) (fun σ G hP => ?_)
    · obtain ⟨rfl, mm, y6, y7, rfl, hmm, hth⟩ := hP
      have hml : mm < ls.length := by omega
      have hl := List.getElem?_eq_getElem hml
      obtain ⟨v, g, d⟩ := dp_mem l2 hml
      generalize ls[mm] = l at hl d
      refine ⟨_, rfl, a.kp, _, _, _, rfl, rfl, SqL.of wd.k, atI_nat (j := 2) rfl, _, rfl, a.al, _, _, _, rfl, rfl, SqL.of l1, atI_nat g, ?_⟩
      cases l with
      | new f =>
        obtain ⟨t, v1, v2, rfl, ht, w1, w2⟩ := dp_inv2 d
        cases dp_str_inv w1
        obtain ⟨vr, q1, q2, q3⟩ := r2 mm f hl
        rw [hth, TH_new hl] at q
        exact ⟨_, rfl, t, _, _, _, rfl, rfl, ht, atI_nat (j := 0) rfl, rfl, _, rfl, iteT ⟨_, rfl, _, rfl, a.ru, _, _, _, rfl, rfl, SqL.of r1, atI_nat q1, _, rfl, vr, k, a.rf mm, rfl, q2, q3, hk0, hk1, q⟩⟩
      | wr o i2 u =>
        obtain ⟨t, v1, v2, v3, v4, rfl, ht, w1, w2, w3, w4⟩ := dp_inv4 d
        cases dp_str_inv w1
        cases dp_int_inv w2
        obtain ⟨ho, oki, oku⟩ := lok _ _ hl
        have hb : Wb ns u := (lsb _ (List.mem_of_getElem? hl)).2
        obtain ⟨hb0, hb1⟩ := hb
        have hwr := TH_wr (rf := a.rf) (ns := ns) (k := k) lok hl
        refine ⟨_, rfl, t, _, _, _, rfl, rfl, ht, atI_nat (j := 0) rfl, rfl, _, rfl, iteF ?_⟩
        refine ⟨_, rfl, _, rfl, t, _, _, _, rfl, rfl, ht, atI_nat (j := 2) rfl, _, rfl, v3, a.b, i2, ns, rfl, w3, wd.b, oki, rfl, _, rfl, ?_⟩
        rw [int_dec]
        refine ite2 (fun e => ?_) (fun e => ?_)
        · rw [if_pos (of_decide_eq_true e)] at hwr
          rw [hth, hwr] at q
          exact ⟨_, rfl, t, _, _, _, rfl, rfl, ht, atI_nat (j := 3) rfl, _, rfl, v4, a.b, u, ns, rfl, w4, wd.b, oku, q (by omega) (by omega)⟩
        · rw [if_neg fun h => e (decide_eq_true h)] at hwr
          exact ⟨_, rfl, t, _, _, _, rfl, rfl, ht, atI_nat (j := 1) rfl, rfl, o, _, _, rfl, by omega, hth.trans hwr⟩
    · obtain ⟨rfl, mm, y6, y7, rfl, hmm, _⟩ := hP
      omega
/-- the places of a list from one form to another -/
def rgF (st en : Int) : List Int := (List.range (en - st).toNat).map fun i => st + (i : Nat)
def stF (ns : List Int) (lo : Fm) : Int := if wo ns lo > 0 then wo ns lo else 0
def enF (ls : List Ld) (ns : List Int) (n : Nat) (hi : Fm) : Int := if wo ns (LN ls n) < wo ns hi then wo ns (LN ls n) else wo ns hi
theorem rgF_len (st en : Int) : (rgF st en).length = (en - st).toNat := by
  unfold rgF
  rw [List.length_map, List.length_range]
theorem rgF_at {st en : Int} {j : Nat} (h : j < (en - st).toNat) : (rgF st en)[j]? = some (st + (j : Nat)) := by
  unfold rgF
  rw [List.getElem?_map, List.getElem?_range h]
  rfl
theorem inR_at {ls : List Ld} {ns : List Int} {n : Nat} {lo hi : Fm} {k : Int} (h : inR ls ns n lo hi k) : ∃ j : Nat, k = stF ns lo + (j : Nat) ∧ j < (enF ls ns n hi - stF ns lo).toNat := by
  obtain ⟨h1, h2, h3, h4⟩ := h
  have hs : stF ns lo ≤ k := by
    unfold stF
    split <;> omega
  have he : k < enF ls ns n hi := by
    unfold enF
    split <;> omega
  exact ⟨(k - stF ns lo).toNat, by omega, by omega⟩
def spRange (K : PySem.W.Frag) : Sp := fun vs H Q _ => ∃ (a : Wa) (num : Nat) (m : Int) (u v : V) (lo hi : Fm) (ls : List Ld) (ns : List Int), vs = [.ref a.wt, .int num, u, v] ∧ Wd K H a m ls ns ∧ LsOk ns.length ls ∧ LsB ns ls ∧ num < ls.length ∧ ls.length ≤ 1000 ∧ Dp K H u (f2 lo) ∧ Dp K H v (f2 hi) ∧ fok ns.length lo ∧ fok ns.length hi ∧ Wb ns lo ∧ Wb ns hi ∧
  ∀ (q : Addr) (zs : List Int) (H' : Hp), zs = rgF (stF ns lo) (enF ls ns num hi) → Same H H' → H' q = some (.lst (zs.map V.int)) → zs.length ≤ 1000 → (∀ z, z ∈ zs → 0 ≤ z ∧ z ≤ 1000) → Q (.ref q) H'
theorem ok_l_range (T : TxB mg) (D_l_range : Df K mg "_law_range" s_l_range ["world", "number", "lo", "hi"]) (D_l_of : Df K mg "_law_of" s_l_of ["form", "values"]) (D_l_length : Df K mg "_law_length" s_l_length ["lists", "number"]) (G_l_of : FnOk P w K mg base CX0 1 D_l_of.f D_l_of.fd ["form", "values"] (spLOf K)) (G_l_length : FnOk P w K mg base CX0 1 D_l_length.f D_l_length.fd ["lists", "number"] (spLLength K)) : FnOk P w K mg base CX0 2 D_l_range.f D_l_range.fd ["world", "number", "lo", "hi"] (spRange K) := by
  refine D_l_range.F.ok sc_l_range (fun vs H Q E h => ?_) (fun cdv A outer s H vs Q E hr h => ?_)
  · obtain ⟨a, num, m, u, v, lo, hi, ls, ns, rfl, _⟩ := h
    rfl
  · obtain ⟨a, num, m, u, v, lo, hi, ls, ns, rfl, wd, lok, lsb, hnum, hll, du, dv, flo, fhi, blo, bhi, q⟩ := h
    refine ⟨_, (pss_cons (ps_asg (pv 0) (pg_tup (by rfl) (pgs_cons (pg_name (i := 4) sc_l_range.nd rfl (.inl rfl)) (pgs_cons (pg_name (i := 5) sc_l_range.nd rfl (.inl rfl)) (pgs_cons (pg_name (i := 6) sc_l_range.nd rfl (.inl rfl)) pgs_nil)))))
    (pss_cons (ps_set (i := 7) sc_l_range.nd rfl (.inl rfl) (pe_callB (call_min2 rfl) (by rfl) T.n_min (by decide +kernel) (pa_cons (pe_call G_l_of (hr.mono (by decide)) (by rfl) D_l_of.g D_l_of.F.kp D_l_of.b .nil pass0 (pa_cons (pv 3) (pa_cons (pv 5) pa_nil))) (pa_cons (pe_call G_l_of (hr.mono (by decide)) (by rfl) D_l_of.g D_l_of.F.kp D_l_of.b .nil pass0 (pa_cons (pe_call G_l_length (hr.mono (by decide)) (by rfl) D_l_length.g D_l_length.F.kp D_l_length.b .nil pass0 (pa_cons (pe_ix ix_list (pv 4) pe_int (fun _ _ => rfl)) (pa_cons (pv 1) pa_nil))) (pa_cons (pv 5) pa_nil))) pa_nil))))
    (pss_one (ps_ret (pe_listRg rfl (by rfl) T.n_list (prg_2 (by rfl) T.n_range (pe_callB (call_max2 rfl) (by rfl) T.n_max (by decide +kernel) (pa_cons pe_int (pa_cons (pe_call G_l_of (hr.mono (by decide)) (by rfl) D_l_of.g D_l_of.F.kp D_l_of.b .nil pass0 (pa_cons (pv 2) (pa_cons (pv 5) pa_nil))) pa_nil))) (pv 7))))))), ?_⟩
    obtain ⟨xl, l1, l2⟩ := wd.l
    have hL := LN_all lok (R := fun l => 0 ≤ wo ns l ∧ wo ns l ≤ 100) (fun j l e => lsb.new j l e) num num (Nat.le_refl _) hnum
    have hLo := LN_ok lok num num (Nat.le_refl _) hnum
    obtain ⟨b0, b1⟩ := blo
    obtain ⟨c0, c1⟩ := bhi
    refine ⟨_, rfl, a.wt, _, rfl, wd.w, rfl, _, _, rfl, _, _, rfl, _, _, rfl, rfl, ?_⟩
    refine ⟨_, rfl, _, rfl, v, a.b, hi, ns, rfl, dv, wd.b, fhi, ?_⟩
    refine ⟨_, rfl, a.kp, _, _, _, rfl, rfl, SqL.of wd.k, atI_nat (j := 2) rfl, _, rfl, a.al, num, ns.length, ls, xl, rfl, SqL.of l1, l2, lok, hnum, hll, fun x hx => ⟨_, rfl, x, a.b, LN ls num, ns, rfl, hx, wd.b, hLo, ?_⟩⟩
    refine ⟨_, _, rfl, ?_⟩
    have hend : enF ls ns num hi ≤ 100 ∧ -1000 ≤ enF ls ns num hi := by
      unfold enF
      split <;> omega
    rw [show (if wo ns (LN ls num) < wo ns hi then wo ns (LN ls num) else wo ns hi) = enF ls ns num hi from rfl]
    generalize enF ls ns num hi = en at hend q
    refine ⟨_, rfl, _, rfl, u, a.b, lo, ns, rfl, du, wd.b, flo, ?_⟩
    refine ⟨_, _, rfl, _, rfl, _, _, rfl, rfl, ?_⟩
    have hst : 0 ≤ stF ns lo ∧ stF ns lo ≤ 1000 := by
      unfold stF
      split <;> omega
    dsimp only
    rw [show (if wo ns lo > 0 then wo ns lo else 0) = stF ns lo from rfl]
    generalize stF ns lo = st at hst q
    refine ⟨⟨by omega, by omega, by omega, by omega, by omega⟩, fun p np => ?_⟩
    have e : rgV st en = ((List.range (en - st).toNat).map fun i => st + (i : Nat)).map V.int := by
      unfold rgV
      rw [List.map_map]
      rfl
    refine q p _ _ rfl (same_new np) (by rw [upd_same, e]; rfl) (by rw [rgF_len]; omega) fun z hz => ?_
    obtain ⟨i, hi, rfl⟩ := List.mem_map.mp hz
    have := List.mem_range.mp hi
    omega
end
end SW

namespace SW
open PySem PySem.Spec PyProof.Rows L2
abbrev s_l_true : Stmt := topS 44
theorem sc_l_true : FnScope ["world", "promise", "known", "values", "rules", "way", "u", "v", "c", "number", "lo", "hi", "cells", "k", "cell", "others", "both"] ["world", "promise"] (defScope s_l_true) := ⟨rfl, rfl, rfl, by decide +kernel, rfl, by decide +kernel, by decide +kernel⟩

def Pr.ok (nl : Nat) (ns : List Int) : Pr → Prop
  | .all n lo hi g f => n < nl ∧ (fok ns.length lo ∧ Wb ns lo) ∧ (fok ns.length hi ∧ Wb ns hi) ∧ g ∈ sgs ∧ fok ns.length f ∧ Wb ns f
  | .mat n lo hi g o c => n < nl ∧ (fok ns.length lo ∧ Wb ns lo) ∧ (fok ns.length hi ∧ Wb ns hi) ∧ g ∈ sgs ∧ o < nl ∧ -1000 ≤ c ∧ c ≤ 1000
  | .srt n lo hi => n < nl ∧ (fok ns.length lo ∧ Wb ns lo) ∧ (fok ns.length hi ∧ Wb ns hi)
  | .bel n lo hi o a b => n < nl ∧ (fok ns.length lo ∧ Wb ns lo) ∧ (fok ns.length hi ∧ Wb ns hi) ∧ o < nl ∧ (fok ns.length a ∧ Wb ns a) ∧ (fok ns.length b ∧ Wb ns b)
  | .eit ws => ws.length ≤ 100 ∧ ∀ x, x ∈ ws → x.length ≤ 100 ∧ ∀ t, t ∈ x → (0 ≤ t.1 ∧ t.1 ≤ ns.length) ∧ (0 ≤ t.2.1 ∧ t.2.1 ≤ ns.length)
theorem dpa2 {K : PySem.W.Frag} {H : Hp} {xs : List V} {d1 d2 : PyData} (h : DpAll K H xs [d1, d2]) : ∃ v1 v2, xs = [v1, v2] ∧ Dp K H v1 d1 ∧ Dp K H v2 d2 := by
  cases h with
  | cons h1 h => cases h with
    | cons h2 h =>
      cases h
      exact ⟨_, _, rfl, h1, h2⟩
theorem dpa4 {K : PySem.W.Frag} {H : Hp} {xs : List V} {d1 d2 d3 d4 : PyData} (h : DpAll K H xs [d1, d2, d3, d4]) : ∃ v1 v2 v3 v4, xs = [v1, v2, v3, v4] ∧ Dp K H v1 d1 ∧ Dp K H v2 d2 ∧ Dp K H v3 d3 ∧ Dp K H v4 d4 := by
  cases h with
  | cons h1 h => cases h with
    | cons h2 h =>
      obtain ⟨v3, v4, rfl, h3, h4⟩ := dpa2 h
      exact ⟨_, _, _, _, rfl, h1, h2, h3, h4⟩
/-- a comprehension by its exact values -/
theorem ex_turn {α β : Type} (mk : α → V) (f : β → α) {H1 G G' : Hp} {D : Addr} {ys : List β} {i : Nat} {y : β} (hD : H1 D = none) (hn : ys.length ≤ 1000) (hy : ys[i]? = some y) (sG : Same H1 G) (e : G D = some (.lst (((ys.take i).map f).map mk))) (s' : Same G G') :
    ∃ acc, G' D = some (.lst acc) ∧ acc.length < sizeLine ∧ Same H1 (upd G' D (.lst (acc ++ [mk (f y)]))) ∧ (upd G' D (.lst (acc ++ [mk (f y)]))) D = some (.lst (((ys.take (i + 1)).map f).map mk)) := by
  have hi := (List.getElem?_eq_some_iff.mp hy).1
  refine ⟨_, s' _ _ e, by rw [List.length_map, List.length_map, List.length_take]; exact small_sz (by omega), same_mut (sG.trans s') hD, ?_⟩
  rw [upd_same, List.take_succ_eq_append_getElem hi, List.map_append, List.map_append]
  rw [List.getElem?_eq_getElem hi] at hy
  rw [Option.some.inj hy]
  rfl
theorem lc_exL {α β : Type} (mk : α → V) (f : β → α) {K : PySem.W.Frag} {a : Addr} {xs : List V} {ys : List β} {g : TG} {te : TE} {vs : List Nat} {σ : L2.St} {H1 : Hp} {D : Addr} {Qd : Hp → Prop} (hD : H1 D = none) (hxy : xs.length = ys.length) (hn : ys.length ≤ 1000) (hl : SqL K H1 a xs)
    (hs : ∀ (i : Nat) (x : V) (y : β) (G : Hp) (Q' : V → Hp → Prop), xs[i]? = some x → ys[i]? = some y → Same H1 G → (∀ (G' : Hp), Same G G' → Q' (mk (f y)) G') → g x (wipe σ vs) G fun σ2 H2 => wipe σ2 vs = wipe σ vs ∧ te σ2 H2 Q')
    (hd : ∀ (G : Hp), Same H1 G → G D = some (.lst ((ys.map f).map mk)) → Qd G) :
    ∃ W : Nat → Nat → Hp → Prop, (∃ m, W 0 m (upd H1 D (.lst []))) ∧ ∀ i m H, W i m H → ((Itl K a).stop i H ∧ Qd H) ∨ ((Itl K a).go i H ∧ ∃ Nx : Hp → Prop, (∀ H', Nx H' → ∃ m', m' < m ∧ W (i + 1) m' H') ∧
      ∀ x H', (Itl K a).yld i H x H' → g x (wipe σ vs) H' fun σ2 H2 => wipe σ2 vs = wipe σ vs ∧ tYes σ2 H2 fun b H3 => if b = true then te σ2 H3 fun y H4 => ∃ acc, H4 D = some (.lst acc) ∧ acc.length < sizeLine ∧ Nx (upd H4 D (.lst (acc ++ [y]))) else Nx H3) :=
  lc_list (K := K) (a := a) (xs := xs) (tt := tYes) (fun i G => Same H1 G ∧ G D = some (.lst (((ys.take i).map f).map mk))) ⟨same_new hD, upd_same⟩ (fun i G _ hP => hP.1.seq hl) (fun i x G hx hP => by
    have hi : i < ys.length := by rw [← hxy]; exact (List.getElem?_eq_some_iff.mp hx).1
    exact hs i x _ G _ hx (List.getElem?_eq_getElem hi) hP.1 fun G' s' => ex_turn mk f hD hn (List.getElem?_eq_getElem hi) hP.1 hP.2 s') fun G hP => by
    obtain ⟨sG, e⟩ := hP
    rw [hxy, List.take_length] at e
    exact hd G sG e
theorem lc_exT {α β : Type} (mk : α → V) (f : β → α) {K : PySem.W.Frag} {a : Addr} {xs : List V} {ys : List β} {g : TG} {te : TE} {vs : List Nat} {σ : L2.St} {H1 : Hp} {D : Addr} {Qd : Hp → Prop} (hD : H1 D = none) (hxy : xs.length = ys.length) (hn : ys.length ≤ 1000) (hl : SqT K H1 a xs)
    (hs : ∀ (i : Nat) (x : V) (y : β) (G : Hp) (Q' : V → Hp → Prop), xs[i]? = some x → ys[i]? = some y → Same H1 G → (∀ (G' : Hp), Same G G' → Q' (mk (f y)) G') → g x (wipe σ vs) G fun σ2 H2 => wipe σ2 vs = wipe σ vs ∧ te σ2 H2 Q')
    (hd : ∀ (G : Hp), Same H1 G → G D = some (.lst ((ys.map f).map mk)) → Qd G) :
    ∃ W : Nat → Nat → Hp → Prop, (∃ m, W 0 m (upd H1 D (.lst []))) ∧ ∀ i m H, W i m H → ((Itt K a).stop i H ∧ Qd H) ∨ ((Itt K a).go i H ∧ ∃ Nx : Hp → Prop, (∀ H', Nx H' → ∃ m', m' < m ∧ W (i + 1) m' H') ∧
      ∀ x H', (Itt K a).yld i H x H' → g x (wipe σ vs) H' fun σ2 H2 => wipe σ2 vs = wipe σ vs ∧ tYes σ2 H2 fun b H3 => if b = true then te σ2 H3 fun y H4 => ∃ acc, H4 D = some (.lst acc) ∧ acc.length < sizeLine ∧ Nx (upd H4 D (.lst (acc ++ [y]))) else Nx H3) :=
  lc_tup (K := K) (a := a) (xs := xs) (tt := tYes) (fun i G => Same H1 G ∧ G D = some (.lst (((ys.take i).map f).map mk))) ⟨same_new hD, upd_same⟩ (fun i G _ hP => sqt_same hP.1 hl) (fun i x G hx hP => by
    have hi : i < ys.length := by rw [← hxy]; exact (List.getElem?_eq_some_iff.mp hx).1
    exact hs i x _ G _ hx (List.getElem?_eq_getElem hi) hP.1 fun G' s' => ex_turn mk f hD hn (List.getElem?_eq_getElem hi) hP.1 hP.2 s') fun G hP => by
    obtain ⟨sG, e⟩ := hP
    rw [hxy, List.take_length] at e
    exact hd G sG e
theorem lc_exR {α : Type} (mk : α → V) (f : Nat → α) {lo : Int} {n : Nat} {g : TG} {te : TE} {vs : List Nat} {σ : L2.St} {H1 : Hp} {D : Addr} {Qd : Hp → Prop} (hD : H1 D = none) (hn : n ≤ 1000)
    (hs : ∀ (i : Nat) (G : Hp) (Q' : V → Hp → Prop), i < n → Same H1 G → (∀ (G' : Hp), Same G G' → Q' (mk (f i)) G') → g (.int (lo + i)) (wipe σ vs) G fun σ2 H2 => wipe σ2 vs = wipe σ vs ∧ te σ2 H2 Q')
    (hd : ∀ (G : Hp), Same H1 G → G D = some (.lst (((List.range n).map f).map mk)) → Qd G) :
    ∃ W : Nat → Nat → Hp → Prop, (∃ m, W 0 m (upd H1 D (.lst []))) ∧ ∀ i m H, W i m H → ((Itr lo n).stop i H ∧ Qd H) ∨ ((Itr lo n).go i H ∧ ∃ Nx : Hp → Prop, (∀ H', Nx H' → ∃ m', m' < m ∧ W (i + 1) m' H') ∧
      ∀ x H', (Itr lo n).yld i H x H' → g x (wipe σ vs) H' fun σ2 H2 => wipe σ2 vs = wipe σ vs ∧ tYes σ2 H2 fun b H3 => if b = true then te σ2 H3 fun y H4 => ∃ acc, H4 D = some (.lst acc) ∧ acc.length < sizeLine ∧ Nx (upd H4 D (.lst (acc ++ [y]))) else Nx H3) :=
  lc_range (tt := tYes) (fun i G => Same H1 G ∧ G D = some (.lst ((((List.range n).take i).map f).map mk))) ⟨same_new hD, upd_same⟩ (fun i G hi hP =>
    hs i G _ hi hP.1 fun G' s' => ex_turn mk f (ys := List.range n) hD (by rw [List.length_range]; exact hn) (List.getElem?_range hi) hP.1 hP.2 s') fun G hP => by
    obtain ⟨sG, e⟩ := hP
    rw [List.take_of_length_le (by rw [List.length_range]; exact Nat.le_refl _)] at e
    exact hd G sG e
def kptB (ns : List Int) (t : T3) : Bool := decide (wo ns (t.1, 0) - wo ns (t.2.1, 0) ≤ t.2.2)
theorem allb {α : Type} {xs : List α} {f : α → Bool} (h : (xs.map f).all id = true) {x : α} (hx : x ∈ xs) : f x = true := by
  rw [List.all_map, List.all_eq_true] at h
  exact h x hx
theorem getD_at {xs : List Int} {j : Nat} (h : j < xs.length) : atI (xs.map V.int) (j : Nat) = some (.int (xs.getD j 0)) := by
  rw [List.getD_eq_getElem?_getD, List.getElem?_eq_getElem h]
  exact ints_at h
/-- the values at places -/
theorem vals_at {ls : List Ld} {rf : Nat → Ru} {ns : List Int} {n : Nat} {lo hi : Fm} {j : Nat} (h : j < (enF ls ns n hi - stF ns lo).toNat) : ((rgF (stF ns lo) (enF ls ns n hi)).map (TH ls rf ns n)).getD j 0 = TH ls rf ns n (stF ns lo + (j : Nat)) := by
  rw [List.getD_eq_getElem?_getD, List.getElem?_map, rgF_at h]
  rfl
theorem chain_le {f : Nat → Int} {n : Nat} (h : ∀ j, j + 1 < n → f j ≤ f (j + 1)) : ∀ (d j : Nat), j + d < n → f j ≤ f (j + d)
  | 0, _, _ => Int.le_refl _
  | d + 1, j, hj => Int.le_trans (chain_le h d j (by omega)) (h (j + d) (by omega))
section
variable {P : Program} {w : World} {K : PySem.W.Frag} {mg : PySem.Str → Option Value} {base : Heap} {C : Addr}
def spTrue (K : PySem.W.Frag) : Sp := fun vs H Q _ => ∃ (a : Wa) (m : Int) (v : V) (p : Pr) (ls : List Ld) (ns : List Int), vs = [.ref a.wt, v] ∧ Wd K H a m ls ns ∧ LsOk ns.length ls ∧ LsB ns ls ∧ ls.length ≤ 1000 ∧ Dp K H v p.enc ∧ p.ok ls.length ns ∧ ∀ (b : Bool) (H' : Hp), Same H H' → (b = true → PrT ls a.rf ns p) → Q (.bl b) H'
theorem ok_l_true (T : TxB mg) (D_l_true : Df K mg "_law_true" s_l_true ["world", "promise"]) (D_l_of : Df K mg "_law_of" s_l_of ["form", "values"]) (D_l_there : Df K mg "_law_there" s_l_there ["world", "number", "k"]) (D_l_range : Df K mg "_law_range" s_l_range ["world", "number", "lo", "hi"]) (D_l_compared : Df K mg "_law_compared" s_l_compared ["sign", "left", "right"]) (G_l_of : FnOk P w K mg base CX0 1 D_l_of.f D_l_of.fd ["form", "values"] (spLOf K)) (G_l_there : FnOk P w K mg base CX0 2 D_l_there.f D_l_there.fd ["world", "number", "k"] (spThere K)) (G_l_range : FnOk P w K mg base CX0 2 D_l_range.f D_l_range.fd ["world", "number", "lo", "hi"] (spRange K)) (G_l_compared : FnOk P w K mg base CX0 1 D_l_compared.f D_l_compared.fd ["sign", "left", "right"] spComparedE) : FnOk P w K mg base CX0 3 D_l_true.f D_l_true.fd ["world", "promise"] (spTrue K) := by
  refine D_l_true.F.ok sc_l_true (fun vs H Q E h => ?_) (fun cdv A outer s H vs Q E hr h => ?_)
  · obtain ⟨a, m, v, p, ls, ns, rfl, _⟩ := h
    rfl
  · obtain ⟨a, m, v, p, ls, ns, rfl, wd, lok, lsb, hll, dv, pok, q⟩ := h
    refine ⟨_, (pss_cons (ps_asg (pv 0) (pg_tup (by rfl) (pgs_cons (pg_name (i := 2) sc_l_true.nd rfl (.inl rfl)) (pgs_cons (pg_name (i := 3) sc_l_true.nd rfl (.inr rfl)) (pgs_cons (pg_name (i := 4) sc_l_true.nd rfl (.inl rfl)) pgs_nil)))))
    (pss_cons (ps_if (pt_cmpR op_eq (pe_ix ix_tup (pv 1) pe_int (fun _ _ => rfl)) pe_str (nomark _))
    (pss_cons (ps_for PassesOwn.never rfl (pi_tup (pe_ix ix_tup (pv 1) pe_int (fun _ _ => rfl))) (pg_name (i := 5) sc_l_true.nd rfl (.inl rfl))
    (pss_one (ps_if (pt_val (pe_callB (cr_all rfl) (by rfl) T.n_all (by decide +kernel) (pa_cons (pe_lc (own := [("u", 6), ("v", 7), ("c", 8)]) (g := gTup K 3 (gCons (gName 6) (gCons (gName 7) (gCons (gName 8) gNil)))) (by rfl) sc_l_true.nd (pi_tup (pv 5)) (blkOk_by (own := [("u", 6), ("v", 7), ("c", 8)]) (N := ["world", "promise", "known", "values", "rules", "way", "u", "v", "c", "number", "lo", "hi", "cells", "k", "cell", "others", "both"]) (sc := defScope s_l_true) (by decide +kernel)) (fun _ _ _ _ _ => pg_tup rfl (pgs_cons (pg_name (i := 6) sc_l_true.nd rfl (Or.inl rfl)) (pgs_cons (pg_name (i := 7) sc_l_true.nd rfl (Or.inl rfl)) (pgs_cons (pg_name (i := 8) sc_l_true.nd rfl (Or.inl rfl)) pgs_nil)))) (fun _ _ _ _ _ => pts_nil) (fun _ _ _ _ _ => (pe_cmpR op_le (pe_op op_sub (pe_call G_l_of (hr.mono (by decide)) (by rfl) D_l_of.g D_l_of.F.kp D_l_of.b .nil pass0 (pa_cons (pe_tup (pa_cons (pv 6) (pa_cons pe_int pa_nil))) (pa_cons (pv 3) pa_nil))) (pe_call G_l_of (hr.mono (by decide)) (by rfl) D_l_of.g D_l_of.F.kp D_l_of.b .nil pass0 (pa_cons (pe_tup (pa_cons (pv 7) (pa_cons pe_int pa_nil))) (pa_cons (pv 3) pa_nil)))) (pv 8) (nomark _)))) pa_nil)))
    (pss_one (ps_ret pe_bl))
    pss_nil)))
    (pss_one (ps_ret pe_bl)))
    pss_nil)
    (pss_cons (ps_asg (pe_slice sl_tup (pv 1) (po_some pe_int) (po_some pe_int)) (pg_tup (by rfl) (pgs_cons (pg_name (i := 9) sc_l_true.nd rfl (.inr rfl)) (pgs_cons (pg_name (i := 10) sc_l_true.nd rfl (.inl rfl)) (pgs_cons (pg_name (i := 11) sc_l_true.nd rfl (.inl rfl)) pgs_nil)))))
    (pss_cons (ps_set (i := 12) sc_l_true.nd rfl (.inr rfl) (pe_lc (own := [("k", 13)]) (g := gName 13) (by rfl) sc_l_true.nd (pi_list (pe_call G_l_range (hr.mono (by decide)) (by rfl) D_l_range.g D_l_range.F.kp D_l_range.b .nil pass0 (pa_cons (pv 0) (pa_cons (pv 9) (pa_cons (pv 10) (pa_cons (pv 11) pa_nil)))))) (blkOk_by (own := [("k", 13)]) (N := ["world", "promise", "known", "values", "rules", "way", "u", "v", "c", "number", "lo", "hi", "cells", "k", "cell", "others", "both"]) (sc := defScope s_l_true) (by decide +kernel)) (fun _ _ _ _ _ => pg_name (i := 13) sc_l_true.nd rfl (Or.inl rfl)) (fun _ _ _ _ _ => pts_nil) (fun _ _ _ _ _ => (pe_call G_l_there (hr.mono (by decide)) (by rfl) D_l_there.g D_l_there.F.kp D_l_there.b .nil pass0 (pa_cons (pv 0) (pa_cons (pv 9) (pa_cons (pv 13) pa_nil)))))))
    (pss_cons (ps_if (pt_cmpR op_eq (pe_ix ix_tup (pv 1) pe_int (fun _ _ => rfl)) pe_str (nomark _))
    (pss_one (ps_ret (pe_callB (cr_all rfl) (by rfl) T.n_all (by decide +kernel) (pa_cons (pe_lc (own := [("cell", 14)]) (g := gName 14) (by rfl) sc_l_true.nd (pi_list (pv 12)) (blkOk_by (own := [("cell", 14)]) (N := ["world", "promise", "known", "values", "rules", "way", "u", "v", "c", "number", "lo", "hi", "cells", "k", "cell", "others", "both"]) (sc := defScope s_l_true) (by decide +kernel)) (fun _ _ _ _ _ => pg_name (i := 14) sc_l_true.nd rfl (Or.inl rfl)) (fun _ _ _ _ _ => pts_nil) (fun _ _ _ _ _ => (pe_call G_l_compared (hr.mono (by decide)) (by rfl) D_l_compared.g D_l_compared.F.kp D_l_compared.b .nil pass0 (pa_cons (pe_ix (show IxR _ (rIxT K) from ix_tup) (pv 1) pe_int (fun _ _ => rfl)) (pa_cons (pv 14) (pa_cons (pe_call G_l_of (hr.mono (by decide)) (by rfl) D_l_of.g D_l_of.F.kp D_l_of.b .nil pass0 (pa_cons (pe_ix (show IxR _ (rIxT K) from ix_tup) (pv 1) pe_int (fun _ _ => rfl)) (pa_cons (pv 3) pa_nil))) pa_nil)))))) pa_nil))))
    pss_nil)
    (pss_cons (ps_if (pt_cmpR op_eq (pe_ix ix_tup (pv 1) pe_int (fun _ _ => rfl)) pe_str (nomark _))
    (pss_cons (ps_set (i := 15) sc_l_true.nd rfl (.inr rfl) (pe_lc (own := [("k", 13)]) (g := gName 13) (by rfl) sc_l_true.nd (pi_list (pe_call G_l_range (hr.mono (by decide)) (by rfl) D_l_range.g D_l_range.F.kp D_l_range.b .nil pass0 (pa_cons (pv 0) (pa_cons (pe_ix ix_tup (pv 1) pe_int (fun _ _ => rfl)) (pa_cons (pv 10) (pa_cons (pv 11) pa_nil)))))) (blkOk_by (own := [("k", 13)]) (N := ["world", "promise", "known", "values", "rules", "way", "u", "v", "c", "number", "lo", "hi", "cells", "k", "cell", "others", "both"]) (sc := defScope s_l_true) (by decide +kernel)) (fun _ _ _ _ _ => pg_name (i := 13) sc_l_true.nd rfl (Or.inl rfl)) (fun _ _ _ _ _ => pts_nil) (fun _ _ _ _ _ => (pe_call G_l_there (hr.mono (by decide)) (by rfl) D_l_there.g D_l_there.F.kp D_l_there.b .nil pass0 (pa_cons (pv 0) (pa_cons (pe_ix (show IxR _ (rIxT K) from ix_tup) (pv 1) pe_int (fun _ _ => rfl)) (pa_cons (pv 13) pa_nil)))))))
    (pss_cons (ps_set (i := 16) sc_l_true.nd rfl (.inl rfl) (pe_callB (call_min2 rfl) (by rfl) T.n_min (by decide +kernel) (pa_cons (pe_callB call_len_seq (by rfl) T.n_len PySem.boot_len (pa_cons (pv 12) pa_nil)) (pa_cons (pe_callB call_len_seq (by rfl) T.n_len PySem.boot_len (pa_cons (pv 15) pa_nil)) pa_nil))))
    (pss_one (ps_ret (pe_callB (cr_all rfl) (by rfl) T.n_all (by decide +kernel) (pa_cons (pe_lc (own := [("k", 13)]) (g := gName 13) (by rfl) sc_l_true.nd (pi_range1 (by rfl) T.n_range (pa_cons (pv 16) pa_nil)) (blkOk_by (own := [("k", 13)]) (N := ["world", "promise", "known", "values", "rules", "way", "u", "v", "c", "number", "lo", "hi", "cells", "k", "cell", "others", "both"]) (sc := defScope s_l_true) (by decide +kernel)) (fun _ _ _ _ _ => pg_name (i := 13) sc_l_true.nd rfl (Or.inl rfl)) (fun _ _ _ _ _ => pts_nil) (fun _ _ _ _ _ => (pe_call G_l_compared (hr.mono (by decide)) (by rfl) D_l_compared.g D_l_compared.F.kp D_l_compared.b .nil pass0 (pa_cons (pe_ix (show IxR _ (rIxT K) from ix_tup) (pv 1) pe_int (fun _ _ => rfl)) (pa_cons (pe_ix (show IxR _ (rIxL K) from ix_list) (pv 12) (pv 13) (fun _ _ => rfl)) (pa_cons (pe_op op_add (pe_ix (show IxR _ (rIxL K) from ix_list) (pv 15) (pv 13) (fun _ _ => rfl)) (pe_ix (show IxR _ (rIxT K) from ix_tup) (pv 1) pe_int (fun _ _ => rfl))) pa_nil)))))) pa_nil))))))
    pss_nil)
    (pss_cons (ps_if (pt_cmpR op_eq (pe_ix ix_tup (pv 1) pe_int (fun _ _ => rfl)) pe_str (nomark _))
    (pss_one (ps_ret (pe_callB (cr_all rfl) (by rfl) T.n_all (by decide +kernel) (pa_cons (pe_lc (own := [("k", 13)]) (g := gName 13) (by rfl) sc_l_true.nd (pi_range1 (by rfl) T.n_range (pa_cons (pe_op op_sub (pe_callB call_len_seq (by rfl) T.n_len PySem.boot_len (pa_cons (pv 12) pa_nil)) pe_int) pa_nil)) (blkOk_by (own := [("k", 13)]) (N := ["world", "promise", "known", "values", "rules", "way", "u", "v", "c", "number", "lo", "hi", "cells", "k", "cell", "others", "both"]) (sc := defScope s_l_true) (by decide +kernel)) (fun _ _ _ _ _ => pg_name (i := 13) sc_l_true.nd rfl (Or.inl rfl)) (fun _ _ _ _ _ => pts_nil) (fun _ _ _ _ _ => (pe_cmpR op_le (pe_ix (show IxR _ (rIxL K) from ix_list) (pv 12) (pv 13) (fun _ _ => rfl)) (pe_ix (show IxR _ (rIxL K) from ix_list) (pv 12) (pe_op op_add (pv 13) pe_int) (fun _ _ => rfl)) (nomark _)))) pa_nil))))
    pss_nil)
    (pss_cons (ps_set (i := 15) sc_l_true.nd rfl (.inr rfl) (pe_lc (own := [("k", 13)]) (g := gName 13) (by rfl) sc_l_true.nd (pi_list (pe_call G_l_range (hr.mono (by decide)) (by rfl) D_l_range.g D_l_range.F.kp D_l_range.b .nil pass0 (pa_cons (pv 0) (pa_cons (pe_ix ix_tup (pv 1) pe_int (fun _ _ => rfl)) (pa_cons (pe_ix ix_tup (pv 1) pe_int (fun _ _ => rfl)) (pa_cons (pe_ix ix_tup (pv 1) pe_int (fun _ _ => rfl)) pa_nil)))))) (blkOk_by (own := [("k", 13)]) (N := ["world", "promise", "known", "values", "rules", "way", "u", "v", "c", "number", "lo", "hi", "cells", "k", "cell", "others", "both"]) (sc := defScope s_l_true) (by decide +kernel)) (fun _ _ _ _ _ => pg_name (i := 13) sc_l_true.nd rfl (Or.inl rfl)) (fun _ _ _ _ _ => pts_nil) (fun _ _ _ _ _ => (pe_call G_l_there (hr.mono (by decide)) (by rfl) D_l_there.g D_l_there.F.kp D_l_there.b .nil pass0 (pa_cons (pv 0) (pa_cons (pe_ix (show IxR _ (rIxT K) from ix_tup) (pv 1) pe_int (fun _ _ => rfl)) (pa_cons (pv 13) pa_nil)))))))
    (pss_one (ps_ret (pe_or (pe_cmpR op_eq (pe_callB call_len_seq (by rfl) T.n_len PySem.boot_len (pa_cons (pv 12) pa_nil)) pe_int (nomark _)) (pe_or (pe_cmpR op_eq (pe_callB call_len_seq (by rfl) T.n_len PySem.boot_len (pa_cons (pv 15) pa_nil)) pe_int (nomark _)) (pe_one (pe_cmpR op_le (pe_callB (cr_max rfl) (by rfl) T.n_max (by decide +kernel) (pa_cons (pv 12) pa_nil)) (pe_callB (cr_min rfl) (by rfl) T.n_min (by decide +kernel) (pa_cons (pv 15) pa_nil)) (nomark _))))))))))))))), ?_⟩
    refine ⟨_, rfl, a.wt, _, rfl, wd.w, rfl, _, _, rfl, _, _, rfl, _, _, rfl, rfl, ?_⟩
    obtain ⟨t0, xs, rfl, ht, ha⟩ : ∃ t0 xs, v = .ref t0 ∧ SqT K H t0 xs ∧ ∃ ds, p.enc = .tuple ds ∧ DpAll K H xs ds := by
      cases p <;> (obtain ⟨t0, xs, h1, h2, h3⟩ := dp_tup_inv dv; exact ⟨t0, xs, h1, h2, _, rfl, h3⟩)
    by_cases he : ∃ ws, p = .eit ws
    · obtain ⟨ws, rfl⟩ := he
      obtain ⟨ds, e, ha⟩ := ha
      cases e
      obtain ⟨v1, v2, rfl, w1, w2⟩ := dpa2 ha
      cases dp_str_inv w1
      obtain ⟨hw1, hw2⟩ := pok
      obtain ⟨tw, ys, rfl, hty, hys⟩ := dp_tup_inv w2
      have hyl : ys.length = ws.length := by rw [dpa_len hys, List.length_map]
      refine ⟨_, rfl, t0, _, _, _, rfl, rfl, ht, atI_nat (j := 0) rfl, rfl, _, rfl, iteT ?_⟩
      refine ⟨_, rfl, t0, _, _, _, rfl, rfl, ht, atI_nat (j := 1) rfl, tw, rfl, ⟨_, hty⟩, ?_⟩
      refine for_tup (K := K) (a := tw) (xs := ys) (fun i σ G => Same H G ∧ ∃ y5 : Option V, σ = [some (.ref a.wt), some (.ref t0), some (.ref a.kp), some (.ref a.b), some (.ref a.ru), y5, none, none, none, none, none, none, none, none, none, none, none]) ⟨Same.refl _, _, rfl⟩ (fun i σ G _ hP => sqt_same hP.1 hty) (fun i x σ G hxi hP => ?_) (fun σ G hP => ?_)
      · obtain ⟨sG, y5, rfl⟩ := hP
        have hic : i < ws.length := by rw [← hyl]; exact (List.getElem?_eq_some_iff.mp hxi).1
        obtain ⟨v, g1, g2⟩ := dp_mem hys hic
        rw [hxi] at g1
        cases g1
        obtain ⟨hx1, hx2⟩ := hw2 _ (List.getElem_mem hic)
        obtain ⟨t1, zs, rfl, hty1, hzs⟩ := dp_tup_inv (g2.same sG)
        have hzl : zs.length = ws[i].length := by rw [dpa_len hzs, List.length_map]
        refine ⟨_, rfl, t1, rfl, ⟨_, hty1⟩, fun D nD => ?_⟩
        refine lc_exT V.bl (kptB ns) (K := K) (a := t1) (xs := zs) (ys := ws[i]) nD hzl (by omega) hty1 (fun j x yt G2 Q' hxj hyj s2 q' => ?_) (fun G2 s2 eD => ?_)
        · have hjc : j < ws[i].length := by rw [← hzl]; exact (List.getElem?_eq_some_iff.mp hxj).1
          obtain ⟨v, g3, g4⟩ := dp_mem (enc := b3) hzs hjc
          rw [hxj] at g3
          cases g3
          rw [List.getElem?_eq_getElem hjc] at hyj
          cases hyj
          obtain ⟨hu, hv⟩ := hx2 _ (List.getElem_mem hjc)
          obtain ⟨t2, u1, u2, u3, rfl, ht2, z1, z2, z3⟩ := dp_inv3 (g4.same s2)
          cases dp_int_inv z1
          cases dp_int_inv z2
          cases dp_int_inv z3
          have sb := (sG.trans s2).seq wd.b
          refine ⟨t2, _, rfl, ht2, rfl, _, _, rfl, _, _, rfl, _, _, rfl, rfl, rfl, ?_⟩
          refine ⟨_, rfl, by show (2 : Nat) ≤ sizeLine; decide, fun p1 np1 => ?_⟩
          have sp1 := same_new (o := .tup [.int ws[i][j].1, .int 0]) np1
          refine ⟨_, rfl, _, a.b, (ws[i][j].1, 0), ns, rfl, .tup (SqT.of upd_same) (.cons (.int _) (.cons (.int _) .nil)), sp1.seq sb, hu, ?_⟩
          refine ⟨_, rfl, by show (2 : Nat) ≤ sizeLine; decide, fun p2 np2 => ?_⟩
          have sp2 := same_new (o := .tup [.int ws[i][j].2.1, .int 0]) np2
          refine ⟨_, rfl, _, a.b, (ws[i][j].2.1, 0), ns, rfl, .tup (SqT.of upd_same) (.cons (.int _) (.cons (.int _) .nil)), (sp1.trans sp2).seq sb, hv, ?_⟩
          exact ⟨_, _, rfl, rfl, _, rfl, _, _, rfl, rfl, q' _ (sp1.trans sp2)⟩
        · refine ⟨D, _, rfl, SqL.of eD, _, rfl, ite2 (fun hall => ?_) (fun _ => ?_)⟩
          · exact q _ _ (sG.trans s2) fun _ => ⟨ws[i], List.getElem_mem hic, fun t ht => of_decide_eq_true (p := wo ns (t.1, 0) - wo ns (t.2.1, 0) ≤ t.2.2) (allb hall ht)⟩
          · exact ⟨sG.trans s2, _, rfl⟩
      · obtain ⟨sG, y5, rfl⟩ := hP
        exact q _ _ sG fun h => Bool.noConfusion h
    · obtain ⟨kd, n, lo, hi, v3, v4, rest, rfl, hk, hne, hcut, hn, lo1, lo2, hi1, hi2, w3, w4, sum⟩ : ∃ (kd : PySem.Str) (n : Nat) (lo hi : Fm) (v3 v4 : V) (rest : List V), xs = .str kd :: .int n :: v3 :: v4 :: rest ∧ ¬ V.str kd = V.str "either" ∧ ¬ (HT.sIx xs.length 0 (some 1) = 0 ∧ HT.sIx xs.length xs.length (some 4) = xs.length) ∧ cutV xs (some 1) (some 4) = [.int n, v3, v4] ∧ n < ls.length ∧ fok ns.length lo ∧ Wb ns lo ∧ fok ns.length hi ∧ Wb ns hi ∧ Dp K H v3 (f2 lo) ∧ Dp K H v4 (f2 hi) ∧
          ((kd = "all" ∧ ∃ (g : PySem.Str) (f : Fm) (v6 : V), p = .all n lo hi g f ∧ rest = [.str g, v6] ∧ g ∈ sgs ∧ fok ns.length f ∧ Dp K H v6 (f2 f)) ∨ (kd = "match" ∧ ∃ (g : PySem.Str) (o : Nat) (c : Int), p = .mat n lo hi g o c ∧ rest = [.str g, .int o, .int c] ∧ g ∈ sgs ∧ o < ls.length) ∨ (kd = "sorted" ∧ p = .srt n lo hi ∧ rest = []) ∨ (kd = "below" ∧ ∃ (o : Nat) (fa fb : Fm) (v6 v7 : V), p = .bel n lo hi o fa fb ∧ rest = [.int o, v6, v7] ∧ o < ls.length ∧ fok ns.length fa ∧ Wb ns fa ∧ fok ns.length fb ∧ Wb ns fb ∧ Dp K H v6 (f2 fa) ∧ Dp K H v7 (f2 fb))) := by
        obtain ⟨ds, e, ha⟩ := ha
        cases p with
        | eit ws => exact absurd ⟨ws, rfl⟩ he
        | srt n lo hi =>
          cases e
          obtain ⟨v1, v2, v3, v4, rfl, w1, w2, w3, w4⟩ := dpa4 ha
          cases dp_str_inv w1
          cases dp_int_inv w2
          obtain ⟨hn, ⟨lo1, lo2⟩, hi1, hi2⟩ := pok
          exact ⟨_, n, lo, hi, v3, v4, [], rfl, by decide, by show ¬ (HT.sIx 4 0 (some 1) = 0 ∧ HT.sIx 4 4 (some 4) = 4); decide, rfl, hn, lo1, lo2, hi1, hi2, w3, w4, .inr (.inr (.inl ⟨rfl, rfl, rfl⟩))⟩
        | all n lo hi g f =>
          cases e
          obtain ⟨v1, v2, v3, v4, v5, v6, rfl, w1, w2, w3, w4, w5, w6⟩ := dpa6 ha
          cases dp_str_inv w1
          cases dp_int_inv w2
          cases dp_str_inv w5
          obtain ⟨hn, ⟨lo1, lo2⟩, ⟨hi1, hi2⟩, hg, f1, f2'⟩ := pok
          exact ⟨_, n, lo, hi, v3, v4, _, rfl, by decide, by show ¬ (HT.sIx 6 0 (some 1) = 0 ∧ HT.sIx 6 6 (some 4) = 6); decide, rfl, hn, lo1, lo2, hi1, hi2, w3, w4, .inl ⟨rfl, g, f, v6, rfl, rfl, hg, f1, w6⟩⟩
        | mat n lo hi g o c =>
          cases e
          obtain ⟨v1, v2, v3, v4, v5, v6, v7, rfl, w1, w2, w3, w4, w5, w6, w7⟩ := dpa7 ha
          cases dp_str_inv w1
          cases dp_int_inv w2
          cases dp_str_inv w5
          cases dp_int_inv w6
          cases dp_int_inv w7
          obtain ⟨hn, ⟨lo1, lo2⟩, ⟨hi1, hi2⟩, hg, ho, c0, c1⟩ := pok
          exact ⟨_, n, lo, hi, v3, v4, _, rfl, by decide, by show ¬ (HT.sIx 7 0 (some 1) = 0 ∧ HT.sIx 7 7 (some 4) = 7); decide, rfl, hn, lo1, lo2, hi1, hi2, w3, w4, .inr (.inl ⟨rfl, g, o, c, rfl, rfl, hg, ho⟩)⟩
        | bel n lo hi o fa fb =>
          cases e
          obtain ⟨v1, v2, v3, v4, v5, v6, v7, rfl, w1, w2, w3, w4, w5, w6, w7⟩ := dpa7 ha
          cases dp_str_inv w1
          cases dp_int_inv w2
          cases dp_int_inv w5
          obtain ⟨hn, ⟨lo1, lo2⟩, ⟨hi1, hi2⟩, ho, ⟨a1, a2⟩, b1, b2⟩ := pok
          exact ⟨_, n, lo, hi, v3, v4, _, rfl, by decide, by show ¬ (HT.sIx 7 0 (some 1) = 0 ∧ HT.sIx 7 7 (some 4) = 7); decide, rfl, hn, lo1, lo2, hi1, hi2, w3, w4, .inr (.inr (.inr ⟨rfl, o, fa, fb, v6, v7, rfl, rfl, ho, a1, a2, b1, b2, w6, w7⟩))⟩
      refine ⟨_, rfl, t0, _, _, _, rfl, rfl, ht, atI_nat (j := 0) rfl, rfl, _, rfl, ite2 (fun e => absurd (of_decide_eq_true e) hk) (fun _ => ?_)⟩
      refine ⟨_, rfl, _, rfl, _, rfl, t0, _, rfl, ht, hne, fun p1 np1 => ?_⟩
      rw [hcut]
      generalize hg : upd H p1 _ = G0
      obtain ⟨s0, e0⟩ := new_of np1 hg
      refine ⟨p1, _, rfl, SqT.of e0, rfl, _, _, rfl, _, _, rfl, _, _, rfl, rfl, ?_⟩
      refine ⟨_, rfl, _, rfl, _, rfl, _, rfl, a, n, m, v3, v4, lo, hi, ls, ns, rfl, wd.same s0, lok, lsb, hn, hll, w3.same s0, w4.same s0, lo1, hi1, lo2, hi2, fun q1 zs G1 hzs g1 eq1 hz1 hz2 => ⟨q1, rfl, ⟨_, SqL.of eq1⟩, fun D nD => ?_⟩⟩
      have wd1 := wd.same (s0.trans g1)
      refine lc_exL V.int (TH ls a.rf ns n) (K := K) (a := q1) (xs := zs.map V.int) (ys := zs) nD (List.length_map _) hz1 (SqL.of eq1) (fun j x z G2 Q' hx hz s2 q' => ?_) (fun G2 s2 eD => ?_)
      · rw [List.getElem?_map, hz] at hx
        cases hx
        have := hz2 z (List.mem_of_getElem? hz)
        exact ⟨rfl, _, rfl, _, rfl, _, rfl, a, n, m, z, ls, ns, rfl, wd1.same s2, lok, lsb, hn, hll, by omega, by omega, fun _ _ => q' _ (Same.refl _)⟩
      have s3 := (s0.trans g1).trans s2
      have ht3 := sqt_same s3 ht
      obtain ⟨rs, hrs⟩ : ∃ rs, zs.map (TH ls a.rf ns n) = rs := ⟨_, rfl⟩
      rw [hrs] at eD
      have hrl : rs.length = zs.length := by rw [← hrs, List.length_map]
      have hrN : rs.length = (enF ls ns n hi - stF ns lo).toNat := by rw [hrl, hzs, rgF_len]
      have hrv : ∀ j, j < (enF ls ns n hi - stF ns lo).toNat → rs.getD j 0 = TH ls a.rf ns n (stF ns lo + (j : Nat)) := fun j hj => by
        rw [← hrs, hzs]
        exact vals_at hj
      have int_at' : ∀ (us : List Int) (i : Nat) (z : Int), z = (i : Nat) → i < us.length → ∃ r : Int, atI (us.map V.int) z = some (.int r) := fun us i z e h => by
        subst e
        exact ⟨_, ints_at h⟩
      rcases sum with ⟨rfl, g, f, v6, rfl, rfl, hg', f1, w6⟩ | ⟨rfl, g, o, c, rfl, rfl, hg', ho⟩ | ⟨rfl, rfl, rfl⟩ | ⟨rfl, o, fa, fb, v6, v7, rfl, rfl, ho, a1, a2, b1, b2, w6, w7⟩
      · -- all
        refine ⟨_, rfl, t0, _, _, _, rfl, rfl, ht3, atI_nat (j := 0) rfl, rfl, _, rfl, iteT ?_⟩
        refine ⟨_, rfl, D, rfl, ⟨_, SqL.of eD⟩, fun D2 nD2 => ?_⟩
        refine lc_exL V.bl (fun z => cmpF g z (wo ns f)) (K := K) (a := D) (xs := rs.map V.int) (ys := rs) nD2 (List.length_map _) (by omega) (SqL.of eD) (fun j x z G3 Q' hx hz s4 q' => ?_) (fun G3 s4 eD2 => ?_)
        · rw [List.getElem?_map, hz] at hx
          cases hx
          have s5 := s3.trans s4
          exact ⟨rfl, _, rfl, t0, _, _, _, rfl, rfl, sqt_same s5 ht, atI_nat (j := 4) rfl, _, rfl, _, rfl, t0, _, _, _, rfl, rfl, sqt_same s5 ht, atI_nat (j := 5) rfl, _, rfl, v6, a.b, f, ns, rfl, w6.same s5, s5.seq wd.b, f1, g, z, _, rfl, hg', fun G' s' => q' G' s'⟩
        · refine ⟨D2, _, rfl, SqL.of eD2, q _ _ (s3.trans s4) fun hall k hk => ?_⟩
          obtain ⟨j, rfl, hj⟩ := inR_at hk
          have := allb hall (List.getElem_mem (show j < rs.length by omega))
          rw [← hrv j hj, List.getD_eq_getElem?_getD, List.getElem?_eq_getElem (by omega)]
          exact this
      · -- match
        refine ⟨_, rfl, t0, _, _, _, rfl, rfl, ht3, atI_nat (j := 0) rfl, rfl, _, rfl, iteF ?_⟩
        refine ⟨_, rfl, t0, _, _, _, rfl, rfl, ht3, atI_nat (j := 0) rfl, rfl, _, rfl, iteT ?_⟩
        refine ⟨_, rfl, _, rfl, t0, _, _, _, rfl, rfl, ht3, atI_nat (j := 5) rfl, _, rfl, _, rfl, a, o, m, v3, v4, lo, hi, ls, ns, rfl, wd.same s3, lok, lsb, ho, hll, w3.same s3, w4.same s3, lo1, hi1, lo2, hi2, fun q2 zs2 G3 hzs2 g3 eq2 hy1 hy2 => ⟨q2, rfl, ⟨_, SqL.of eq2⟩, fun D2 nD2 => ?_⟩⟩
        refine lc_exL V.int (TH ls a.rf ns o) (K := K) (a := q2) (xs := zs2.map V.int) (ys := zs2) nD2 (List.length_map _) hy1 (SqL.of eq2) (fun j x z G4 Q' hx hz s4 q' => ?_) (fun G4 s4 eD2 => ?_)
        · rw [List.getElem?_map, hz] at hx
          cases hx
          have := hy2 z (List.mem_of_getElem? hz)
          have s5 := (s3.trans g3).trans s4
          exact ⟨rfl, _, rfl, _, rfl, t0, _, _, _, rfl, rfl, sqt_same s5 ht, atI_nat (j := 5) rfl, _, rfl, a, o, m, z, ls, ns, rfl, wd.same s5, lok, lsb, ho, hll, by omega, by omega, fun _ _ => q' _ (Same.refl _)⟩
        obtain ⟨rs2, hrs2⟩ : ∃ rs, zs2.map (TH ls a.rf ns o) = rs := ⟨_, rfl⟩
        rw [hrs2] at eD2
        have hrl2 : rs2.length = zs2.length := by rw [← hrs2, List.length_map]
        have hrN2 : rs2.length = (enF ls ns o hi - stF ns lo).toNat := by rw [hrl2, hzs2, rgF_len]
        have hrv2 : ∀ j, j < (enF ls ns o hi - stF ns lo).toNat → rs2.getD j 0 = TH ls a.rf ns o (stF ns lo + (j : Nat)) := fun j hj => by
          rw [← hrs2, hzs2]
          exact vals_at hj
        have s5 := (s3.trans g3).trans s4
        have eD' := (g3.trans s4) _ _ eD
        refine ⟨_, rfl, D, _, rfl, .inl (SqL.of eD'), _, rfl, D2, _, rfl, .inl (SqL.of eD2), _, _, rfl, ?_⟩
        rw [List.length_map, List.length_map]
        have hmn : ∃ mn : Nat, (if (rs2.length : Int) < rs.length then (rs2.length : Int) else rs.length) = (mn : Nat) ∧ mn ≤ rs.length ∧ mn ≤ rs2.length ∧ (mn = rs.length ∨ mn = rs2.length) := by
          split
          · exact ⟨rs2.length, rfl, by omega, Nat.le_refl _, .inr rfl⟩
          · exact ⟨rs.length, rfl, Nat.le_refl _, by omega, .inl rfl⟩
        obtain ⟨mn, emn, m1, m2, m3⟩ := hmn
        rw [emn]
        refine ⟨_, rfl, mn, rfl, by omega, by omega, fun D3 nD3 => ?_⟩
        refine lc_exR V.bl (fun j => cmpF g (rs.getD j 0) (rs2.getD j 0 + c)) (lo := 0) (n := ((mn : Nat) : Int).toNat) nD3 (by omega) (fun j G5 Q' hj s6 q' => ?_) (fun G5 s6 eD3 => ?_)
        · have s7 := s5.trans s6
          have e0 : (0 : Int) + (j : Nat) = (j : Nat) := by omega
          have y1 : atI (rs.map V.int) (0 + (j : Nat)) = some (.int (rs.getD j 0)) := by rw [e0]; exact getD_at (by omega)
          have y2 : atI (rs2.map V.int) (0 + (j : Nat)) = some (.int (rs2.getD j 0)) := by rw [e0]; exact getD_at (by omega)
          exact ⟨rfl, _, rfl, t0, _, _, _, rfl, rfl, sqt_same s7 ht, atI_nat (j := 4) rfl, _, rfl, _, rfl, D, _, _, _, rfl, rfl, SqL.of (s6 _ _ eD'), y1, _, rfl, _, rfl, D2, _, _, _, rfl, rfl, SqL.of (s6 _ _ eD2), y2, _, rfl, t0, _, _, _, rfl, rfl, sqt_same s7 ht, atI_nat (j := 6) rfl, _, _, rfl, rfl, g, _, _, rfl, hg', fun G' s' => q' G' s'⟩
        · refine ⟨D3, _, rfl, SqL.of eD3, q _ _ (s5.trans s6) fun hall k hk hk2 => ?_⟩
          obtain ⟨j, rfl, hj⟩ := inR_at hk
          obtain ⟨j2, ej, hj2⟩ := inR_at hk2
          have ej : j = j2 := by omega
          subst ej
          have := allb hall (List.mem_range.mpr (show j < ((mn : Nat) : Int).toNat by omega))
          rw [hrv j hj, hrv2 j hj2] at this
          exact this
      · -- sorted
        refine ⟨_, rfl, t0, _, _, _, rfl, rfl, ht3, atI_nat (j := 0) rfl, rfl, _, rfl, iteF ?_⟩
        refine ⟨_, rfl, t0, _, _, _, rfl, rfl, ht3, atI_nat (j := 0) rfl, rfl, _, rfl, iteF ?_⟩
        refine ⟨_, rfl, t0, _, _, _, rfl, rfl, ht3, atI_nat (j := 0) rfl, rfl, _, rfl, iteT ?_⟩
        refine ⟨_, rfl, D, _, rfl, .inl (SqL.of eD), _, _, rfl, rfl, ?_⟩
        rw [List.length_map]
        refine ⟨_, rfl, by omega, by omega, fun D3 nD3 => ?_⟩
        refine lc_exR V.bl (fun j => decide (rs.getD j 0 ≤ rs.getD (j + 1) 0)) (lo := 0) (n := ((rs.length : Int) - 1).toNat) nD3 (by omega) (fun j G5 Q' hj s6 q' => ?_) (fun G5 s6 eD3 => ?_)
        · have e0 : (0 : Int) + (j : Nat) = (j : Nat) := by omega
          have e1 : (0 : Int) + (j : Nat) + 1 = ((j + 1 : Nat) : Int) := by omega
          have y1 : atI (rs.map V.int) (0 + (j : Nat)) = some (.int (rs.getD j 0)) := by rw [e0]; exact getD_at (by omega)
          have y2 : atI (rs.map V.int) (0 + (j : Nat) + 1) = some (.int (rs.getD (j + 1) 0)) := by rw [e1]; exact getD_at (by omega)
          exact ⟨rfl, _, rfl, _, rfl, D, _, _, _, rfl, rfl, SqL.of (s6 _ _ eD), y1, _, rfl, _, rfl, _, _, rfl, rfl, D, _, _, _, rfl, rfl, SqL.of (s6 _ _ eD), y2, _, _, rfl, rfl, q' _ (Same.refl _)⟩
        · refine ⟨D3, _, rfl, SqL.of eD3, q _ _ (s3.trans s6) fun hall k l hk hl hkl => ?_⟩
          obtain ⟨j, rfl, hj⟩ := inR_at hk
          obtain ⟨j2, rfl, hj2⟩ := inR_at hl
          rw [← hrv j hj, ← hrv j2 hj2]
          obtain ⟨d, rfl⟩ : ∃ d, j2 = j + d := ⟨j2 - j, by omega⟩
          exact chain_le (f := fun j => rs.getD j 0) (n := rs.length) (fun j hj => of_decide_eq_true (allb hall (List.mem_range.mpr (show j < ((rs.length : Int) - 1).toNat by omega)))) d j (by omega)
      · -- below
        refine ⟨_, rfl, t0, _, _, _, rfl, rfl, ht3, atI_nat (j := 0) rfl, rfl, _, rfl, iteF ?_⟩
        refine ⟨_, rfl, t0, _, _, _, rfl, rfl, ht3, atI_nat (j := 0) rfl, rfl, _, rfl, iteF ?_⟩
        refine ⟨_, rfl, t0, _, _, _, rfl, rfl, ht3, atI_nat (j := 0) rfl, rfl, _, rfl, iteF ?_⟩
        refine ⟨_, rfl, _, rfl, t0, _, _, _, rfl, rfl, ht3, atI_nat (j := 4) rfl, _, rfl, t0, _, _, _, rfl, rfl, ht3, atI_nat (j := 5) rfl, _, rfl, t0, _, _, _, rfl, rfl, ht3, atI_nat (j := 6) rfl, a, o, m, v6, v7, fa, fb, ls, ns, rfl, wd.same s3, lok, lsb, ho, hll, w6.same s3, w7.same s3, a1, b1, a2, b2, fun q2 zs2 G3 hzs2 g3 eq2 hy1 hy2 => ⟨q2, rfl, ⟨_, SqL.of eq2⟩, fun D2 nD2 => ?_⟩⟩
        refine lc_exL V.int (TH ls a.rf ns o) (K := K) (a := q2) (xs := zs2.map V.int) (ys := zs2) nD2 (List.length_map _) hy1 (SqL.of eq2) (fun j x z G4 Q' hx hz s4 q' => ?_) (fun G4 s4 eD2 => ?_)
        · rw [List.getElem?_map, hz] at hx
          cases hx
          have := hy2 z (List.mem_of_getElem? hz)
          have s5 := (s3.trans g3).trans s4
          exact ⟨rfl, _, rfl, _, rfl, t0, _, _, _, rfl, rfl, sqt_same s5 ht, atI_nat (j := 4) rfl, _, rfl, a, o, m, z, ls, ns, rfl, wd.same s5, lok, lsb, ho, hll, by omega, by omega, fun _ _ => q' _ (Same.refl _)⟩
        obtain ⟨rs2, hrs2⟩ : ∃ rs, zs2.map (TH ls a.rf ns o) = rs := ⟨_, rfl⟩
        rw [hrs2] at eD2
        have hrl2 : rs2.length = zs2.length := by rw [← hrs2, List.length_map]
        have hrN2 : rs2.length = (enF ls ns o fb - stF ns fa).toNat := by rw [hrl2, hzs2, rgF_len]
        have hrv2 : ∀ j, j < (enF ls ns o fb - stF ns fa).toNat → rs2.getD j 0 = TH ls a.rf ns o (stF ns fa + (j : Nat)) := fun j hj => by
          rw [← hrs2, hzs2]
          exact vals_at hj
        have s5 := (s3.trans g3).trans s4
        have eD' := (g3.trans s4) _ _ eD
        have pos : ∀ us : List Int, ¬ decide (V.int ((us.map V.int).length : Nat) = V.int 0) = true → 0 < us.length := fun us h => by
          rcases Nat.eq_zero_or_pos us.length with h0 | h0
          · exact absurd (decide_eq_true (by rw [List.length_map, h0]; rfl)) h
          · exact h0
        refine ⟨_, rfl, D, _, rfl, .inl (SqL.of eD'), rfl, _, rfl, ite2 (fun e => q _ _ s5 fun _ k l hk hl => ?_) (fun e => ?_)⟩
        · obtain ⟨j, rfl, hj⟩ := inR_at hk
          have e := of_decide_eq_true e
          injection e with e
          rw [List.length_map] at e
          omega
        refine ⟨_, rfl, D2, _, rfl, .inl (SqL.of eD2), rfl, _, rfl, ite2 (fun e2 => q _ _ s5 fun _ k l hk hl => ?_) (fun e2 => ?_)⟩
        · obtain ⟨j, rfl, hj⟩ := inR_at hl
          have e2 := of_decide_eq_true e2
          injection e2 with e2
          rw [List.length_map] at e2
          omega
        refine ⟨_, rfl, D, rs, rfl, SqL.of eD', pos rs e, fun mx _ hmx => ⟨_, rfl, D2, rs2, rfl, SqL.of eD2, pos rs2 e2, fun mn _ hmn => ⟨_, _, rfl, rfl, q _ _ s5 fun hle k l hk hl => ?_⟩⟩⟩
        obtain ⟨j, rfl, hj⟩ := inR_at hk
        obtain ⟨j2, rfl, hj2⟩ := inR_at hl
        have hle := of_decide_eq_true hle
        rw [← hrv j hj, ← hrv2 j2 hj2]
        have m1 := hmx (rs.getD j 0) (by rw [List.getD_eq_getElem?_getD, List.getElem?_eq_getElem (show j < rs.length by omega)]; exact List.getElem_mem _)
        have m2 := hmn (rs2.getD j2 0) (by rw [List.getD_eq_getElem?_getD, List.getElem?_eq_getElem (show j2 < rs2.length by omega)]; exact List.getElem_mem _)
        omega
end
end SW

namespace SW
open PySem PySem.Spec PyProof.Rows L2
abbrev s_l_loose : Stmt := topS 45
theorem sc_l_loose : FnScope ["draws", "values", "ways", "k", "way", "j", "u", "v", "slack"] ["draws", "values"] (defScope s_l_loose) := ⟨rfl, rfl, rfl, by decide +kernel, rfl, by decide +kernel, by decide +kernel⟩

def VsB (ns : List Int) : Prop := ∀ z, z ∈ ns → -(10 ^ 10) ≤ z ∧ z ≤ 10 ^ 10
def EitB (ns : List Int) (ws : List (List T3)) : Prop := ws.length ≤ 3 ∧ ∀ x, x ∈ ws → x.length ≤ 2 ∧ ∀ t, t ∈ x → (0 ≤ t.1 ∧ t.1 ≤ ns.length) ∧ (0 ≤ t.2.1 ∧ t.2.1 ≤ ns.length) ∧ -(10 ^ 12) ≤ t.2.2 ∧ t.2.2 ≤ 10 ^ 12
theorem but_upd {H : Hp} {p : Addr} {o : HO} : But p H (upd H p o) := fun b x hb e => (upd_ne hb).trans e
def encW (x : List T3) : PyData := .tuple (x.map b3)
theorem wo_u {ns : List Int} {u : Int} (hv : VsB ns) (h0 : 0 ≤ u) (h1 : u ≤ ns.length) : -(10 ^ 10) ≤ wo ns (u, 0) ∧ wo ns (u, 0) ≤ 10 ^ 10 := by
  unfold wo
  by_cases e : u = 0
  · rw [if_pos e]
    show -(10 ^ 10) ≤ (0 : Int) ∧ (0 : Int) ≤ 10 ^ 10
    decide
  · rw [if_neg e]
    have hj : (u - 1).toNat < ns.length := by omega
    have e2 : ns.getD (u - 1).toNat 0 = ns[(u - 1).toNat] := by
      rw [List.getD_eq_getElem?_getD, List.getElem?_eq_getElem hj]
      rfl
    have := hv _ (List.getElem_mem hj)
    show -(10 ^ 10) ≤ ns.getD (u - 1).toNat 0 + 0 ∧ ns.getD (u - 1).toNat 0 + 0 ≤ 10 ^ 10
    omega
section
variable {P : Program} {w : World} {K : PySem.W.Frag} {mg : PySem.Str → Option Value} {base : Heap} {C : Addr}
def spLoose (K : PySem.W.Frag) : Sp := fun vs H Q _ => ∃ (dl b : Addr) (ds ns : List Int), vs = [.ref dl, .ref b] ∧ SqL K H dl (ds.map V.int) ∧ ds.length = 21 ∧ (∀ d, ds[0]? = some d → 0 ≤ d ∧ d < 3) ∧ SqL K H b (ns.map V.int) ∧ ns.length ≤ 1000 ∧ VsB ns ∧
  ∀ (t : Addr) (ws : List (List T3)) (H' : Hp), Same H H' → Dp K H' (.ref t) (Pr.eit ws).enc → EitB ns ws → (∃ w, w ∈ ws ∧ ∀ t, t ∈ w → kpt ns t) → Q (.ref t) H'
theorem ok_l_loose (T : TxB mg) (D_l_loose : Df K mg "_law_loose" s_l_loose ["draws", "values"]) (D_l_of : Df K mg "_law_of" s_l_of ["form", "values"]) (G_l_of : FnOk P w K mg base CX0 1 D_l_of.f D_l_of.fd ["form", "values"] (spLOf K)) : FnOk P w K mg base CX0 2 D_l_loose.f D_l_loose.fd ["draws", "values"] (spLoose K) := by
  refine D_l_loose.F.ok sc_l_loose (fun vs H Q E h => ?_) (fun cdv A outer s H vs Q E hr h => ?_)
  · obtain ⟨dl, b, ds, ns, rfl, _⟩ := h
    rfl
  · obtain ⟨dl, b, ds, ns, rfl, hd, hdl, hd0, hb, hnl, hvs, q⟩ := h
    refine ⟨_, (pss_cons (ps_set (i := 2) sc_l_loose.nd rfl (.inl rfl) (pe_lst pa_nil))
    (pss_cons (ps_for PassesOwn.never rfl (pi_range1 (by rfl) T.n_range (pa_cons (pe_op op_add pe_int (pe_ix ix_list (pv 0) pe_int (fun _ _ => rfl))) pa_nil)) (pg_name (i := 3) sc_l_loose.nd rfl (.inl rfl))
    (pss_cons (ps_set (i := 4) sc_l_loose.nd rfl (.inl rfl) (pe_lst pa_nil))
    (pss_cons (ps_for PassesOwn.never rfl (pi_range1 (by rfl) T.n_range (pa_cons (pe_op op_add pe_int (pe_op op_mod (pe_callTy call_int1 (by rfl) T.n_int (by decide +kernel) (pa_cons (pe_op op_fdiv (pe_ix ix_list (pv 0) pe_int (fun _ _ => rfl)) (pe_op op_add (pv 3) pe_int)) pa_nil)) pe_int)) pa_nil)) (pg_name (i := 5) sc_l_loose.nd rfl (.inl rfl))
    (pss_cons (ps_set (i := 6) sc_l_loose.nd rfl (.inl rfl) (pe_op op_mod (pe_callTy call_int1 (by rfl) T.n_int (by decide +kernel) (pa_cons (pe_ix ix_list (pv 0) (pe_op op_add (pe_op op_add pe_int (pe_op op_mul pe_int (pv 3))) (pv 5)) (fun _ _ => rfl)) pa_nil)) (pe_op op_add (pe_callB call_len_seq (by rfl) T.n_len PySem.boot_len (pa_cons (pv 1) pa_nil)) pe_int)))
    (pss_cons (ps_set (i := 7) sc_l_loose.nd rfl (.inl rfl) (pe_op op_mod (pe_callTy call_int1 (by rfl) T.n_int (by decide +kernel) (pa_cons (pe_ix ix_list (pv 0) (pe_op op_add (pe_op op_add pe_int (pe_op op_mul pe_int (pv 3))) (pv 5)) (fun _ _ => rfl)) pa_nil)) (pe_op op_add (pe_callB call_len_seq (by rfl) T.n_len PySem.boot_len (pa_cons (pv 1) pa_nil)) pe_int)))
    (pss_cons (ps_set (i := 8) sc_l_loose.nd rfl (.inl rfl) (pe_op op_sub (pe_op op_mod (pe_callTy call_int1 (by rfl) T.n_int (by decide +kernel) (pa_cons (pe_ix ix_list (pv 0) (pe_op op_add (pe_op op_add pe_int (pe_op op_mul pe_int (pv 3))) (pv 5)) (fun _ _ => rfl)) pa_nil)) pe_int) pe_int))
    (Evl.pss_cut (ps_if (pt_cmpR op_eq (pv 3) (pe_op op_mod (pe_callTy call_int1 (by rfl) T.n_int (by decide +kernel) (pa_cons (pe_ix ix_list (pv 0) pe_int (fun _ _ => rfl)) pa_nil)) (pe_op op_add pe_int (pe_ix ix_list (pv 0) pe_int (fun _ _ => rfl)))) (nomark _))
    (pss_one (ps_set (i := 8) sc_l_loose.nd rfl (.inl rfl) (pe_callB call_abs (by rfl) T.n_abs (by decide +kernel) (pa_cons (pv 8) pa_nil))))
    pss_nil)
    (pss_one (ps_expr (pe_bm PySem.F.plainAttrs_list PySem.F.slot_list_append PySem.F.type_list_append mt_append (pv 4) (pa_cons (pe_tup (pa_cons (pv 6) (pa_cons (pv 7) (pa_cons (pe_op op_add (pe_op op_sub (pe_call G_l_of (hr.mono (by decide)) (by rfl) D_l_of.g D_l_of.F.kp D_l_of.b .nil pass0 (pa_cons (pe_tup (pa_cons (pv 6) (pa_cons pe_int pa_nil))) (pa_cons (pv 1) pa_nil))) (pe_call G_l_of (hr.mono (by decide)) (by rfl) D_l_of.g D_l_of.F.kp D_l_of.b .nil pass0 (pa_cons (pe_tup (pa_cons (pv 7) (pa_cons pe_int pa_nil))) (pa_cons (pv 1) pa_nil)))) (pv 8)) pa_nil)))) pa_nil)))))))))
    (pss_one (ps_expr (pe_bm PySem.F.plainAttrs_list PySem.F.slot_list_append PySem.F.type_list_append mt_append (pv 2) (pa_cons (pe_callTy call_tuple_of (by rfl) T.n_tuple (by decide +kernel) (pa_cons (pv 4) pa_nil)) pa_nil)))))))
    (pss_one (ps_ret (pe_tup (pa_cons pe_str (pa_cons (pe_callTy call_tuple_of (by rfl) T.n_tuple (by decide +kernel) (pa_cons (pv 2) pa_nil)) pa_nil))))))), ?_⟩
    have d0 := hd0 ds[0] (List.getElem?_eq_getElem (by omega))
    have at_ : ∀ (z : Int) (j : Nat), z = (j : Nat) → j < 21 → ∃ d : Int, atI (ds.map V.int) z = some (.int d) := fun z j e h => by
      subst e
      exact ⟨_, ints_at (by omega)⟩
    obtain ⟨d5, a5⟩ := at_ 20 20 rfl (by decide)
    have z0 : 0 ≤ d5 % (1 + ds[0]) := Int.emod_nonneg _ (by omega)
    have z1 : d5 % (1 + ds[0]) < 1 + ds[0] := Int.emod_lt_of_pos _ (by omega)
    obtain ⟨sel, hsel⟩ : ∃ j : Nat, d5 % (1 + ds[0]) = j := ⟨(d5 % (1 + ds[0])).toNat, by omega⟩
    refine ⟨Nat.zero_le _, fun W nW => ?_⟩
    have s1 := same_new (o := .lst []) nW
    refine ⟨_, rfl, dl, _, _, _, rfl, rfl, s1.seq hd, ints_at (j := 0) (by omega), _, _, rfl, rfl, ?_⟩
    refine ⟨_, rfl, by omega, by omega, ?_⟩
    refine for_range (lo := 0) (n := ((1 : Int) + ds[0]).toNat) (fun i σ G => Same H G ∧ ∃ (y3 y4 y5 y6 y7 y8 : Option V) (xs : List V) (ws : List (List T3)), σ = [some (.ref dl), some (.ref b), some (.ref W), y3, y4, y5, y6, y7, y8] ∧ G W = some (.lst xs) ∧ DpAll K G xs (ws.map encW) ∧ ws.length = i ∧ (∀ x, x ∈ ws → x.length ≤ 2 ∧ ∀ t, t ∈ x → (0 ≤ t.1 ∧ t.1 ≤ ns.length) ∧ (0 ≤ t.2.1 ∧ t.2.1 ≤ ns.length) ∧ -(10 ^ 12) ≤ t.2.2 ∧ t.2.2 ≤ 10 ^ 12) ∧ ∀ x, ws[sel]? = some x → ∀ t, t ∈ x → kpt ns t)
      ⟨s1, _, _, _, _, _, _, [], [], rfl, upd_same, .nil, rfl, (fun _ h => (List.not_mem_nil h).elim), fun _ h => by cases h⟩ (fun i σ G hi hP => ?_) (fun σ G hP => ?_)
    · obtain ⟨sG, y3, y4, y5, y6, y7, y8, xs, ws, rfl, eW, dW, hwl, hwo, hws⟩ := hP
      have hi3 : i < 3 := by omega
      have hxl : xs.length = ws.length := by rw [dpa_len dW, List.length_map]
      refine ⟨Nat.zero_le _, fun Y nY => ?_⟩
      have s2 := same_new (o := .lst []) nY
      obtain ⟨d1, a1⟩ := at_ 1 1 rfl (by decide)
      refine ⟨_, rfl, dl, _, _, _, rfl, rfl, (sG.trans s2).seq hd, a1, ?_⟩
      refine ⟨_, rfl, _, _, rfl, rfl, _, _, rfl, rfl, ⟨by omega, by omega⟩, .inl ⟨_, rfl, _, _, rfl, rfl, (by show (0 : Int) < 2; decide), _, _, rfl, rfl, _, rfl, by omega, by omega, ?_⟩⟩
      have j0 : 0 ≤ d1 / (0 + (i : Nat) + 1) % 2 := Int.emod_nonneg _ (by decide)
      have j1 : d1 / (0 + (i : Nat) + 1) % 2 < 2 := Int.emod_lt_of_pos _ (by decide)
      have sGY := sG.trans s2
      have nWY : W ≠ Y := ne_of_none eW nY
      refine for_range (lo := 0) (n := ((1 : Int) + d1 / (0 + (i : Nat) + 1) % 2).toNat) (fun j σ G2 => Same G G2 ∧ ∃ (y5 y6 y7 y8 : Option V) (ys : List V) (ts : List T3), σ = [some (.ref dl), some (.ref b), some (.ref W), some (.int (0 + (i : Nat))), some (.ref Y), y5, y6, y7, y8] ∧ G2 Y = some (.lst ys) ∧ DpAll K G2 ys (ts.map b3) ∧ ts.length = j ∧ (∀ t, t ∈ ts → (0 ≤ t.1 ∧ t.1 ≤ ns.length) ∧ (0 ≤ t.2.1 ∧ t.2.1 ≤ ns.length) ∧ -(10 ^ 12) ≤ t.2.2 ∧ t.2.2 ≤ 10 ^ 12) ∧ (i = sel → ∀ t, t ∈ ts → kpt ns t))
        ⟨s2, _, _, _, _, [], [], rfl, upd_same, .nil, rfl, (fun _ h => (List.not_mem_nil h).elim), fun _ _ h => (List.not_mem_nil h).elim⟩ (fun j σ G2 hj hP => ?_) (fun σ G2 hP => ?_)
      · obtain ⟨sG2, y5, y6, y7, y8, ys, ts, rfl, eY, dY, htl, hto, htk⟩ := hP
        have hj2 : j < 2 := by omega
        have hyl : ys.length = ts.length := by rw [dpa_len dY, List.length_map]
        have sH2 := sG.trans sG2
        have sd := sH2.seq hd
        have sb := sH2.seq hb
        obtain ⟨d2, a2⟩ := at_ (2 + 2 * (0 + (i : Nat)) + (0 + (j : Nat))) (2 + 2 * i + j) (by omega) (by omega)
        obtain ⟨d3, a3⟩ := at_ (8 + 2 * (0 + (i : Nat)) + (0 + (j : Nat))) (8 + 2 * i + j) (by omega) (by omega)
        obtain ⟨d4, a4⟩ := at_ (14 + 2 * (0 + (i : Nat)) + (0 + (j : Nat))) (14 + 2 * i + j) (by omega) (by omega)
        refine ⟨_, rfl, _, rfl, _, _, rfl, rfl, .inl ⟨by decide, by decide⟩, _, _, rfl, rfl, _, rfl, _, _, rfl, rfl, dl, _, _, _, rfl, rfl, sd, a2, .inl ⟨_, rfl, _, rfl, b, _, rfl, .inl sb, _, _, rfl, rfl, _, _, rfl, rfl, by rw [List.length_map]; omega, ?_⟩⟩
        rw [List.length_map]
        have u0 : 0 ≤ d2 % ((ns.length : Nat) + 1 : Int) := Int.emod_nonneg _ (by omega)
        have u1 : d2 % ((ns.length : Nat) + 1 : Int) < (ns.length : Nat) + 1 := Int.emod_lt_of_pos _ (by omega)
        refine ⟨_, rfl, _, rfl, _, _, rfl, rfl, .inl ⟨by decide, by decide⟩, _, _, rfl, rfl, _, rfl, _, _, rfl, rfl, dl, _, _, _, rfl, rfl, sd, a3, .inl ⟨_, rfl, _, rfl, b, _, rfl, .inl sb, _, _, rfl, rfl, _, _, rfl, rfl, by rw [List.length_map]; omega, ?_⟩⟩
        rw [List.length_map]
        have v0 : 0 ≤ d3 % ((ns.length : Nat) + 1 : Int) := Int.emod_nonneg _ (by omega)
        have v1 : d3 % ((ns.length : Nat) + 1 : Int) < (ns.length : Nat) + 1 := Int.emod_lt_of_pos _ (by omega)
        refine ⟨_, rfl, _, rfl, _, _, rfl, rfl, .inl ⟨by decide, by decide⟩, _, _, rfl, rfl, _, rfl, _, _, rfl, rfl, dl, _, _, _, rfl, rfl, sd, a4, .inl ⟨_, rfl, _, _, rfl, rfl, (by show (0 : Int) < 7; decide), _, _, rfl, rfl, ?_⟩⟩
        have l0 : 0 ≤ d4 % 7 := Int.emod_nonneg _ (by decide)
        have l1 : d4 % 7 < 7 := Int.emod_lt_of_pos _ (by decide)
        refine ⟨fun σ' G' => G2 = G' ∧ ∃ sl : Int, σ' = [some (.ref dl), some (.ref b), some (.ref W), some (.int (0 + (i : Nat))), some (.ref Y), some (.int (0 + (j : Nat))), some (.int (d2 % ((ns.length : Nat) + 1 : Int))), some (.int (d3 % ((ns.length : Nat) + 1 : Int))), some (.int sl)] ∧ -10 ≤ sl ∧ sl ≤ 10 ∧ (i = sel → 0 ≤ sl), ?_, ?_⟩
        · refine ⟨_, rfl, _, rfl, dl, _, _, _, rfl, rfl, sd, a5, .inl ⟨_, rfl, _, rfl, dl, _, _, _, rfl, rfl, sd, ints_at (j := 0) (by omega), _, _, rfl, rfl, _, _, rfl, rfl, by omega, rfl, _, rfl, ite2 (fun _ => ?_) (fun e => ⟨rfl, _, rfl, by omega, by omega, fun h => absurd (decide_eq_true (congrArg V.int (show (0 : Int) + (i : Nat) = d5 % (1 + ds[0]) by omega))) e⟩)⟩⟩
          exact ⟨_, rfl, _, rfl, rfl, _, rfl, by split <;> omega, by split <;> omega, fun _ => by split <;> omega⟩
        intro σ' G' hN
        obtain ⟨rfl, sl, rfl, sl0, sl1, slk⟩ := hN
        have ub := wo_u hvs u0 (by omega)
        have vb := wo_u hvs v0 (by omega)
        generalize d2 % ((ns.length : Nat) + 1 : Int) = u at u0 u1 ub
        generalize d3 % ((ns.length : Nat) + 1 : Int) = v at v0 v1 vb
        refine ⟨_, rfl, .inl ⟨rfl, _, SqL.of eY⟩, ?_⟩
        refine ⟨_, rfl, _, rfl, _, rfl, by show (2 : Nat) ≤ sizeLine; decide, fun p1 np1 => ?_⟩
        have sp1 := same_new (o := .tup [.int u, .int 0]) np1
        refine ⟨_, rfl, _, b, (u, 0), ns, rfl, .tup (SqT.of upd_same) (.cons (.int _) (.cons (.int _) .nil)), sp1.seq sb, ⟨u0, by show u ≤ _; omega⟩, ?_⟩
        refine ⟨_, rfl, by show (2 : Nat) ≤ sizeLine; decide, fun p2 np2 => ?_⟩
        have sp2 := same_new (o := .tup [.int v, .int 0]) np2
        refine ⟨_, rfl, _, b, (v, 0), ns, rfl, .tup (SqT.of upd_same) (.cons (.int _) (.cons (.int _) .nil)), (sp1.trans sp2).seq sb, ⟨v0, by show v ≤ _; omega⟩, ?_⟩
        refine ⟨_, _, rfl, rfl, _, rfl, _, _, rfl, rfl, by show (3 : Nat) ≤ sizeLine; decide, fun p3 np3 => ?_⟩
        have sp3 := same_new (o := .tup [.int u, .int v, .int (wo ns (u, 0) - wo ns (v, 0) + sl)]) np3
        generalize hg : upd (upd (upd _ p1 _) p2 _) p3 _ = G3
        have s3 := (sp1.trans sp2).trans sp3
        rw [hg] at s3
        have e3 : G3 p3 = some (.tup [.int u, .int v, .int (wo ns (u, 0) - wo ns (v, 0) + sl)]) := hg ▸ upd_same
        have eY3 := s3 _ _ eY
        refine ⟨Y, _, _, rfl, rfl, eY3, by rw [hyl]; exact small_sz (by omega), ?_⟩
        refine ⟨same_mut (sG2.trans s3) nY, _, _, _, _, ys ++ [.ref p3], ts ++ [(u, v, wo ns (u, 0) - wo ns (v, 0) + sl)], rfl, upd_same, ?_, by rw [List.length_append, htl]; rfl, fun t ht => ?_, fun his t ht => ?_⟩
        · rw [List.map_append]
          exact dpa_but eY3 but_upd _ _ (by rw [← List.map_append]; exact noLs_b3 _) (dpa_snoc (dpa_same s3 _ _ dY) (.tup (SqT.of e3) (.cons (.int _) (.cons (.int _) (.cons (.int _) .nil)))))
        · rcases List.mem_append.mp ht with ht | ht
          · exact hto t ht
          · rw [List.mem_singleton.mp ht]
            exact ⟨⟨u0, by show u ≤ _; omega⟩, ⟨v0, by show v ≤ _; omega⟩, by show _ ≤ wo ns (u, 0) - wo ns (v, 0) + sl; omega, by show wo ns (u, 0) - wo ns (v, 0) + sl ≤ _; omega⟩
        · rcases List.mem_append.mp ht with ht | ht
          · exact htk his t ht
          · rw [List.mem_singleton.mp ht]
            have := slk his
            show wo ns (u, 0) - wo ns (v, 0) ≤ wo ns (u, 0) - wo ns (v, 0) + sl
            omega
      · obtain ⟨sG2, y5, y6, y7, y8, ys, ts, rfl, eY, dY, htl, hto, htk⟩ := hP
        have eW2 := sG2 _ _ eW
        refine ⟨_, rfl, .inl ⟨rfl, _, SqL.of eW2⟩, ?_⟩
        refine ⟨_, rfl, Y, _, rfl, .inl ⟨SqL.of eY, fun p1 np1 => ?_⟩⟩
        have sp := same_new (o := .tup ys) np1
        generalize hg : upd G2 p1 _ = G3 at sp
        have e3 : G3 p1 = some (.tup ys) := hg ▸ upd_same
        refine ⟨W, _, _, rfl, rfl, sp _ _ eW2, by rw [hxl]; exact small_sz (by omega), ?_⟩
        refine ⟨same_mut ((sG.trans sG2).trans sp) nW, _, _, _, _, _, _, xs ++ [.ref p1], ws ++ [ts], rfl, upd_same, ?_, by rw [List.length_append, hwl]; rfl, fun x hx => ?_, fun x hx => ?_⟩
        · rw [List.map_append]
          refine dpa_but (sp _ _ eW2) but_upd _ _ ?_ (dpa_snoc (dpa_same (sG2.trans sp) _ _ dW) (.tup (SqT.of e3) (dpa_same sp _ _ dY)))
          rw [← List.map_append]
          exact noLs_ways _
        · rcases List.mem_append.mp hx with hx | hx
          · exact hwo x hx
          · rw [List.mem_singleton.mp hx]
            exact ⟨by omega, hto⟩
        · by_cases hl : sel < ws.length
          · rw [List.getElem?_append_left hl] at hx
            exact hws x hx
          · rw [List.getElem?_append_right (by omega)] at hx
            have h0 : sel - ws.length = 0 := by
              have := (List.getElem?_eq_some_iff.mp hx).1
              rw [List.length_singleton] at this
              omega
            rw [h0] at hx
            cases hx
            exact htk (by omega)
    · obtain ⟨sG, y3, y4, y5, y6, y7, y8, xs, ws, rfl, eW, dW, hwl, hwo, hws⟩ := hP
      refine ⟨_, rfl, W, _, rfl, .inl ⟨SqL.of eW, fun p1 np1 => ?_⟩⟩
      have s2 := same_new (o := .tup xs) np1
      refine ⟨by show 2 ≤ sizeLine; decide, fun p2 np2 => ?_⟩
      have s3 := same_new (o := .tup [.str "either", .ref p1]) np2
      have hsl : sel < ws.length := by omega
      refine q p2 ws _ ((sG.trans s2).trans s3) ?_ ⟨by omega, hwo⟩ ⟨ws[sel], List.getElem_mem hsl, hws _ (List.getElem?_eq_getElem hsl)⟩
      exact .tup (SqT.of upd_same) (.cons (.str _) (.cons (.tup (SqT.of (s3 _ _ upd_same)) (dpa_same (s2.trans s3) _ _ dW)) .nil))
end
end SW

namespace SW
open PySem PySem.Spec PyProof.Rows L2
abbrev s_l_promise : Stmt := topS 46
theorem sc_l_promise : FnScope ["script", "place", "world", "known", "values", "rules", "draws", "k", "many", "number", "other", "low", "lo", "hi", "signs", "found", "sign", "first", "last", "length", "begin", "end", "ends", "promise"] ["script", "place", "world"] (defScope s_l_promise) := ⟨rfl, rfl, rfl, by decide +kernel, rfl, by decide +kernel, by decide +kernel⟩

def Pr.fin (ns : List Int) : Pr → Prop
  | .eit ws => EitB ns ws
  | _ => True
def Pr.lo1 : Pr → Fm
  | .all _ l .. => l
  | .mat _ l .. => l
  | .srt _ l .. => l
  | .bel _ l .. => l
  | .eit _ => (0, 0)
def Pr.ne (l : Fm) (p : Pr) : Prop := (∀ ws, p ≠ .eit ws) ∧ p.lo1 = l
theorem inR_no {ls : List Ld} {ns : List Int} {n : Nat} {l : Fm} {k : Int} (h : inR ls ns n l l k) : False := by
  obtain ⟨_, _, h1, h2⟩ := h
  omega
theorem eit_ok {ns : List Int} {ws : List (List T3)} {n : Nat} (h : EitB ns ws) : (Pr.eit ws).ok n ns := ⟨by have := h.1; omega, fun x hx => ⟨by have := (h.2 x hx).1; omega, fun t ht => ⟨((h.2 x hx).2 t ht).1, ((h.2 x hx).2 t ht).2.1⟩⟩⟩
/-- promises that stand in a list -/
structure PsAt (K : PySem.W.Frag) (H : Hp) (a : Addr) (nl : Nat) (ns : List Int) (l : Fm) (ps : List Pr) : Prop where
  at_ : ∃ xs, H a = some (.lst xs) ∧ DpAll K H xs (ps.map Pr.enc)
  ok : ∀ p, p ∈ ps → p.ok nl ns ∧ p.ne l
theorem PsAt.same {K : PySem.W.Frag} {H H' : Hp} {a : Addr} {nl : Nat} {ns : List Int} {l : Fm} {ps : List Pr} (h : PsAt K H a nl ns l ps) (s : Same H H') : PsAt K H' a nl ns l ps := by
  obtain ⟨xs, h1, h2⟩ := h.at_
  exact ⟨⟨xs, s _ _ h1, dpa_same s _ _ h2⟩, h.ok⟩
section
variable {P : Program} {w : World} {K : PySem.W.Frag} {mg : PySem.Str → Option Value} {base : Heap} {C : Addr}
def spPromise (K : PySem.W.Frag) : Sp := fun vs H Q _ => ∃ (a : Wa) (sc : Addr) (pl m : Int) (ss : List Int) (ls : List Ld) (ns : List Int), vs = [.ref sc, .int pl, .ref a.wt] ∧ SqL K H sc (ss.map V.int) ∧ 0 ≤ pl ∧ pl ≤ 60 ∧ Wd K H a m ls ns ∧ LsOk ns.length ls ∧ LsB ns ls ∧ 0 < ls.length ∧ ls.length ≤ 10 ∧ ns.length ≤ 1000 ∧ VsB ns ∧
  ∀ (v : V) (p : Pr) (H' : Hp), Same H H' → Dp K H' v p.enc → p.ok ls.length ns → p.fin ns → PrT ls a.rf ns p → Q v H'
theorem ok_l_promise (T : TxB mg) (D_l_promise : Df K mg "_law_promise" s_l_promise ["script", "place", "world"]) (D_l_draws : Df K mg "_law_draws" s_l_draws ["script", "place", "sizes"]) (D_l_loose : Df K mg "_law_loose" s_l_loose ["draws", "values"]) (D_l_form_for : Df K mg "_law_form_for" s_l_form_for ["draw", "values", "target"]) (D_l_of : Df K mg "_law_of" s_l_of ["form", "values"]) (D_l_length : Df K mg "_law_length" s_l_length ["lists", "number"]) (D_l_true : Df K mg "_law_true" s_l_true ["world", "promise"]) (G_l_draws : FnOk P w K mg base CX0 2 D_l_draws.f D_l_draws.fd ["script", "place", "sizes"] (spDr K)) (G_l_loose : FnOk P w K mg base CX0 2 D_l_loose.f D_l_loose.fd ["draws", "values"] (spLoose K)) (G_l_form_for : FnOk P w K mg base CX0 1 D_l_form_for.f D_l_form_for.fd ["draw", "values", "target"] (spFormFor K)) (G_l_of : FnOk P w K mg base CX0 1 D_l_of.f D_l_of.fd ["form", "values"] (spLOf K)) (G_l_length : FnOk P w K mg base CX0 1 D_l_length.f D_l_length.fd ["lists", "number"] (spLLength K)) (G_l_true : FnOk P w K mg base CX0 3 D_l_true.f D_l_true.fd ["world", "promise"] (spTrue K)) : FnOk P w K mg base CX0 4 D_l_promise.f D_l_promise.fd ["script", "place", "world"] (spPromise K) := by
  refine D_l_promise.F.ok sc_l_promise (fun vs H Q E h => ?_) (fun cdv A outer s H vs Q E hr h => ?_)
  · obtain ⟨a, sc, pl, m, ss, ls, ns, rfl, _⟩ := h
    rfl
  · obtain ⟨a, sc, pl, m, ss, ls, ns, rfl, hS, hp0, hp1, wd, lok, lsb, hl0, hl1, hnl, hvs, q⟩ := h
    refine ⟨_, (pss_cons (ps_asg (pv 2) (pg_tup (by rfl) (pgs_cons (pg_name (i := 3) sc_l_promise.nd rfl (.inl rfl)) (pgs_cons (pg_name (i := 4) sc_l_promise.nd rfl (.inr rfl)) (pgs_cons (pg_name (i := 5) sc_l_promise.nd rfl (.inl rfl)) pgs_nil)))))
    (pss_cons (ps_set (i := 6) sc_l_promise.nd rfl (.inr rfl) (pe_call G_l_draws (hr.mono (by decide)) (by rfl) D_l_draws.g D_l_draws.F.kp D_l_draws.b .nil pass0 (pa_cons (pv 0) (pa_cons (pv 1) (pa_cons (pe_lst (pa_cons pe_int (pa_cons pe_int (pa_cons pe_int (pa_cons pe_int (pa_cons pe_int (pa_cons pe_int (pa_cons pe_int (pa_cons pe_int (pa_cons pe_int (pa_cons pe_int (pa_cons pe_int (pa_cons pe_int (pa_cons pe_int (pa_cons pe_int pa_nil))))))))))))))) pa_nil)))))
    (Evl.pss_cut (ps_if (pt_cmpR op_eq (pe_ix ix_list (pv 6) pe_int (fun _ _ => rfl)) pe_int (nomark _))
    (pss_one (ps_ret (pe_call G_l_loose (hr.mono (by decide)) (by rfl) D_l_loose.g D_l_loose.F.kp D_l_loose.b .nil pass0 (pa_cons (pe_call G_l_draws (hr.mono (by decide)) (by rfl) D_l_draws.g D_l_draws.F.kp D_l_draws.b .nil pass0 (pa_cons (pv 0) (pa_cons (pe_op op_add (pv 1) pe_int) (pa_cons (pe_op op_cat (pe_lst (pa_cons pe_int pa_nil)) (pe_lc (own := [("k", 7)]) (g := gName 7) (by rfl) sc_l_promise.nd (pi_range1 (by rfl) T.n_range (pa_cons pe_int pa_nil)) (blkOk_by (own := [("k", 7)]) (N := ["script", "place", "world", "known", "values", "rules", "draws", "k", "many", "number", "other", "low", "lo", "hi", "signs", "found", "sign", "first", "last", "length", "begin", "end", "ends", "promise"]) (sc := defScope s_l_promise) (by decide +kernel)) (fun _ _ _ _ _ => pg_name (i := 7) sc_l_promise.nd rfl (Or.inl rfl)) (fun _ _ _ _ _ => pts_nil) (fun _ _ _ _ _ => pe_int))) pa_nil)))) (pa_cons (pv 4) pa_nil)))))
    pss_nil)
    (pss_cons (ps_set (i := 8) sc_l_promise.nd rfl (.inl rfl) (pe_callB call_len_seq (by rfl) T.n_len PySem.boot_len (pa_cons (pe_ix ix_list (pv 3) pe_int (fun _ _ => rfl)) pa_nil)))
    (pss_cons (ps_set (i := 9) sc_l_promise.nd rfl (.inr rfl) (pe_op op_mod (pe_callTy call_int1 (by rfl) T.n_int (by decide +kernel) (pa_cons (pe_ix ix_list (pv 6) pe_int (fun _ _ => rfl)) pa_nil)) (pv 8)))
    (pss_cons (ps_set (i := 10) sc_l_promise.nd rfl (.inr rfl) (pe_op op_mod (pe_callTy call_int1 (by rfl) T.n_int (by decide +kernel) (pa_cons (pe_ix ix_list (pv 6) pe_int (fun _ _ => rfl)) pa_nil)) (pv 8)))
    (pss_cons (ps_set (i := 11) sc_l_promise.nd rfl (.inl rfl) (pe_op op_sub (pe_ix ix_list (pv 6) pe_int (fun _ _ => rfl)) pe_int))
    (pss_cons (ps_set (i := 12) sc_l_promise.nd rfl (.inr rfl) (pe_call G_l_form_for (hr.mono (by decide)) (by rfl) D_l_form_for.g D_l_form_for.F.kp D_l_form_for.b .nil pass0 (pa_cons (pe_ix ix_list (pv 6) pe_int (fun _ _ => rfl)) (pa_cons (pv 4) (pa_cons (pv 11) pa_nil)))))
    (pss_cons (ps_set (i := 13) sc_l_promise.nd rfl (.inr rfl) (pe_call G_l_form_for (hr.mono (by decide)) (by rfl) D_l_form_for.g D_l_form_for.F.kp D_l_form_for.b .nil pass0 (pa_cons (pe_ix ix_list (pv 6) pe_int (fun _ _ => rfl)) (pa_cons (pv 4) (pa_cons (pe_op op_add (pv 11) (pe_ix ix_list (pv 6) pe_int (fun _ _ => rfl))) pa_nil)))))
    (pss_cons (ps_set (i := 14) sc_l_promise.nd rfl (.inl rfl) (pe_lst (pa_strs (.cons _ _ _ (.cons _ _ _ (.cons _ _ _ (.cons _ _ _ (.cons _ _ _ (.cons _ _ _ .nil)))))))))
    (pss_cons (ps_set (i := 14) sc_l_promise.nd rfl (.inl rfl) (pe_op op_cat (pe_slice sl_list (pv 14) (po_some (pe_ix ix_list (pv 6) pe_int (fun _ _ => rfl))) po_none) (pe_slice sl_list (pv 14) po_none (po_some (pe_ix ix_list (pv 6) pe_int (fun _ _ => rfl))))))
    (pss_cons (ps_set (i := 15) sc_l_promise.nd rfl (.inl rfl) (pe_lst pa_nil))
    (Evl.pss_cut (ps_if (pt_cmpR op_eq (pe_ix ix_list (pv 6) pe_int (fun _ _ => rfl)) pe_int (nomark _))
    (pss_one (ps_setLc (i := 15) (own := [("sign", 16)]) (g := gName 16) (by rfl) sc_l_promise.nd rfl rfl (sw_true rfl rfl rfl (by decide +kernel)) (pi_list (pv 14)) (blkOk_by (own := [("sign", 16)]) (N := ["script", "place", "world", "known", "values", "rules", "draws", "k", "many", "number", "other", "low", "lo", "hi", "signs", "found", "sign", "first", "last", "length", "begin", "end", "ends", "promise"]) (sc := defScope s_l_promise) (by decide +kernel)) (fun _ _ _ _ _ => pg_name (i := 16) sc_l_promise.nd rfl (Or.inl rfl)) (fun _ _ _ _ _ => pts_nil) (fun _ _ _ _ _ => (pe_tup (pa_cons pe_str (pa_cons (pv 9) (pa_cons (pv 12) (pa_cons (pv 13) (pa_cons (pv 16) (pa_cons (pe_call G_l_form_for (hr.mono (by decide)) (by rfl) D_l_form_for.g D_l_form_for.F.kp D_l_form_for.b .nil pass0 (pa_cons (pe_ix (show IxR _ (rIxL K) from ix_list) (pv 6) pe_int (fun _ _ => rfl)) (pa_cons (pv 4) (pa_cons (pe_op op_sub (pe_ix (show IxR _ (rIxL K) from ix_list) (pv 6) pe_int (fun _ _ => rfl)) pe_int) pa_nil)))) pa_nil))))))))))
    pss_nil)
    (Evl.pss_cut (ps_if (pt_cmpR op_eq (pe_ix ix_list (pv 6) pe_int (fun _ _ => rfl)) pe_int (nomark _))
    (pss_one (ps_setLc (i := 15) (own := [("sign", 16)]) (g := gName 16) (by rfl) sc_l_promise.nd rfl rfl (sw_true rfl rfl rfl (by decide +kernel)) (pi_list (pv 14)) (blkOk_by (own := [("sign", 16)]) (N := ["script", "place", "world", "known", "values", "rules", "draws", "k", "many", "number", "other", "low", "lo", "hi", "signs", "found", "sign", "first", "last", "length", "begin", "end", "ends", "promise"]) (sc := defScope s_l_promise) (by decide +kernel)) (fun _ _ _ _ _ => pg_name (i := 16) sc_l_promise.nd rfl (Or.inl rfl)) (fun _ _ _ _ _ => pts_nil) (fun _ _ _ _ _ => (pe_tup (pa_cons pe_str (pa_cons (pv 9) (pa_cons (pv 12) (pa_cons (pv 13) (pa_cons (pv 16) (pa_cons (pv 10) (pa_cons (pe_op op_sub (pe_ix (show IxR _ (rIxL K) from ix_list) (pv 6) pe_int (fun _ _ => rfl)) pe_int) pa_nil)))))))))))
    pss_nil)
    (Evl.pss_cut (ps_if (pt_cmpR op_eq (pe_ix ix_list (pv 6) pe_int (fun _ _ => rfl)) pe_int (nomark _))
    (pss_one (ps_set (i := 15) sc_l_promise.nd rfl (.inl rfl) (pe_lst (pa_cons (pe_tup (pa_cons pe_str (pa_cons (pv 9) (pa_cons (pv 12) (pa_cons (pv 13) pa_nil))))) pa_nil))))
    pss_nil)
    (Evl.pss_cut (ps_if (pt_cmpR op_eq (pe_ix ix_list (pv 6) pe_int (fun _ _ => rfl)) pe_int (nomark _))
    (pss_cons (ps_set (i := 17) sc_l_promise.nd rfl (.inl rfl) (pe_call G_l_form_for (hr.mono (by decide)) (by rfl) D_l_form_for.g D_l_form_for.F.kp D_l_form_for.b .nil pass0 (pa_cons (pe_ix ix_list (pv 6) pe_int (fun _ _ => rfl)) (pa_cons (pv 4) (pa_cons (pe_op op_sub (pe_ix ix_list (pv 6) pe_int (fun _ _ => rfl)) pe_int) pa_nil)))))
    (pss_cons (ps_set (i := 18) sc_l_promise.nd rfl (.inl rfl) (pe_call G_l_form_for (hr.mono (by decide)) (by rfl) D_l_form_for.g D_l_form_for.F.kp D_l_form_for.b .nil pass0 (pa_cons (pe_ix ix_list (pv 6) pe_int (fun _ _ => rfl)) (pa_cons (pv 4) (pa_cons (pe_op op_sub (pe_op op_add (pe_ix ix_list (pv 6) pe_int (fun _ _ => rfl)) (pe_ix ix_list (pv 6) pe_int (fun _ _ => rfl))) pe_int) pa_nil)))))
    (pss_cons (ps_set (i := 19) sc_l_promise.nd rfl (.inl rfl) (pe_call G_l_of (hr.mono (by decide)) (by rfl) D_l_of.g D_l_of.F.kp D_l_of.b .nil pass0 (pa_cons (pe_call G_l_length (hr.mono (by decide)) (by rfl) D_l_length.g D_l_length.F.kp D_l_length.b .nil pass0 (pa_cons (pe_ix ix_list (pv 3) pe_int (fun _ _ => rfl)) (pa_cons (pv 10) pa_nil))) (pa_cons (pv 4) pa_nil))))
    (pss_cons (ps_set (i := 15) sc_l_promise.nd rfl (.inl rfl) (pe_lst (pa_cons (pe_tup (pa_cons pe_str (pa_cons (pv 9) (pa_cons (pv 12) (pa_cons (pv 13) (pa_cons (pv 10) (pa_cons (pv 17) (pa_cons (pv 18) pa_nil)))))))) pa_nil)))
    (pss_cons (ps_for PassesOwn.never rfl (pi_list (pe_lst (pa_cons (pe_tup (pa_cons (pe_un un_neg pe_int) (pa_cons pe_int pa_nil))) (pa_cons (pe_tup (pa_cons (pv 19) (pa_cons (pe_op op_add (pv 19) pe_int) pa_nil))) (pa_cons (pe_tup (pa_cons (pe_un un_neg pe_int) (pa_cons pe_int pa_nil))) (pa_cons (pe_tup (pa_cons (pe_op op_sub (pv 19) pe_int) (pa_cons (pe_op op_add (pv 19) pe_int) pa_nil))) pa_nil)))))) (pg_tup (by rfl) (pgs_cons (pg_name (i := 20) sc_l_promise.nd rfl (.inl rfl)) (pgs_cons (pg_name (i := 21) sc_l_promise.nd rfl (.inl rfl)) pgs_nil)))
    (pss_cons (ps_set (i := 22) sc_l_promise.nd rfl (.inl rfl) (pe_tup (pa_cons (pe_call G_l_form_for (hr.mono (by decide)) (by rfl) D_l_form_for.g D_l_form_for.F.kp D_l_form_for.b .nil pass0 (pa_cons (pe_ix ix_list (pv 6) pe_int (fun _ _ => rfl)) (pa_cons (pv 4) (pa_cons (pv 20) pa_nil)))) (pa_cons (pe_call G_l_form_for (hr.mono (by decide)) (by rfl) D_l_form_for.g D_l_form_for.F.kp D_l_form_for.b .nil pass0 (pa_cons (pe_ix ix_list (pv 6) pe_int (fun _ _ => rfl)) (pa_cons (pv 4) (pa_cons (pv 21) pa_nil)))) pa_nil))))
    (pss_one (ps_expr (pe_bm PySem.F.plainAttrs_list PySem.F.slot_list_append PySem.F.type_list_append mt_append (pv 15) (pa_cons (pe_op op_catT (pe_tup (pa_cons pe_str (pa_cons (pv 9) (pa_cons (pv 12) (pa_cons (pv 13) (pa_cons (pv 10) pa_nil)))))) (pv 22)) pa_nil))))))
    (pss_one (ps_set (i := 15) sc_l_promise.nd rfl (.inl rfl) (pe_op op_cat (pe_slice sl_list (pv 15) (po_some (pe_ix ix_list (pv 6) pe_int (fun _ _ => rfl))) po_none) (pe_slice sl_list (pv 15) po_none (po_some (pe_ix ix_list (pv 6) pe_int (fun _ _ => rfl))))))))))))
    pss_nil)
    (pss_cons (ps_for PassesOwn.never rfl (pi_list (pv 15)) (pg_name (i := 23) sc_l_promise.nd rfl (.inl rfl))
    (pss_one (ps_if (pt_val (pe_call G_l_true (hr.mono (by decide)) (by rfl) D_l_true.g D_l_true.F.kp D_l_true.b .nil pass0 (pa_cons (pv 2) (pa_cons (pv 23) pa_nil))))
    (pss_one (ps_ret (pv 23)))
    pss_nil)))
    (pss_one (ps_ret (pe_op op_catT (pe_op op_catT (pe_slice sl_tup (pe_ix ix_list (pv 15) pe_int (fun _ _ => rfl)) po_none (po_some pe_int)) (pe_tup (pa_cons (pv 12) pa_nil))) (pe_slice sl_tup (pe_ix ix_list (pv 15) pe_int (fun _ _ => rfl)) (po_some pe_int) po_none))))))))))))))))))))), ?_⟩
    refine ⟨_, rfl, a.wt, _, rfl, wd.w, rfl, _, _, rfl, _, _, rfl, _, _, rfl, rfl, ?_⟩
    refine ⟨_, rfl, _, rfl, by show 14 ≤ sizeLine; decide, fun Z nZ => ?_⟩
    generalize hG : upd H Z _ = H1
    obtain ⟨s1, e1⟩ := new_of nZ hG
    refine ⟨sc, Z, ss, [5, 40, 40, 40, 40, 40, 9, 9, 9, 9, 6, 10, 40, 3], pl, rfl, s1.seq hS, hp0, by omega, SqL.of e1, by decide, by decide, fun D dr H2 hdl hb s2 nD eD => ?_⟩
    have hdl : dr.length = 14 := hdl
    have sA := s1.trans s2
    have bnd : ∀ (j : Nat) (n : Int), ([5, 40, 40, 40, 40, 40, 9, 9, 9, 9, 6, 10, 40, 3] : List Int)[j]? = some n → ∃ d : Int, dr[j]? = some d ∧ 0 ≤ d ∧ d < n := fun j n h => by
      have hj : j < dr.length := by
        have := (List.getElem?_eq_some_iff.mp h).1
        rw [hdl]
        exact this
      exact ⟨_, List.getElem?_eq_getElem hj, hb j _ n (List.getElem?_eq_getElem hj) h⟩
    obtain ⟨d0, g0, l0, u0⟩ := bnd 0 5 rfl
    obtain ⟨d1, g1, l1, u1⟩ := bnd 1 40 rfl
    obtain ⟨d2, g2, l2, u2⟩ := bnd 2 40 rfl
    obtain ⟨d3, g3, l3, u3⟩ := bnd 3 40 rfl
    obtain ⟨d4, g4, l4, u4⟩ := bnd 4 40 rfl
    obtain ⟨d5, g5, l5, u5⟩ := bnd 5 40 rfl
    obtain ⟨d6, g6, l6, u6⟩ := bnd 6 9 rfl
    obtain ⟨d7, g7, l7, u7⟩ := bnd 7 9 rfl
    obtain ⟨d8, g8, l8, u8⟩ := bnd 8 9 rfl
    obtain ⟨d9, g9, l9, u9⟩ := bnd 9 9 rfl
    obtain ⟨d10, g10, l10, u10⟩ := bnd 10 6 rfl
    obtain ⟨d11, g11, l11, u11⟩ := bnd 11 10 rfl
    obtain ⟨d12, g12, l12, u12⟩ := bnd 12 40 rfl
    obtain ⟨d13, g13, l13, u13⟩ := bnd 13 3 rfl
    have at_ : ∀ {j : Nat} {d : Int}, dr[j]? = some d → atI (dr.map V.int) (j : Nat) = some (.int d) := fun h => atI_nat (ints_get h)
    -- either
    refine ⟨fun σ' G' => H2 = G' ∧ d0 ≠ 0 ∧ σ' = [some (.ref sc), some (.int pl), some (.ref a.wt), some (.ref a.kp), some (.ref a.b), some (.ref a.ru), some (.ref D), none, none, none, none, none, none, none, none, none, none, none, none, none, none, none, none, none], ?_, ?_⟩
    · refine ⟨_, rfl, D, _, _, _, rfl, rfl, SqL.of eD, at_ (j := 0) g0, rfl, _, rfl, ite2 (fun e => ?_) (fun e => ⟨rfl, fun h => e (decide_eq_true (by rw [h])), rfl⟩)⟩
      refine ⟨_, rfl, _, rfl, _, _, rfl, rfl, by show 1 ≤ sizeLine; decide, fun p1 np1 => ?_⟩
      generalize hG : upd H2 p1 _ = H3
      obtain ⟨s3, e3⟩ := new_of np1 hG
      refine ⟨20, rfl, by decide, by decide, fun Z2 nZ2 => ?_⟩
      refine lc_vals (walk_range (lo := 0) (n := 20)) nZ2 (fun _ => .int 1000) (by decide) (fun _ _ => trivial) (fun i x H4 H4' Q' hi s4 y q' => ?_) (fun H4 s4 e4 => ?_)
      · obtain ⟨rfl, rfl⟩ := y
        exact ⟨rfl, q' _ (Same.refl _)⟩
      refine ⟨p1, Z2, _, _, rfl, rfl, s4 _ _ e3, e4, by decide, fun z nz => ?_⟩
      generalize hss : ([3] ++ (List.range 20).map fun _ => (1000 : Int)) = s2s
      have hsl : s2s.length = 21 := by rw [← hss]; rfl
      generalize hg : upd H4 z _ = H5
      obtain ⟨s5, e5⟩ := new_of nz hg
      have e5 : H5 z = some (.lst (s2s.map V.int)) := by
        rw [e5, ← hss, List.map_append, List.map_map]
        rfl
      have sB := ((sA.trans s3).trans s4).trans s5
      refine ⟨sc, z, ss, s2s, pl + 40, rfl, sB.seq hS, by omega, by omega, SqL.of e5, by omega, fun x hx => ?_, fun D2 dr2 H6 hdl2 hb2 s6 nD2 eD2 => ?_⟩
      · rw [← hss] at hx
        rcases List.mem_append.mp hx with hx | hx
        · rw [List.mem_singleton.mp hx]
          exact ⟨by decide, by decide⟩
        · obtain ⟨_, _, rfl⟩ := List.mem_map.mp hx
          exact ⟨by decide, by decide⟩
      have sC := sB.trans s6
      refine ⟨_, rfl, D2, a.b, dr2, ns, rfl, SqL.of eD2, by omega, fun d hd => hb2 0 d 3 hd (by rw [← hss]; rfl), sC.seq wd.b, hnl, hvs, fun t ws H7 s7 dt hw hwt => ?_⟩
      exact q _ (.eit ws) H7 (sC.trans s7) dt (eit_ok hw) hw hwt
    intro σ' G' hN
    obtain ⟨rfl, hd0, rfl⟩ := hN
    obtain ⟨xl, x1, x2⟩ := wd.l
    have hxl : xl.length = ls.length := by rw [dpa_len x2, List.length_map]
    have wdA := wd.same sA
    refine ⟨_, rfl, a.kp, _, _, _, rfl, rfl, SqL.of wdA.k, atI_nat (j := 2) rfl, a.al, _, rfl, .inl (SqL.of (sA _ _ x1)), ?_⟩
    rw [hxl]
    have md : ∀ d : Int, ∃ n : Nat, d % ((ls.length : Nat) : Int) = (n : Nat) ∧ n < ls.length := fun d => by
      have h0 : 0 ≤ d % ((ls.length : Nat) : Int) := Int.emod_nonneg _ (by omega)
      have h1 : d % ((ls.length : Nat) : Int) < ((ls.length : Nat) : Int) := Int.emod_lt_of_pos _ (by omega)
      exact ⟨(d % ((ls.length : Nat) : Int)).toNat, by omega, by omega⟩
    obtain ⟨num, en, hn⟩ := md d1
    obtain ⟨oth, eo, ho⟩ := md d2
    refine ⟨_, rfl, D, _, _, _, rfl, rfl, SqL.of eD, at_ (j := 1) g1, .inl ⟨_, rfl, _, rfl, _, _, rfl, rfl, by omega, ?_⟩⟩
    dsimp -proj only
    rw [en]
    refine ⟨_, rfl, D, _, _, _, rfl, rfl, SqL.of eD, at_ (j := 2) g2, .inl ⟨_, rfl, _, rfl, _, _, rfl, rfl, by omega, ?_⟩⟩
    dsimp -proj only
    rw [eo]
    refine ⟨_, rfl, D, _, _, _, rfl, rfl, SqL.of eD, at_ (j := 6) g6, _, _, rfl, rfl, ?_⟩
    refine ⟨_, rfl, D, _, _, _, rfl, rfl, SqL.of eD, at_ (j := 3) g3, _, rfl, _, rfl, a.b, d3, d6 - 2, ns, rfl, wdA.b, hnl, fun lo flo H3 s3 elo olo wlo => ?_⟩
    refine ⟨_, rfl, D, _, _, _, rfl, rfl, SqL.of (s3 _ _ eD), at_ (j := 4) g4, _, rfl, _, rfl, _, rfl, D, _, _, _, rfl, rfl, SqL.of (s3 _ _ eD), at_ (j := 7) g7, _, _, rfl, rfl, a.b, d4, d6 - 2 + d7, ns, rfl, s3.seq wdA.b, hnl, fun hi fhi H4 s4 ehi ohi whi => ?_⟩
    refine ⟨by show 6 ≤ sizeLine; decide, fun S1 nS1 => ?_⟩
    generalize hG : upd H4 S1 _ = H5
    obtain ⟨s5, e5⟩ := new_of nS1 hG
    have eD5 := (s3.trans (s4.trans s5)) _ _ eD
    refine ⟨_, rfl, _, rfl, D, _, _, _, rfl, rfl, SqL.of eD5, at_ (j := 10) g10, _, rfl, S1, _, rfl, SqL.of e5, fun S2 nS2 => ?_⟩
    generalize hG : upd H5 S2 _ = H6
    obtain ⟨s6, e6⟩ := new_of nS2 hG
    refine ⟨_, rfl, _, rfl, D, _, _, _, rfl, rfl, SqL.of (s6 _ _ eD5), at_ (j := 10) g10, _, rfl, S1, _, rfl, SqL.of (s6 _ _ e5), fun S3 nS3 => ?_⟩
    generalize hG : upd H6 S3 _ = H7
    obtain ⟨s7, e7⟩ := new_of nS3 hG
    obtain ⟨j10, rfl⟩ : ∃ j : Nat, d10 = j := ⟨d10.toNat, by omega⟩
    refine ⟨S2, S3, _, _, rfl, rfl, s7 _ _ e6, e7, ?_, fun S4 nS4 => ?_⟩
    · rw [cutv_from, cutv_first, List.length_drop, List.length_take]
      exact Nat.le_of_lt (small_sz (by show 6 - j10 + min j10 6 ≤ 1000; omega))
    generalize hG : upd H7 S4 _ = H8
    obtain ⟨s8, e8⟩ := new_of nS4 hG
    have e8 : H8 S4 = some (.lst ((sgs.drop j10 ++ sgs.take j10).map V.str)) := by
      rw [e8, cutv_from, cutv_first, List.map_append, List.map_drop, List.map_take]
      rfl
    have hsg : ∀ g, g ∈ sgs.drop j10 ++ sgs.take j10 → g ∈ sgs := fun g hg => by
      rcases List.mem_append.mp hg with hg | hg
      · exact List.mem_of_mem_drop hg
      · exact List.mem_of_mem_take hg
    have hsl : (sgs.drop j10 ++ sgs.take j10).length = 6 := by
      rw [List.length_append, List.length_drop, List.length_take]
      have : sgs.length = 6 := rfl
      omega
    generalize sgs.drop j10 ++ sgs.take j10 = sgl at e8 hsg hsl
    refine ⟨Nat.zero_le _, fun F0 nF0 => ?_⟩
    generalize hG : upd H8 F0 _ = H9
    obtain ⟨s9, e9⟩ := new_of nF0 hG
    have s49 : Same H4 H9 := ((s5.trans (s6.trans s7)).trans s8).trans s9
    have sH9 : Same H H9 := (sA.trans (s3.trans s4)).trans s49
    have eD9 : H9 D = some (.lst (dr.map V.int)) := s49 _ _ (s4 _ _ (s3 _ _ eD))
    have dlo : Dp K H9 (.ref lo) (f2 flo) := .tup (SqT.of (s49 _ _ (s4 _ _ elo))) (.cons (.int _) (.cons (.int _) .nil))
    have dhi : Dp K H9 (.ref hi) (f2 fhi) := .tup (SqT.of (s49 _ _ ehi)) (.cons (.int _) (.cons (.int _) .nil))
    have eS9 := s9 _ _ e8
    have wd9 := wd.same sH9
    have wlo : Wb ns flo := by unfold Wb; omega
    have whi' : Wb ns fhi := by unfold Wb; omega
    let M : Int → L2.St → Hp → Prop := fun k σ' G' => Same H9 G' ∧ ∃ (F : Addr) (ps : List Pr) (y17 y18 y19 y20 y21 y22 : Option V), σ' = [some (.ref sc), some (.int pl), some (.ref a.wt), some (.ref a.kp), some (.ref a.b), some (.ref a.ru), some (.ref D), none, some (.int (ls.length : Nat)), some (.int (num : Nat)), some (.int (oth : Nat)), some (.int (d6 - 2)), some (.ref lo), some (.ref hi), some (.ref S4), some (.ref F), none, y17, y18, y19, y20, y21, y22, none] ∧ PsAt K G' F ls.length ns flo ps ∧ (d0 ≤ k → 0 < ps.length) ∧ ps.length ≤ 10
    have m0 : M 0 [some (.ref sc), some (.int pl), some (.ref a.wt), some (.ref a.kp), some (.ref a.b), some (.ref a.ru), some (.ref D), none, some (.int (ls.length : Nat)), some (.int (num : Nat)), some (.int (oth : Nat)), some (.int (d6 - 2)), some (.ref lo), some (.ref hi), some (.ref S4), some (.ref F0), none, none, none, none, none, none, none, none] H9 := ⟨Same.refl _, F0, [], _, _, _, _, _, _, rfl, ⟨⟨[], e9, .nil⟩, fun _ h => (List.not_mem_nil h).elim⟩, fun h => by omega, Nat.zero_le _⟩
    -- a list of promises over the signs
    have up : ∀ {k : Int} {σ' : L2.St} {G' : Hp}, M k σ' G' → ¬ d0 = k + 1 → M (k + 1) σ' G' := fun {k σ' G'} h hne => by
      obtain ⟨h1, F, ps, y17, y18, y19, y20, y21, y22, h2, h3, h4, h5⟩ := h
      exact ⟨h1, F, ps, y17, y18, y19, y20, y21, y22, h2, h3, fun h => h4 (by omega), h5⟩
    -- all
    refine ⟨M 1, ?_, fun σ' G' hM => ?_⟩
    · refine ⟨_, rfl, D, _, _, _, rfl, rfl, SqL.of eD9, at_ (j := 0) g0, rfl, _, rfl, ite2 (fun e => ?_) (fun e => up m0 fun h => e (decide_eq_true (by rw [h]; rfl)))⟩
      refine ⟨_, rfl, S4, rfl, ⟨_, SqL.of eS9⟩, fun L nL => ?_⟩
      refine lc_list (K := K) (a := S4) (xs := sgl.map V.str) (fun i G => Same H9 G ∧ ∃ (xs : List V) (ps : List Pr), G L = some (.lst xs) ∧ DpAll K G xs (ps.map Pr.enc) ∧ ps.length = i ∧ ∀ p, p ∈ ps → p.ok ls.length ns ∧ p.ne flo) ⟨same_new nL, [], [], upd_same, .nil, rfl, fun _ h => (List.not_mem_nil h).elim⟩ (fun i G _ hP => SqL.of (hP.1 _ _ eS9)) (fun i x G hx hP => ?_) (fun G hP => ?_)
      · obtain ⟨sG, xs, ps, eL, dL, hpl, hpo⟩ := hP
        rw [List.getElem?_map] at hx
        obtain ⟨g, hg, rfl⟩ := Option.map_eq_some_iff.mp hx
        have hgs := hsg g (List.mem_of_getElem? hg)
        have hi6 : i < 6 := by
          have := (List.getElem?_eq_some_iff.mp hg).1
          omega
        have hxl' : xs.length = ps.length := by rw [dpa_len dL, List.length_map]
        refine ⟨rfl, _, rfl, _, rfl, _, rfl, _, rfl, _, rfl, D, _, _, _, rfl, rfl, SqL.of (sG _ _ eD9), at_ (j := 5) g5, _, rfl, _, rfl, D, _, _, _, rfl, rfl, SqL.of (sG _ _ eD9), at_ (j := 11) g11, _, _, rfl, rfl, a.b, d5, d11 - 4, ns, rfl, sG.seq wd9.b, hnl, fun t f G1 g1' et fo fw => ?_⟩
        refine ⟨by show 6 ≤ sizeLine; decide, fun p1 np1 => ?_⟩
        generalize hG : upd G1 p1 _ = G2
        obtain ⟨g2', ep⟩ := new_of np1 hG
        have s2' := g1'.trans g2'
        have pe : Dp K G2 (.ref p1) (Pr.all num flo fhi g f).enc := .tup (SqT.of ep) (.cons (.str _) (.cons (.int _) (.cons (dlo.same (sG.trans s2')) (.cons (dhi.same (sG.trans s2')) (.cons (.str _) (.cons (.tup (SqT.of (g2' _ _ et)) (.cons (.int _) (.cons (.int _) .nil))) .nil))))))
        refine ⟨xs, s2' _ _ eL, by rw [hxl']; exact small_sz (by omega), same_mut (sG.trans s2') nL, xs ++ [.ref p1], ps ++ [.all num flo fhi g f], upd_same, ?_, by rw [List.length_append, hpl]; rfl, fun p hp => ?_⟩
        · rw [List.map_append]
          exact dpa_but (s2' _ _ eL) but_upd _ _ (by rw [← List.map_append]; exact noLs_pr _) (dpa_snoc (dpa_same s2' _ _ dL) pe)
        · rcases List.mem_append.mp hp with hp | hp
          · exact hpo p hp
          · rw [List.mem_singleton.mp hp]
            exact ⟨⟨hn, ⟨olo, wlo⟩, ⟨ohi, whi'⟩, hgs, fo, by unfold Wb; omega⟩, (fun ws h => nomatch h), rfl⟩
      · obtain ⟨sG, xs, ps, eL, dL, hpl, hpo⟩ := hP
        rw [List.length_map, hsl] at hpl
        exact ⟨sG, L, ps, _, _, _, _, _, _, rfl, ⟨⟨xs, eL, dL⟩, hpo⟩, fun _ => by omega, by omega⟩
    clear m0
    -- match
    refine ⟨M 2, ?_, fun σ' G' hM2 => ?_⟩
    · have hM' := hM
      obtain ⟨h1, F, ps, y17, y18, y19, y20, y21, y22, rfl, h3, h4, h5⟩ := hM
      refine ⟨_, rfl, D, _, _, _, rfl, rfl, SqL.of (h1 _ _ eD9), at_ (j := 0) g0, rfl, _, rfl, ite2 (fun e => ?_) (fun e => up hM' fun h => e (decide_eq_true (by rw [h]; rfl)))⟩
      refine ⟨_, rfl, S4, rfl, ⟨_, SqL.of (h1 _ _ eS9)⟩, fun L nL => ?_⟩
      refine lc_list (K := K) (a := S4) (xs := sgl.map V.str) (fun i G => Same G' G ∧ ∃ (xs : List V) (ps : List Pr), G L = some (.lst xs) ∧ DpAll K G xs (ps.map Pr.enc) ∧ ps.length = i ∧ ∀ p, p ∈ ps → p.ok ls.length ns ∧ p.ne flo) ⟨same_new nL, [], [], upd_same, .nil, rfl, fun _ h => (List.not_mem_nil h).elim⟩ (fun i G _ hP => SqL.of (hP.1 _ _ (h1 _ _ eS9))) (fun i x G hx hP => ?_) (fun G hP => ?_)
      · obtain ⟨sG, xs, ps, eL, dL, hpl, hpo⟩ := hP
        rw [List.getElem?_map] at hx
        obtain ⟨g, hg, rfl⟩ := Option.map_eq_some_iff.mp hx
        have hgs := hsg g (List.mem_of_getElem? hg)
        have hi6 : i < 6 := by
          have := (List.getElem?_eq_some_iff.mp hg).1
          omega
        have hxl' : xs.length = ps.length := by rw [dpa_len dL, List.length_map]
        have sG9 := h1.trans sG
        refine ⟨rfl, _, rfl, _, rfl, _, rfl, _, rfl, _, rfl, _, rfl, D, _, _, _, rfl, rfl, SqL.of (sG9 _ _ eD9), at_ (j := 11) g11, _, _, rfl, rfl, by show 7 ≤ sizeLine; decide, fun p1 np1 => ?_⟩
        generalize hG : upd G p1 _ = G2
        obtain ⟨g2', ep⟩ := new_of np1 hG
        have pe : Dp K G2 (.ref p1) (Pr.mat num flo fhi g oth (d11 - 4)).enc := .tup (SqT.of ep) (.cons (.str _) (.cons (.int _) (.cons (dlo.same (sG9.trans g2')) (.cons (dhi.same (sG9.trans g2')) (.cons (.str _) (.cons (.int _) (.cons (.int _) .nil)))))))
        refine ⟨xs, g2' _ _ eL, by rw [hxl']; exact small_sz (by omega), same_mut (sG.trans g2') nL, xs ++ [.ref p1], ps ++ [.mat num flo fhi g oth (d11 - 4)], upd_same, ?_, by rw [List.length_append, hpl]; rfl, fun p hp => ?_⟩
        · rw [List.map_append]
          exact dpa_but (g2' _ _ eL) but_upd _ _ (by rw [← List.map_append]; exact noLs_pr _) (dpa_snoc (dpa_same g2' _ _ dL) pe)
        · rcases List.mem_append.mp hp with hp | hp
          · exact hpo p hp
          · rw [List.mem_singleton.mp hp]
            exact ⟨⟨hn, ⟨olo, wlo⟩, ⟨ohi, whi'⟩, hgs, ho, by omega, by omega⟩, (fun ws h => nomatch h), rfl⟩
      · obtain ⟨sG, xs, ps, eL, dL, hpl, hpo⟩ := hP
        rw [List.length_map, hsl] at hpl
        exact ⟨h1.trans sG, L, ps, _, _, _, _, _, _, rfl, ⟨⟨xs, eL, dL⟩, hpo⟩, fun _ => by omega, by omega⟩
    clear hM
    refine ⟨M 3, ?_, fun σ' G' hM3 => ?_⟩
    · have hM' := hM2
      obtain ⟨h1, F, ps, y17, y18, y19, y20, y21, y22, rfl, h3, h4, h5⟩ := hM2
      refine ⟨_, rfl, D, _, _, _, rfl, rfl, SqL.of (h1 _ _ eD9), at_ (j := 0) g0, rfl, _, rfl, ite2 (fun e => ?_) (fun e => up hM' fun h => e (decide_eq_true (by rw [h]; rfl)))⟩
      refine ⟨_, rfl, _, rfl, _, rfl, by show 4 ≤ sizeLine; decide, fun p1 np1 => ⟨by show 1 ≤ sizeLine; decide, fun L nL => ?_⟩⟩
      have sp := same_new (o := .tup [.str "sorted", .int (num : Nat), .ref lo, .ref hi]) np1
      have sL := same_new (o := .lst [.ref p1]) nL
      exact ⟨(h1.trans sp).trans sL, L, [.srt num flo fhi], _, _, _, _, _, _, rfl, ⟨⟨_, upd_same, .cons (.tup (SqT.of (sL _ _ upd_same)) (.cons (.str _) (.cons (.int _) (.cons (dlo.same ((h1.trans sp).trans sL)) (.cons (dhi.same ((h1.trans sp).trans sL)) .nil))))) .nil⟩, fun p hp => by
        rw [List.mem_singleton.mp hp]
        exact ⟨⟨hn, ⟨olo, wlo⟩, ohi, whi'⟩, (fun ws h => nomatch h), rfl⟩⟩, fun _ => Nat.one_pos, by show 1 ≤ 10; decide⟩
    clear hM2
    refine ⟨M 4, ?_, fun σ' G' hM4 => ?_⟩
    · have hM' := hM3
      obtain ⟨h1, F, ps, y17, y18, y19, y20, y21, y22, rfl, h3, h4, h5⟩ := hM3
      have sqD : ∀ {G : Hp}, Same G' G → SqL K G D (dr.map V.int) := fun s => SqL.of (s _ _ (h1 _ _ eD9))
      have wdG := wd9.same h1
      refine ⟨_, rfl, D, _, _, _, rfl, rfl, sqD (Same.refl _), at_ (j := 0) g0, rfl, _, rfl, ite2 (fun e => ?_) (fun e => up hM' fun h => e (decide_eq_true (by rw [h]; rfl)))⟩
      refine ⟨_, rfl, D, _, _, _, rfl, rfl, sqD (Same.refl _), at_ (j := 5) g5, _, rfl, _, rfl, D, _, _, _, rfl, rfl, sqD (Same.refl _), at_ (j := 8) g8, _, _, rfl, rfl, a.b, d5, d8 - 2, ns, rfl, wdG.b, hnl, fun fa ffa G1 t1 efa ofa wfa => ?_⟩
      refine ⟨_, rfl, D, _, _, _, rfl, rfl, sqD t1, at_ (j := 12) g12, _, rfl, _, rfl, D, _, _, _, rfl, rfl, sqD t1, at_ (j := 8) g8, _, rfl, D, _, _, _, rfl, rfl, sqD t1, at_ (j := 9) g9, _, _, rfl, rfl, _, _, rfl, rfl, a.b, d12, d8 + d9 - 3, ns, rfl, t1.seq wdG.b, hnl, fun fb ffb G2 t2 efb ofb wfb => ?_⟩
      have t12 := t1.trans t2
      have wd2 := wdG.same t12
      have sH2 := (sH9.trans h1).trans t12
      have hL := LN_all lok (R := fun l => 0 ≤ wo ns l ∧ wo ns l ≤ 100) (fun j l e => lsb.new j l e) oth oth (Nat.le_refl _) ho
      have hLo := LN_ok lok oth oth (Nat.le_refl _) ho
      refine ⟨_, rfl, a.kp, _, _, _, rfl, rfl, SqL.of wd2.k, atI_nat (j := 2) rfl, _, rfl, a.al, oth, ns.length, ls, xl, rfl, SqL.of (sH2 _ _ x1), dpa_same sH2 _ _ x2, lok, ho, by omega, fun v hv => ⟨_, rfl, v, a.b, LN ls oth, ns, rfl, hv, wd2.b, hLo, ?_⟩⟩
      generalize wo ns (LN ls oth) = L at hL
      have dfa : Dp K G2 (.ref fa) (f2 ffa) := .tup (SqT.of (t2 _ _ efa)) (.cons (.int _) (.cons (.int _) .nil))
      have dfb : Dp K G2 (.ref fb) (f2 ffb) := .tup (SqT.of efb) (.cons (.int _) (.cons (.int _) .nil))
      refine ⟨_, rfl, _, rfl, _, rfl, _, rfl, _, rfl, _, rfl, by show 7 ≤ sizeLine; decide, fun p1 np1 => ⟨by show 1 ≤ sizeLine; decide, fun F1 nF1 => ?_⟩⟩
      have sp := same_new (o := .tup [.str "below", .int (num : Nat), .ref lo, .ref hi, .int (oth : Nat), .ref fa, .ref fb]) np1
      generalize hG : upd G2 p1 _ = G3 at nF1 sp
      have ep1 : G3 p1 = some (.tup [.str "below", .int (num : Nat), .ref lo, .ref hi, .int (oth : Nat), .ref fa, .ref fb]) := hG ▸ upd_same
      have sF := same_new (o := .lst [.ref p1]) nF1
      generalize hG' : upd G3 F1 _ = G4 at sF
      have eF1 : G4 F1 = some (.lst [.ref p1]) := hG' ▸ upd_same
      have t4 := (t12.trans sp).trans sF
      have t94 := h1.trans t4
      have bel1 : Dp K G4 (.ref p1) (Pr.bel num flo fhi oth ffa ffb).enc := .tup (SqT.of (sF _ _ ep1)) (.cons (.str _) (.cons (.int _) (.cons (dlo.same t94) (.cons (dhi.same t94) (.cons (.int _) (.cons (dfa.same (sp.trans sF)) (.cons (dfb.same (sp.trans sF)) .nil)))))))
      have ok1 : (Pr.bel num flo fhi oth ffa ffb).ok ls.length ns := ⟨hn, ⟨olo, wlo⟩, ⟨ohi, whi'⟩, ho, ⟨ofa, by unfold Wb; omega⟩, ofb, by unfold Wb; omega⟩
      -- the four pairs
      refine ⟨_, rfl, by show 2 ≤ sizeLine; decide, fun q1 nq1 => ?_⟩
      have u1' := same_new (o := .tup [.int (-2), .int 0]) nq1
      generalize hG1 : upd G4 q1 _ = G5 at u1'
      have eq1 : G5 q1 = some (.tup [.int (-2), .int 0]) := hG1 ▸ upd_same
      refine ⟨_, rfl, _, rfl, _, _, rfl, rfl, by show 2 ≤ sizeLine; decide, fun q2 nq2 => ?_⟩
      have u2' := same_new (o := .tup [.int L, .int (L + 2)]) nq2
      generalize hG2 : upd G5 q2 _ = G6 at u2'
      have eq2 : G6 q2 = some (.tup [.int L, .int (L + 2)]) := hG2 ▸ upd_same
      refine ⟨_, rfl, by show 2 ≤ sizeLine; decide, fun q3 nq3 => ?_⟩
      have u3' := same_new (o := .tup [.int (-1), .int 1]) nq3
      generalize hG3 : upd G6 q3 _ = G7 at u3'
      have eq3 : G7 q3 = some (.tup [.int (-1), .int 1]) := hG3 ▸ upd_same
      refine ⟨_, rfl, _, _, rfl, rfl, _, rfl, _, _, rfl, rfl, by show 2 ≤ sizeLine; decide, fun q4 nq4 => ?_⟩
      have u4' := same_new (o := .tup [.int (L - 1), .int (L + 1)]) nq4
      generalize hG4 : upd G7 q4 _ = G8 at u4'
      have eq4 : G8 q4 = some (.tup [.int (L - 1), .int (L + 1)]) := hG4 ▸ upd_same
      refine ⟨by show 4 ≤ sizeLine; decide, fun LL nLL => ?_⟩
      have u5' := same_new (o := .lst [.ref q1, .ref q2, .ref q3, .ref q4]) nLL
      generalize hG5 : upd G8 LL _ = G9 at u5'
      have eLL : G9 LL = some (.lst [.ref q1, .ref q2, .ref q3, .ref q4]) := hG5 ▸ upd_same
      have sB5 := (((u1'.trans u2').trans u3').trans u4').trans u5'
      have four : ∀ (i : Nat) (x : V), ([.ref q1, .ref q2, .ref q3, .ref q4] : List V)[i]? = some x → ∃ (t : Addr) (b e : Int), x = .ref t ∧ G9 t = some (.tup [.int b, .int e]) ∧ -2 ≤ b ∧ b ≤ 100 ∧ 0 ≤ e ∧ e ≤ 102 := fun i x h => by
        match i, h with
        | 0, h => cases h; exact ⟨q1, _, _, rfl, (((u2'.trans u3').trans u4').trans u5') _ _ eq1, by omega, by omega, by omega, by omega⟩
        | 1, h => cases h; exact ⟨q2, _, _, rfl, ((u3'.trans u4').trans u5') _ _ eq2, by omega, by omega, by omega, by omega⟩
        | 2, h => cases h; exact ⟨q3, _, _, rfl, (u4'.trans u5') _ _ eq3, by omega, by omega, by omega, by omega⟩
        | 3, h => cases h; exact ⟨q4, _, _, rfl, u5' _ _ eq4, by omega, by omega, by omega, by omega⟩
      refine ⟨LL, rfl, ⟨_, SqL.of eLL⟩, ?_⟩
      have t9 := t4.trans sB5
      have nF1' : G' F1 = none := (t12.trans sp).free nF1
      have nLF : ∀ {G : Hp}, Same G9 G → G LL = some (.lst [.ref q1, .ref q2, .ref q3, .ref q4]) := fun s => s _ _ eLL
      have neLF : LL ≠ F1 := (ne_of_none ((((u1'.trans u2').trans u3').trans u4') _ _ eF1) nLL).symm
      refine for_list (K := K) (a := LL) (xs := [.ref q1, .ref q2, .ref q3, .ref q4]) (fun i σ G => Same G' G ∧ (∀ t o, t ≠ F1 → G9 t = some o → G t = some o) ∧ ∃ (y20 y21 y22 : Option V) (xs : List V) (ps : List Pr), σ = [some (.ref sc), some (.int pl), some (.ref a.wt), some (.ref a.kp), some (.ref a.b), some (.ref a.ru), some (.ref D), none, some (.int (ls.length : Nat)), some (.int (num : Nat)), some (.int (oth : Nat)), some (.int (d6 - 2)), some (.ref lo), some (.ref hi), some (.ref S4), some (.ref F1), none, some (.ref fa), some (.ref fb), some (.int L), y20, y21, y22, none] ∧ G F1 = some (.lst xs) ∧ DpAll K G xs (ps.map Pr.enc) ∧ ps.length = 1 + i ∧ ∀ p, p ∈ ps → p.ok ls.length ns ∧ p.ne flo)
        ⟨t9, fun _ _ _ h => h, _, _, _, [.ref p1], [.bel num flo fhi oth ffa ffb], rfl, sB5 _ _ eF1, .cons (bel1.same sB5) .nil, rfl, fun p hp => by rw [List.mem_singleton.mp hp]; exact ⟨ok1, (fun ws h => nomatch h), rfl⟩⟩ (fun i σ G _ hP => SqL.of (hP.2.1 _ _ neLF eLL)) (fun i x σ G hxi hP => ?_) (fun σ G hP => ?_)
      · obtain ⟨sG, kG, y20, y21, y22, xs, ps, rfl, eF, dF, hpl, hpo⟩ := hP
        obtain ⟨t, b, e', rfl, et, b0, b1, e0, e1'⟩ := four i x hxi
        have hi4 : i < 4 := (List.getElem?_eq_some_iff.mp hxi).1
        have hxl' : xs.length = ps.length := by rw [dpa_len dF, List.length_map]
        have etF : t ≠ F1 := fun h => by
          rw [h, sB5 _ _ eF1] at et
          cases et
        refine ⟨t, _, rfl, SqT.of (kG _ _ etF et), rfl, _, _, rfl, _, _, rfl, rfl, ?_⟩
        refine ⟨_, rfl, D, _, _, _, rfl, rfl, sqD sG, at_ (j := 5) g5, _, rfl, _, rfl, a.b, d5, b, ns, rfl, sG.seq wdG.b, hnl, fun ea fea K1 v1 eea oea wea => ?_⟩
        refine ⟨_, rfl, D, _, _, _, rfl, rfl, sqD (sG.trans v1), at_ (j := 12) g12, _, rfl, _, rfl, a.b, d12, e', ns, rfl, (sG.trans v1).seq wdG.b, hnl, fun eb feb K2 v2 eeb oeb web => ?_⟩
        refine ⟨by show 2 ≤ sizeLine; decide, fun pe npe => ?_⟩
        have v3 := same_new (o := .tup [.ref ea, .ref eb]) npe
        generalize hK3 : upd K2 pe _ = K3 at v3
        have epe : K3 pe = some (.tup [.ref ea, .ref eb]) := hK3 ▸ upd_same
        have v13 := (v1.trans v2).trans v3
        refine ⟨_, rfl, .inl ⟨rfl, _, SqL.of (v13 _ _ eF)⟩, ?_⟩
        refine ⟨_, rfl, _, rfl, _, rfl, _, rfl, by show 5 ≤ sizeLine; decide, fun p5 np5 => ?_⟩
        have v4 := same_new (o := .tup [.str "below", .int (num : Nat), .ref lo, .ref hi, .int (oth : Nat)]) np5
        generalize hK4 : upd K3 p5 _ = K4 at v4
        have ep5 : K4 p5 = some (.tup [.str "below", .int (num : Nat), .ref lo, .ref hi, .int (oth : Nat)]) := hK4 ▸ upd_same
        refine ⟨_, rfl, p5, pe, _, _, rfl, rfl, SqT.of ep5, SqT.of (v4 _ _ epe), (fun h => nomatch h), by show 7 ≤ sizeLine; decide, (fun h => nomatch h), fun _ p6 np6 => ?_⟩
        have v5 := same_new (o := .tup [.str "below", .int (num : Nat), .ref lo, .ref hi, .int (oth : Nat), .ref ea, .ref eb]) np6
        have v15 := (v13.trans v4).trans v5
        have hP6 : Dp K (upd K4 p6 (.tup [.str "below", .int (num : Nat), .ref lo, .ref hi, .int (oth : Nat), .ref ea, .ref eb])) (.ref p6) (Pr.bel num flo fhi oth fea feb).enc := .tup (SqT.of upd_same) (.cons (.str _) (.cons (.int _) (.cons (dlo.same ((h1.trans sG).trans v15)) (.cons (dhi.same ((h1.trans sG).trans v15)) (.cons (.int _) (.cons (.tup (SqT.of ((((v2.trans v3).trans v4).trans v5) _ _ eea)) (.cons (.int _) (.cons (.int _) .nil))) (.cons (.tup (SqT.of (((v3.trans v4).trans v5) _ _ eeb)) (.cons (.int _) (.cons (.int _) .nil))) .nil)))))))
        have eF' := v15 _ _ eF
        refine ⟨F1, _, _, rfl, rfl, eF', by rw [hxl']; exact small_sz (by omega), same_mut (sG.trans v15) nF1', fun t o ht h => (upd_ne ht).trans (v15 _ _ (kG t o ht h)), _, _, _, xs ++ [.ref p6], ps ++ [.bel num flo fhi oth fea feb], rfl, upd_same, ?_, by rw [List.length_append, hpl]; rfl, fun p hp => ?_⟩
        · rw [List.map_append]
          exact dpa_but eF' but_upd _ _ (by rw [← List.map_append]; exact noLs_pr _) (dpa_snoc (dpa_same v15 _ _ dF) hP6)
        · rcases List.mem_append.mp hp with hp | hp
          · exact hpo p hp
          · rw [List.mem_singleton.mp hp]
            exact ⟨⟨hn, ⟨olo, wlo⟩, ⟨ohi, whi'⟩, ho, ⟨oea, by unfold Wb; omega⟩, oeb, by unfold Wb; omega⟩, (fun ws h => nomatch h), rfl⟩
      · obtain ⟨sG, kG, y20, y21, y22, xs, ps, rfl, eF, dF, hpl, hpo⟩ := hP
        have hpl : ps.length = 5 := hpl
        have hxl' : xs.length = ps.length := by rw [dpa_len dF, List.length_map]
        obtain ⟨j13, rfl⟩ : ∃ j : Nat, d13 = j := ⟨d13.toNat, by omega⟩
        refine ⟨_, rfl, _, rfl, D, _, _, _, rfl, rfl, sqD sG, at_ (j := 13) g13, _, rfl, F1, _, rfl, SqL.of eF, fun z1 nz1 => ?_⟩
        have w1 := same_new (o := .lst (cutV xs (some (j13 : Int)) none)) nz1
        generalize hZ1 : upd G z1 _ = Z1 at w1
        have ez1 : Z1 z1 = some (.lst (xs.drop j13)) := by rw [← hZ1, upd_same, cutv_from]
        refine ⟨_, rfl, _, rfl, D, _, _, _, rfl, rfl, sqD (sG.trans w1), at_ (j := 13) g13, _, rfl, F1, _, rfl, SqL.of (w1 _ _ eF), fun z2 nz2 => ?_⟩
        have w2 := same_new (o := .lst (cutV xs none (some (j13 : Int)))) nz2
        generalize hZ2 : upd Z1 z2 _ = Z2 at w2
        have ez2 : Z2 z2 = some (.lst (xs.take j13)) := by rw [← hZ2, upd_same, cutv_first]
        refine ⟨z1, z2, _, _, rfl, rfl, w2 _ _ ez1, ez2, by rw [List.length_drop, List.length_take]; exact Nat.le_of_lt (small_sz (by omega)), fun z3 nz3 => ?_⟩
        have w3 := same_new (o := .lst (xs.drop j13 ++ xs.take j13)) nz3
        have w13 := (w1.trans w2).trans w3
        have dF' := dpa_same w13 _ _ dF
        refine ⟨(h1.trans sG).trans w13, z3, ps.drop j13 ++ ps.take j13, _, _, _, _, _, _, rfl, ⟨⟨_, upd_same, ?_⟩, fun p hp => ?_⟩, fun _ => ?_, ?_⟩
        · rw [List.map_append, List.map_drop, List.map_take]
          exact dpa_app (dpa_drop j13 dF') (dpa_take j13 dF')
        · rcases List.mem_append.mp hp with hp | hp
          · exact hpo p (List.mem_of_mem_drop hp)
          · exact hpo p (List.mem_of_mem_take hp)
        · rw [List.length_append, List.length_drop, List.length_take]
          omega
        · rw [List.length_append, List.length_drop, List.length_take]
          omega
    clear hM3
    obtain ⟨h1, F, ps, y17, y18, y19, y20, y21, y22, rfl, h3, h4, h5⟩ := hM4
    have hps := h4 (by omega)
    obtain ⟨xs, eF, dF⟩ := h3.at_
    have hxs : xs.length = ps.length := by rw [dpa_len dF, List.length_map]
    refine ⟨_, rfl, F, rfl, ⟨_, SqL.of eF⟩, ?_⟩
    refine for_list (K := K) (a := F) (xs := xs) (fun i σ G => Same G' G ∧ ∃ y23 : Option V, σ = [some (.ref sc), some (.int pl), some (.ref a.wt), some (.ref a.kp), some (.ref a.b), some (.ref a.ru), some (.ref D), none, some (.int (ls.length : Nat)), some (.int (num : Nat)), some (.int (oth : Nat)), some (.int (d6 - 2)), some (.ref lo), some (.ref hi), some (.ref S4), some (.ref F), none, y17, y18, y19, y20, y21, y22, y23]) ⟨Same.refl _, _, rfl⟩ (fun i σ G _ hP => SqL.of (hP.1 _ _ eF)) (fun i x σ G hxi hP => ?_) (fun σ G hP => ?_)
    · obtain ⟨sG, y23, rfl⟩ := hP
      have hic : i < ps.length := by rw [← hxs]; exact (List.getElem?_eq_some_iff.mp hxi).1
      obtain ⟨v, q1, q2⟩ := dp_mem dF hic
      rw [hxi] at q1
      cases q1
      obtain ⟨pok, pne⟩ := h3.ok _ (List.getElem_mem hic)
      have sGH := (sH9.trans h1).trans sG
      refine ⟨_, rfl, _, rfl, a, m, x, ps[i], ls, ns, rfl, wd.same sGH, lok, lsb, by omega, q2.same sG, pok, fun b G2 s2 hb => ⟨_, rfl, ite2 (fun hbt => ?_) (fun _ => ?_)⟩⟩
      · refine ⟨_, rfl, q x ps[i] G2 (sGH.trans s2) (q2.same (sG.trans s2)) pok ?_ (hb hbt)⟩
        cases hq : ps[i] with
        | eit ws => exact absurd hq (pne.1 ws)
        | _ => trivial
      · exact ⟨sG.trans s2, _, rfl⟩
    · obtain ⟨sG, y23, rfl⟩ := hP
      obtain ⟨v, q1, q2⟩ := dp_mem dF hps
      obtain ⟨pok, pne⟩ := h3.ok _ (List.getElem_mem hps)
      have q2 := q2.same sG
      have dlo' := dlo.same (h1.trans sG)
      generalize ps[0] = p0 at q2 pok pne
      obtain ⟨t0, kd, n, v3, v4, rest, pr, rfl, hrl, ht, hne3, hne4, cut3, cut4, mk, prok, prfin, prt⟩ : ∃ (t0 : Addr) (kd : PySem.Str) (n : Nat) (v3 v4 : V) (rest : List V) (pr : Pr), v = .ref t0 ∧ rest.length ≤ 10 ∧ SqT K G t0 (.str kd :: .int n :: v3 :: v4 :: rest) ∧ ¬ (HT.sIx (rest.length + 4) 0 none = 0 ∧ HT.sIx (rest.length + 4) (rest.length + 4) (some 3) = rest.length + 4) ∧ ¬ (HT.sIx (rest.length + 4) 0 (some 4) = 0 ∧ HT.sIx (rest.length + 4) (rest.length + 4) none = rest.length + 4) ∧ cutV (.str kd :: .int n :: v3 :: v4 :: rest) none (some 3) = [.str kd, .int n, v3] ∧ cutV (.str kd :: .int n :: v3 :: v4 :: rest) (some 4) none = rest ∧ (∀ (G2 : Hp) (t2 : Addr), Same G G2 → SqT K G2 t2 (.str kd :: .int n :: v3 :: .ref lo :: rest) → Dp K G2 (.ref t2) pr.enc) ∧ pr.ok ls.length ns ∧ pr.fin ns ∧ PrT ls a.rf ns pr := by
        obtain ⟨t0, ys, rfl, ht, ha⟩ : ∃ t0 ys, v = .ref t0 ∧ SqT K G t0 ys ∧ ∃ ds, p0.enc = .tuple ds ∧ DpAll K G ys ds := by
          cases p0 <;> (obtain ⟨t0, ys, h1, h2, h3⟩ := dp_tup_inv q2; exact ⟨t0, ys, h1, h2, _, rfl, h3⟩)
        obtain ⟨ds, e, ha⟩ := ha
        cases p0 with
        | eit ws => exact absurd rfl (pne.1 ws)
        | srt n lo2 hi2 =>
          cases e
          obtain ⟨v1, v2, v3, v4, rfl, w1, w2, w3, w4⟩ := dpa4 ha
          cases dp_str_inv w1
          cases dp_int_inv w2
          obtain ⟨a1, a2, a3⟩ := pok
          cases (show lo2 = flo from pne.2)
          exact ⟨t0, _, n, v3, v4, [], .srt n flo flo, rfl, (by show 0 ≤ 10; decide), ht, by show ¬ (HT.sIx 4 0 none = 0 ∧ HT.sIx 4 4 (some 3) = 4); decide, by show ¬ (HT.sIx 4 0 (some 4) = 0 ∧ HT.sIx 4 4 none = 4); decide, rfl, rfl, fun G2 t2 s2 h => .tup h (.cons (.str _) (.cons (.int _) (.cons (w3.same s2) (.cons (dlo'.same s2) .nil)))), ⟨a1, a2, olo, wlo⟩, trivial, fun k l hk => (inR_no hk).elim⟩
        | all n lo2 hi2 g f =>
          cases e
          obtain ⟨v1, v2, v3, v4, v5, v6, rfl, w1, w2, w3, w4, w5, w6⟩ := dpa6 ha
          cases dp_str_inv w1
          cases dp_int_inv w2
          obtain ⟨a1, a2, a3, a4, a5⟩ := pok
          cases (show lo2 = flo from pne.2)
          exact ⟨t0, _, n, v3, v4, _, .all n flo flo g f, rfl, (by show 2 ≤ 10; decide), ht, by show ¬ (HT.sIx 6 0 none = 0 ∧ HT.sIx 6 6 (some 3) = 6); decide, by show ¬ (HT.sIx 6 0 (some 4) = 0 ∧ HT.sIx 6 6 none = 6); decide, rfl, rfl, fun G2 t2 s2 h => .tup h (.cons (.str _) (.cons (.int _) (.cons (w3.same s2) (.cons (dlo'.same s2) (.cons (w5.same s2) (.cons (w6.same s2) .nil)))))), ⟨a1, a2, ⟨olo, wlo⟩, a4, a5⟩, trivial, fun k hk => (inR_no hk).elim⟩
        | mat n lo2 hi2 g o c =>
          cases e
          obtain ⟨v1, v2, v3, v4, v5, v6, v7, rfl, w1, w2, w3, w4, w5, w6, w7⟩ := dpa7 ha
          cases dp_str_inv w1
          cases dp_int_inv w2
          obtain ⟨a1, a2, a3, a4, a5⟩ := pok
          cases (show lo2 = flo from pne.2)
          exact ⟨t0, _, n, v3, v4, _, .mat n flo flo g o c, rfl, (by show 3 ≤ 10; decide), ht, by show ¬ (HT.sIx 7 0 none = 0 ∧ HT.sIx 7 7 (some 3) = 7); decide, by show ¬ (HT.sIx 7 0 (some 4) = 0 ∧ HT.sIx 7 7 none = 7); decide, rfl, rfl, fun G2 t2 s2 h => .tup h (.cons (.str _) (.cons (.int _) (.cons (w3.same s2) (.cons (dlo'.same s2) (.cons (w5.same s2) (.cons (w6.same s2) (.cons (w7.same s2) .nil))))))), ⟨a1, a2, ⟨olo, wlo⟩, a4, a5⟩, trivial, fun k hk => (inR_no hk).elim⟩
        | bel n lo2 hi2 o fa fb =>
          cases e
          obtain ⟨v1, v2, v3, v4, v5, v6, v7, rfl, w1, w2, w3, w4, w5, w6, w7⟩ := dpa7 ha
          cases dp_str_inv w1
          cases dp_int_inv w2
          obtain ⟨a1, a2, a3, a4, a5⟩ := pok
          cases (show lo2 = flo from pne.2)
          exact ⟨t0, _, n, v3, v4, _, .bel n flo flo o fa fb, rfl, (by show 3 ≤ 10; decide), ht, by show ¬ (HT.sIx 7 0 none = 0 ∧ HT.sIx 7 7 (some 3) = 7); decide, by show ¬ (HT.sIx 7 0 (some 4) = 0 ∧ HT.sIx 7 7 none = 7); decide, rfl, rfl, fun G2 t2 s2 h => .tup h (.cons (.str _) (.cons (.int _) (.cons (w3.same s2) (.cons (dlo'.same s2) (.cons (w5.same s2) (.cons (w6.same s2) (.cons (w7.same s2) .nil))))))), ⟨a1, a2, ⟨olo, wlo⟩, a4, a5⟩, trivial, fun k l hk => (inR_no hk).elim⟩
      have sGH := (sH9.trans h1).trans sG
      refine ⟨_, rfl, F, _, _, _, rfl, rfl, SqL.of (sG _ _ eF), atI_nat q1, _, rfl, t0, _, rfl, ht, hne3, fun z1 nz1 => ?_⟩
      have w1 := same_new (o := .tup (cutV (.str kd :: .int n :: v3 :: v4 :: rest) none (some 3))) nz1
      generalize hZ1 : upd G z1 _ = Z1 at w1
      have ez1 : Z1 z1 = some (.tup [.str kd, .int n, v3]) := by rw [← hZ1, upd_same, cut3]
      refine ⟨_, rfl, by show 1 ≤ sizeLine; decide, fun z2 nz2 => ?_⟩
      have w2 := same_new (o := .tup [.ref lo]) nz2
      generalize hZ2 : upd Z1 z2 _ = Z2 at w2
      have ez2 : Z2 z2 = some (.tup [.ref lo]) := hZ2 ▸ upd_same
      refine ⟨z1, z2, _, _, rfl, rfl, SqT.of (w2 _ _ ez1), SqT.of ez2, (fun h => nomatch h), by show 4 ≤ sizeLine; decide, (fun h => nomatch h), fun _ z3 nz3 => ?_⟩
      have w3 := same_new (o := .tup ([.str kd, .int n, v3] ++ [.ref lo])) nz3
      generalize hZ3 : upd Z2 z3 _ = Z3 at w3
      have ez3 : Z3 z3 = some (.tup [.str kd, .int n, v3, .ref lo]) := hZ3 ▸ upd_same
      have w13 := (w1.trans w2).trans w3
      refine ⟨_, rfl, F, _, _, _, rfl, rfl, SqL.of ((sG.trans w13) _ _ eF), atI_nat q1, _, rfl, t0, _, rfl, sqt_same w13 ht, hne4, fun z4 nz4 => ?_⟩
      have w4 := same_new (o := .tup (cutV (.str kd :: .int n :: v3 :: v4 :: rest) (some 4) none)) nz4
      generalize hZ4 : upd Z3 z4 _ = Z4 at w4
      have ez4 : Z4 z4 = some (.tup rest) := by rw [← hZ4, upd_same, cut4]
      refine ⟨z3, z4, _, _, rfl, rfl, SqT.of (w4 _ _ ez3), SqT.of ez4, (fun h => nomatch h), by show 4 + rest.length ≤ sizeLine; exact Nat.le_of_lt (small_sz5 (by omega)), fun hr => ?_, fun hr z5 nz5 => ?_⟩
      · subst hr
        exact q _ pr _ (sGH.trans (w13.trans w4)) (mk _ z3 (w13.trans w4) (SqT.of (w4 _ _ ez3))) prok prfin prt
      · have w5 := same_new (o := .tup ([.str kd, .int n, v3, .ref lo] ++ rest)) nz5
        exact q _ pr _ (sGH.trans ((w13.trans w4).trans w5)) (mk _ z5 ((w13.trans w4).trans w5) (SqT.of upd_same)) prok prfin prt
end
end SW

namespace SW
open PySem PySem.Spec PyProof.Rows L2
abbrev s_l_lists : Stmt := topS 41
theorem sc_l_lists : FnScope ["script", "count", "values", "lists", "rules", "begin", "number", "draws", "index", "length", "table"] ["script", "count", "values"] (defScope s_l_lists) := ⟨rfl, rfl, rfl, by decide +kernel, rfl, by decide +kernel, by decide +kernel⟩

theorem LsOk.nil (m : Nat) : LsOk m [] := fun _ _ h => nomatch h
theorem new_nil {R : Fm → Prop} : ∀ (j : Nat) (f : Fm), ([] : List Ld)[j]? = some (Ld.new f) → R f := fun _ _ h => nomatch h
theorem LsOk.snoc {m : Nat} {ls : List Ld} {l : Ld} (h : LsOk m ls) (hl : l.ok m ls.length) : LsOk m (ls ++ [l]) := fun j d e => by
  by_cases hj : j < ls.length
  · rw [List.getElem?_append_left hj] at e
    exact h j d e
  · rw [List.getElem?_append_right (by omega)] at e
    have hj0 : j = ls.length := by
      refine Classical.byContradiction fun hne => ?_
      obtain ⟨m, hm⟩ : ∃ m, j - ls.length = m + 1 := ⟨j - ls.length - 1, by omega⟩
      rw [hm] at e
      cases e
    subst hj0
    rw [Nat.sub_self] at e
    cases e
    exact hl
theorem LsB.snoc {ns : List Int} {ls : List Ld} {l : Ld} (h : LsB ns ls) (hl : LB ns l) : LsB ns (ls ++ [l]) := fun d hd => by
  rcases List.mem_append.mp hd with hd | hd
  · exact h d hd
  · rw [List.mem_singleton.mp hd]
    exact hl
theorem sqt_but {K : PySem.W.Frag} {G G' : Hp} {c p : Addr} {ys xs : List V} (hl : G c = some (.lst ys)) (b : But c G G') (h : SqT K G p xs) : SqT K G' p xs := by
  have ne : ∀ {z : HO}, G p = some z → z ≠ .lst ys → p ≠ c := fun h1 h2 q => by
    rw [q, hl] at h1
    exact h2 (Option.some.inj h1).symm
  rcases h with (h | ⟨o, h⟩) | h
  · exact .inl (.inl (b _ _ (ne h (fun q => nomatch q)) h))
  · exact .inl (.inr ⟨o, b _ _ (ne h (fun q => nomatch q)) h⟩)
  · exact .inr h
theorem RuAt.but {K : PySem.W.Frag} {H H' : Hp} {v : V} {r : Ru} {c : Addr} {ys : List V} (h : RuAt K H v r) (hl : H c = some (.lst ys)) (b : But c H H') (hq : r.q ≠ c) : RuAt K H' v r := by
  obtain ⟨p, h1, h2, h3⟩ := h
  exact ⟨p, h1, sqt_but hl b h2, b _ _ hq h3⟩
def RsOk (K : PySem.W.Frag) (H : Hp) (bad : List Addr) (ls : List Ld) (xr : List V) : Prop := ∀ (j : Nat) (f : Fm), ls[j]? = some (Ld.new f) → ∃ v r, xr[j]? = some v ∧ RuAt K H v r ∧ r.ok ∧ r.q ∉ bad
theorem RsOk.nil (K : PySem.W.Frag) (H : Hp) (bad : List Addr) : RsOk K H bad [] [] := fun _ _ h => nomatch h
theorem RsOk.same {K : PySem.W.Frag} {H H' : Hp} {bad : List Addr} {ls : List Ld} {xr : List V} (h : RsOk K H bad ls xr) (s : Same H H') : RsOk K H' bad ls xr := fun j f e => by
  obtain ⟨v, r, h1, h2, h3⟩ := h j f e
  exact ⟨v, r, h1, h2.same s, h3⟩
theorem RsOk.but {K : PySem.W.Frag} {H H' : Hp} {bad : List Addr} {ls : List Ld} {xr : List V} {c : Addr} {ys : List V} (h : RsOk K H bad ls xr) (hl : H c = some (.lst ys)) (b : But c H H') (hc : c ∈ bad) : RsOk K H' bad ls xr := fun j f e => by
  obtain ⟨v, r, h1, h2, h3, h4⟩ := h j f e
  exact ⟨v, r, h1, h2.but hl b (fun q => h4 (q ▸ hc)), h3, h4⟩
theorem f_small {ns : List Int} {f : Fm} (hn : ns.length ≤ 1000) (hv : VsB ns) (ho : fok ns.length f) (hb : Wb ns f) : f.1.natAbs < 10 ^ 60 ∧ f.2.natAbs < 10 ^ 60 := by
  obtain ⟨h0, h1⟩ := ho
  obtain ⟨b0, b1⟩ := hb
  refine ⟨by omega, ?_⟩
  by_cases e : f.1 = 0
  · have : wo ns f = f.2 := if_pos e
    omega
  · have e1 : wo ns f = ns.getD (f.1 - 1).toNat 0 + f.2 := if_neg e
    have hj : (f.1 - 1).toNat < ns.length := by omega
    have e2 : ns.getD (f.1 - 1).toNat 0 = ns[(f.1 - 1).toNat] := by
      rw [List.getD_eq_getElem?_getD, List.getElem?_eq_getElem hj]
      rfl
    have := hv _ (List.getElem_mem hj)
    omega
theorem getLast_new {ls : List Ld} {l : Ld} {j : Nat} {f : Fm} (e : (ls ++ [l])[j]? = some (Ld.new f)) : (j < ls.length ∧ ls[j]? = some (Ld.new f)) ∨ (j = ls.length ∧ l = Ld.new f) := by
  by_cases hj : j < ls.length
  · rw [List.getElem?_append_left hj] at e
    exact .inl ⟨hj, e⟩
  · have hj2 := (List.getElem?_eq_some_iff.mp e).1
    rw [List.length_append] at hj2
    have : j = ls.length := by
      have : j < ls.length + 1 := hj2
      omega
    subst this
    rw [List.getElem?_append_right (Nat.le_refl _), Nat.sub_self] at e
    exact .inr ⟨rfl, Option.some.inj e⟩
theorem RsOk.old {K : PySem.W.Frag} {H : Hp} {bad : List Addr} {ls : List Ld} {xr : List V} {o : Nat} {i v : Fm} {x : V} (h : RsOk K H bad ls xr) (hl : xr.length = ls.length) : RsOk K H bad (ls ++ [.wr o i v]) (xr ++ [x]) := fun j f e => by
  rcases getLast_new e with ⟨hj, e⟩ | ⟨_, e⟩
  · obtain ⟨v, r, h1, h2⟩ := h j f e
    exact ⟨v, r, by rw [List.getElem?_append_left (by omega)]; exact h1, h2⟩
  · cases e
theorem RsOk.new {K : PySem.W.Frag} {H : Hp} {bad : List Addr} {ls : List Ld} {xr : List V} {f : Fm} {x : V} {r : Ru} (h : RsOk K H bad ls xr) (hl : xr.length = ls.length) (hx : RuAt K H x r) (hr : r.ok) (hb : r.q ∉ bad) : RsOk K H bad (ls ++ [.new f]) (xr ++ [x]) := fun j g e => by
  rcases getLast_new e with ⟨hj, e⟩ | ⟨rfl, _⟩
  · obtain ⟨v, r, h1, h2⟩ := h j g e
    exact ⟨v, r, by rw [List.getElem?_append_left (by omega)]; exact h1, h2⟩
  · exact ⟨x, r, by rw [← hl, List.getElem?_append_right (Nat.le_refl _), Nat.sub_self]; rfl, hx, hr, hb⟩
section
variable {P : Program} {w : World} {K : PySem.W.Frag} {mg : PySem.Str → Option Value} {base : Heap} {C : Addr}
def spLists (K : PySem.W.Frag) : Sp := fun vs H Q _ => ∃ (a b : Addr) (n : Nat) (sc ns : List Int), vs = [.ref a, .int n, .ref b] ∧ SqL K H a (sc.map V.int) ∧ SqL K H b (ns.map V.int) ∧ ns.length ≤ 1000 ∧ VsB ns ∧ n ≤ 10 ∧
  ∀ (t al ru ad : Addr) (xl xr xd : List V) (ls : List Ld) (bs : List T3) (H' : Hp), Same H H' → H' t = some (.tup [.ref al, .ref ru, .ref ad]) → H' al = some (.lst xl) → H' ru = some (.lst xr) → H' ad = some (.lst xd) → al ≠ ad → ru ≠ ad → al ≠ ru → H ad = none → DpAll K H' xl (ls.map Ld.enc) → RsOk K H' [al, ru, ad] ls xr → DpAll K H' xd (bs.map b3) → LsOk ns.length ls → ls.length = n → bs.length ≤ n → LsB ns ls → (∀ t, t ∈ bs → smS (b3 t) = true) → Q (.ref t) H'
theorem ok_l_lists (T : TxB mg) (D_l_lists : Df K mg "_law_lists" s_l_lists ["script", "count", "values"]) (D_l_draws : Df K mg "_law_draws" s_l_draws ["script", "place", "sizes"]) (D_l_form_for : Df K mg "_law_form_for" s_l_form_for ["draw", "values", "target"]) (D_l_at_most : Df K mg "_law_at_most" s_l_at_most ["f", "g"]) (G_l_draws : FnOk P w K mg base CX0 2 D_l_draws.f D_l_draws.fd ["script", "place", "sizes"] (spDr K)) (G_l_form_for : FnOk P w K mg base CX0 1 D_l_form_for.f D_l_form_for.fd ["draw", "values", "target"] (spFormFor K)) (G_l_at_most : FnOk P w K mg base CX0 1 D_l_at_most.f D_l_at_most.fd ["f", "g"] (spAtMost K)) : FnOk P w K mg base CX0 3 D_l_lists.f D_l_lists.fd ["script", "count", "values"] (spLists K) := by
  refine D_l_lists.F.ok sc_l_lists (fun vs H Q E h => ?_) (fun cdv A outer s H vs Q E hr h => ?_)
  · obtain ⟨a, b, n, sc, ns, rfl, _⟩ := h
    rfl
  · obtain ⟨a, b, n, sc, ns, rfl, ha, hb, hnl, hvs, hn, q⟩ := h
    refine ⟨_, (pss_cons (ps_set (i := 3) sc_l_lists.nd rfl (.inl rfl) (pe_lst pa_nil))
    (pss_cons (ps_set (i := 4) sc_l_lists.nd rfl (.inl rfl) (pe_lst pa_nil))
    (pss_cons (ps_set (i := 5) sc_l_lists.nd rfl (.inl rfl) (pe_lst pa_nil))
    (pss_cons (ps_for PassesOwn.never rfl (pi_range1 (by rfl) T.n_range (pa_cons (pv 1) pa_nil)) (pg_name (i := 6) sc_l_lists.nd rfl (.inl rfl))
    (pss_cons (ps_set (i := 7) sc_l_lists.nd rfl (.inl rfl) (pe_call G_l_draws (hr.mono (by decide)) (by rfl) D_l_draws.g D_l_draws.F.kp D_l_draws.b .nil pass0 (pa_cons (pv 0) (pa_cons (pe_op op_add pe_int (pv 6)) (pa_cons (pe_lst (pa_cons pe_int (pa_cons pe_int (pa_cons pe_int (pa_cons pe_int (pa_cons pe_int (pa_cons pe_int (pa_cons pe_int (pa_cons pe_int (pa_cons pe_int (pa_cons pe_int (pa_cons pe_int (pa_cons pe_int pa_nil))))))))))))) pa_nil)))))
    (pss_cons (ps_if (PW.pt (pw_and (pt_cmpR op_gt (pv 6) pe_int (nomark _)) (pw_and1 (pt_cmpR op_gt (pe_ix ix_list (pv 7) pe_int (fun _ _ => rfl)) pe_int (nomark _)))))
    (pss_cons (ps_set (i := 8) sc_l_lists.nd rfl (.inl rfl) (pe_call G_l_form_for (hr.mono (by decide)) (by rfl) D_l_form_for.g D_l_form_for.F.kp D_l_form_for.b .nil pass0 (pa_cons (pe_ix ix_list (pv 7) pe_int (fun _ _ => rfl)) (pa_cons (pv 2) (pa_cons (pe_op op_sub (pe_ix ix_list (pv 7) pe_int (fun _ _ => rfl)) pe_int) pa_nil)))))
    (pss_cons (ps_expr (pe_bm PySem.F.plainAttrs_list PySem.F.slot_list_append PySem.F.type_list_append mt_append (pv 3) (pa_cons (pe_tup (pa_cons pe_str (pa_cons (pe_op op_mod (pe_callTy call_int1 (by rfl) T.n_int (by decide +kernel) (pa_cons (pe_ix ix_list (pv 7) pe_int (fun _ _ => rfl)) pa_nil)) (pv 6)) (pa_cons (pv 8) (pa_cons (pe_call G_l_form_for (hr.mono (by decide)) (by rfl) D_l_form_for.g D_l_form_for.F.kp D_l_form_for.b .nil pass0 (pa_cons (pe_ix ix_list (pv 7) pe_int (fun _ _ => rfl)) (pa_cons (pv 2) (pa_cons (pe_op op_sub (pe_ix ix_list (pv 7) pe_int (fun _ _ => rfl)) pe_int) pa_nil)))) pa_nil))))) pa_nil)))
    (pss_cons (ps_expr (pe_bm PySem.F.plainAttrs_list PySem.F.slot_list_append PySem.F.type_list_append mt_append (pv 4) (pa_cons pe_non pa_nil)))
    (pss_one ps_continue))))
    pss_nil)
    (pss_cons (ps_set (i := 9) sc_l_lists.nd rfl (.inl rfl) (pe_call G_l_form_for (hr.mono (by decide)) (by rfl) D_l_form_for.g D_l_form_for.F.kp D_l_form_for.b .nil pass0 (pa_cons (pe_ix ix_list (pv 7) pe_int (fun _ _ => rfl)) (pa_cons (pv 2) (pa_cons (pe_ix ix_list (pv 7) pe_int (fun _ _ => rfl)) pa_nil)))))
    (pss_cons (ps_expr (pe_bm PySem.F.plainAttrs_list PySem.F.slot_list_append PySem.F.type_list_append mt_append (pv 3) (pa_cons (pe_tup (pa_cons pe_str (pa_cons (pv 9) pa_nil))) pa_nil)))
    (pss_cons (ps_expr (pe_bm PySem.F.plainAttrs_list PySem.F.slot_list_append PySem.F.type_list_append mt_append (pv 5) (pa_cons (pe_call G_l_at_most (hr.mono (by decide)) (by rfl) D_l_at_most.g D_l_at_most.F.kp D_l_at_most.b .nil pass0 (pa_cons (pe_tup (pa_cons pe_int (pa_cons pe_int pa_nil))) (pa_cons (pv 9) pa_nil))) pa_nil)))
    (pss_cons (ps_set (i := 10) sc_l_lists.nd rfl (.inl rfl) (pe_lst (pa_cons (pe_op op_sub (pe_ix ix_list (pv 7) pe_int (fun _ _ => rfl)) pe_int) (pa_cons (pe_op op_fdiv (pe_ix ix_list (pv 7) pe_int (fun _ _ => rfl)) pe_int) (pa_cons (pe_op op_sub (pe_ix ix_list (pv 7) pe_int (fun _ _ => rfl)) pe_int) pa_nil)))))
    (pss_one (ps_expr (pe_bm PySem.F.plainAttrs_list PySem.F.slot_list_append PySem.F.type_list_append mt_append (pv 4) (pa_cons (pe_tup (pa_cons (pe_ix ix_list (pv 7) pe_int (fun _ _ => rfl)) (pa_cons (pv 10) (pa_cons (pe_ix ix_list (pv 7) pe_int (fun _ _ => rfl)) pa_nil)))) pa_nil)))))))))))
    (pss_one (ps_ret (pe_tup (pa_cons (pv 3) (pa_cons (pv 4) (pa_cons (pv 5) pa_nil)))))))))), ?_⟩
    refine ⟨Nat.zero_le _, fun al nal => ⟨Nat.zero_le _, fun ru nru => ⟨Nat.zero_le _, fun ad nad => ?_⟩⟩⟩
    have sA := same_new (o := .lst []) nal
    have sR := same_new (o := .lst []) nru
    have sB := same_new (o := .lst []) nad
    have ne1 : al ≠ ru := ne_of_none upd_same nru
    have ne2 : ru ≠ ad := ne_of_none upd_same nad
    have ne3 : al ≠ ad := ne_of_none ((upd_ne ne1).trans upd_same) nad
    have nru' := sA.free nru
    have nad' := (sA.trans sR).free nad
    refine ⟨_, rfl, n, rfl, by omega, by omega, ?_⟩
    refine for_range (lo := 0) (n := ((n : Nat) : Int).toNat) (fun i σ G => ∃ (y6 y7 y8 y9 y10 : Option V) (xl xr xd : List V) (ls : List Ld) (bs : List T3), σ = [some (.ref a), some (.int n), some (.ref b), some (.ref al), some (.ref ru), some (.ref ad), y6, y7, y8, y9, y10] ∧ Same H G ∧ G al = some (.lst xl) ∧ G ru = some (.lst xr) ∧ G ad = some (.lst xd) ∧ DpAll K G xl (ls.map Ld.enc) ∧ RsOk K G [al, ru, ad] ls xr ∧ xr.length = ls.length ∧ DpAll K G xd (bs.map b3) ∧ LsOk ns.length ls ∧ ls.length = i ∧ bs.length ≤ i ∧ LsB ns ls ∧ ∀ t, t ∈ bs → smS (b3 t) = true)
      ⟨_, _, _, _, _, [], [], [], [], [], rfl, (sA.trans sR).trans sB, (upd_ne ne3).trans ((upd_ne ne1).trans upd_same), (upd_ne ne2).trans upd_same, upd_same, .nil, RsOk.nil _ _ _, rfl, .nil, LsOk.nil _, rfl, Nat.le_refl _, fun _ h => (List.not_mem_nil h).elim, fun _ h => (List.not_mem_nil h).elim⟩ (fun i σ G hi hP => ?_) (fun σ G hP => ?_)
    · obtain ⟨y6, y7, y8, y9, y10, xl, xr, xd, ls, bs, rfl, sG, el, er, ed, dl, rs, hxr, dd, lok, hls, hbs, hnew, hsm⟩ := hP
      have hxl : xl.length = ls.length := by rw [dpa_len dl, List.length_map]
      have hxd : xd.length = bs.length := by rw [dpa_len dd, List.length_map]
      refine ⟨_, rfl, _, rfl, _, _, rfl, rfl, by show (12 : Nat) ≤ sizeLine; decide, fun z nz => ?_⟩
      generalize hg : upd G z _ = G1
      obtain ⟨s1, e1⟩ := new_of nz hg
      refine ⟨a, z, sc, [3, 7, 40, 40, 3, 10, 10, 10, 3, 10, 40, 10], _, rfl, (sG.trans s1).seq ha, by omega, by omega, SqL.of e1, by decide, by decide, fun D dr G2 hdl hb2 s2 nD eD => ?_⟩
      have hdl : dr.length = 12 := hdl
      have sH := (sG.trans s1).trans s2
      have sg := s1.trans s2
      have el2 := sg _ _ el
      have er2 := sg _ _ er
      have ed2 := sg _ _ ed
      have dl2 := dpa_same sg _ _ dl
      have rs2 := rs.same sg
      have dd2 := dpa_same sg _ _ dd
      have bS := sH.seq hb
      have nwr : ∀ xs : List V, True := fun _ => trivial
      refine ⟨_, rfl, _, _, rfl, rfl, _, rfl, ite2 (fun e0 => ⟨_, rfl, D, _, _, _, rfl, rfl, SqL.of eD, ints_at (j := 0) (by omega), _, _, rfl, rfl, _, rfl, ite2 (fun e1 => ?wr) (fun e1 => ?nw)⟩) (fun e0 => ?nw2)⟩
      case wr =>
        have e0 := of_decide_eq_true e0
        obtain ⟨p2, p3⟩ := hb2 9 dr[9] 10 (List.getElem?_eq_getElem (by omega)) rfl
        obtain ⟨p4, p5⟩ := hb2 11 dr[11] 10 (List.getElem?_eq_getElem (by omega)) rfl
        refine ⟨_, rfl, D, _, _, _, rfl, rfl, SqL.of eD, ints_at (j := 2) (by omega), _, rfl, _, rfl, D, _, _, _, rfl, rfl, SqL.of eD, ints_at (j := 9) (by omega), _, _, rfl, rfl, b, dr[2], _, ns, rfl, bS, hnl, fun t f H3 s3 et fo hw => ?_⟩
        refine ⟨_, rfl, .inl ⟨rfl, _, SqL.of (s3 _ _ el2)⟩, ?_⟩
        have eD3 := s3 _ _ eD
        refine ⟨_, rfl, D, _, _, _, rfl, rfl, SqL.of eD3, ints_at (j := 1) (by omega), .inl ⟨_, rfl, _, rfl, _, _, rfl, rfl, e0, ?_⟩⟩
        have m0 : 0 ≤ dr[1] % (0 + (i : Nat) : Int) := Int.emod_nonneg _ (by omega)
        have m1 : dr[1] % (0 + (i : Nat) : Int) < (0 + (i : Nat) : Int) := Int.emod_lt_of_pos _ e0
        dsimp -proj only
        generalize dr[1] % (0 + (i : Nat) : Int) = o at m0 m1
        obtain ⟨o, rfl⟩ : ∃ j : Nat, o = j := ⟨o.toNat, by omega⟩
        refine ⟨_, rfl, ?_⟩
        refine ⟨_, rfl, D, _, _, _, rfl, rfl, SqL.of eD3, ints_at (j := 3) (by omega), _, rfl, _, rfl, D, _, _, _, rfl, rfl, SqL.of eD3, ints_at (j := 11) (by omega), _, _, rfl, rfl, b, dr[3], _, ns, rfl, s3.seq bS, hnl, fun t' g H3' s3' et' go hw' => ?_⟩
        refine ⟨by show (4 : Nat) ≤ sizeLine; decide, fun p np => ?_⟩
        generalize hg : upd H3' p _ = H4
        obtain ⟨s4, e4⟩ := new_of np hg
        have s34 := (s3.trans s3').trans s4
        have el4 := s34 _ _ el2
        refine ⟨al, _, _, rfl, rfl, el4, by rw [hxl]; exact small_sz (by omega), ?_⟩
        have tf : Dp K H4 (.ref t) (f2 f) := .tup (SqT.of ((s3'.trans s4) _ _ et)) (.cons (.int _) (.cons (.int _) .nil))
        have tg : Dp K H4 (.ref t') (f2 g) := .tup (SqT.of (s4 _ _ et')) (.cons (.int _) (.cons (.int _) .nil))
        have tn : Dp K H4 (.ref p) (Ld.wr o f g).enc := .tup (SqT.of e4) (.cons (.str _) (.cons (.int _) (.cons tf (.cons tg .nil))))
        have dl4 := dpa_snoc (dpa_same s34 _ _ dl2) tn
        rw [← List.map_singleton (f := Ld.enc), ← List.map_append] at dl4
        have nl : noLs ((ls ++ [Ld.wr o f g]).map Ld.enc) = true := noLs_ld _
        have b5 := but_upd (H := H4) (p := al) (o := .lst (xl ++ [.ref p]))
        have s5 : Same H (upd H4 al (.lst (xl ++ [.ref p]))) := same_mut (sH.trans s34) nal
        have r5 := (rs2.same s34).but el4 b5 (List.mem_cons_self)
        have dl5 := dpa_but el4 b5 _ _ nl dl4
        have dd5 := dpa_but el4 b5 _ _ (noLs_b3 _) (dpa_same s34 _ _ dd2)
        have er5 := b5 _ _ ne1.symm (s34 _ _ er2)
        have ed5 := b5 _ _ ne3.symm (s34 _ _ ed2)
        have el5 : (upd H4 al (.lst (xl ++ [.ref p]))) al = some (.lst (xl ++ [.ref p])) := upd_same
        generalize upd H4 al (.lst (xl ++ [.ref p])) = H5 at s5 r5 dl5 dd5 er5 ed5 el5
        refine ⟨_, rfl, .inl ⟨rfl, _, SqL.of er5⟩, ru, _, _, rfl, rfl, er5, by rw [hxr]; exact small_sz (by omega), ?_⟩
        have b6 := but_upd (H := H5) (p := ru) (o := .lst (xr ++ [.non]))
        exact ⟨_, _, _, _, _, xl ++ [.ref p], xr ++ [.non], xd, ls ++ [Ld.wr o f g], bs, rfl, same_mut s5 nru', b6 _ _ ne1 el5, upd_same, b6 _ _ ne2.symm ed5, dpa_but er5 b6 _ _ nl dl5, (r5.but er5 b6 (List.mem_cons_of_mem _ List.mem_cons_self)).old hxr, by rw [List.length_append, List.length_append, hxr]; rfl, dpa_but er5 b6 _ _ (noLs_b3 _) dd5, lok.snoc ⟨by omega, fo, go⟩, by rw [List.length_append, hls]; rfl, Nat.le_succ_of_le hbs, hnew.snoc ⟨⟨by omega, by omega⟩, ⟨by omega, by omega⟩⟩, hsm⟩
      all_goals
        obtain ⟨p0, p1⟩ := hb2 1 dr[1] 7 (List.getElem?_eq_getElem (by omega)) rfl
        obtain ⟨p4, p5⟩ := hb2 5 dr[5] 10 (List.getElem?_eq_getElem (by omega)) rfl
        obtain ⟨p6, p7⟩ := hb2 6 dr[6] 10 (List.getElem?_eq_getElem (by omega)) rfl
        obtain ⟨p8, p9⟩ := hb2 7 dr[7] 10 (List.getElem?_eq_getElem (by omega)) rfl
        obtain ⟨pa, pb⟩ := hb2 8 dr[8] 3 (List.getElem?_eq_getElem (by omega)) rfl
        refine ⟨_, rfl, D, _, _, _, rfl, rfl, SqL.of eD, ints_at (j := 2) (by omega), _, rfl, _, rfl, D, _, _, _, rfl, rfl, SqL.of eD, ints_at (j := 1) (by omega), b, dr[2], _, ns, rfl, bS, hnl, fun t f H3 s3 et fo hw => ?_⟩
        refine ⟨_, rfl, .inl ⟨rfl, _, SqL.of (s3 _ _ el2)⟩, ?_⟩
        refine ⟨_, rfl, by show (2 : Nat) ≤ sizeLine; decide, fun p np => ?_⟩
        generalize hg : upd H3 p _ = H4
        obtain ⟨s4, e4⟩ := new_of np hg
        have s34 := s3.trans s4
        have el4 := s34 _ _ el2
        refine ⟨al, _, _, rfl, rfl, el4, by rw [hxl]; exact small_sz (by omega), ?_⟩
        have tf : Dp K H4 (.ref t) (f2 f) := .tup (SqT.of (s4 _ _ et)) (.cons (.int _) (.cons (.int _) .nil))
        have tn : Dp K H4 (.ref p) (Ld.new f).enc := .tup (SqT.of e4) (.cons (.str _) (.cons tf .nil))
        have dl4 := dpa_snoc (dpa_same s34 _ _ dl2) tn
        rw [← List.map_singleton (f := Ld.enc), ← List.map_append] at dl4
        have nl : noLs ((ls ++ [Ld.new f]).map Ld.enc) = true := noLs_ld _
        have b5 := but_upd (H := H4) (p := al) (o := .lst (xl ++ [.ref p]))
        have el5 : (upd H4 al (.lst (xl ++ [.ref p]))) al = some (.lst (xl ++ [.ref p])) := upd_same
        have s5 : Same H (upd H4 al (.lst (xl ++ [.ref p]))) := same_mut (sH.trans s34) nal
        generalize upd H4 al (.lst (xl ++ [.ref p])) = H5 at b5 el5 s5
        have ed5 := b5 _ _ ne3.symm (s34 _ _ ed2)
        have er5 := b5 _ _ ne1.symm (s34 _ _ er2)
        have r5 := (rs2.same s34).but el4 b5 (List.mem_cons_self)
        have dl5 := dpa_but el4 b5 _ _ nl dl4
        have dd5 := dpa_but el4 b5 _ _ (noLs_b3 _) (dpa_same s34 _ _ dd2)
        have tf5 := dp_but el4 b5 _ _ rfl tf
        have eD5 := b5 _ _ (fun e => by rw [e, s1 _ _ el] at nD; cases nD) (s34 _ _ eD)
        -- begin
        refine ⟨_, rfl, .inl ⟨rfl, _, SqL.of ed5⟩, ?_⟩
        refine ⟨by show (2 : Nat) ≤ sizeLine; decide, fun p6 np6 => ?_⟩
        generalize hg : upd H5 p6 _ = H6
        obtain ⟨s6, e6⟩ := new_of np6 hg
        refine ⟨_, rfl, _, _, (0, 0), f, rfl, .tup (SqT.of e6) (.cons (.int _) (.cons (.int _) .nil)), tf5.same s6, fun t7 H7 s7 e7 => ?_⟩
        have s67 := s6.trans s7
        have ed7 := s67 _ _ ed5
        refine ⟨ad, _, _, rfl, rfl, ed7, by rw [hxd]; exact small_sz (by omega), ?_⟩
        have b8 := but_upd (H := H7) (p := ad) (o := .lst (xd ++ [.ref t7]))
        have ed8 : (upd H7 ad (.lst (xd ++ [.ref t7]))) ad = some (.lst (xd ++ [.ref t7])) := upd_same
        have s8 : Same H (upd H7 ad (.lst (xd ++ [.ref t7]))) := same_mut (s5.trans s67) nad'
        generalize upd H7 ad (.lst (xd ++ [.ref t7])) = H8 at b8 ed8 s8
        have el8 := b8 _ _ ne3 (s67 _ _ el5)
        have er8 := b8 _ _ ne2 (s67 _ _ er5)
        have r8 := (r5.same s67).but ed7 b8 (List.mem_cons_of_mem _ (List.mem_cons_of_mem _ List.mem_cons_self))
        have dl8 := dpa_but ed7 b8 _ _ nl (dpa_same s67 _ _ dl5)
        have dd8 : DpAll K H8 (xd ++ [.ref t7]) ((bs ++ [(0, f.1, f.2 - 0)]).map b3) := by
          rw [List.map_append]
          exact dpa_but ed7 b8 _ _ (by rw [← List.map_append]; exact noLs_b3 _) (dpa_snoc (dpa_same s67 _ _ dd5) (.tup (SqT.of e7) (.cons (.int _) (.cons (.int _) (.cons (.int _) .nil)))))
        have eD8 := b8 _ _ (fun e => by rw [e, s1 _ _ ed] at nD; cases nD) (s67 _ _ eD5)
        have at8 : ∀ j (h : j < 12), SqL K H8 D (dr.map V.int) ∧ atI (dr.map V.int) (j : Nat) = some (.int (dr[j]'(by omega))) := fun j h => ⟨SqL.of eD8, ints_at (by omega)⟩
        -- table
        refine ⟨_, rfl, D, _, _, _, rfl, rfl, SqL.of eD8, ints_at (j := 5) (by omega), _, _, rfl, rfl, _, rfl, D, _, _, _, rfl, rfl, SqL.of eD8, ints_at (j := 6) (by omega), _, _, rfl, rfl, ⟨by decide, by decide⟩, _, rfl, D, _, _, _, rfl, rfl, SqL.of eD8, ints_at (j := 7) (by omega), _, _, rfl, rfl, by show 3 ≤ sizeLine; decide, fun tb ntb => ?_⟩
        have s9 := same_new (o := .lst [.int (dr[5] - 4), .int (dr[6] / 3), .int (dr[7] - 4)]) ntb
        generalize hg : upd H8 tb _ = H9 at s9
        have etb : H9 tb = some (.lst [.int (dr[5] - 4), .int (dr[6] / 3), .int (dr[7] - 4)]) := hg ▸ upd_same
        have er9 := s9 _ _ er8
        refine ⟨_, rfl, .inl ⟨rfl, _, SqL.of er9⟩, ?_⟩
        refine ⟨_, rfl, D, _, _, _, rfl, rfl, SqL.of (s9 _ _ eD8), ints_at (j := 4) (by omega), _, rfl, _, rfl, D, _, _, _, rfl, rfl, SqL.of (s9 _ _ eD8), ints_at (j := 8) (by omega), by show 3 ≤ sizeLine; decide, fun rp nrp => ?_⟩
        have s10 := same_new (o := .tup [.int dr[4], .ref tb, .int dr[8]]) nrp
        generalize hg : upd H9 rp _ = H10 at s10
        have erp : H10 rp = some (.tup [.int dr[4], .ref tb, .int dr[8]]) := hg ▸ upd_same
        have er10 := s10 _ _ er9
        refine ⟨ru, _, _, rfl, rfl, er10, by rw [hxr]; exact small_sz (by omega), ?_⟩
        have b11 := but_upd (H := H10) (p := ru) (o := .lst (xr ++ [.ref rp]))
        have hbad : tb ∉ ([al, ru, ad] : List Addr) := by
          intro h
          simp only [List.mem_cons, List.not_mem_nil, or_false] at h
          rcases h with rfl | rfl | rfl
          · rw [el8] at ntb; cases ntb
          · rw [er8] at ntb; cases ntb
          · rw [ed8] at ntb; cases ntb
        have tbr : tb ≠ ru := fun h => hbad (h ▸ List.mem_cons_of_mem _ List.mem_cons_self)
        have ruat : RuAt K (upd H10 ru (.lst (xr ++ [.ref rp]))) (.ref rp) ⟨dr[4], tb, [dr[5] - 4, dr[6] / 3, dr[7] - 4], dr[8]⟩ := ⟨rp, rfl, sqt_but er10 b11 (SqT.of erp), b11 _ _ tbr (s10 _ _ etb)⟩
        have rok : Ru.ok ⟨dr[4], tb, [dr[5] - 4, dr[6] / 3, dr[7] - 4], dr[8]⟩ := ⟨rfl, fun z hz => by
          simp only [List.mem_cons, List.not_mem_nil, or_false] at hz
          rcases hz with rfl | rfl | rfl <;> omega, pa, by show dr[8] ≤ 10; omega⟩
        have s910 := s9.trans s10
        refine ⟨_, _, _, _, _, xl ++ [.ref p], xr ++ [.ref rp], xd ++ [.ref t7], ls ++ [Ld.new f], bs ++ [(0, f.1, f.2 - 0)], rfl, same_mut (s8.trans s910) nru', b11 _ _ ne1 (s910 _ _ el8), upd_same, b11 _ _ ne2.symm (s910 _ _ ed8), dpa_but er10 b11 _ _ nl (dpa_same s910 _ _ dl8), ((r8.same s910).but er10 b11 (List.mem_cons_of_mem _ List.mem_cons_self)).new hxr ruat rok hbad, by rw [List.length_append, List.length_append, hxr]; rfl, dpa_but er10 b11 _ _ (noLs_b3 _) (dpa_same s910 _ _ dd8), lok.snoc fo, by rw [List.length_append, hls]; rfl, by rw [List.length_append]; exact Nat.succ_le_succ hbs, hnew.snoc ⟨by omega, by omega⟩, fun c hc => ?_⟩
        rcases List.mem_append.mp hc with hc | hc
        · exact hsm c hc
        · rw [List.mem_singleton.mp hc]
          have := f_small hnl hvs fo ⟨by omega, by omega⟩
          show (decide ((0 : Int).natAbs < 10 ^ 60) && (decide (f.1.natAbs < 10 ^ 60) && (decide ((f.2 - 0).natAbs < 10 ^ 60) && true))) = true
          rw [decide_eq_true this.1, Int.sub_zero, decide_eq_true this.2]
          rfl
    · obtain ⟨y6, y7, y8, y9, y10, xl, xr, xd, ls, bs, rfl, sG, el, er, ed, dl, rs, hxr, dd, lok, hls, hbs, hnew, hsm⟩ := hP
      refine ⟨_, rfl, _, rfl, _, rfl, by show (3 : Nat) ≤ sizeLine; decide, fun t nt => ?_⟩
      have s1 := same_new (o := .tup [.ref al, .ref ru, .ref ad]) nt
      exact q t al ru ad xl xr xd ls bs _ (sG.trans s1) upd_same (s1 _ _ el) (s1 _ _ er) (s1 _ _ ed) ne3 ne2 ne1 nad' (dpa_same s1 _ _ dl) (rs.same s1) (dpa_same s1 _ _ dd) lok (by omega) (by omega) hnew hsm
end
end SW

namespace SW
open PySem PySem.Spec PyProof.Rows L2
abbrev s_l_world : Stmt := topS 47
theorem sc_l_world : FnScope ["script", "most", "taken", "shape", "values", "draw", "k", "lists", "rules", "differences", "known", "world", "cells", "number", "index", "value", "cell", "more", "u", "v", "fresh"] ["script", "most", "taken"] (defScope s_l_world) := ⟨rfl, rfl, rfl, by decide +kernel, rfl, by decide +kernel, by decide +kernel⟩

theorem RsOk.fresh {K : PySem.W.Frag} {H : Hp} {bad : List Addr} {ls : List Ld} {xr : List V} {c : Addr} (h : RsOk K H bad ls xr) (n : H c = none) : RsOk K H (c :: bad) ls xr := fun j f e => by
  obtain ⟨v, r, h1, h2, h3, h4⟩ := h j f e
  refine ⟨v, r, h1, h2, h3, fun hm => ?_⟩
  rcases List.mem_cons.mp hm with hm | hm
  · obtain ⟨p, _, _, h5⟩ := h2
    rw [hm, n] at h5
    cases h5
  · exact h4 hm
theorem key_eqv (n m : Nat) (f g : Fm) : PyData.eqv (.tuple [.int n, f2 f]) (.tuple [.int m, f2 g]) = true ↔ (n, f) = (m, g) := by
  obtain ⟨f1, f2'⟩ := f
  obtain ⟨g1, g2'⟩ := g
  simp only [PyData.eqv, PyData.eqvAll, f2, Bool.and_true, Bool.and_eq_true, beq_iff_eq, Prod.mk.injEq]
  constructor
  · rintro ⟨h1, h2, h3⟩
    exact ⟨by omega, h2, h3⟩
  · rintro ⟨h1, h2, h3⟩
    exact ⟨by omega, h2, h3⟩
theorem Same.butNew {H X Y : Hp} {c : Addr} (s : Same H X) (b : But c X Y) (n : H c = none) : Same H Y := fun a o e => b a o (ne_of_none e n) (s a o e)
theorem RsOk.sub {K : PySem.W.Frag} {H : Hp} {bad bad' : List Addr} {ls : List Ld} {xr : List V} (h : RsOk K H bad ls xr) (s : ∀ c, c ∈ bad' → c ∈ bad) : RsOk K H bad' ls xr := fun j f e => by
  obtain ⟨v, r, h1, h2, h3, h4⟩ := h j f e
  exact ⟨v, r, h1, h2, h3, fun hm => h4 (s _ hm)⟩
/-- one choice of what stands at the new lists -/
def RsE (K : PySem.W.Frag) (H : Hp) (bad : List Addr) (rf : Nat → Ru) (ls : List Ld) (xr : List V) : Prop := ∀ (j : Nat) (f : Fm), ls[j]? = some (Ld.new f) → ∃ v, xr[j]? = some v ∧ RuAt K H v (rf j) ∧ (rf j).ok ∧ (rf j).q ∉ bad
theorem RsOk.pick {K : PySem.W.Frag} {H : Hp} {bad : List Addr} {ls : List Ld} {xr : List V} (h : RsOk K H bad ls xr) : ∃ rf, RsE K H bad rf ls xr := by
  have all : ∀ j : Nat, ∃ r : Ru, ∀ f, ls[j]? = some (Ld.new f) → ∃ v, xr[j]? = some v ∧ RuAt K H v r ∧ r.ok ∧ r.q ∉ bad := fun j => by
    by_cases e : ∃ f, ls[j]? = some (Ld.new f)
    · obtain ⟨f, e⟩ := e
      obtain ⟨v, r, h1⟩ := h j f e
      exact ⟨r, fun g e2 => ⟨v, h1⟩⟩
    · exact ⟨⟨0, 0, [], 0⟩, fun f e2 => absurd ⟨f, e2⟩ e⟩
  exact ⟨fun j => Classical.choose (all j), fun j f e => Classical.choose_spec (all j) f e⟩
theorem RsE.same {K : PySem.W.Frag} {H H' : Hp} {bad : List Addr} {rf : Nat → Ru} {ls : List Ld} {xr : List V} (h : RsE K H bad rf ls xr) (s : Same H H') : RsE K H' bad rf ls xr := fun j f e => by
  obtain ⟨v, h1, h2, h3⟩ := h j f e
  exact ⟨v, h1, h2.same s, h3⟩
theorem RsE.but {K : PySem.W.Frag} {H H' : Hp} {bad : List Addr} {rf : Nat → Ru} {ls : List Ld} {xr : List V} {c : Addr} {ys : List V} (h : RsE K H bad rf ls xr) (hl : H c = some (.lst ys)) (b : But c H H') (hc : c ∈ bad) : RsE K H' bad rf ls xr := fun j f e => by
  obtain ⟨v, h1, h2, h3, h4⟩ := h j f e
  exact ⟨v, h1, h2.but hl b (fun q => h4 (q ▸ hc)), h3, h4⟩
/-- the world, while differences, cells and promises grow -/
structure Wx (K : PySem.W.Frag) (H : Hp) (a : Wa) (m : Int) (ls : List Ld) (ns : List Int) : Prop where
  w : SqT K H a.wt [.ref a.kp, .ref a.b, .ref a.ru]
  k : H a.kp = some (.lst [.int m, .ref a.ad, .ref a.al, .ref a.ac, .ref a.tk])
  l : ∃ xl, H a.al = some (.lst xl) ∧ DpAll K H xl (ls.map Ld.enc)
  b : H a.b = some (.lst (ns.map V.int))
  r : ∃ xr, H a.ru = some (.lst xr) ∧ RsE K H [a.ad, a.ac, a.tk] a.rf ls xr
  n : ∀ c, c ∈ ([a.ad, a.ac, a.tk] : List Addr) → a.kp ≠ c ∧ a.al ≠ c ∧ a.b ≠ c ∧ a.ru ≠ c
theorem Wx.wd {K : PySem.W.Frag} {H : Hp} {a : Wa} {m : Int} {ls : List Ld} {ns : List Int} (h : Wx K H a m ls ns) : Wd K H a m ls ns := by
  obtain ⟨xr, r1, r2⟩ := h.r
  exact ⟨h.w, h.k, h.l, SqL.of h.b, xr, r1, fun j f e => by
    obtain ⟨v, q1, q2, q3, _⟩ := r2 j f e
    exact ⟨v, q1, q2, q3⟩⟩
theorem Wx.same {K : PySem.W.Frag} {H H' : Hp} {a : Wa} {m : Int} {ls : List Ld} {ns : List Int} (h : Wx K H a m ls ns) (s : Same H H') : Wx K H' a m ls ns := by
  obtain ⟨xl, l1, l2⟩ := h.l
  obtain ⟨xr, r1, r2⟩ := h.r
  exact ⟨sqt_same s h.w, s _ _ h.k, ⟨xl, s _ _ l1, dpa_same s _ _ l2⟩, s _ _ h.b, ⟨xr, s _ _ r1, r2.same s⟩, h.n⟩
theorem Wx.but {K : PySem.W.Frag} {H H' : Hp} {a : Wa} {m : Int} {ls : List Ld} {ns : List Int} {c : Addr} {ys : List V} (h : Wx K H a m ls ns) (hc : c ∈ ([a.ad, a.ac, a.tk] : List Addr)) (hl : H c = some (.lst ys)) (b : But c H H') : Wx K H' a m ls ns := by
  obtain ⟨xl, l1, l2⟩ := h.l
  obtain ⟨xr, r1, r2⟩ := h.r
  obtain ⟨n1, n2, n3, n4⟩ := h.n c hc
  exact ⟨sqt_but hl b h.w, b _ _ n1 h.k, ⟨xl, b _ _ n2 l1, dpa_but hl b _ _ (noLs_ld _) l2⟩, b _ _ n3 h.b, ⟨xr, b _ _ n4 r1, r2.but hl b hc⟩, h.n⟩
/-- what grows -/
structure Gr (K : PySem.W.Frag) (H : Hp) (a : Wa) (bs : List T3) (cs : List Ce) (ps : List Pr) : Prop where
  d : ∃ xd, H a.ad = some (.lst xd) ∧ DpAll K H xd (bs.map b3)
  c : ∃ xc, H a.ac = some (.lst xc) ∧ DpAll K H xc (cs.map Ce.enc)
  t : ∃ xt, H a.tk = some (.lst xt) ∧ DpAll K H xt (ps.map Pr.enc)
theorem Gr.same {K : PySem.W.Frag} {H H' : Hp} {a : Wa} {bs : List T3} {cs : List Ce} {ps : List Pr} (h : Gr K H a bs cs ps) (s : Same H H') : Gr K H' a bs cs ps := by
  obtain ⟨xd, d1, d2⟩ := h.d
  obtain ⟨xc, c1, c2⟩ := h.c
  obtain ⟨xt, t1, t2⟩ := h.t
  exact ⟨⟨xd, s _ _ d1, dpa_same s _ _ d2⟩, ⟨xc, s _ _ c1, dpa_same s _ _ c2⟩, ⟨xt, s _ _ t1, dpa_same s _ _ t2⟩⟩
/-- cells: forms with small worths, keys apart -/
def CsW (nl : Nat) (ns : List Int) (th : Nat → Int → Int) (cs : List Ce) : Prop := (∀ c, c ∈ cs → c.n < nl ∧ (fok ns.length c.i ∧ Wb ns c.i) ∧ fok ns.length c.v ∧ -20000 ≤ wo ns c.v ∧ wo ns c.v ≤ 20000 ∧ wo ns c.v = th c.n (wo ns c.i)) ∧ (cs.map fun c => (c.n, c.i)).Nodup
def BsW (nv : Nat) (bs : List T3) : Prop := ∀ t, t ∈ bs → smS (b3 t) = true
section
variable {P : Program} {w : World} {K : PySem.W.Frag} {mg : PySem.Str → Option Value} {base : Heap} {C : Addr}
def spWorld (K : PySem.W.Frag) : Sp := fun vs H Q _ => ∃ (sc : Addr) (ss : List Int), vs = [.ref sc, .int 5, .int 6] ∧ SqL K H sc (ss.map V.int) ∧
  ∀ (r : Addr) (a : Wa) (af : Addr) (ns : List Int) (ls : List Ld) (bs : List T3) (cs : List Ce) (ps : List Pr) (fs : List Fm) (xf : List V) (H' : Hp), Same H H' → H' r = some (.tup [.ref a.wt, .ref af]) → Wx K H' a (ns.length : Nat) ls ns → Gr K H' a bs cs ps → a.ad ≠ a.ac → a.ad ≠ a.tk → a.ac ≠ a.tk → H' af = some (.lst xf) → DpAll K H' xf (fs.map f2) → (∀ c, c ∈ ([a.kp, a.ad, a.ac, a.tk, af] : List Addr) → H c = none) → (∀ c, c ∈ ([a.kp, a.ad, a.al, a.ac, a.tk] : List Addr) → c ≠ af) →
    LsOk ns.length ls → LsB ns ls → 0 < ls.length → ls.length ≤ 10 → ns.length ≤ 10 → VsB ns → CsW ls.length ns (TH ls a.rf ns) cs → cs.length ≤ 10 → BsW 0 bs → bs.length ≤ 20 → (∀ p, p ∈ ps → p.ok ls.length ns ∧ p.fin ns ∧ PrT ls a.rf ns p) → ps.length ≤ 10 → (∀ f, f ∈ fs → fok ns.length f ∧ Wb ns f) → fs.length ≤ 10 → Q (.ref r) H'
theorem ok_l_world (T : TxB mg) (D_l_world : Df K mg "_law_world" s_l_world ["script", "most", "taken"]) (D_l_draws : Df K mg "_law_draws" s_l_draws ["script", "place", "sizes"]) (D_l_small : Df K mg "_law_small" s_l_small ["draw"]) (D_l_lists : Df K mg "_law_lists" s_l_lists ["script", "count", "values"]) (D_l_form_for : Df K mg "_law_form_for" s_l_form_for ["draw", "values", "target"]) (D_l_there : Df K mg "_law_there" s_l_there ["world", "number", "k"]) (D_l_of : Df K mg "_law_of" s_l_of ["form", "values"]) (D_l_promise : Df K mg "_law_promise" s_l_promise ["script", "place", "world"]) (G_l_draws : FnOk P w K mg base CX0 2 D_l_draws.f D_l_draws.fd ["script", "place", "sizes"] (spDr K)) (G_l_small : FnOk P w K mg base CX0 1 D_l_small.f D_l_small.fd ["draw"] spSmall) (G_l_lists : FnOk P w K mg base CX0 3 D_l_lists.f D_l_lists.fd ["script", "count", "values"] (spLists K)) (G_l_form_for : FnOk P w K mg base CX0 1 D_l_form_for.f D_l_form_for.fd ["draw", "values", "target"] (spFormFor K)) (G_l_there : FnOk P w K mg base CX0 2 D_l_there.f D_l_there.fd ["world", "number", "k"] (spThere K)) (G_l_of : FnOk P w K mg base CX0 1 D_l_of.f D_l_of.fd ["form", "values"] (spLOf K)) (G_l_promise : FnOk P w K mg base CX0 4 D_l_promise.f D_l_promise.fd ["script", "place", "world"] (spPromise K)) : FnOk P w K mg base CX0 5 D_l_world.f D_l_world.fd ["script", "most", "taken"] (spWorld K) := by
  refine D_l_world.F.ok sc_l_world (fun vs H Q E h => ?_) (fun cdv A outer s H vs Q E hr h => ?_)
  · obtain ⟨sc, ss, rfl, _⟩ := h
    rfl
  · obtain ⟨sc, ss, rfl, hS, q⟩ := h
    refine ⟨_, (pss_cons (ps_set (i := 3) sc_l_world.nd rfl (.inl rfl) (pe_call G_l_draws (hr.mono (by decide)) (by rfl) D_l_draws.g D_l_draws.F.kp D_l_draws.b .nil pass0 (pa_cons (pv 0) (pa_cons pe_int (pa_cons (pe_lst (pa_cons pe_int (pa_cons pe_int (pa_cons (pe_op op_add (pv 1) pe_int) (pa_cons pe_int (pa_cons (pe_op op_add (pv 2) pe_int) (pa_cons pe_int pa_nil))))))) pa_nil)))))
    (pss_cons (ps_set (i := 4) sc_l_world.nd rfl (.inr rfl) (pe_lc (own := [("draw", 5)]) (g := gName 5) (by rfl) sc_l_world.nd (pi_list (pe_call G_l_draws (hr.mono (by decide)) (by rfl) D_l_draws.g D_l_draws.F.kp D_l_draws.b .nil pass0 (pa_cons (pv 0) (pa_cons pe_int (pa_cons (pe_lc (own := [("k", 6)]) (g := gName 6) (by rfl) sc_l_world.nd (pi_range1 (by rfl) T.n_range (pa_cons (pe_op op_add pe_int (pe_ix ix_list (pv 3) pe_int (fun _ _ => rfl))) pa_nil)) (blkOk_by (own := [("k", 6)]) (N := ["script", "most", "taken", "shape", "values", "draw", "k", "lists", "rules", "differences", "known", "world", "cells", "number", "index", "value", "cell", "more", "u", "v", "fresh"]) (sc := defScope s_l_world) (by decide +kernel)) (fun _ _ _ _ _ => pg_name (i := 6) sc_l_world.nd rfl (Or.inl rfl)) (fun _ _ _ _ _ => pts_nil) (fun _ _ _ _ _ => (pe_op op_pow pe_int pe_int))) pa_nil))))) (blkOk_by (own := [("draw", 5)]) (N := ["script", "most", "taken", "shape", "values", "draw", "k", "lists", "rules", "differences", "known", "world", "cells", "number", "index", "value", "cell", "more", "u", "v", "fresh"]) (sc := defScope s_l_world) (by decide +kernel)) (fun _ _ _ _ _ => pg_name (i := 5) sc_l_world.nd rfl (Or.inl rfl)) (fun _ _ _ _ _ => pts_nil) (fun _ _ _ _ _ => (pe_call G_l_small (hr.mono (by decide)) (by rfl) D_l_small.g D_l_small.F.kp D_l_small.b .nil pass0 (pa_cons (pv 5) pa_nil)))))
    (pss_cons (ps_asg (pe_call G_l_lists (hr.mono (by decide)) (by rfl) D_l_lists.g D_l_lists.F.kp D_l_lists.b .nil pass0 (pa_cons (pv 0) (pa_cons (pe_op op_add pe_int (pe_ix ix_list (pv 3) pe_int (fun _ _ => rfl))) (pa_cons (pv 4) pa_nil)))) (pg_tup (by rfl) (pgs_cons (pg_name (i := 7) sc_l_world.nd rfl (.inl rfl)) (pgs_cons (pg_name (i := 8) sc_l_world.nd rfl (.inl rfl)) (pgs_cons (pg_name (i := 9) sc_l_world.nd rfl (.inl rfl)) pgs_nil)))))
    (pss_cons (ps_set (i := 10) sc_l_world.nd rfl (.inl rfl) (pe_lst (pa_cons (pe_callB call_len_seq (by rfl) T.n_len PySem.boot_len (pa_cons (pv 4) pa_nil)) (pa_cons (pv 9) (pa_cons (pv 7) (pa_cons (pe_lst pa_nil) (pa_cons (pe_lst pa_nil) pa_nil)))))))
    (pss_cons (ps_set (i := 11) sc_l_world.nd rfl (.inl rfl) (pe_tup (pa_cons (pv 10) (pa_cons (pv 4) (pa_cons (pv 8) pa_nil)))))
    (pss_cons (ps_set (i := 12) sc_l_world.nd rfl (.inl rfl) (pe_call G_l_draws (hr.mono (by decide)) (by rfl) D_l_draws.g D_l_draws.F.kp D_l_draws.b .nil pass0 (pa_cons (pv 0) (pa_cons pe_int (pa_cons (pe_lc (own := [("k", 6)]) (g := gName 6) (by rfl) sc_l_world.nd (pi_range1 (by rfl) T.n_range (pa_cons (pe_op op_mul pe_int (pv 1)) pa_nil)) (blkOk_by (own := [("k", 6)]) (N := ["script", "most", "taken", "shape", "values", "draw", "k", "lists", "rules", "differences", "known", "world", "cells", "number", "index", "value", "cell", "more", "u", "v", "fresh"]) (sc := defScope s_l_world) (by decide +kernel)) (fun _ _ _ _ _ => pg_name (i := 6) sc_l_world.nd rfl (Or.inl rfl)) (fun _ _ _ _ _ => pts_nil) (fun _ _ _ _ _ => pe_int)) pa_nil)))))
    (pss_cons (ps_for PassesOwn.never rfl (pi_range1 (by rfl) T.n_range (pa_cons (pe_ix ix_list (pv 3) pe_int (fun _ _ => rfl)) pa_nil)) (pg_name (i := 6) sc_l_world.nd rfl (.inl rfl))
    (pss_cons (ps_set (i := 13) sc_l_world.nd rfl (.inr rfl) (pe_op op_mod (pe_callTy call_int1 (by rfl) T.n_int (by decide +kernel) (pa_cons (pe_ix ix_list (pv 12) (pe_op op_mul pe_int (pv 6)) (fun _ _ => rfl)) pa_nil)) (pe_callB call_len_seq (by rfl) T.n_len PySem.boot_len (pa_cons (pv 7) pa_nil))))
    (pss_cons (ps_set (i := 14) sc_l_world.nd rfl (.inr rfl) (pe_call G_l_form_for (hr.mono (by decide)) (by rfl) D_l_form_for.g D_l_form_for.F.kp D_l_form_for.b .nil pass0 (pa_cons (pe_ix ix_list (pv 12) (pe_op op_add (pe_op op_mul pe_int (pv 6)) pe_int) (fun _ _ => rfl)) (pa_cons (pv 4) (pa_cons (pe_op op_sub (pe_op op_mod (pe_callTy call_int1 (by rfl) T.n_int (by decide +kernel) (pa_cons (pe_ix ix_list (pv 12) (pe_op op_add (pe_op op_mul pe_int (pv 6)) pe_int) (fun _ _ => rfl)) pa_nil)) pe_int) pe_int) pa_nil)))))
    (pss_cons (ps_set (i := 15) sc_l_world.nd rfl (.inl rfl) (pe_call G_l_form_for (hr.mono (by decide)) (by rfl) D_l_form_for.g D_l_form_for.F.kp D_l_form_for.b .nil pass0 (pa_cons (pe_ix ix_list (pv 12) (pe_op op_add (pe_op op_mul pe_int (pv 6)) pe_int) (fun _ _ => rfl)) (pa_cons (pv 4) (pa_cons (pe_call G_l_there (hr.mono (by decide)) (by rfl) D_l_there.g D_l_there.F.kp D_l_there.b .nil pass0 (pa_cons (pv 11) (pa_cons (pv 13) (pa_cons (pe_call G_l_of (hr.mono (by decide)) (by rfl) D_l_of.g D_l_of.F.kp D_l_of.b .nil pass0 (pa_cons (pv 14) (pa_cons (pv 4) pa_nil))) pa_nil)))) pa_nil)))))
    (pss_one (ps_if (pt_cmpR op_eq (pe_callB call_len_seq (by rfl) T.n_len PySem.boot_len (pa_cons (pe_lc (own := [("cell", 16)]) (g := gName 16) (by rfl) sc_l_world.nd (pi_list (pe_ix ix_list (pv 10) pe_int (fun _ _ => rfl))) (blkOk_by (own := [("cell", 16)]) (N := ["script", "most", "taken", "shape", "values", "draw", "k", "lists", "rules", "differences", "known", "world", "cells", "number", "index", "value", "cell", "more", "u", "v", "fresh"]) (sc := defScope s_l_world) (by decide +kernel)) (fun _ _ _ _ _ => pg_name (i := 16) sc_l_world.nd rfl (Or.inl rfl)) (fun _ _ _ _ _ => pts_one (pt_cmpR (show OpR _ _ (rEqD K) from op_eqD hr.units) (pe_slice (show SlR _ (rSlT K) from sl_tup) (pv 16) po_none (po_some pe_int)) (pe_tup (pa_cons (pv 13) (pa_cons (pv 14) pa_nil))) (nomark _))) (fun _ _ _ _ _ => (pv 16))) pa_nil)) pe_int (nomark _))
    (pss_one (ps_expr (pe_bm PySem.F.plainAttrs_list PySem.F.slot_list_append PySem.F.type_list_append mt_append (pe_ix ix_list (pv 10) pe_int (fun _ _ => rfl)) (pa_cons (pe_tup (pa_cons (pv 13) (pa_cons (pv 14) (pa_cons (pv 15) pa_nil)))) pa_nil))))
    pss_nil))))))
    (pss_cons (ps_set (i := 17) sc_l_world.nd rfl (.inl rfl) (pe_call G_l_draws (hr.mono (by decide)) (by rfl) D_l_draws.g D_l_draws.F.kp D_l_draws.b .nil pass0 (pa_cons (pv 0) (pa_cons pe_int (pa_cons (pe_lc (own := [("k", 6)]) (g := gName 6) (by rfl) sc_l_world.nd (pi_range1 (by rfl) T.n_range (pa_cons (pe_op op_mul pe_int (pe_ix ix_list (pv 3) pe_int (fun _ _ => rfl))) pa_nil)) (blkOk_by (own := [("k", 6)]) (N := ["script", "most", "taken", "shape", "values", "draw", "k", "lists", "rules", "differences", "known", "world", "cells", "number", "index", "value", "cell", "more", "u", "v", "fresh"]) (sc := defScope s_l_world) (by decide +kernel)) (fun _ _ _ _ _ => pg_name (i := 6) sc_l_world.nd rfl (Or.inl rfl)) (fun _ _ _ _ _ => pts_nil) (fun _ _ _ _ _ => pe_int)) pa_nil)))))
    (pss_cons (ps_for PassesOwn.never rfl (pi_range1 (by rfl) T.n_range (pa_cons (pe_ix ix_list (pv 3) pe_int (fun _ _ => rfl)) pa_nil)) (pg_name (i := 6) sc_l_world.nd rfl (.inl rfl))
    (pss_cons (ps_set (i := 18) sc_l_world.nd rfl (.inl rfl) (pe_op op_mod (pe_callTy call_int1 (by rfl) T.n_int (by decide +kernel) (pa_cons (pe_ix ix_list (pv 17) (pe_op op_mul pe_int (pv 6)) (fun _ _ => rfl)) pa_nil)) (pe_op op_add (pe_callB call_len_seq (by rfl) T.n_len PySem.boot_len (pa_cons (pv 4) pa_nil)) pe_int)))
    (pss_cons (ps_set (i := 19) sc_l_world.nd rfl (.inl rfl) (pe_op op_mod (pe_callTy call_int1 (by rfl) T.n_int (by decide +kernel) (pa_cons (pe_ix ix_list (pv 17) (pe_op op_add (pe_op op_mul pe_int (pv 6)) pe_int) (fun _ _ => rfl)) pa_nil)) (pe_op op_add (pe_callB call_len_seq (by rfl) T.n_len PySem.boot_len (pa_cons (pv 4) pa_nil)) pe_int)))
    (pss_one (ps_expr (pe_bm PySem.F.plainAttrs_list PySem.F.slot_list_append PySem.F.type_list_append mt_append (pv 9) (pa_cons (pe_tup (pa_cons (pv 18) (pa_cons (pv 19) (pa_cons (pe_op op_add (pe_op op_sub (pe_call G_l_of (hr.mono (by decide)) (by rfl) D_l_of.g D_l_of.F.kp D_l_of.b .nil pass0 (pa_cons (pe_tup (pa_cons (pv 18) (pa_cons pe_int pa_nil))) (pa_cons (pv 4) pa_nil))) (pe_call G_l_of (hr.mono (by decide)) (by rfl) D_l_of.g D_l_of.F.kp D_l_of.b .nil pass0 (pa_cons (pe_tup (pa_cons (pv 19) (pa_cons pe_int pa_nil))) (pa_cons (pv 4) pa_nil)))) (pe_op op_mod (pe_callTy call_int1 (by rfl) T.n_int (by decide +kernel) (pa_cons (pe_ix ix_list (pv 17) (pe_op op_add (pe_op op_mul pe_int (pv 6)) pe_int) (fun _ _ => rfl)) pa_nil)) pe_int)) pa_nil)))) pa_nil)))))))
    (pss_cons (ps_for PassesOwn.never rfl (pi_range1 (by rfl) T.n_range (pa_cons (pe_ix ix_list (pv 3) pe_int (fun _ _ => rfl)) pa_nil)) (pg_name (i := 6) sc_l_world.nd rfl (.inl rfl))
    (pss_one (ps_expr (pe_bm PySem.F.plainAttrs_list PySem.F.slot_list_append PySem.F.type_list_append mt_append (pe_ix ix_list (pv 10) pe_int (fun _ _ => rfl)) (pa_cons (pe_call G_l_promise (hr.mono (by decide)) (by rfl) D_l_promise.g D_l_promise.F.kp D_l_promise.b .nil pass0 (pa_cons (pv 0) (pa_cons (pe_op op_add pe_int (pv 6)) (pa_cons (pv 11) pa_nil)))) pa_nil)))))
    (pss_cons (ps_setLc (i := 20) (own := [("draw", 5)]) (g := gName 5) (by rfl) sc_l_world.nd rfl rfl (sw_true rfl rfl rfl (by decide +kernel)) (pi_list (pe_slice sl_list (pe_call G_l_draws (hr.mono (by decide)) (by rfl) D_l_draws.g D_l_draws.F.kp D_l_draws.b .nil pass0 (pa_cons (pv 0) (pa_cons pe_int (pa_cons (pe_lst (pa_cons pe_int (pa_cons pe_int pa_nil))) pa_nil)))) po_none (po_some (pe_ix ix_list (pv 3) pe_int (fun _ _ => rfl))))) (blkOk_by (own := [("draw", 5)]) (N := ["script", "most", "taken", "shape", "values", "draw", "k", "lists", "rules", "differences", "known", "world", "cells", "number", "index", "value", "cell", "more", "u", "v", "fresh"]) (sc := defScope s_l_world) (by decide +kernel)) (fun _ _ _ _ _ => pg_name (i := 5) sc_l_world.nd rfl (Or.inl rfl)) (fun _ _ _ _ _ => pts_nil) (fun _ _ _ _ _ => (pe_call G_l_form_for (hr.mono (by decide)) (by rfl) D_l_form_for.g D_l_form_for.F.kp D_l_form_for.b .nil pass0 (pa_cons (pv 5) (pa_cons (pv 4) (pa_cons (pe_op op_sub (pe_op op_mod (pe_callTy call_int1 (by rfl) T.n_int (by decide +kernel) (pa_cons (pe_op op_fdiv (pv 5) pe_int) pa_nil)) pe_int) pe_int) pa_nil))))))
    (pss_one (ps_ret (pe_tup (pa_cons (pv 11) (pa_cons (pv 20) pa_nil)))))))))))))))), ?_⟩
    refine ⟨_, rfl, _, rfl, _, _, rfl, rfl, _, rfl, _, _, rfl, rfl, by show 6 ≤ sizeLine; decide, fun Z nZ => ?_⟩
    generalize hG1 : upd H Z _ = H1
    obtain ⟨s1, e1⟩ := new_of nZ hG1
    refine ⟨sc, Z, ss, [4, 3, 6, 5, 7, 3], 1, rfl, s1.seq hS, by decide, by decide, SqL.of e1, by decide, by decide, fun SH sh H2 hl hb s2 nSH eSH => ?_⟩
    have ssl : sh.length = 6 := hl
    obtain ⟨b00, b01⟩ := hb 0 sh[0] 4 (List.getElem?_eq_getElem (by omega)) rfl
    obtain ⟨b10, b11⟩ := hb 1 sh[1] 3 (List.getElem?_eq_getElem (by omega)) rfl
    obtain ⟨b20, b21⟩ := hb 2 sh[2] 6 (List.getElem?_eq_getElem (by omega)) rfl
    obtain ⟨b30, b31⟩ := hb 3 sh[3] 5 (List.getElem?_eq_getElem (by omega)) rfl
    obtain ⟨b40, b41⟩ := hb 4 sh[4] 7 (List.getElem?_eq_getElem (by omega)) rfl
    obtain ⟨b50, b51⟩ := hb 5 sh[5] 3 (List.getElem?_eq_getElem (by omega)) rfl
    obtain ⟨n0, hn0⟩ : ∃ n : Nat, (1 : Int) + sh[0] = (n : Nat) := ⟨(1 + sh[0]).toNat, by omega⟩
    obtain ⟨n1, hn1⟩ : ∃ n : Nat, (1 : Int) + sh[1] = (n : Nat) := ⟨(1 + sh[1]).toNat, by omega⟩
    have sA := s1.trans s2
    -- values
    refine ⟨_, rfl, _, rfl, SH, _, _, _, rfl, rfl, SqL.of eSH, ints_at (j := 0) (by omega), _, _, rfl, rfl, ?_⟩
    dsimp -proj only
    rw [hn0]
    refine ⟨n0, rfl, by omega, by omega, fun Z2 nZ2 => ?_⟩
    refine lc_vals (walk_range (lo := 0) (n := n0)) nZ2 (fun _ => .int (10 ^ 9)) (by omega) (fun _ _ => trivial) (fun i x H3 H3' Q' hi s3 y q' => ?_) (fun H3 s3 e3 => ?_)
    · obtain ⟨rfl, rfl⟩ := y
      exact ⟨rfl, _, _, rfl, rfl, ⟨by decide, by decide, by decide⟩, q' _ (Same.refl _)⟩
    generalize hss : ((List.range n0).map fun _ => (10 ^ 9 : Int)) = s2s
    have hsl : s2s.length = n0 := by rw [← hss, List.length_map, List.length_range]
    have e3 : H3 Z2 = some (.lst (s2s.map V.int)) := by
      rw [e3, ← hss, List.map_map]
      rfl
    refine ⟨sc, Z2, ss, s2s, 2, rfl, (sA.trans s3).seq hS, by decide, by decide, SqL.of e3, by omega, fun x hx => ?_, fun D2 dr H4 hdl hb2 s4 nD2 eD2 => ?_⟩
    · rw [← hss] at hx
      obtain ⟨_, _, rfl⟩ := List.mem_map.mp hx
      exact ⟨by decide, by decide⟩
    have sB := (sA.trans s3).trans s4
    refine ⟨D2, rfl, ⟨_, SqL.of eD2⟩, fun VL nVL => ?_⟩
    refine lc_list (K := K) (a := D2) (xs := dr.map V.int) (fun i G => Same H4 G ∧ ∃ vs : List Int, G VL = some (.lst (vs.map V.int)) ∧ vs.length = i ∧ VsB vs) ⟨same_new nVL, [], upd_same, rfl, fun x h => (List.not_mem_nil h).elim⟩ (fun i G _ h => h.1.seq (SqL.of eD2)) (fun k x G hx hP => ?_) (fun G hP => ?_)
    · obtain ⟨sG, vs, eV, hvl, hvs⟩ := hP
      have hk : k < dr.length := by
        have := (List.getElem?_eq_some_iff.mp hx).1
        rwa [List.length_map] at this
      rw [List.getElem?_map, List.getElem?_eq_getElem hk] at hx
      cases hx
      refine ⟨rfl, _, rfl, _, rfl, fun r r0 r1 => ⟨_, eV, by rw [List.length_map]; exact small_sz (by omega), same_mut sG nVL, vs ++ [r], by rw [upd_same, List.map_append]; rfl, by rw [List.length_append, hvl]; rfl, fun z hz => ?_⟩⟩
      rcases List.mem_append.mp hz with hz | hz
      · exact hvs z hz
      · rw [List.mem_singleton.mp hz]
        exact ⟨r0, r1⟩
    obtain ⟨s5, ns, eV, hvl, hvs⟩ := hP
    rw [List.length_map] at hvl
    have sC := sB.trans s5
    have hvl : ns.length = n0 := by omega
    have nVL' : H VL = none := sB.free nVL
    -- lists
    refine ⟨_, rfl, _, rfl, SH, _, _, _, rfl, rfl, SqL.of ((s3.trans (s4.trans s5)) _ _ eSH), ints_at (j := 1) (by omega), _, _, rfl, rfl, ?_⟩
    dsimp -proj only
    rw [hn1]
    refine ⟨_, rfl, sc, VL, n1, ss, ns, rfl, sC.seq hS, SqL.of eV, by omega, hvs, by omega, fun t al ru ad xl xr xd ls bs H6 s6 et el er ed ne1 ne2 ne3 nad dl rs dd lok hls hbs lsb hsm => ?_⟩
    refine ⟨t, _, rfl, SqT.of et, rfl, _, _, rfl, _, _, rfl, _, _, rfl, rfl, ?_⟩
    have sD := sC.trans s6
    have eV6 := s6 _ _ eV
    refine ⟨_, rfl, VL, _, rfl, .inl (SqL.of eV6), _, rfl, _, rfl, Nat.zero_le _, fun ac nac => ⟨Nat.zero_le _, fun tk ntk => ⟨by show 5 ≤ sizeLine; decide, fun kp nkp => ?_⟩⟩⟩
    rw [List.length_map]
    have s7 : Same H6 (upd (upd (upd H6 ac (.lst [])) tk (.lst [])) kp (.lst [.int (ns.length : Nat), .ref ad, .ref al, .ref ac, .ref tk])) := ((same_new nac).trans (same_new ntk)).trans (same_new nkp)
    have nct : ac ≠ tk := ne_of_none upd_same ntk
    have nck : ac ≠ kp := ne_of_none ((upd_ne nct).trans upd_same) nkp
    have ntk' : tk ≠ kp := ne_of_none upd_same nkp
    have eac : (upd (upd (upd H6 ac (.lst [])) tk (.lst [])) kp (.lst [.int (ns.length : Nat), .ref ad, .ref al, .ref ac, .ref tk])) ac = some (.lst []) := (upd_ne nck).trans ((upd_ne nct).trans upd_same)
    have etk : (upd (upd (upd H6 ac (.lst [])) tk (.lst [])) kp (.lst [.int (ns.length : Nat), .ref ad, .ref al, .ref ac, .ref tk])) tk = some (.lst []) := (upd_ne ntk').trans upd_same
    have ekp : (upd (upd (upd H6 ac (.lst [])) tk (.lst [])) kp (.lst [.int (ns.length : Nat), .ref ad, .ref al, .ref ac, .ref tk])) kp = some (.lst [.int (ns.length : Nat), .ref ad, .ref al, .ref ac, .ref tk]) := upd_same
    have ntk6 : H6 tk = none := (same_new nac).free ntk
    have nkp6 : H6 kp = none := ((same_new nac).trans (same_new ntk)).free nkp
    generalize upd (upd (upd H6 ac _) tk _) kp _ = H7 at s7 eac etk ekp
    refine ⟨_, rfl, _, rfl, _, rfl, by show 3 ≤ sizeLine; decide, fun wt nwt => ?_⟩
    generalize hG : upd H7 wt _ = H8
    obtain ⟨s8, ewt⟩ := new_of nwt hG
    have s68 := s7.trans s8
    obtain ⟨rf, hrf⟩ : ∃ rf, RsE K H8 [ad, ac, tk] rf ls xr := RsOk.pick ((((rs.fresh nac).fresh ntk6).same s68).sub fun c hc => by
        simp only [List.mem_cons, List.not_mem_nil, or_false] at hc ⊢
        rcases hc with rfl | rfl | rfl
        · exact .inr (.inr (.inr (.inr rfl)))
        · exact .inr (.inl rfl)
        · exact .inl rfl)
    let a : Wa := ⟨wt, kp, ad, al, ac, tk, VL, ru, rf⟩
    have neq : ∀ {x y : Addr} {o : HO}, H6 x = some o → H6 y = none → x ≠ y := fun h1 h2 => ne_of_none h1 h2
    have wx8 : Wx K H8 a (ns.length : Nat) ls ns := ⟨SqT.of ewt, s8 _ _ ekp, ⟨xl, s68 _ _ el, dpa_same s68 _ _ dl⟩, s68 _ _ eV6, ⟨xr, s68 _ _ er, hrf⟩, fun c hc => by
      simp only [a, List.mem_cons, List.not_mem_nil, or_false] at hc
      rcases hc with rfl | rfl | rfl
      · exact ⟨(neq ed nkp6).symm, ne1, ne_of_none eV nad, ne2⟩
      · exact ⟨nck.symm, neq el nac, neq eV6 nac, neq er nac⟩
      · exact ⟨ntk'.symm, neq el ntk6, neq eV6 ntk6, neq er ntk6⟩⟩
    have eSH8 : H8 SH = some (.lst (sh.map V.int)) := (((s3.trans (s4.trans s5)).trans s6).trans s68) _ _ eSH
    have sH8 : Same H H8 := sD.trans s68
    -- the drawn cells
    refine ⟨_, rfl, _, rfl, _, _, rfl, rfl, .inl ⟨by decide, by decide⟩, _, rfl, by decide, by decide, fun Z3 nZ3 => ?_⟩
    refine lc_vals (walk_range (lo := 0) (n := 20)) nZ3 (fun _ => .int 40) (by decide) (fun _ _ => trivial) (fun i x H9 H9' Q' hi s9 y q' => ?_) (fun H9 s9 e9 => ?_)
    · obtain ⟨rfl, rfl⟩ := y
      exact ⟨rfl, q' _ (Same.refl _)⟩
    generalize hss3 : ((List.range 20).map fun _ => (40 : Int)) = s3s
    have hsl3 : s3s.length = 20 := by rw [← hss3, List.length_map, List.length_range]
    have e9 : H9 Z3 = some (.lst (s3s.map V.int)) := by
      rw [e9, ← hss3, List.map_map]
      rfl
    refine ⟨sc, Z3, ss, s3s, 3, rfl, (sH8.trans s9).seq hS, by decide, by decide, SqL.of e9, by omega, fun x hx => ?_, fun D3 dc H10 hdl3 hb3 s10 nD3 eD3 => ?_⟩
    · rw [← hss3] at hx
      obtain ⟨_, _, rfl⟩ := List.mem_map.mp hx
      exact ⟨by decide, by decide⟩
    have s810 := s9.trans s10
    have wx10 := wx8.same s810
    have nDc : D3 ≠ ac := (ne_of_none ((s8.trans s9) _ _ eac) nD3).symm
    have nSc : SH ≠ ac := ne_of_none ((((s3.trans (s4.trans s5)).trans s6)) _ _ eSH) nac
    have gr10 : Gr K H10 a bs [] [] := Gr.same ⟨⟨xd, s68 _ _ ed, dpa_same s68 _ _ dd⟩, ⟨[], s8 _ _ eac, .nil⟩, ⟨[], s8 _ _ etk, .nil⟩⟩ s810
    refine ⟨_, rfl, SH, _, _, _, rfl, rfl, SqL.of (s810 _ _ eSH8), ints_at (j := 2) (by omega), _, rfl, by omega, by omega, ?_⟩
    refine for_range (lo := 0) (n := (sh[2]).toNat) (fun i σ G => But ac H10 G ∧ ∃ (y6 y13 y14 y15 : Option V) (cs : List Ce), σ = [some (.ref sc), some (.int 5), some (.int 6), some (.ref SH), some (.ref VL), none, y6, some (.ref al), some (.ref ru), some (.ref ad), some (.ref kp), some (.ref wt), some (.ref D3), y13, y14, y15, none, none, none, none, none] ∧ Wx K G a (ns.length : Nat) ls ns ∧ Gr K G a bs cs [] ∧ CsW ls.length ns (TH ls a.rf ns) cs ∧ cs.length ≤ i)
      ⟨But.refl _ _, _, _, _, _, [], rfl, wx10, gr10, ⟨fun _ h => (List.not_mem_nil h).elim, List.nodup_nil⟩, Nat.le_refl _⟩ (fun i σ G hi hP => ?_) (fun σ G hP => ?_)
    · obtain ⟨bG, y6, y13, y14, y15, cs, rfl, wx, gr, cw, hcl⟩ := hP
      have hi4 : i < 5 := by omega
      have eDG : G D3 = some (.lst (dc.map V.int)) := bG _ _ nDc eD3
      have hdc : dc.length = 20 := by omega
      have at_ : ∀ (z : Int) (j : Nat), z = (j : Nat) → j < 20 → ∃ d : Int, atI (dc.map V.int) z = some (.int d) := fun z j e h => by
        subst e
        exact ⟨_, ints_at (by omega)⟩
      obtain ⟨d0, a0⟩ := at_ (4 * (0 + (i : Nat))) (4 * i) (by omega) (by omega)
      obtain ⟨d1, a1⟩ := at_ (4 * (0 + (i : Nat)) + 1) (4 * i + 1) (by omega) (by omega)
      obtain ⟨d2, a2⟩ := at_ (4 * (0 + (i : Nat)) + 2) (4 * i + 2) (by omega) (by omega)
      obtain ⟨d3, a3⟩ := at_ (4 * (0 + (i : Nat)) + 3) (4 * i + 3) (by omega) (by omega)
      obtain ⟨xl', l1, l2⟩ := wx.l
      have hxl' : xl'.length = ls.length := by rw [dpa_len l2, List.length_map]
      obtain ⟨xc, c1, c2⟩ := gr.c
      have hxc : xc.length = cs.length := by rw [dpa_len c2, List.length_map]
      refine ⟨_, rfl, _, rfl, _, _, rfl, rfl, .inl ⟨by decide, by decide⟩, D3, _, _, _, rfl, rfl, SqL.of eDG, a0, .inl ⟨_, rfl, _, rfl, al, _, rfl, .inl (SqL.of l1), _, _, rfl, rfl, by omega, ?_⟩⟩
      rw [hxl']
      have m0 : 0 ≤ d0 % (ls.length : Int) := Int.emod_nonneg _ (by omega)
      have m1 : d0 % (ls.length : Int) < (ls.length : Int) := Int.emod_lt_of_pos _ (by omega)
      dsimp -proj only
      generalize d0 % (ls.length : Int) = num at m0 m1
      obtain ⟨num, rfl⟩ : ∃ t : Nat, num = t := ⟨num.toNat, by omega⟩
      have hnum : num < ls.length := by omega
      have t0 : 0 ≤ d2 % 10 := Int.emod_nonneg _ (by decide)
      have t1 : d2 % 10 < 10 := Int.emod_lt_of_pos _ (by decide)
      refine ⟨_, rfl, _, rfl, _, _, rfl, rfl, .inl ⟨by decide, by decide⟩, _, _, rfl, rfl, D3, _, _, _, rfl, rfl, SqL.of eDG, a1, _, rfl, _, rfl, _, rfl, _, _, rfl, rfl, .inl ⟨by decide, by decide⟩, _, _, rfl, rfl, D3, _, _, _, rfl, rfl, SqL.of eDG, a2, .inl ⟨_, rfl, _, _, rfl, rfl, (by show (0 : Int) < 10; decide), _, _, rfl, rfl, VL, d1, d2 % 10 - 2, ns, rfl, SqL.of wx.b, by omega, fun t f G1 g1 et fo hw => ?_⟩⟩
      have wx1 := wx.same g1
      have dt : Dp K G1 (.ref t) (f2 f) := .tup (SqT.of et) (.cons (.int _) (.cons (.int _) .nil))
      refine ⟨_, rfl, _, rfl, _, _, rfl, rfl, .inl ⟨by decide, by decide⟩, _, _, rfl, rfl, D3, _, _, _, rfl, rfl, SqL.of (g1 _ _ eDG), a3, _, rfl, _, rfl, _, rfl, _, rfl, _, rfl, .ref t, VL, f, ns, rfl, dt, SqL.of wx1.b, fo, a, num, (ns.length : Nat), wo ns f, ls, ns, rfl, wx1.wd, lok, lsb, hnum, by omega, by omega, by omega, fun z0 z1 => ?_⟩
      refine ⟨VL, d3, _, ns, rfl, SqL.of wx1.b, by omega, fun tv fv G2 g2 etv fov hwv => ?_⟩
      have g12 := g1.trans g2
      have c1' := g12 _ _ c1
      have wx2 := wx.same g12
      refine ⟨_, rfl, kp, _, _, _, rfl, rfl, SqL.of wx2.k, atI_nat (j := 3) rfl, ac, rfl, ⟨_, SqL.of c1'⟩, fun Zc nZc => ?_⟩
      refine lc_list (K := K) (a := ac) (xs := xc) (fun k G3 => Same G2 G3 ∧ ∃ us : List V, G3 Zc = some (.lst us) ∧ us.length ≤ k ∧ (us.length = 0 → ∀ c, c ∈ cs.take k → ¬ (c.n, c.i) = (num, f))) ⟨same_new nZc, [], upd_same, Nat.le_refl _, fun _ _ h => (List.not_mem_nil h).elim⟩ (fun k G3 _ hP => SqL.of (hP.1 _ _ c1')) (fun k x G3 hxi hP => ?_) (fun G3 hP => ?_)
      · obtain ⟨sG, us, eZ, hul, hno⟩ := hP
        have hi8 : k < cs.length := by rw [← hxc]; exact (List.getElem?_eq_some_iff.mp hxi).1
        obtain ⟨v, q1, q2⟩ := dp_mem c2 hi8
        rw [hxi] at q1
        cases q1
        have dx := q2.same (g12.trans sG)
        obtain ⟨t8, v1, v2, v3, rfl, ht, w1, w2, w3⟩ := dp_inv3 dx
        cases dp_int_inv w1
        have htk : cs.take (k + 1) = cs.take k ++ [cs[k]] := List.take_succ_eq_append_getElem hi8
        refine ⟨rfl, _, rfl, _, rfl, t8, _, rfl, ht, by show ¬ (HT.sIx 3 0 none = 0 ∧ HT.sIx 3 3 (some 2) = 3); decide, fun p1 np1 => ?_⟩
        have r1 := same_new (o := .tup (cutV [.int (cs[k].n : Nat), v2, v3] none (some 2))) np1
        generalize hK1 : upd G3 p1 _ = K1 at r1
        have ep1 : K1 p1 = some (.tup [.int (cs[k].n : Nat), v2]) := by
          rw [← hK1, upd_same]
          rfl
        refine ⟨_, rfl, _, rfl, by show 2 ≤ sizeLine; decide, fun p2 np2 => ?_⟩
        have r2 := same_new (o := .tup [.int (num : Nat), .ref t]) np2
        generalize hK2 : upd K1 p2 _ = K2 at r2
        have ep2 : K2 p2 = some (.tup [.int (num : Nat), .ref t]) := hK2 ▸ upd_same
        have r12 := r1.trans r2
        have d1' : Dp K K2 (.ref p1) (.tuple [.int cs[k].n, f2 cs[k].i]) := .tup (SqT.of (r2 _ _ ep1)) (.cons (.int _) (.cons (w2.same r12) .nil))
        have d2' : Dp K K2 (.ref p2) (.tuple [.int num, f2 f]) := .tup (SqT.of ep2) (.cons (.int _) (.cons (dt.same ((g2.trans sG).trans r12)) .nil))
        have eZ2 := r12 _ _ eZ
        refine ⟨_, _, d1', d2', rfl, rfl, _, rfl, ite2 (fun e => ?_) (fun e => ?_)⟩
        · exact ⟨_, rfl, us, eZ2, small_sz (by omega), same_mut (sG.trans r12) nZc, us ++ [.ref t8], upd_same, by rw [List.length_append]; exact Nat.succ_le_succ hul, fun h => by rw [List.length_append] at h; exact absurd h (Nat.succ_ne_zero _)⟩
        · refine ⟨sG.trans r12, us, eZ2, Nat.le_succ_of_le hul, fun h c hc => ?_⟩
          rw [htk] at hc
          rcases List.mem_append.mp hc with hc | hc
          · exact hno h c hc
          · rw [List.mem_singleton.mp hc]
            exact fun h => e ((key_eqv _ _ _ _).mpr h)
      obtain ⟨sG3, us, eZc, hul, hno⟩ := hP
      have g13 := g12.trans sG3
      rw [hxc, List.take_length] at hno
      refine ⟨Zc, _, rfl, .inl (SqL.of eZc), rfl, _, rfl, ite2 (fun e => ?_) (fun e => ?_)⟩
      · have e := of_decide_eq_true e
        have e0 : us.length = 0 := by
          injection e with e
          omega
        have hno := hno e0
        have wx3 := wx.same g13
        have c3 := g13 _ _ c1
        refine ⟨_, rfl, kp, _, _, _, rfl, rfl, SqL.of wx3.k, atI_nat (j := 3) rfl, .inl ⟨rfl, _, SqL.of c3⟩, ?_⟩
        refine ⟨_, rfl, _, rfl, _, rfl, by show 3 ≤ sizeLine; decide, fun p5 np5 => ?_⟩
        have r5 := same_new (o := .tup [.int (num : Nat), .ref t, .ref tv]) np5
        generalize hK5 : upd G3 p5 _ = K5 at r5
        have ep5 : K5 p5 = some (.tup [.int (num : Nat), .ref t, .ref tv]) := hK5 ▸ upd_same
        have g15 := g13.trans r5
        have c5 := g15 _ _ c1
        have ce : Dp K K5 (.ref p5) (Ce.mk num f fv).enc := .tup (SqT.of ep5) (.cons (.int _) (.cons (dt.same ((g2.trans sG3).trans r5)) (.cons (.tup (SqT.of ((sG3.trans r5) _ _ etv)) (.cons (.int _) (.cons (.int _) .nil))) .nil)))
        have b6 := but_upd (H := K5) (p := ac) (o := .lst (xc ++ [.ref p5]))
        obtain ⟨xd5, d5, dd5⟩ := (gr.same g15).d
        obtain ⟨xt5, t5, dt5⟩ := (gr.same g15).t
        have nda : ad ≠ ac := neq ed nac
        refine ⟨ac, _, _, rfl, rfl, c5, by rw [hxc]; exact small_sz (by omega), (bG.same g15).trans b6, _, _, _, _, cs ++ [⟨num, f, fv⟩], rfl, (wx.same g15).but (c := ac) (by simp [a]) c5 b6, ⟨⟨xd5, b6 _ _ nda d5, dpa_but c5 b6 _ _ (noLs_b3 _) dd5⟩, ⟨_, upd_same, ?_⟩, ⟨xt5, b6 _ _ nct.symm t5, dpa_but c5 b6 _ _ (noLs_pr _) dt5⟩⟩, ⟨fun c hc => ?_, ?_⟩, by rw [List.length_append]; exact Nat.succ_le_succ hcl⟩
        · have := dpa_snoc (dpa_same g15 _ _ c2) ce
          rw [← List.map_singleton (f := Ce.enc), ← List.map_append] at this
          exact dpa_but c5 b6 _ _ (noLs_ce _) this
        · rcases List.mem_append.mp hc with hc | hc
          · exact cw.1 c hc
          · rw [List.mem_singleton.mp hc]
            exact ⟨hnum, ⟨fo, by show Wb ns f; unfold Wb; omega⟩, fov, by show _ ≤ wo ns fv; omega, by show wo ns fv ≤ _; omega, hwv⟩
        · rw [List.map_append, List.nodup_append]
          refine ⟨cw.2, List.nodup_cons.mpr ⟨List.not_mem_nil, List.nodup_nil⟩, fun x hx y hy => ?_⟩
          obtain ⟨c, hc, rfl⟩ := List.mem_map.mp hx
          rw [List.mem_singleton.mp hy]
          exact hno c hc
      · exact ⟨bG.same g13, _, _, _, _, cs, rfl, wx.same g13, gr.same g13, cw, Nat.le_succ_of_le hcl⟩
    · obtain ⟨bG, y6, y13, y14, y15, cs, rfl, wx, gr, cw, hcl⟩ := hP
      have hcl4 : cs.length ≤ 5 := by omega
      have eSHG : G SH = some (.lst (sh.map V.int)) := bG _ _ nSc (s810 _ _ eSH8)
      have nac' : H ac = none := sD.free nac
      have ntk'' : H tk = none := sD.free ntk6
      have nkp' : H kp = none := sD.free nkp6
      have hSG : ∀ {X : Hp}, Same G X → SqL K X sc (ss.map V.int) := fun sx => by
        have h10 : SqL K G sc (ss.map V.int) := by
          have h0 : SqL K H10 sc (ss.map V.int) := (sH8.trans s810).seq hS
          have ne0 : ∀ {y : HO}, H sc = some y → sc ≠ ac := fun h1 e => by
            rw [e, nac'] at h1
            cases h1
          rcases hS with (h | ⟨o, h⟩) | h
          · exact .inl (.inl (bG _ _ (ne0 h) ((sH8.trans s810) _ _ h)))
          · exact .inl (.inr ⟨o, bG _ _ (ne0 h) ((sH8.trans s810) _ _ h)⟩)
          · exact .inr h
        exact sx.seq h10
      have u3 : 0 ≤ 3 * sh[3] ∧ 3 * sh[3] ≤ 12 := by omega
      refine ⟨_, rfl, _, rfl, SH, _, _, _, rfl, rfl, SqL.of eSHG, ints_at (j := 3) (by omega), _, _, rfl, rfl, .inl ⟨by decide, by decide⟩, _, rfl, by omega, by omega, fun Z4 nZ4 => ?_⟩
      refine lc_vals (walk_range (lo := 0) (n := (3 * sh[3]).toNat)) nZ4 (fun _ => .int 40) (by omega) (fun _ _ => trivial) (fun i x H9 H9' Q' hi s9 y q' => ?_) (fun K1 k1 ek1 => ?_)
      · obtain ⟨rfl, rfl⟩ := y
        exact ⟨rfl, q' _ (Same.refl _)⟩
      generalize hss4 : ((List.range (3 * sh[3]).toNat).map fun _ => (40 : Int)) = s4s
      have hsl4 : s4s.length = (3 * sh[3]).toNat := by rw [← hss4, List.length_map, List.length_range]
      have ek1 : K1 Z4 = some (.lst (s4s.map V.int)) := by
        rw [ek1, ← hss4, List.map_map]
        rfl
      refine ⟨sc, Z4, ss, s4s, 4, rfl, hSG k1, by decide, by decide, SqL.of ek1, by omega, fun x hx => ?_, fun D4 dm K2 hdl4 hb4 k2 nD4 eD4 => ?_⟩
      · rw [← hss4] at hx
        obtain ⟨_, _, rfl⟩ := List.mem_map.mp hx
        exact ⟨by decide, by decide⟩
      have k12 := k1.trans k2
      have eSH2 := k12 _ _ eSHG
      have wxk := wx.same k12
      have grk := gr.same k12
      obtain ⟨xd0, gd0, _⟩ := gr.d
      have nDd : D4 ≠ ad := (ne_of_none (k1 _ _ gd0) nD4).symm
      have nSd : SH ≠ ad := ne_of_none ((s3.trans (s4.trans s5)) _ _ eSH) nad
      have nda : ad ≠ ac := neq ed nac
      have ndt : ad ≠ tk := neq ed ntk6
      refine ⟨_, rfl, SH, _, _, _, rfl, rfl, SqL.of eSH2, ints_at (j := 3) (by omega), _, rfl, by omega, by omega, ?_⟩
      refine for_range (lo := 0) (n := (sh[3]).toNat) (fun i σ G2 => But ad K2 G2 ∧ ∃ (y6 y18 y19 : Option V) (bs2 : List T3), σ = [some (.ref sc), some (.int 5), some (.int 6), some (.ref SH), some (.ref VL), none, y6, some (.ref al), some (.ref ru), some (.ref ad), some (.ref kp), some (.ref wt), some (.ref D3), y13, y14, y15, none, some (.ref D4), y18, y19, none] ∧ Wx K G2 a (ns.length : Nat) ls ns ∧ Gr K G2 a bs2 cs [] ∧ (∀ t, t ∈ bs2 → smS (b3 t) = true) ∧ bs2.length ≤ bs.length + i)
        ⟨But.refl _ _, _, _, _, bs, rfl, wxk, grk, hsm, Nat.le_refl _⟩ (fun i σ G2 hi hP => ?_) (fun σ G2 hP => ?_)
      · obtain ⟨bG2, y6, y18, y19, bs2, rfl, wx2, gr2, hs2, hb2l⟩ := hP
        have hi4 : i < 5 := by omega
        have eDm : G2 D4 = some (.lst (dm.map V.int)) := bG2 _ _ nDd eD4
        have at_ : ∀ (z : Int) (j : Nat), z = (j : Nat) → j < dm.length → ∃ d : Int, atI (dm.map V.int) z = some (.int d) := fun z j e h => by
          subst e
          exact ⟨_, ints_at h⟩
        obtain ⟨d0, a0⟩ := at_ (3 * (0 + (i : Nat))) (3 * i) (by omega) (by omega)
        obtain ⟨d1, a1⟩ := at_ (3 * (0 + (i : Nat)) + 1) (3 * i + 1) (by omega) (by omega)
        obtain ⟨d2, a2⟩ := at_ (3 * (0 + (i : Nat)) + 2) (3 * i + 2) (by omega) (by omega)
        obtain ⟨xdd, dd1, dd2⟩ := gr2.d
        have hxdd : xdd.length = bs2.length := by rw [dpa_len dd2, List.length_map]
        have sb := SqL.of (K := K) wx2.b
        refine ⟨_, rfl, _, rfl, _, _, rfl, rfl, .inl ⟨by decide, by decide⟩, D4, _, _, _, rfl, rfl, SqL.of eDm, a0, .inl ⟨_, rfl, _, rfl, VL, _, rfl, .inl sb, _, _, rfl, rfl, _, _, rfl, rfl, by rw [List.length_map]; omega, ?_⟩⟩
        rw [List.length_map]
        have u0 : 0 ≤ d0 % ((ns.length : Nat) + 1 : Int) := Int.emod_nonneg _ (by omega)
        have u1 : d0 % ((ns.length : Nat) + 1 : Int) < (ns.length : Nat) + 1 := Int.emod_lt_of_pos _ (by omega)
        refine ⟨_, rfl, _, rfl, _, _, rfl, rfl, .inl ⟨by decide, by decide⟩, _, _, rfl, rfl, D4, _, _, _, rfl, rfl, SqL.of eDm, a1, .inl ⟨_, rfl, _, rfl, VL, _, rfl, .inl sb, _, _, rfl, rfl, _, _, rfl, rfl, by rw [List.length_map]; omega, ?_⟩⟩
        rw [List.length_map]
        have v0 : 0 ≤ d1 % ((ns.length : Nat) + 1 : Int) := Int.emod_nonneg _ (by omega)
        have v1 : d1 % ((ns.length : Nat) + 1 : Int) < (ns.length : Nat) + 1 := Int.emod_lt_of_pos _ (by omega)
        dsimp -proj only
        have ub := wo_u hvs u0 (by omega)
        have vb := wo_u hvs v0 (by omega)
        generalize d0 % ((ns.length : Nat) + 1 : Int) = u at u0 u1 ub
        generalize d1 % ((ns.length : Nat) + 1 : Int) = v at v0 v1 vb
        have w0 : 0 ≤ d2 % 4 := Int.emod_nonneg _ (by decide)
        have w1 : d2 % 4 < 4 := Int.emod_lt_of_pos _ (by decide)
        refine ⟨_, rfl, .inl ⟨rfl, _, SqL.of dd1⟩, ?_⟩
        refine ⟨_, rfl, _, rfl, _, rfl, by show (2 : Nat) ≤ sizeLine; decide, fun p1 np1 => ?_⟩
        have sp1 := same_new (o := .tup [.int u, .int 0]) np1
        refine ⟨_, rfl, _, VL, (u, 0), ns, rfl, .tup (SqT.of upd_same) (.cons (.int _) (.cons (.int _) .nil)), sp1.seq sb, ⟨u0, by show u ≤ _; omega⟩, ?_⟩
        refine ⟨_, rfl, by show (2 : Nat) ≤ sizeLine; decide, fun p2 np2 => ?_⟩
        have sp2 := same_new (o := .tup [.int v, .int 0]) np2
        refine ⟨_, rfl, _, VL, (v, 0), ns, rfl, .tup (SqT.of upd_same) (.cons (.int _) (.cons (.int _) .nil)), (sp1.trans sp2).seq sb, ⟨v0, by show v ≤ _; omega⟩, ?_⟩
        refine ⟨_, _, rfl, rfl, _, rfl, _, rfl, _, _, rfl, rfl, .inl ⟨by decide, by decide⟩, _, _, rfl, rfl, D4, _, _, _, rfl, rfl, SqL.of ((sp1.trans sp2) _ _ eDm), a2, .inl ⟨_, rfl, _, _, rfl, rfl, (by show (0 : Int) < 4; decide), _, _, rfl, rfl, by show (3 : Nat) ≤ sizeLine; decide, fun p3 np3 => ?_⟩⟩
        have sp3 := same_new (o := .tup [.int u, .int v, .int (wo ns (u, 0) - wo ns (v, 0) + d2 % 4)]) np3
        generalize hg : upd (upd (upd _ p1 _) p2 _) p3 _ = G3
        have q3 := (sp1.trans sp2).trans sp3
        rw [hg] at q3
        have e3 : G3 p3 = some (.tup [.int u, .int v, .int (wo ns (u, 0) - wo ns (v, 0) + d2 % 4)]) := hg ▸ upd_same
        have eY3 := q3 _ _ dd1
        have b6 := but_upd (H := G3) (p := ad) (o := .lst (xdd ++ [.ref p3]))
        obtain ⟨xc5, c5, dc5⟩ := (gr2.same q3).c
        obtain ⟨xt5, t5, dt5⟩ := (gr2.same q3).t
        refine ⟨ad, _, _, rfl, rfl, eY3, by rw [hxdd]; exact small_sz (by omega), (bG2.same q3).trans b6, _, _, _, bs2 ++ [(u, v, wo ns (u, 0) - wo ns (v, 0) + d2 % 4)], rfl, (wx2.same q3).but (c := ad) (by simp [a]) eY3 b6, ⟨⟨_, upd_same, ?_⟩, ⟨xc5, b6 _ _ nda.symm c5, dpa_but eY3 b6 _ _ (noLs_ce _) dc5⟩, ⟨xt5, b6 _ _ ndt.symm t5, dpa_but eY3 b6 _ _ (noLs_pr _) dt5⟩⟩, fun t ht => ?_, by rw [List.length_append]; exact Nat.succ_le_succ hb2l⟩
        · rw [List.map_append]
          exact dpa_but eY3 b6 _ _ (by rw [← List.map_append]; exact noLs_b3 _) (dpa_snoc (dpa_same q3 _ _ dd2) (.tup (SqT.of e3) (.cons (.int _) (.cons (.int _) (.cons (.int _) .nil)))))
        · rcases List.mem_append.mp ht with ht | ht
          · exact hs2 t ht
          · rw [List.mem_singleton.mp ht]
            show (decide (u.natAbs < 10 ^ 60) && (decide (v.natAbs < 10 ^ 60) && (decide ((wo ns (u, 0) - wo ns (v, 0) + d2 % 4).natAbs < 10 ^ 60) && true))) = true
            rw [decide_eq_true (by omega), decide_eq_true (by omega), decide_eq_true (by omega)]
            rfl
      · obtain ⟨bG2, y6, y18, y19, bs2, rfl, wx2, gr2, hs2, hb2l⟩ := hP
        have nadH : H ad = none := sC.free nad
        have sHG : Same H G := Same.butNew (sH8.trans s810) bG nac'
        have sHG2 : Same H G2 := Same.butNew (sHG.trans k12) bG2 nadH
        have eSHg : G2 SH = some (.lst (sh.map V.int)) := bG2 _ _ nSd eSH2
        have nSt : SH ≠ tk := ne_of_none ((((s3.trans (s4.trans s5)).trans s6)) _ _ eSH) ntk6
        refine ⟨_, rfl, SH, _, _, _, rfl, rfl, SqL.of eSHg, ints_at (j := 4) (by omega), _, rfl, by omega, by omega, ?_⟩
        refine for_range (lo := 0) (n := (sh[4]).toNat) (fun i σ G3 => But tk G2 G3 ∧ ∃ (y6 : Option V) (ps : List Pr), σ = [some (.ref sc), some (.int 5), some (.int 6), some (.ref SH), some (.ref VL), none, y6, some (.ref al), some (.ref ru), some (.ref ad), some (.ref kp), some (.ref wt), some (.ref D3), y13, y14, y15, none, some (.ref D4), y18, y19, none] ∧ Wx K G3 a (ns.length : Nat) ls ns ∧ Gr K G3 a bs2 cs ps ∧ (∀ p, p ∈ ps → p.ok ls.length ns ∧ p.fin ns ∧ PrT ls a.rf ns p) ∧ ps.length ≤ i)
          ⟨But.refl _ _, _, [], rfl, wx2, gr2, fun _ h => (List.not_mem_nil h).elim, Nat.le_refl _⟩ (fun i σ G3 hi hP => ?_) (fun σ G3 hP => ?_)
        · obtain ⟨bG3, y6, ps, rfl, wx3, gr3, hps, hpl⟩ := hP
          have sHG3 := Same.butNew sHG2 bG3 ntk''
          obtain ⟨xt, xt1, xt2⟩ := gr3.t
          have hxt : xt.length = ps.length := by rw [dpa_len xt2, List.length_map]
          refine ⟨_, rfl, kp, _, _, _, rfl, rfl, SqL.of wx3.k, atI_nat (j := 4) rfl, .inl ⟨rfl, _, SqL.of xt1⟩, ?_⟩
          refine ⟨_, rfl, _, rfl, _, _, rfl, rfl, _, rfl, a, sc, _, (ns.length : Nat), ss, ls, ns, rfl, sHG3.seq hS, by omega, by omega, wx3.wd, lok, lsb, by omega, by omega, by omega, hvs, fun v p G4 g4 dv pok pfin pt => ?_⟩
          have eT := g4 _ _ xt1
          have b6 := but_upd (H := G4) (p := tk) (o := .lst (xt ++ [v]))
          obtain ⟨xc5, c5, dc5⟩ := (gr3.same g4).c
          obtain ⟨xd5, d5, dd5⟩ := (gr3.same g4).d
          refine ⟨tk, _, _, rfl, rfl, eT, by rw [hxt]; exact small_sz (by omega), (bG3.same g4).trans b6, _, ps ++ [p], rfl, (wx3.same g4).but (c := tk) (by simp [a]) eT b6, ⟨⟨xd5, b6 _ _ ndt d5, dpa_but eT b6 _ _ (noLs_b3 _) dd5⟩, ⟨xc5, b6 _ _ nct c5, dpa_but eT b6 _ _ (noLs_ce _) dc5⟩, ⟨_, upd_same, ?_⟩⟩, fun p' hp => ?_, by rw [List.length_append]; exact Nat.succ_le_succ hpl⟩
          · rw [List.map_append]
            exact dpa_but eT b6 _ _ (by rw [← List.map_append]; exact noLs_pr _) (dpa_snoc (dpa_same g4 _ _ xt2) dv)
          · rcases List.mem_append.mp hp with hp | hp
            · exact hps p' hp
            · rw [List.mem_singleton.mp hp]
              exact ⟨pok, pfin, pt⟩
        · obtain ⟨bG3, y6, ps, rfl, wx3, gr3, hps, hpl⟩ := hP
          have sHG3 := Same.butNew sHG2 bG3 ntk''
          have eSH3 := bG3 _ _ nSt eSHg
          obtain ⟨j5, hj5⟩ : ∃ j : Nat, sh[5] = (j : Nat) := ⟨sh[5].toNat, by omega⟩
          refine ⟨_, rfl, by show 2 ≤ sizeLine; decide, fun Z5 nZ5 => ?_⟩
          generalize hG5 : upd G3 Z5 _ = G4
          obtain ⟨g4, e4⟩ := new_of nZ5 hG5
          refine ⟨sc, Z5, ss, [45, 45], 5, rfl, (sHG3.trans g4).seq hS, by decide, by decide, SqL.of e4, by decide, by decide, fun D5 df G5 hdf hbf g5 nD5 eD5 => ?_⟩
          have hdf : df.length = 2 := hdf
          have g45 := g4.trans g5
          refine ⟨_, rfl, SH, _, _, _, rfl, rfl, SqL.of (g45 _ _ eSH3), ints_at (j := 5) (by omega), _, rfl, D5, _, rfl, SqL.of eD5, fun p5 np5 => ?_⟩
          have g6 := same_new (o := .lst (cutV (df.map V.int) none (some sh[5]))) np5
          generalize hG6 : upd G5 p5 _ = G6 at g6
          have e6 : G6 p5 = some (.lst ((df.take j5).map V.int)) := by
            rw [← hG6, upd_same, hj5, cutv_first, List.map_take]
          have g46 := g45.trans g6
          have wx6 := wx3.same g46
          refine ⟨p5, rfl, ⟨_, SqL.of e6⟩, fun F nF => ?_⟩
          refine lc_list (K := K) (a := p5) (xs := (df.take j5).map V.int) (fun i G => Same G6 G ∧ ∃ (xs : List V) (fs : List Fm), G F = some (.lst xs) ∧ DpAll K G xs (fs.map f2) ∧ fs.length = i ∧ ∀ f, f ∈ fs → fok ns.length f ∧ Wb ns f) ⟨same_new nF, [], [], upd_same, .nil, rfl, fun _ h => (List.not_mem_nil h).elim⟩ (fun i G _ hP => SqL.of (hP.1 _ _ e6)) (fun i x G hxi hP => ?_) (fun G hP => ?_)
          · obtain ⟨sG, xs, fs, eF, dF, hfl, hfs⟩ := hP
            rw [List.getElem?_map] at hxi
            obtain ⟨d, hd, rfl⟩ := Option.map_eq_some_iff.mp hxi
            have hi2 : i < 2 := by
              have := (List.getElem?_eq_some_iff.mp hd).1
              rw [List.length_take] at this
              omega
            have hxl' : xs.length = fs.length := by rw [dpa_len dF, List.length_map]
            have t0 : 0 ≤ d / 5 % 9 := Int.emod_nonneg _ (by decide)
            have t1 : d / 5 % 9 < 9 := Int.emod_lt_of_pos _ (by decide)
            refine ⟨rfl, _, rfl, _, rfl, _, rfl, _, _, rfl, rfl, ⟨by decide, by decide⟩, .inl ⟨_, rfl, _, _, rfl, rfl, (by show (0 : Int) < 9; decide), _, _, rfl, rfl, VL, d, d / 5 % 9 - 1, ns, rfl, SqL.of (wx6.same sG).b, by omega, fun t f G7 g7 et fo hw => ?_⟩⟩
            refine ⟨xs, g7 _ _ eF, by rw [hxl']; exact small_sz (by omega), same_mut (sG.trans g7) nF, xs ++ [.ref t], fs ++ [f], upd_same, ?_, by rw [List.length_append, hfl]; rfl, fun f' hf => ?_⟩
            · rw [List.map_append]
              exact dpa_but (g7 _ _ eF) but_upd _ _ (by rw [← List.map_append]; exact noLs_f2s _) (dpa_snoc (dpa_same g7 _ _ dF) (.tup (SqT.of et) (.cons (.int _) (.cons (.int _) .nil))))
            · rcases List.mem_append.mp hf with hf | hf
              · exact hfs f' hf
              · rw [List.mem_singleton.mp hf]
                exact ⟨fo, by unfold Wb; omega⟩
          · obtain ⟨sG, xs, fs, eF, dF, hfl, hfs⟩ := hP
            have hfl2 : fs.length ≤ 2 := by
              rw [hfl, List.length_map, List.length_take]
              omega
            refine ⟨_, rfl, _, rfl, by show 2 ≤ sizeLine; decide, fun r nr => ?_⟩
            have sr := same_new (o := .tup [.ref wt, .ref F]) nr
            have gf := (g46.trans sG).trans sr
            refine q r a F ns ls bs2 cs ps fs xs _ (sHG3.trans gf) upd_same (wx3.same gf) (gr3.same gf) nda ndt nct (sr _ _ eF) (dpa_same sr _ _ dF) (fun c hc => ?_) (fun c hc => ?_) lok lsb (by omega) (by omega) (by omega) hvs cw (by omega) hs2 (by omega) hps (by omega) hfs (by omega)
            · simp only [a, List.mem_cons, List.not_mem_nil, or_false] at hc
              rcases hc with rfl | rfl | rfl | rfl | rfl
              · exact nkp'
              · exact nadH
              · exact nac'
              · exact ntk''
              · exact (sHG3.trans g46).free nF
            · have gr6 := gr3.same g46
              obtain ⟨_, o1, _⟩ := gr6.d
              obtain ⟨_, o2, _⟩ := wx6.l
              obtain ⟨_, o3, _⟩ := gr6.c
              obtain ⟨_, o4, _⟩ := gr6.t
              simp only [List.mem_cons, List.not_mem_nil, or_false] at hc
              rcases hc with rfl | rfl | rfl | rfl | rfl
              · exact ne_of_none wx6.k nF
              · exact ne_of_none o1 nF
              · exact ne_of_none o2 nF
              · exact ne_of_none o3 nF
              · exact ne_of_none o4 nF
end
end SW

namespace SW
open PySem PySem.Spec PyProof.Rows L2
abbrev s_l_indexes : Stmt := topS 36
theorem sc_l_indexes : FnScope ["known", "fresh", "found", "cell", "one", "promise", "once", "form"] ["known", "fresh"] (defScope s_l_indexes) := ⟨rfl, rfl, rfl, by decide +kernel, rfl, by decide +kernel, by decide +kernel⟩

theorem can_f2s : ∀ fs : List Fm, PyData.canLayAll0 (fs.map f2) = true ∧ PyData.depthAll (fs.map f2) ≤ 1
  | [] => ⟨rfl, Nat.zero_le _⟩
  | f :: r => by
    obtain ⟨h1, h2⟩ := can_f2s r
    refine ⟨?_, ?_⟩
    · show (PyData.canLay0 (f2 f) && PyData.canLayAll0 (r.map f2)) = true
      rw [h1]
      rfl
    · show max (PyData.depth (f2 f)) (PyData.depthAll (r.map f2)) ≤ 1
      have : PyData.depth (f2 f) ≤ 1 := by show max 0 (max 0 0) + 1 ≤ 1; decide
      omega
theorem shaped_f2s (fs : List Fm) : SeqAt.shaped (.list (fs.map f2)) = true := by
  obtain ⟨h1, h2⟩ := can_f2s fs
  unfold SeqAt.shaped
  rw [show PyData.canLay0 (.list (fs.map f2)) = PyData.canLayAll0 (fs.map f2) from rfl, h1, show PyData.depth (.list (fs.map f2)) = PyData.depthAll (fs.map f2) + 1 from rfl]
  rw [decide_eq_true (by omega)]
  rfl
theorem f2_eqv (f g : Fm) : PyData.eqv (f2 f) (f2 g) = true ↔ f = g := by
  obtain ⟨f1, f2'⟩ := f
  obtain ⟨g1, g2'⟩ := g
  simp only [PyData.eqv, PyData.eqvAll, f2, Bool.and_true, Bool.and_eq_true, beq_iff_eq, Prod.mk.injEq]
theorem any_f2 (fs : List Fm) (f : Fm) : ((fs.map f2).any fun z => PyData.eqv z (f2 f)) = decide (f ∈ fs) := by
  rw [Bool.eq_iff_iff, List.any_eq_true, decide_eq_true_iff]
  constructor
  · rintro ⟨z, h1, h2⟩
    obtain ⟨g, g1, rfl⟩ := List.mem_map.mp h1
    rw [(f2_eqv g f).mp h2] at g1
    exact g1
  · exact fun h => ⟨f2 f, List.mem_map.mpr ⟨f, h, rfl⟩, (f2_eqv f f).mpr rfl⟩
/-- what the law itself knows -/
structure LkW (K : PySem.W.Frag) (H : Hp) (kp ad al ac tk : Addr) (m : Int) (bs : List T3) (ls : List Ld) (cs : List Ce) (ps : List Pr) : Prop where
  k : H kp = some (.lst [.int m, .ref ad, .ref al, .ref ac, .ref tk])
  d : ∃ xd, H ad = some (.lst xd) ∧ DpAll K H xd (bs.map b3)
  l : ∃ xl, H al = some (.lst xl) ∧ DpAll K H xl (ls.map Ld.enc)
  c : ∃ xc, H ac = some (.lst xc) ∧ DpAll K H xc (cs.map Ce.enc)
  t : ∃ xt, H tk = some (.lst xt) ∧ DpAll K H xt (ps.map Pr.enc)
section
variable {P : Program} {w : World} {K : PySem.W.Frag} {mg : PySem.Str → Option Value} {base : Heap} {C : Addr}
def spIndexes (K : PySem.W.Frag) : Sp := fun vs H Q _ => ∃ (kp ad al ac tk af : Addr) (m : Int) (bs : List T3) (ls : List Ld) (cs : List Ce) (ps : List Pr) (fs : List Fm) (xf : List V), vs = [.ref kp, .ref af] ∧ LkW K H kp ad al ac tk m bs ls cs ps ∧ H af = some (.lst xf) ∧ DpAll K H xf (fs.map f2) ∧ ls.length ≤ 100 ∧ cs.length ≤ 100 ∧ ps.length ≤ 100 ∧ fs.length ≤ 100 ∧
  ∀ (q : Addr) (xs : List V) (H' : Hp), Same H H' → H q = none → H' q = some (.lst xs) → DpAll K H' xs ((dd (ixs ls cs ps fs)).map f2) → Q (.ref q) H'
theorem ok_l_indexes (T : TxB mg) (D_l_indexes : Df K mg "_law_indexes" s_l_indexes ["known", "fresh"]) : FnOk P w K mg base CX0 1 D_l_indexes.f D_l_indexes.fd ["known", "fresh"] (spIndexes K) := by
  refine D_l_indexes.F.ok sc_l_indexes (fun vs H Q E h => ?_) (fun cdv A outer s H vs Q E hr h => ?_)
  · obtain ⟨kp, ad, al, ac, tk, af, m, bs, ls, cs, ps, fs, xf, rfl, _⟩ := h
    rfl
  · obtain ⟨kp, ad, al, ac, tk, af, m, bs, ls, cs, ps, fs, xf, rfl, lk, ef, df, hl1, hl2, hl3, hl4, q⟩ := h
    refine ⟨_, (pss_cons (ps_set (i := 2) sc_l_indexes.nd rfl (.inl rfl) (pe_op op_cat (pe_callTy call_list_of (by rfl) T.n_list (by decide +kernel) (pa_cons (pv 1) pa_nil)) (pe_lc (own := [("cell", 3)]) (g := gName 3) (by rfl) sc_l_indexes.nd (pi_list (pe_ix ix_list (pv 0) pe_int (fun _ _ => rfl))) (blkOk_by (own := [("cell", 3)]) (N := ["known", "fresh", "found", "cell", "one", "promise", "once", "form"]) (sc := defScope s_l_indexes) (by decide +kernel)) (fun _ _ _ _ _ => pg_name (i := 3) sc_l_indexes.nd rfl (Or.inl rfl)) (fun _ _ _ _ _ => pts_nil) (fun _ _ _ _ _ => (pe_ix (show IxR _ (rIxT K) from ix_tup) (pv 3) pe_int (fun _ _ => rfl))))))
    (pss_cons (ps_for PassesOwn.never rfl (pi_list (pe_ix ix_list (pv 0) pe_int (fun _ _ => rfl))) (pg_name (i := 4) sc_l_indexes.nd rfl (.inl rfl))
    (pss_one (ps_if (pt_cmpR op_eq (pe_ix ix_tup (pv 4) pe_int (fun _ _ => rfl)) pe_str (nomark _))
    (pss_one (ps_set (i := 2) sc_l_indexes.nd rfl (.inl rfl) (pe_op op_cat (pv 2) (pe_lst (pa_cons (pe_ix ix_tup (pv 4) pe_int (fun _ _ => rfl)) (pa_cons (pe_tup (pa_cons (pe_ix ix_tup (pe_ix ix_tup (pv 4) pe_int (fun _ _ => rfl)) pe_int (fun _ _ => rfl)) (pa_cons (pe_op op_add (pe_ix ix_tup (pe_ix ix_tup (pv 4) pe_int (fun _ _ => rfl)) pe_int (fun _ _ => rfl)) pe_int) pa_nil))) pa_nil))))))
    pss_nil)))
    (pss_cons (ps_for PassesOwn.never rfl (pi_list (pe_ix ix_list (pv 0) pe_int (fun _ _ => rfl))) (pg_name (i := 5) sc_l_indexes.nd rfl (.inl rfl))
    (pss_cons (ps_if (pt_cmpR op_ne (pe_ix ix_tup (pv 5) pe_int (fun _ _ => rfl)) pe_str (nomark _))
    (pss_one (ps_expr (pe_bm PySem.F.plainAttrs_list PySem.F.slot_list_append PySem.F.type_list_append mt_append (pv 2) (pa_cons (pe_ix ix_tup (pv 5) pe_int (fun _ _ => rfl)) pa_nil))))
    pss_nil)
    (pss_one (ps_if (pt_cmpR op_eq (pe_ix ix_tup (pv 5) pe_int (fun _ _ => rfl)) pe_str (nomark _))
    (pss_one (ps_expr (pe_bm PySem.F.plainAttrs_list PySem.F.slot_list_append PySem.F.type_list_append mt_append (pv 2) (pa_cons (pe_ix ix_tup (pv 5) pe_int (fun _ _ => rfl)) pa_nil))))
    pss_nil))))
    (pss_cons (ps_set (i := 6) sc_l_indexes.nd rfl (.inl rfl) (pe_lst pa_nil))
    (pss_cons (ps_for PassesOwn.never rfl (pi_list (pe_op op_cat (pv 2) (pe_lst (pa_cons (pe_tup (pa_cons pe_int (pa_cons pe_int pa_nil))) pa_nil)))) (pg_name (i := 7) sc_l_indexes.nd rfl (.inl rfl))
    (pss_one (ps_if (pt_cmpR (op_notInD (units65 hr)) (pv 7) (pv 6) (by rfl))
    (pss_one (ps_expr (pe_bm PySem.F.plainAttrs_list PySem.F.slot_list_append PySem.F.type_list_append mt_append (pv 6) (pa_cons (pv 7) pa_nil))))
    pss_nil)))
    (pss_one (ps_ret (pv 6)))))))), ?_⟩
    obtain ⟨xl, el, dl⟩ := lk.l
    obtain ⟨xc, ec, dc⟩ := lk.c
    obtain ⟨xt, et, dt⟩ := lk.t
    have hxf : xf.length = fs.length := by rw [dpa_len df, List.length_map]
    have hxl : xl.length = ls.length := by rw [dpa_len dl, List.length_map]
    have hxc : xc.length = cs.length := by rw [dpa_len dc, List.length_map]
    have hxt : xt.length = ps.length := by rw [dpa_len dt, List.length_map]
    have bl := fix_le ls
    have bp := pix_le ps
    refine ⟨_, rfl, af, _, rfl, .inl (SqL.of ef), fun L1 nL1 => ?_⟩
    have s1 := same_new (o := .lst xf) nL1
    generalize hG1 : upd H L1 _ = H1 at s1
    have e1 : H1 L1 = some (.lst xf) := hG1 ▸ upd_same
    refine ⟨_, rfl, kp, _, _, _, rfl, rfl, SqL.of (s1 _ _ lk.k), atI_nat (j := 3) rfl, ac, rfl, ⟨_, SqL.of (s1 _ _ ec)⟩, fun A8 nA8 => ?_⟩
    refine lc_list (K := K) (a := ac) (xs := xc) (fun i G => Same H1 G ∧ ∃ os : List V, G A8 = some (.lst os) ∧ DpAll K G os (((cs.take i).map (·.i)).map f2)) ⟨same_new nA8, [], upd_same, .nil⟩ (fun i G _ hP => SqL.of (hP.1 _ _ (s1 _ _ ec))) (fun k x G hxi hP => ?_) (fun G hP => ?_)
    · obtain ⟨sG, os, eZ, dos⟩ := hP
      have hi8 : k < cs.length := by rw [← hxc]; exact (List.getElem?_eq_some_iff.mp hxi).1
      obtain ⟨v, q1, q2⟩ := dp_mem dc hi8
      rw [hxi] at q1
      cases q1
      obtain ⟨t8, v1, v2, v3, rfl, ht, w1, w2, w3⟩ := dp_inv3 (q2.same (s1.trans sG))
      have hos : os.length = k := by rw [dpa_len dos, List.length_map, List.length_map, List.length_take]; omega
      refine ⟨rfl, _, rfl, t8, _, _, _, rfl, rfl, ht, atI_nat (j := 1) rfl, os, eZ, by rw [hos]; exact small_sz (by omega), same_mut sG nA8, os ++ [v2], upd_same, ?_⟩
      rw [List.take_succ_eq_append_getElem hi8, List.map_append, List.map_append]
      exact dpa_but eZ but_upd _ _ (by rw [← List.map_append]; exact noLs_f2s _) (dpa_snoc dos w2)
    obtain ⟨s2, os, eA, dA⟩ := hP
    rw [hxc, List.take_length] at dA
    have hos : os.length = cs.length := by rw [dpa_len dA, List.length_map, List.length_map]
    refine ⟨L1, A8, _, _, rfl, rfl, s2 _ _ e1, eA, Nat.le_of_lt (small_sz (by omega)), fun F0 nF0 => ?_⟩
    have s3 := same_new (o := .lst (xf ++ os)) nF0
    generalize hG3 : upd G F0 _ = H3 at s3
    have e3 : H3 F0 = some (.lst (xf ++ os)) := hG3 ▸ upd_same
    have sH3 := (s1.trans s2).trans s3
    have d3 : DpAll K H3 (xf ++ os) ((fs ++ cs.map (·.i)).map f2) := by
      rw [List.map_append]
      exact dpa_app (dpa_same sH3 _ _ df) (dpa_same s3 _ _ dA)
    have nF0H : H F0 = none := (s1.trans s2).free nF0
    -- lists
    refine ⟨_, rfl, kp, _, _, _, rfl, rfl, SqL.of (sH3 _ _ lk.k), atI_nat (j := 2) rfl, al, rfl, ⟨_, SqL.of (sH3 _ _ el)⟩, ?_⟩
    refine for_list (K := K) (a := al) (xs := xl) (fun i σ G => Same H G ∧ ∃ (F : Addr) (y4 : Option V) (xs : List V), σ = [some (.ref kp), some (.ref af), some (.ref F), none, y4, none, none, none] ∧ H F = none ∧ G F = some (.lst xs) ∧ DpAll K G xs ((fs ++ cs.map (·.i) ++ ((ls.take i).map Ld.ix).flatten).map f2)) ⟨sH3, F0, _, _, rfl, nF0H, e3, by rw [List.take_zero]; simpa using d3⟩ (fun i σ G _ hP => SqL.of (hP.1 _ _ el)) (fun i x σ G hxi hP => ?_) (fun σ G hP => ?_)
    · obtain ⟨sG, F, y4, xs, rfl, nF, eF, dF⟩ := hP
      have hic : i < ls.length := by rw [← hxl]; exact (List.getElem?_eq_some_iff.mp hxi).1
      obtain ⟨v, g1, g2⟩ := dp_mem dl hic
      rw [hxi] at g1
      cases g1
      have dxx := g2.same sG
      have htk : ((ls.take (i + 1)).map Ld.ix).flatten = ((ls.take i).map Ld.ix).flatten ++ ls[i].ix := by
        rw [List.take_succ_eq_append_getElem hic, List.map_append, List.flatten_append]
        simp
      have hle : (((ls.take i).map Ld.ix).flatten).length ≤ 2 * i := by
        have := fix_le (ls.take i)
        rw [List.length_take] at this
        omega
      have hxs : xs.length ≤ 500 := by
        rw [dpa_len dF, List.length_map, List.length_append, List.length_append, List.length_map]
        omega
      rw [htk]
      generalize ls[i] = l at dxx
      cases l with
      | new f0 =>
        obtain ⟨t0, v1, v2, rfl, ht2, w1, w2⟩ := dp_inv2 dxx
        cases dp_str_inv w1
        exact ⟨_, rfl, t0, _, _, _, rfl, rfl, ht2, atI_nat (j := 0) rfl, rfl, _, rfl, iteF ⟨sG, F, _, xs, rfl, nF, eF, by show DpAll K G xs ((_ ++ (_ ++ [])).map f2); rw [List.append_nil]; exact dF⟩⟩
      | wr o2 f0 g0 =>
        obtain ⟨t0, v1, v2, v3, v4, rfl, ht2, w1, w2, w3, w4⟩ := dp_inv4 dxx
        cases dp_str_inv w1
        obtain ⟨t2, u1, u2, rfl, ht3, z1, z2⟩ := dp_inv2 w3
        cases dp_int_inv z1
        cases dp_int_inv z2
        refine ⟨_, rfl, t0, _, _, _, rfl, rfl, ht2, atI_nat (j := 0) rfl, rfl, _, rfl, iteT ?_⟩
        refine ⟨_, rfl, _, rfl, t0, _, _, _, rfl, rfl, ht2, atI_nat (j := 2) rfl, _, rfl, t0, _, _, _, rfl, rfl, ht2, atI_nat (j := 2) rfl, t2, _, _, _, rfl, rfl, ht3, atI_nat (j := 0) rfl, _, rfl, t0, _, _, _, rfl, rfl, ht2, atI_nat (j := 2) rfl, t2, _, _, _, rfl, rfl, ht3, atI_nat (j := 1) rfl, _, _, rfl, rfl, by show (2 : Nat) ≤ sizeLine; decide, fun p1 np1 => ⟨by show (2 : Nat) ≤ sizeLine; decide, fun L2 nL2 => ?_⟩⟩
        have r1 := same_new (o := .tup [.int f0.1, .int (f0.2 + 1)]) np1
        generalize hK1 : upd G p1 _ = K1 at nL2 r1
        have ep1 : K1 p1 = some (.tup [.int f0.1, .int (f0.2 + 1)]) := hK1 ▸ upd_same
        have r2 := same_new (o := .lst [.ref t2, .ref p1]) nL2
        generalize hK2 : upd K1 L2 _ = K2 at r2
        have eL2 : K2 L2 = some (.lst [.ref t2, .ref p1]) := hK2 ▸ upd_same
        have r12 := r1.trans r2
        refine ⟨F, L2, _, _, rfl, rfl, r12 _ _ eF, eL2, Nat.le_of_lt (small_sz (by show xs.length + 2 ≤ 1000; omega)), fun F' nF' => ?_⟩
        have r3 := same_new (o := .lst (xs ++ [.ref t2, .ref p1])) nF'
        have r13 := r12.trans r3
        refine ⟨sG.trans r13, F', _, _, rfl, (sG.trans r12).free nF', upd_same, ?_⟩
        have eq : fs ++ cs.map (·.i) ++ (((ls.take i).map Ld.ix).flatten ++ (Ld.wr o2 f0 g0).ix) = (fs ++ cs.map (·.i) ++ ((ls.take i).map Ld.ix).flatten) ++ [f0, (f0.1, f0.2 + 1)] := by simp [Ld.ix]
        rw [eq, List.map_append]
        exact dpa_app (dpa_same r13 _ _ dF) (.cons (w3.same r13) (.cons (.tup (SqT.of (r3 _ _ (r2 _ _ ep1))) (.cons (.int _) (.cons (.int _) .nil))) .nil))
    · obtain ⟨sG, F, y4, xs, rfl, nF, eF, dF⟩ := hP
      rw [hxl, List.take_length] at dF
      -- taken
      refine ⟨_, rfl, kp, _, _, _, rfl, rfl, SqL.of (sG _ _ lk.k), atI_nat (j := 4) rfl, tk, rfl, ⟨_, SqL.of (sG _ _ et)⟩, ?_⟩
      refine for_list (K := K) (a := tk) (xs := xt) (fun i σ G => Same H G ∧ ∃ (y5 : Option V) (xs : List V), σ = [some (.ref kp), some (.ref af), some (.ref F), none, y4, y5, none, none] ∧ G F = some (.lst xs) ∧ DpAll K G xs ((fs ++ cs.map (·.i) ++ (ls.map Ld.ix).flatten ++ ((ps.take i).map Pr.ix).flatten).map f2)) ⟨sG, _, _, rfl, eF, by rw [List.take_zero]; simpa using dF⟩ (fun i σ G _ hP => SqL.of (hP.1 _ _ et)) (fun i x σ G hxi hP => ?_) (fun σ G hP => ?_)
      · obtain ⟨sG, y5, xs, rfl, eF, dF⟩ := hP
        have hic : i < ps.length := by rw [← hxt]; exact (List.getElem?_eq_some_iff.mp hxi).1
        obtain ⟨v, g1, g2⟩ := dp_mem dt hic
        rw [hxi] at g1
        cases g1
        have dxx := g2.same sG
        have htk : ((ps.take (i + 1)).map Pr.ix).flatten = ((ps.take i).map Pr.ix).flatten ++ ps[i].ix := by
          rw [List.take_succ_eq_append_getElem hic, List.map_append, List.flatten_append]
          simp
        have hle : (((ps.take i).map Pr.ix).flatten).length ≤ 2 * i := by
          have := pix_le (ps.take i)
          rw [List.length_take] at this
          omega
        have hlen : (fs ++ cs.map (·.i) ++ (ls.map Ld.ix).flatten ++ ((ps.take i).map Pr.ix).flatten).length < 990 := by
          rw [List.length_append, List.length_append, List.length_append, List.length_map]
          omega
        rw [htk, ← List.append_assoc]
        generalize fs ++ cs.map (·.i) ++ (ls.map Ld.ix).flatten ++ ((ps.take i).map Pr.ix).flatten = zs at dF hlen
        have hxs : xs.length < 990 := by rw [dpa_len dF, List.length_map]; exact hlen
        have app : ∀ {G2 : Hp} {ys : List V} {ws : List Fm} {v : V} {f : Fm}, G2 F = some (.lst ys) → DpAll K G2 ys (ws.map f2) → Dp K G2 v (f2 f) → DpAll K (upd G2 F (.lst (ys ++ [v]))) (ys ++ [v]) ((ws ++ [f]).map f2) := fun {G2 ys ws v f} e d dv => by
          rw [List.map_append]
          exact dpa_but e but_upd _ _ (by rw [← List.map_append]; exact noLs_f2s _) (dpa_snoc d dv)
        generalize ps[i] = pr at dxx
        cases pr with
        | eit ws =>
          obtain ⟨t0, v1, v2, rfl, ht2, w1, w2⟩ := dp_inv2 dxx
          cases dp_str_inv w1
          refine ⟨_, rfl, t0, _, _, _, rfl, rfl, ht2, atI_nat (j := 0) rfl, rfl, _, rfl, iteF ?_⟩
          exact ⟨_, rfl, t0, _, _, _, rfl, rfl, ht2, atI_nat (j := 0) rfl, rfl, _, rfl, iteF ⟨sG, _, xs, rfl, eF, by show DpAll K _ xs ((zs ++ []).map f2); rw [List.append_nil]; exact dF⟩⟩
        | srt n lo hi =>
          obtain ⟨t0, v1, v2, v3, v4, rfl, ht2, w1, w2, w3, w4⟩ := dp_inv4 dxx
          cases dp_str_inv w1
          refine ⟨_, rfl, t0, _, _, _, rfl, rfl, ht2, atI_nat (j := 0) rfl, rfl, _, rfl, iteT ?_⟩
          refine ⟨_, rfl, .inl ⟨rfl, _, SqL.of eF⟩, _, rfl, t0, _, _, _, rfl, rfl, ht2, atI_nat (j := 2) rfl, F, _, _, rfl, rfl, eF, small_sz (by omega), ?_⟩
          exact ⟨_, rfl, t0, _, _, _, rfl, rfl, sqt_but eF but_upd ht2, atI_nat (j := 0) rfl, rfl, _, rfl, iteF ⟨same_mut sG nF, _, _, rfl, upd_same, app eF dF w3⟩⟩
        | all n lo hi g f =>
          obtain ⟨t0, us, rfl, ht2, ha2⟩ := dp_tup_inv dxx
          obtain ⟨v1, v2, v3, v4, v5, v6, rfl, w1, w2, w3, w4, w5, w6⟩ := dpa6 ha2
          cases dp_str_inv w1
          refine ⟨_, rfl, t0, _, _, _, rfl, rfl, ht2, atI_nat (j := 0) rfl, rfl, _, rfl, iteT ?_⟩
          refine ⟨_, rfl, .inl ⟨rfl, _, SqL.of eF⟩, _, rfl, t0, _, _, _, rfl, rfl, ht2, atI_nat (j := 2) rfl, F, _, _, rfl, rfl, eF, small_sz (by omega), ?_⟩
          exact ⟨_, rfl, t0, _, _, _, rfl, rfl, sqt_but eF but_upd ht2, atI_nat (j := 0) rfl, rfl, _, rfl, iteF ⟨same_mut sG nF, _, _, rfl, upd_same, app eF dF w3⟩⟩
        | mat n lo hi g o2 c =>
          obtain ⟨t0, us, rfl, ht2, ha2⟩ := dp_tup_inv dxx
          obtain ⟨v1, v2, v3, v4, v5, v6, v7, rfl, w1, w2, w3, w4, w5, w6, w7⟩ := dpa7 ha2
          cases dp_str_inv w1
          refine ⟨_, rfl, t0, _, _, _, rfl, rfl, ht2, atI_nat (j := 0) rfl, rfl, _, rfl, iteT ?_⟩
          refine ⟨_, rfl, .inl ⟨rfl, _, SqL.of eF⟩, _, rfl, t0, _, _, _, rfl, rfl, ht2, atI_nat (j := 2) rfl, F, _, _, rfl, rfl, eF, small_sz (by omega), ?_⟩
          exact ⟨_, rfl, t0, _, _, _, rfl, rfl, sqt_but eF but_upd ht2, atI_nat (j := 0) rfl, rfl, _, rfl, iteF ⟨same_mut sG nF, _, _, rfl, upd_same, app eF dF w3⟩⟩
        | bel n lo hi o2 fa fb =>
          obtain ⟨t0, us, rfl, ht2, ha2⟩ := dp_tup_inv dxx
          obtain ⟨v1, v2, v3, v4, v5, v6, v7, rfl, w1, w2, w3, w4, w5, w6, w7⟩ := dpa7 ha2
          cases dp_str_inv w1
          refine ⟨_, rfl, t0, _, _, _, rfl, rfl, ht2, atI_nat (j := 0) rfl, rfl, _, rfl, iteT ?_⟩
          refine ⟨_, rfl, .inl ⟨rfl, _, SqL.of eF⟩, _, rfl, t0, _, _, _, rfl, rfl, ht2, atI_nat (j := 2) rfl, F, _, _, rfl, rfl, eF, small_sz (by omega), ?_⟩
          have ht4 := sqt_but (K := K) eF (but_upd (o := .lst (xs ++ [v3]))) ht2
          have d4 := app eF dF w3
          have w6' : Dp K (upd _ F (.lst (xs ++ [v3]))) v6 (f2 fa) := dp_but eF (but_upd (o := .lst (xs ++ [v3]))) _ _ rfl w6
          refine ⟨_, rfl, t0, _, _, _, rfl, rfl, ht4, atI_nat (j := 0) rfl, rfl, _, rfl, iteT ?_⟩
          refine ⟨_, rfl, .inl ⟨rfl, _, SqL.of upd_same⟩, _, rfl, t0, _, _, _, rfl, rfl, ht4, atI_nat (j := 5) rfl, F, _, _, rfl, rfl, upd_same, small_sz (by rw [List.length_append]; show xs.length + 1 ≤ 1000; omega), ?_⟩
          refine ⟨same_mut (same_mut sG nF) nF, _, _, rfl, upd_same, ?_⟩
          have := app upd_same d4 w6'
          rw [List.append_assoc zs] at this
          exact this
      · obtain ⟨sG, y5, xs, rfl, eF, dF⟩ := hP
        rw [hxt, List.take_length] at dF
        have hfl : (fs ++ cs.map (·.i) ++ (ls.map Ld.ix).flatten ++ (ps.map Pr.ix).flatten).length < 990 := by
          rw [List.length_append, List.length_append, List.length_append, List.length_map]
          omega
        have hixs : ixs ls cs ps fs = (fs ++ cs.map (·.i) ++ (ls.map Ld.ix).flatten ++ (ps.map Pr.ix).flatten) ++ [(0, 0)] := rfl
        rw [hixs] at q
        generalize fs ++ cs.map (·.i) ++ (ls.map Ld.ix).flatten ++ (ps.map Pr.ix).flatten = zs at dF hfl q
        have hxs : xs.length = zs.length := by rw [dpa_len dF, List.length_map]
        refine ⟨Nat.zero_le _, fun O nO => ?_⟩
        have r0 := same_new (o := .lst []) nO
        generalize hK0 : upd _ O _ = K0 at r0
        have eO : K0 O = some (.lst []) := hK0 ▸ upd_same
        refine ⟨_, rfl, by show 2 ≤ sizeLine; decide, fun p1 np1 => ⟨by show 1 ≤ sizeLine; decide, fun L2 nL2 => ?_⟩⟩
        have r1 := same_new (o := .tup [.int 0, .int 0]) np1
        generalize hK1 : upd K0 p1 _ = K1 at nL2 r1
        have ep1 : K1 p1 = some (.tup [.int 0, .int 0]) := hK1 ▸ upd_same
        have r2 := same_new (o := .lst [.ref p1]) nL2
        generalize hK2 : upd K1 L2 _ = K2 at r2
        have eL2 : K2 L2 = some (.lst [.ref p1]) := hK2 ▸ upd_same
        have r02 := (r0.trans r1).trans r2
        refine ⟨F, L2, _, _, rfl, rfl, r02 _ _ eF, eL2, Nat.le_of_lt (small_sz (by show xs.length + 1 ≤ 1000; omega)), fun B nB => ?_⟩
        have r3 := same_new (o := .lst (xs ++ [.ref p1])) nB
        generalize hK3 : upd K2 B _ = K3 at r3
        have eB : K3 B = some (.lst (xs ++ [.ref p1])) := hK3 ▸ upd_same
        have r03 := r02.trans r3
        have dB : DpAll K K3 (xs ++ [.ref p1]) ((zs ++ [(0, 0)]).map f2) := by
          rw [List.map_append]
          exact dpa_app (dpa_same r03 _ _ dF) (.cons (.tup (SqT.of (r3 _ _ (r2 _ _ ep1))) (.cons (.int _) (.cons (.int _) .nil))) .nil)
        have eO3 : K3 O = some (.lst []) := r3 _ _ (r2 _ _ (r1 _ _ eO))
        have neBO : B ≠ O := (ne_of_none (r2 _ _ (r1 _ _ eO)) nB).symm
        have nOH : H O = none := sG.free nO
        have hzl : (zs ++ [((0 : Int), (0 : Int))]).length ≤ 991 := by rw [List.length_append]; show zs.length + 1 ≤ 991; omega
        generalize zs ++ [((0 : Int), (0 : Int))] = ws at dB q hzl
        generalize xs ++ [.ref p1] = ys at eB dB
        have hyl : ys.length = ws.length := by rw [dpa_len dB, List.length_map]
        refine ⟨B, rfl, ⟨_, SqL.of eB⟩, ?_⟩
        refine for_list (K := K) (a := B) (xs := ys) (fun i σ G4 => But O K3 G4 ∧ ∃ (y7 : Option V) (us : List V), σ = [some (.ref kp), some (.ref af), some (.ref F), none, y4, y5, some (.ref O), y7] ∧ G4 O = some (.lst us) ∧ DpAll K G4 us ((dd (ws.take i)).map f2)) ⟨But.refl _ _, _, [], rfl, eO3, .nil⟩ (fun i σ G4 _ hP => SqL.of (hP.1 _ _ neBO eB)) (fun i x σ G4 hxi hP => ?_) (fun σ G4 hP => ?_)
        · obtain ⟨bG, y7, us, rfl, eO4, dO⟩ := hP
          have hic : i < ws.length := by rw [← hyl]; exact (List.getElem?_eq_some_iff.mp hxi).1
          obtain ⟨v, g1, g2⟩ := dp_mem dB hic
          rw [hxi] at g1
          cases g1
          have dv := dp_but eO3 bG _ _ rfl g2
          have hul : us.length ≤ i := by
            rw [dpa_len dO, List.length_map]
            have := dd_len (ws.take i)
            rw [List.length_take] at this
            omega
          rw [List.take_succ_eq_append_getElem hic, dd_snoc]
          refine ⟨_, rfl, _, rfl, _, _, dv, .lst (SqL.of eO4) dO, by rfl, shaped_f2s _, _, rfl, ?_⟩
          rw [any_f2]
          unfold addF
          by_cases hf : ws[i] ∈ dd (ws.take i)
          · rw [decide_eq_true hf, if_pos hf]
            exact iteF ⟨bG, _, us, rfl, eO4, dO⟩
          · rw [decide_eq_false hf, if_neg hf]
            refine iteT ⟨_, rfl, .inl ⟨rfl, _, SqL.of eO4⟩, _, rfl, O, _, _, rfl, rfl, eO4, small_sz (by omega), bG.trans but_upd, _, _, rfl, upd_same, ?_⟩
            rw [List.map_append]
            exact dpa_but eO4 but_upd _ _ (by rw [← List.map_append]; exact noLs_f2s _) (dpa_snoc dO dv)
        · obtain ⟨bG, y7, us, rfl, eO4, dO⟩ := hP
          rw [hyl, List.take_length] at dO
          exact ⟨_, rfl, q O us G4 (fun b o e => bG b o (ne_of_none e nOH) (r03 _ _ (sG _ _ e))) nOH eO4 dO⟩
end
end SW

namespace SW
open PySem PySem.Spec PyProof.Rows L2
abbrev s_l_have : Stmt := topS 35
theorem sc_l_have : FnScope ["known", "number", "index", "one", "at", "value"] ["known", "number", "index"] (defScope s_l_have) := ⟨rfl, rfl, rfl, by decide +kernel, rfl, by decide +kernel, by decide +kernel⟩

/-! ### all as it was, but at some places -/
def Chg (S : List Addr) (H H' : Hp) : Prop := ∀ b o, b ∉ S → H b = some o → H' b = some o
def NT (H : Hp) (c : Addr) : Prop := ∃ o, H c = some o ∧ (∀ xs, o ≠ .tup xs) ∧ ∀ q xs, o ≠ .frz q (.tup xs)
theorem NT.lst {H : Hp} {c : Addr} {xs : List V} (h : H c = some (.lst xs)) : NT H c := ⟨_, h, fun _ q => (nomatch q), fun _ _ q => (nomatch q)⟩
theorem chg_sqt {K : PySem.W.Frag} {H H' : Hp} {S : List Addr} (n : ∀ c, c ∈ S → NT H c) (g : Chg S H H') {b : Addr} {xs : List V} (h : SqT K H b xs) : SqT K H' b xs := by
  have ne : ∀ {o : HO}, H b = some o → (o = .tup xs ∨ ∃ q, o = .frz q (.tup xs)) → b ∉ S := fun h1 h2 hb => by
    obtain ⟨o', g1, g2, g3⟩ := n b hb
    rw [h1] at g1
    cases g1
    rcases h2 with h2 | ⟨q, h2⟩
    · exact g2 xs h2
    · exact g3 q xs h2
  rcases h with (h | ⟨q, h⟩) | h
  · exact .inl (.inl (g _ _ (ne h (.inl rfl)) h))
  · exact .inl (.inr ⟨q, g _ _ (ne h (.inr ⟨q, rfl⟩)) h⟩)
  · exact .inr h
theorem chg_dp {K : PySem.W.Frag} {H H' : Hp} {S : List Addr} (n : ∀ c, c ∈ S → NT H c) (g : Chg S H H') (d : PyData) (v : V) (hd : noL d = true) (h : Dp K H v d) : Dp K H' v d := dp_tups (fun _ _ hs => chg_sqt n g hs) d v hd h
theorem chg_dpa {K : PySem.W.Frag} {H H' : Hp} {S : List Addr} (n : ∀ c, c ∈ S → NT H c) (g : Chg S H H') (ds : List PyData) (vs : List V) (hd : noLs ds = true) (h : DpAll K H vs ds) : DpAll K H' vs ds := dpa_tups (fun _ _ hs => chg_sqt n g hs) ds vs hd h
theorem LkW.same {K : PySem.W.Frag} {H H' : Hp} {kp ad al ac tk : Addr} {m : Int} {bs : List T3} {ls : List Ld} {cs : List Ce} {ps : List Pr} (h : LkW K H kp ad al ac tk m bs ls cs ps) (s : Same H H') : LkW K H' kp ad al ac tk m bs ls cs ps := by
  obtain ⟨k, ⟨xd, d1, d2⟩, ⟨xl, l1, l2⟩, ⟨xc, c1, c2⟩, xt, t1, t2⟩ := h
  exact ⟨s _ _ k, ⟨xd, s _ _ d1, dpa_same s _ _ d2⟩, ⟨xl, s _ _ l1, dpa_same s _ _ l2⟩, ⟨xc, s _ _ c1, dpa_same s _ _ c2⟩, xt, s _ _ t1, dpa_same s _ _ t2⟩
theorem LkW.chg {K : PySem.W.Frag} {H H' : Hp} {S : List Addr} {kp ad al ac tk : Addr} {m : Int} {bs : List T3} {ls : List Ld} {cs : List Ce} {ps : List Pr} (h : LkW K H kp ad al ac tk m bs ls cs ps) (n : ∀ c, c ∈ S → NT H c) (g : Chg S H H') (na : ∀ c, c ∈ ([kp, ad, al, ac, tk] : List Addr) → c ∉ S) : LkW K H' kp ad al ac tk m bs ls cs ps := by
  obtain ⟨k, ⟨xd, d1, d2⟩, ⟨xl, l1, l2⟩, ⟨xc, c1, c2⟩, xt, t1, t2⟩ := h
  exact ⟨g _ _ (na _ (by simp)) k, ⟨xd, g _ _ (na _ (by simp)) d1, chg_dpa n g _ _ (noLs_b3 _) d2⟩, ⟨xl, g _ _ (na _ (by simp)) l1, chg_dpa n g _ _ (noLs_ld _) l2⟩, ⟨xc, g _ _ (na _ (by simp)) c1, chg_dpa n g _ _ (noLs_ce _) c2⟩, xt, g _ _ (na _ (by simp)) t1, chg_dpa n g _ _ (noLs_pr _) t2⟩
theorem DN.chg {P : Program} {w : World} {K : PySem.W.Frag} {H H' : Hp} {S : List Addr} {a : Addr} {kvs : List (NestedKey × V)} (D : DN P w K H a kvs) (n : ∀ c, c ∈ S → NT H c) (g : Chg S H H') (na : a ∉ S) : DN P w K H' a kvs := by
  obtain ⟨o, es, ep, xs, e, h1, h2, h3, h4, r⟩ := D.ob
  exact ⟨D.sm, D.ln, o, es, ep, xs, g _ _ na e, h1, h2, h3, h4, npair_mono (fun d v hn hd => chg_dp n g d v hn hd) r⟩
theorem KnW.chg {P : Program} {w : World} {K : PySem.W.Frag} {C : Addr} {H H' : Hp} {S : List Addr} {k : Ka} {m : Int} {bs : List T3} {ls : List Ld} {cs : List Ce} {ps : List Pr} {fs : List Fm} (h : KnW P w K C H k m bs ls cs ps fs) (n : ∀ c, c ∈ S → NT H c) (g : Chg S H H') (na : ∀ c, c ∈ ([k.p, k.ad, k.al, k.ac, k.tk, k.af, k.ao] : List Addr) → c ∉ S) : KnW P w K C H' k m bs ls cs ps fs := by
  obtain ⟨xd, xl, xc, xt, xf, fnd, kn, h2, h3, h4, h5⟩ := h.ex
  obtain ⟨dx, e⟩ := kn.ob
  exact ⟨xd, xl, xc, xt, xf, fnd, ⟨⟨dx, g _ _ (na _ (by simp)) e⟩, g _ _ (na _ (by simp)) kn.d, g _ _ (na _ (by simp)) kn.l, g _ _ (na _ (by simp)) kn.c, g _ _ (na _ (by simp)) kn.t, g _ _ (na _ (by simp)) kn.f, kn.o.chg n g (na _ (by simp)), kn.fd.mono fun d v hn hd => chg_dp n g d v hn hd, chg_dpa n g _ _ (noLs_ce _) kn.cx, kn.le⟩, chg_dpa n g _ _ (noLs_b3 _) h2, chg_dpa n g _ _ (noLs_ld _) h3, chg_dpa n g _ _ (noLs_pr _) h4, chg_dpa n g _ _ (noLs_f2s _) h5⟩
section
variable {P : Program} {w : World} {K : PySem.W.Frag} {mg : PySem.Str → Option Value} {base : Heap} {C : Addr}
def spHave (K : PySem.W.Frag) : Sp := fun vs H Q _ => ∃ (kp ad al ac tk t : Addr) (m : Int) (bs : List T3) (ls : List Ld) (cs : List Ce) (ps : List Pr) (num : Nat) (f : Fm), vs = [.ref kp, .int num, .ref t] ∧ LkW K H kp ad al ac tk m bs ls cs ps ∧ ([kp, ad, al, ac, tk] : List Addr).Nodup ∧ Dp K H (.ref t) (f2 f) ∧ cs.length ≤ 1000 ∧
  (∀ c v, c ∈ cs → (c.n, c.i) = (num, f) → Dp K H v (f2 c.v) → Q v H) ∧
  ((∀ c, c ∈ cs → ¬ (c.n, c.i) = (num, f)) → ∀ (p : Addr) (H' : Hp), Chg [kp, ac] H H' → H p = none → H' p = some (.tup [.int (m + 1), .int 0]) → LkW K H' kp ad al ac tk (m + 1) bs ls (cs ++ [⟨num, f, (m + 1, 0)⟩]) ps → Q (.ref p) H')
theorem ok_l_have (T : TxB mg) (D_l_have : Df K mg "_law_have" s_l_have ["known", "number", "index"]) : FnOk P w K mg base CX0 1 D_l_have.f D_l_have.fd ["known", "number", "index"] (spHave K) := by
  refine D_l_have.F.ok sc_l_have (fun vs H Q E h => ?_) (fun cdv A outer s H vs Q E hr h => ?_)
  · obtain ⟨kp, ad, al, ac, tk, t, m, bs, ls, cs, ps, num, f, rfl, _⟩ := h
    rfl
  · obtain ⟨kp, ad, al, ac, tk, t, m, bs, ls, cs, ps, num, f, rfl, lk, nd, dt, hcl, qh, qn⟩ := h
    refine ⟨_, (pss_cons (ps_for PassesOwn.never rfl (pi_list (pe_ix ix_list (pv 0) pe_int (fun _ _ => rfl))) (pg_tup (by rfl) (pgs_cons (pg_name (i := 3) sc_l_have.nd rfl (.inl rfl)) (pgs_cons (pg_name (i := 4) sc_l_have.nd rfl (.inl rfl)) (pgs_cons (pg_name (i := 5) sc_l_have.nd rfl (.inl rfl)) pgs_nil))))
    (pss_one (ps_if (PW.pt (pw_and (pt_cmpR op_eq (pv 3) (pv 1) (nomark _)) (pw_and1 (pt_cmpR (op_eqD hr.units) (pv 4) (pv 2) (nomark _)))))
    (pss_one (ps_ret (pv 5)))
    pss_nil)))
    (pss_cons (ps_asg (pe_op op_add (pe_ix ix_list (pv 0) pe_int (fun _ _ => rfl)) pe_int) (pg_sub (pv 0) pe_int set_list))
    (pss_cons (ps_expr (pe_bm PySem.F.plainAttrs_list PySem.F.slot_list_append PySem.F.type_list_append mt_append (pe_ix ix_list (pv 0) pe_int (fun _ _ => rfl)) (pa_cons (pe_tup (pa_cons (pv 1) (pa_cons (pv 2) (pa_cons (pe_tup (pa_cons (pe_ix ix_list (pv 0) pe_int (fun _ _ => rfl)) (pa_cons pe_int pa_nil))) pa_nil)))) pa_nil)))
    (pss_one (ps_ret (pe_tup (pa_cons (pe_ix ix_list (pv 0) pe_int (fun _ _ => rfl)) (pa_cons pe_int pa_nil)))))))), ?_⟩
    obtain ⟨xc, ec, dc⟩ := lk.c
    have hxc : xc.length = cs.length := by rw [dpa_len dc, List.length_map]
    refine ⟨_, rfl, kp, _, _, _, rfl, rfl, SqL.of lk.k, atI_nat (j := 3) rfl, ac, rfl, ⟨_, SqL.of ec⟩, ?_⟩
    refine for_list (K := K) (a := ac) (xs := xc) (fun i σ G => G = H ∧ ∃ (y3 y4 y5 : Option V), σ = [some (.ref kp), some (.int num), some (.ref t), y3, y4, y5] ∧ ∀ c, c ∈ cs.take i → ¬ (c.n, c.i) = (num, f)) ⟨rfl, _, _, _, rfl, fun _ h => (List.not_mem_nil h).elim⟩ (fun i σ G _ hP => ?_) (fun i x σ G hxi hP => ?_) (fun σ G hP => ?_)
    · obtain ⟨rfl, _⟩ := hP
      exact SqL.of ec
    · obtain ⟨rfl, y3, y4, y5, rfl, hno⟩ := hP
      have hi8 : i < cs.length := by rw [← hxc]; exact (List.getElem?_eq_some_iff.mp hxi).1
      obtain ⟨v, q1, q2⟩ := dp_mem dc hi8
      rw [hxi] at q1
      cases q1
      obtain ⟨t8, v1, v2, v3, rfl, ht, w1, w2, w3⟩ := dp_inv3 q2
      cases dp_int_inv w1
      have htk : cs.take (i + 1) = cs.take i ++ [cs[i]] := List.take_succ_eq_append_getElem hi8
      have go : ¬ (cs[i].n, cs[i].i) = (num, f) → ∀ c, c ∈ cs.take (i + 1) → ¬ (c.n, c.i) = (num, f) := fun hn c hc => by
        rw [htk] at hc
        rcases List.mem_append.mp hc with hc | hc
        · exact hno c hc
        · rw [List.mem_singleton.mp hc]
          exact hn
      refine ⟨t8, _, rfl, ht, rfl, _, _, rfl, _, _, rfl, _, _, rfl, rfl, ?_⟩
      refine ⟨_, rfl, _, rfl, rfl, _, rfl, ite2 (fun e => ?_) (fun e => ⟨rfl, _, _, _, rfl, go fun h => e (decide_eq_true (by rw [(Prod.mk.inj h).1]))⟩)⟩
      have e := of_decide_eq_true e
      have en : cs[i].n = num := by
        injection e with e
        omega
      refine ⟨_, rfl, _, rfl, _, _, w2, dt, rfl, rfl, _, rfl, ite2 (fun e2 => ?_) (fun e2 => ⟨rfl, _, _, _, rfl, go fun h => e2 ((f2_eqv _ _).mpr (Prod.mk.inj h).2)⟩)⟩
      have e2 := (f2_eqv _ _).mp e2
      exact ⟨_, rfl, qh cs[i] v3 (List.getElem_mem hi8) (by rw [en, e2]) w3⟩
    · obtain ⟨rfl, y3, y4, y5, rfl, hno⟩ := hP
      rw [hxc, List.take_length] at hno
      obtain ⟨xd, ed, dd'⟩ := lk.d
      obtain ⟨xl, el, dl⟩ := lk.l
      obtain ⟨xt, et, dt'⟩ := lk.t
      simp only [List.nodup_cons, List.mem_cons, List.not_mem_nil, or_false, not_or] at nd
      obtain ⟨⟨n1, n2, n3, n4⟩, ⟨n5, n6, n7⟩, ⟨n8, n9⟩, n10, _⟩ := nd
      refine ⟨_, rfl, kp, _, _, _, rfl, rfl, SqL.of lk.k, atI_nat (j := 0) rfl, _, _, rfl, rfl, ?_⟩
      refine ⟨_, rfl, kp, _, 0, 0, rfl, rfl, lk.k, rfl, ?_⟩
      have b1 := but_upd (H := G) (p := kp) (o := .lst ([.int m, .ref ad, .ref al, .ref ac, .ref tk].set 0 (.int (m + 1))))
      have ek1 : (upd G kp (.lst ([.int m, .ref ad, .ref al, .ref ac, .ref tk].set 0 (.int (m + 1))))) kp = some (.lst [.int (m + 1), .ref ad, .ref al, .ref ac, .ref tk]) := upd_same
      generalize upd G kp (.lst ([.int m, .ref ad, .ref al, .ref ac, .ref tk].set 0 (.int (m + 1)))) = H1 at b1 ek1
      have ec1 := b1 _ _ (Ne.symm n3) ec
      refine ⟨_, rfl, kp, _, _, _, rfl, rfl, SqL.of ek1, atI_nat (j := 3) rfl, .inl ⟨rfl, _, SqL.of ec1⟩, ?_⟩
      refine ⟨_, rfl, _, rfl, _, rfl, kp, _, _, _, rfl, rfl, SqL.of ek1, atI_nat (j := 0) rfl, by show 2 ≤ sizeLine; decide, fun p1 np1 => ⟨by show 3 ≤ sizeLine; decide, fun p2 np2 => ?_⟩⟩
      have r1 := same_new (o := .tup [.int (m + 1), .int 0]) np1
      generalize hK1 : upd H1 p1 _ = H2 at np2 r1
      have e1 : H2 p1 = some (.tup [.int (m + 1), .int 0]) := hK1 ▸ upd_same
      have r2 := same_new (o := .tup [.int (num : Nat), .ref t, .ref p1]) np2
      generalize hK2 : upd H2 p2 _ = H3 at r2
      have e2 : H3 p2 = some (.tup [.int (num : Nat), .ref t, .ref p1]) := hK2 ▸ upd_same
      have r12 := r1.trans r2
      have ec3 := r12 _ _ ec1
      refine ⟨ac, _, _, rfl, rfl, ec3, by rw [hxc]; exact small_sz5 (by omega), ?_⟩
      have b4 := but_upd (H := H3) (p := ac) (o := .lst (xc ++ [.ref p2]))
      have ec4 : (upd H3 ac (.lst (xc ++ [.ref p2]))) ac = some (.lst (xc ++ [.ref p2])) := upd_same
      generalize upd H3 ac (.lst (xc ++ [.ref p2])) = H4 at b4 ec4
      have ek4 := b4 _ _ n3 (r12 _ _ ek1)
      refine ⟨_, rfl, kp, _, _, _, rfl, rfl, SqL.of ek4, atI_nat (j := 0) rfl, by show 2 ≤ sizeLine; decide, fun p3 np3 => ?_⟩
      have r5 := same_new (o := .tup [.int (m + 1), .int 0]) np3
      have e5 : (upd H4 p3 (.tup [.int (m + 1), .int 0])) p3 = some (.tup [.int (m + 1), .int 0]) := upd_same
      generalize upd H4 p3 (.tup [.int (m + 1), .int 0]) = H5 at r5 e5
      have chg : Chg [kp, ac] G H5 := fun b o hb e => by
        simp only [List.mem_cons, List.not_mem_nil, or_false, not_or] at hb
        exact r5 _ _ (b4 _ _ hb.2 (r12 _ _ (b1 _ _ hb.1 e)))
      have nt : ∀ c, c ∈ ([kp, ac] : List Addr) → NT G c := fun c hc => by
        simp only [List.mem_cons, List.not_mem_nil, or_false] at hc
        rcases hc with rfl | rfl
        · exact NT.lst lk.k
        · exact NT.lst ec
      have np3G : G p3 = none := by
        cases hg : G p3 with
        | none => rfl
        | some o =>
          have hk : p3 ≠ kp := fun h => by rw [h, ek4] at np3; cases np3
          have hc : p3 ≠ ac := fun h => by rw [h, ec4] at np3; cases np3
          rw [b4 _ _ hc (r12 _ _ (b1 _ _ hk hg))] at np3
          cases np3
      have ad5 : H5 ad = some (.lst xd) := chg _ _ (by simp only [List.mem_cons, List.not_mem_nil, or_false, not_or]; exact ⟨Ne.symm n1, n6⟩) ed
      have al5 : H5 al = some (.lst xl) := chg _ _ (by simp only [List.mem_cons, List.not_mem_nil, or_false, not_or]; exact ⟨Ne.symm n2, n8⟩) el
      have tk5 : H5 tk = some (.lst xt) := chg _ _ (by simp only [List.mem_cons, List.not_mem_nil, or_false, not_or]; exact ⟨Ne.symm n4, Ne.symm n10⟩) et
      have tf5 := chg_dp nt chg _ _ rfl dt
      have np2c : p2 ≠ ac := fun h => by rw [h, r1 _ _ ec1] at np2; cases np2
      have np1c : p1 ≠ ac := fun h => by rw [h, ec1] at np1; cases np1
      refine qn hno p3 H5 chg np3G e5 ⟨r5 _ _ ek4, ⟨xd, ad5, chg_dpa nt chg _ _ (noLs_b3 _) dd'⟩, ⟨xl, al5, chg_dpa nt chg _ _ (noLs_ld _) dl⟩, ⟨_, r5 _ _ ec4, ?_⟩, xt, tk5, chg_dpa nt chg _ _ (noLs_pr _) dt'⟩
      rw [List.map_append]
      exact dpa_snoc (chg_dpa nt chg _ _ (noLs_ce _) dc) (.tup (SqT.of (r5 _ _ (b4 _ _ np2c e2))) (.cons (.int _) (.cons tf5 (.cons (.tup (SqT.of (r5 _ _ (b4 _ _ np1c (r2 _ _ e1)))) (.cons (.int _) (.cons (.int _) .nil))) .nil))))
end
end SW

namespace SW
open PySem PySem.Spec PyProof.Rows L2
def tellE (m : Int) (bs : List T3) (ls : List Ld) (cs : List Ce) (ps : List Pr) (fs : List Fm) : PyData := .list [.int m, .list (bs.map b3), .list (ls.map Ld.enc), .list (cs.map Ce.enc), .list (ps.map Pr.enc), .list (fs.map f2)]
def Tell (m : Int) (bs : List T3) (ls : List Ld) (cs : List Ce) (ps : List Pr) (fs : List Fm) : Prop := smS (tellE m bs ls cs ps fs) = true ∧ (tellE m bs ls cs ps fs).depth ≤ 60 ∧ shS (tellE m bs ls cs ps fs) ≤ sizeLine
end SW

namespace SW
open PySem PySem.Spec PyProof.Rows L2
/-! ### the methods -/
abbrev s_new_number : Stmt := inClass (topS 2) 1
theorem sc_new_number : FnScope ["self"] ["self"] (defScope s_new_number) := ⟨rfl, rfl, rfl, by decide +kernel, rfl, by decide +kernel, by decide +kernel⟩
abbrev s_cell : Stmt := inClass (topS 2) 3
theorem sc_cell : FnScope ["self", "number", "index"] ["self", "number", "index"] (defScope s_cell) := ⟨rfl, rfl, rfl, by decide +kernel, rfl, by decide +kernel, by decide +kernel⟩
theorem knF_up (m z : Int) (ad al ac at_ af ao : Addr) : putF "many" (.int z) (knF m ad al ac at_ af ao) = knF z ad al ac at_ af ao := by
  rw [knF_eq, knF_eq]
  rfl
theorem NT.ins {H : Hp} {c C dx : Addr} {fs : List (PySem.Str × V)} (h : H c = some (.ins C dx fs)) : NT H c := ⟨_, h, fun _ q => (nomatch q), fun _ _ q => (nomatch q)⟩
theorem NT.ext {H : Hp} {c a : Addr} {o : Obj} (h : H c = some (ExO o a)) : NT H c := ⟨_, h, fun _ q => (nomatch q), fun _ _ q => (nomatch q)⟩
def Ka.foot (k : Ka) : List Addr := [k.p, k.ad, k.al, k.ac, k.tk, k.af, k.ao]
section
variable {P : Program} {w : World} {K : PySem.W.Frag} {mg : PySem.Str → Option Value} {base : Heap} {C : Addr}
def spNew (P : Program) (w : World) (K : PySem.W.Frag) (C : Addr) : Sp := fun vs H Q _ => ∃ (k : Ka) (m : Int) (bs : List T3) (ls : List Ld) (cs : List Ce) (ps : List Pr) (fs : List Fm), vs = [.ref k.p] ∧ KnW P w K C H k m bs ls cs ps fs ∧ k.foot.Nodup ∧
  ∀ (p : Addr) (H' : Hp), Chg [k.p] H H' → H p = none → H' p = some (.tup [.int (m + 1), .int 0]) → KnW P w K C H' k (m + 1) bs ls cs ps fs → Q (.ref p) H'
theorem ok_new_number {f : Addr} {fd : FuncData} (F : Fun K "new_number" "Known.new_number" s_new_number f fd) (T : TxK K mg C) : FnOk P w K mg base CX0 1 f fd ["self"] (spNew P w K C) := by
  refine F.ok sc_new_number (fun vs H Q E h => ?_) (fun cdv A outer s H vs Q E hr h => ?_)
  · obtain ⟨k, m, bs, ls, cs, ps, fs, rfl, _⟩ := h
    rfl
  · obtain ⟨k, m, bs, ls, cs, ps, fs, rfl, kw, nd, q⟩ := h
    refine ⟨_, pss_cons (ps_fldaug (pv 0) pe_int in_add) (pss_one (ps_ret (pe_tup (pa_cons (pe_fld (pv 0) rfl) (pa_cons pe_int pa_nil))))), ?_⟩
    obtain ⟨xd, xl, xc, xt, xf, fnd, kn, h2, h3, h4, h5⟩ := kw.ex
    obtain ⟨dx, e⟩ := kn.ob
    refine ⟨_, rfl, k.p, C, dx, _, _, rfl, e, T.cl, T.nM, knF_m _ _ _ _ _ _ _, _, _, rfl, rfl, dx, _, e, by rw [knF_eq]; show 7 < 1000; decide, ?_⟩
    rw [knF_up]
    have chg1 : Chg [k.p] H (upd H k.p (.ins C dx (knF (m + 1) k.ad k.al k.ac k.tk k.af k.ao))) := fun b o hb e => (upd_ne (fun h => hb (List.mem_singleton.mpr h))).trans e
    have ep : (upd H k.p (.ins C dx (knF (m + 1) k.ad k.al k.ac k.tk k.af k.ao))) k.p = some (.ins C dx (knF (m + 1) k.ad k.al k.ac k.tk k.af k.ao)) := upd_same
    generalize upd H k.p (.ins C dx (knF (m + 1) k.ad k.al k.ac k.tk k.af k.ao)) = H1 at chg1 ep
    refine ⟨_, rfl, k.p, C, dx, _, _, rfl, ep, T.cl, T.nM, knF_m _ _ _ _ _ _ _, by show 2 ≤ sizeLine; decide, fun p np => ?_⟩
    have r1 := same_new (o := .tup [.int (m + 1), .int 0]) np
    have chg : Chg [k.p] H (upd H1 p (.tup [.int (m + 1), .int 0])) := fun b o hb e => r1 _ _ (chg1 b o hb e)
    have nt : ∀ c, c ∈ ([k.p] : List Addr) → NT H c := fun c hc => by
      rw [List.mem_singleton.mp hc]
      exact NT.ins e
    have npH : H p = none := by
      cases hg : H p with
      | none => rfl
      | some o =>
        have hk : p ∉ ([k.p] : List Addr) := fun h => by
          rw [List.mem_singleton.mp h, ep] at np
          cases np
        rw [chg1 _ _ hk hg] at np
        cases np
    have no : ∀ c, c ∈ ([k.ad, k.al, k.ac, k.tk, k.af, k.ao] : List Addr) → c ∉ ([k.p] : List Addr) := fun c hc h => by
      have := (List.nodup_cons.mp nd).1
      rw [List.mem_singleton.mp h] at hc
      exact this hc
    refine q p _ chg npH upd_same ⟨xd, xl, xc, xt, xf, fnd, ⟨⟨dx, r1 _ _ ep⟩, chg _ _ (no _ (by simp)) kn.d, chg _ _ (no _ (by simp)) kn.l, chg _ _ (no _ (by simp)) kn.c, chg _ _ (no _ (by simp)) kn.t, chg _ _ (no _ (by simp)) kn.f, kn.o.chg nt chg (no _ (by simp)), kn.fd.mono fun d v hn hd => chg_dp nt chg d v hn hd, chg_dpa nt chg _ _ (noLs_ce _) kn.cx, kn.le⟩, chg_dpa nt chg _ _ (noLs_b3 _) h2, chg_dpa nt chg _ _ (noLs_ld _) h3, chg_dpa nt chg _ _ (noLs_pr _) h4, chg_dpa nt chg _ _ (noLs_f2s _) h5⟩
end
end SW

namespace SW
open PySem PySem.Spec PyProof.Rows L2
/-! ### the methods cell and twin -/
theorem ck_inj {c d : Ce} (h : ck c = ck d) : (c.n, c.i) = (d.n, d.i) := by
  unfold ck at h
  injection h with h
  injection h with h1 h
  injection h with h2 _
  injection h2 with h2
  injection h2 with h3 h4
  injection h4 with h4 _
  injection h1 with h1
  injection h3 with h3
  injection h4 with h4
  rw [show c.n = d.n by omega, show c.i = d.i from Prod.ext h3 h4]
theorem ck_of {c : Ce} {n : Nat} {f : Fm} (h : (c.n, c.i) = (n, f)) : ck c = .tup [.num n, .tup [.num f.1, .num f.2]] := by
  injection h with h1 h2
  unfold ck
  rw [h1, h2]
section
variable {P : Program} {w : World} {K : PySem.W.Frag} {mg : PySem.Str → Option Value} {base : Heap} {C : Addr}
def spNewB (C : Addr) : Sp := fun vs H Q _ => ∃ (p dx ad al ac tk af ao : Addr) (m : Int), vs = [.ref p] ∧ H p = some (.ins C dx (knF m ad al ac tk af ao)) ∧
  ∀ (t : Addr) (H' : Hp), Chg [p] H H' → H t = none → H' t = some (.tup [.int (m + 1), .int 0]) → H' p = some (.ins C dx (knF (m + 1) ad al ac tk af ao)) → Q (.ref t) H'
theorem ok_newB {f : Addr} {fd : FuncData} (F : Fun K "new_number" "Known.new_number" s_new_number f fd) (T : TxK K mg C) : FnOk P w K mg base CX0 1 f fd ["self"] (spNewB C) := by
  refine F.ok sc_new_number (fun vs H Q E h => ?_) (fun cdv A outer s H vs Q E hr h => ?_)
  · obtain ⟨p, dx, ad, al, ac, tk, af, ao, m, rfl, _⟩ := h
    rfl
  · obtain ⟨p, dx, ad, al, ac, tk, af, ao, m, rfl, e, q⟩ := h
    refine ⟨_, pss_cons (ps_fldaug (pv 0) pe_int in_add) (pss_one (ps_ret (pe_tup (pa_cons (pe_fld (pv 0) rfl) (pa_cons pe_int pa_nil))))), ?_⟩
    refine ⟨_, rfl, p, C, dx, _, _, rfl, e, T.cl, T.nM, knF_m _ _ _ _ _ _ _, _, _, rfl, rfl, dx, _, e, by rw [knF_eq]; show 7 < 1000; decide, ?_⟩
    rw [knF_up]
    have chg1 : Chg [p] H (upd H p (.ins C dx (knF (m + 1) ad al ac tk af ao))) := fun b o hb e => (upd_ne (fun h => hb (List.mem_singleton.mpr h))).trans e
    have ep : (upd H p (.ins C dx (knF (m + 1) ad al ac tk af ao))) p = some (.ins C dx (knF (m + 1) ad al ac tk af ao)) := upd_same
    generalize upd H p (.ins C dx (knF (m + 1) ad al ac tk af ao)) = H1 at chg1 ep
    refine ⟨_, rfl, p, C, dx, _, _, rfl, ep, T.cl, T.nM, knF_m _ _ _ _ _ _ _, by show 2 ≤ sizeLine; decide, fun t nt => ?_⟩
    have r1 := same_new (o := .tup [.int (m + 1), .int 0]) nt
    have npH : H t = none := by
      cases hg : H t with
      | none => rfl
      | some o =>
        have hk : t ∉ ([p] : List Addr) := fun h => by
          rw [List.mem_singleton.mp h, ep] at nt
          cases nt
        rw [chg1 _ _ hk hg] at nt
        cases nt
    exact q t _ (fun b o hb e => r1 _ _ (chg1 b o hb e)) npH upd_same (r1 _ _ ep)
def spCellM (P : Program) (w : World) (K : PySem.W.Frag) (C : Addr) : Sp := fun vs H Q _ => ∃ (k : Ka) (m : Int) (bs : List T3) (ls : List Ld) (cs : List Ce) (ps : List Pr) (fs : List Fm) (num : Nat) (f : Fm) (t : Addr), vs = [.ref k.p, .int num, .ref t] ∧ KnW P w K C H k m bs ls cs ps fs ∧ k.foot.Nodup ∧ Dp K H (.ref t) (f2 f) ∧ cs.length ≤ 1000 ∧
  (∀ c v H', c ∈ cs → (c.n, c.i) = (num, f) → Same H H' → Dp K H' v (f2 c.v) → Q v H') ∧
  ((∀ c, c ∈ cs → ¬ (c.n, c.i) = (num, f)) → ∀ (p : Addr) (H' : Hp), Chg [k.p, k.ac, k.ao] H H' → Dp K H' (.ref p) (f2 (m + 1, 0)) → KnW P w K C H' k (m + 1) bs ls (cs ++ [⟨num, f, (m + 1, 0)⟩]) ps fs → Q (.ref p) H')
theorem ok_cell {f fN : Addr} {fd fdN : FuncData} (F : Fun K "cell" "Known.cell" s_cell f fd) (T : TxK K mg C) (m_new : Meth K C "new_number" fN) (G_new : FnOk P w K mg base CX0 1 fN fdN ["self"] (spNewB C)) (b_new : Binds K fdN ["self"] []) : FnOk P w K mg base CX0 2 f fd ["self", "number", "index"] (spCellM P w K C) := by
  refine F.ok sc_cell (fun vs H Q E h => ?_) (fun cdv A outer s H vs Q E hr h => ?_)
  · obtain ⟨k, m, bs, ls, cs, ps, fs, num, f, t, rfl, _⟩ := h
    rfl
  · obtain ⟨k, m, bs, ls, cs, ps, fs, num, f, t, rfl, kw, nd, dt, hcl, qh, qn⟩ := h
    refine ⟨_, Evl.pss_cut (ps_if (pt_cmpR (op_notN' (units65 hr)) (pe_tup (pa_cons (pv 1) (pa_cons (pv 2) pa_nil))) (pe_fld (pv 0) rfl) (by rfl))
        (pss_cons (ps_asg (pe_callB call_len_seq (by rfl) T.n_len PySem.boot_len (pa_cons (pe_fld (pv 0) rfl) pa_nil)) (pg_sub (pe_fld (pv 0) rfl) (pe_tup (pa_cons (pv 1) (pa_cons (pv 2) pa_nil))) (set_nest (units65 hr))))
        (pss_one (ps_expr (pe_bm PySem.F.plainAttrs_list PySem.F.slot_list_append PySem.F.type_list_append mt_append (pe_fld (pv 0) rfl) (pa_cons (pe_tup (pa_cons (pv 1) (pa_cons (pv 2) (pa_cons (pe_meth0 (pv 0) T.cl m_new G_new (hr.mono (by decide)) b_new .nil pass0) pa_nil)))) pa_nil)))))
        pss_nil)
      (pss_one (ps_ret (pe_ix ix_tup (pe_ix ix_list (pe_fld (pv 0) rfl) (pe_ix (ix_nest (units65 hr)) (pe_fld (pv 0) rfl) (pe_tup (pa_cons (pv 1) (pa_cons (pv 2) pa_nil))) (fun _ _ => rfl)) (fun _ _ => rfl)) pe_int (fun _ _ => rfl)))), ?_⟩
    obtain ⟨xd, xl, xc, xt, xf, fnd, kn, h2, h3, h4, h5⟩ := kw.ex
    obtain ⟨dx, e⟩ := kn.ob
    have hxc : xc.length = cs.length := by rw [dpa_len kn.cx, List.length_map]
    let c0 : Ce := ⟨num, f, (m + 1, 0)⟩
    have hkd : ∀ {G : Hp} {a : Addr}, Dp K G (.ref t) (f2 f) → G a = some (.tup [.int num, .ref t]) → Dp K G (.ref a) (ck c0).data := fun {G a} hd ha => by
      rw [ck_data]
      exact dp_tup2 (d1 := .int (num : Nat)) (d2 := f2 f) ha (.int _) hd
    refine ⟨fun σ' G => σ' = [some (.ref k.p), some (.int num), some (.ref t)] ∧ ∃ (m' : Int) (fnd' : List (NestedKey × V)) (ys : List V) (j : Nat) (t8 : Addr) (v1 v2 v : V), G k.p = some (.ins C dx (knF m' k.ad k.al k.ac k.tk k.af k.ao)) ∧ G k.ac = some (.lst ys) ∧ DN P w K G k.ao fnd' ∧ valV fnd' (ck c0) = some (.int j) ∧ ys[j]? = some (.ref t8) ∧ SqT K G t8 [v1, v2, v] ∧ Dp K G (.ref t) (f2 f) ∧ ∀ G', Same G G' → Q v G', ?_, ?_⟩
    · refine ⟨_, rfl, _, rfl, by show 2 ≤ sizeLine; decide, fun kt nk => ?_⟩
      have s1 := same_new (o := .tup [.int num, .ref t]) nk
      generalize hK : upd H kt _ = H1 at s1
      have ek : H1 kt = some (.tup [.int num, .ref t]) := hK ▸ upd_same
      have dt1 := dt.same s1
      refine ⟨_, rfl, k.p, C, dx, _, _, rfl, s1 _ _ e, T.cl, T.nO, knF_o _ _ _ _ _ _ _, ?_⟩
      refine ⟨kt, k.ao, fnd, ck c0, rfl, rfl, kn.o.same s1, hkd dt1 ek, ck_depth _, _, rfl, ?_⟩
      cases hv : valV fnd (ck c0) with
      | some v =>
        obtain ⟨j, c, g1, g2, rfl⟩ := kn.fd.some _ _ hv
        have hj := (List.getElem?_eq_some_iff.mp g1).1
        obtain ⟨u, u1, u2⟩ := dp_mem kn.cx hj
        have hc : cs[j] = c := by
          rw [List.getElem?_eq_getElem hj] at g1
          exact Option.some.inj g1
        rw [hc] at u2
        obtain ⟨t8, v1, v2, v3, rfl, ht, w1, w2, w3⟩ := dp_inv3 u2
        refine iteF ⟨rfl, m, fnd, xc, j, t8, v1, v2, v3, s1 _ _ e, s1 _ _ kn.c, kn.o.same s1, hv, u1, sqt_same s1 ht, dt1, fun G' s' => ?_⟩
        exact qh c v3 G' (List.mem_of_getElem? g1) (ck_inj g2) (s1.trans s') (dp_same (s1.trans s') _ _ w3)
      | none =>
        have hno : ∀ c, c ∈ cs → ¬ (c.n, c.i) = (num, f) := fun c hc h => by
          obtain ⟨v, hv'⟩ := kn.fd.all c hc
          rw [ck_of h] at hv'
          rw [show ck c0 = _ from ck_of (c := c0) rfl, hv'] at hv
          cases hv
        refine iteT ?_
        have hpf := nd
        unfold Ka.foot at hpf
        simp only [List.nodup_cons, List.mem_cons, List.not_mem_nil, or_false, not_or] at hpf
        obtain ⟨⟨p1, p2, p3, p4, p5, p6⟩, ⟨d1, d2, d3, d4, d5⟩, ⟨l1, l2, l3, l4⟩, ⟨c1, c2, c3⟩, ⟨t1, t2⟩, f1, _⟩ := hpf
        -- self._found[number, index] = len(self.cells)
        refine ⟨_, rfl, k.p, C, dx, _, _, rfl, s1 _ _ e, T.cl, T.nC, knF_c _ _ _ _ _ _ _, k.ac, _, rfl, .inl (SqL.of (s1 _ _ kn.c)), ?_⟩
        refine ⟨_, rfl, k.p, C, dx, _, _, rfl, s1 _ _ e, T.cl, T.nO, knF_o _ _ _ _ _ _ _, _, rfl, _, rfl, by show 2 ≤ sizeLine; decide, fun kt2 nk2 => ?_⟩
        have s2 := same_new (o := .tup [.int num, .ref t]) nk2
        generalize hK : upd H1 kt2 _ = H2 at s2
        have ek2 : H2 kt2 = some (.tup [.int num, .ref t]) := hK ▸ upd_same
        have s12 := s1.trans s2
        have dn2 := kn.o.same s12
        refine ⟨k.ao, kt2, fnd, ck c0, rfl, rfl, dn2, hkd (dt.same s12) ek2, ck_depth _, small_sz5 (by have := kn.le; omega), fun o' dn' => ?_⟩
        rw [hxc] at dn'
        obtain ⟨oo, _, _, _, eao, _⟩ := dn2.ob
        have b3 : ∀ b y, b ≠ k.ao → H2 b = some y → upd H2 k.ao (ExO o' k.ao) b = some y := fun b y hb e => (upd_ne hb).trans e
        generalize upd H2 k.ao (ExO o' k.ao) = H3 at dn' b3
        have ep3 := b3 _ _ p6 (s12 _ _ e)
        have ec3 := b3 _ _ c3 (s12 _ _ kn.c)
        -- self.cells.append
        refine ⟨_, rfl, k.p, C, dx, _, _, rfl, ep3, T.cl, T.nC, knF_c _ _ _ _ _ _ _, .inl ⟨rfl, _, SqL.of ec3⟩, ?_⟩
        refine ⟨_, rfl, _, rfl, _, rfl, k.p, dx, _, rfl, ep3, knF_no _ _ _ _ _ _ _ (by decide +kernel), k.p, dx, k.ad, k.al, k.ac, k.tk, k.af, k.ao, m, rfl, ep3, fun p4' H4 chg4 np4 e4 ep4 => ?_⟩
        have ec4 : H4 k.ac = some (.lst xc) := chg4 _ _ (fun h => p3 (List.mem_singleton.mp h).symm) ec3
        refine ⟨by show 3 ≤ sizeLine; decide, fun q5 nq5 => ?_⟩
        have s5 := same_new (o := .tup [.int num, .ref t, .ref p4']) nq5
        generalize hK : upd H4 q5 _ = H5 at s5
        have e5 : H5 q5 = some (.tup [.int num, .ref t, .ref p4']) := hK ▸ upd_same
        have ec5 := s5 _ _ ec4
        refine ⟨k.ac, _, _, rfl, rfl, ec5, by rw [hxc]; exact small_sz5 (by omega), ?_⟩
        have b6 : ∀ b y, b ≠ k.ac → H5 b = some y → upd H5 k.ac (.lst (xc ++ [.ref q5])) b = some y := fun b y hb e => (upd_ne hb).trans e
        have ec6 : (upd H5 k.ac (.lst (xc ++ [.ref q5]))) k.ac = some (.lst (xc ++ [.ref q5])) := upd_same
        generalize upd H5 k.ac (.lst (xc ++ [.ref q5])) = H6 at b6 ec6
        have chg : Chg [k.p, k.ac, k.ao] H H6 := fun b o hb e => by
          simp only [List.mem_cons, List.not_mem_nil, or_false, not_or] at hb
          exact b6 _ _ hb.2.1 (s5 _ _ (chg4 _ _ (fun h => hb.1 (List.mem_singleton.mp h)) (b3 _ _ hb.2.2 (s12 _ _ e))))
        have nt : ∀ c, c ∈ ([k.p, k.ac, k.ao] : List Addr) → NT H c := fun c hc => by
          simp only [List.mem_cons, List.not_mem_nil, or_false] at hc
          rcases hc with rfl | rfl | rfl
          · exact NT.ins e
          · exact NT.lst kn.c
          · obtain ⟨oo, _, _, _, eo, _⟩ := kn.o.ob
            exact NT.ext eo
        have chg36 : Chg [k.p, k.ac] H3 H6 := fun b o hb e => by
          simp only [List.mem_cons, List.not_mem_nil, or_false, not_or] at hb
          exact b6 _ _ hb.2 (s5 _ _ (chg4 _ _ (fun h => hb.1 (List.mem_singleton.mp h)) e))
        have nt3 : ∀ c, c ∈ ([k.p, k.ac] : List Addr) → NT H3 c := fun c hc => by
          simp only [List.mem_cons, List.not_mem_nil, or_false] at hc
          rcases hc with rfl | rfl
          · exact NT.ins ep3
          · exact NT.lst ec3
        have dn6 := dn'.chg nt3 chg36 (by simp only [List.mem_cons, List.not_mem_nil, or_false, not_or]; exact ⟨Ne.symm p6, Ne.symm c3⟩)
        have dt6 := chg_dp nt chg _ _ rfl dt
        have q5c : q5 ≠ k.ac := fun h => by rw [h, ec4] at nq5; cases nq5
        have p4c : p4' ≠ k.ac := fun h => by rw [h, ec3] at np4; cases np4
        have e6q := b6 _ _ q5c e5
        have e6p := b6 _ _ p4c (s5 _ _ e4)
        have ep6 := b6 _ _ p3 (s5 _ _ ep4)
        have dp4 : Dp K H6 (.ref p4') (f2 (m + 1, 0)) := .tup (SqT.of e6p) (.cons (.int _) (.cons (.int _) .nil))
        have out : ∀ c, c ∈ ([k.ad, k.al, k.tk, k.af] : List Addr) → c ∉ ([k.p, k.ac, k.ao] : List Addr) := fun c hc h => by
          simp only [List.mem_cons, List.not_mem_nil, or_false] at hc h
          rcases hc with rfl | rfl | rfl | rfl <;> rcases h with h | h | h
          · exact p1 h.symm
          · exact d2 h
          · exact d5 h
          · exact p2 h.symm
          · exact l1 h
          · exact l4 h
          · exact p4 h.symm
          · exact c1 h.symm
          · exact t2 h
          · exact p5 h.symm
          · exact c2 h.symm
          · exact f1 h
        have hput := FdOk.put (K := K) (H := H6) (c := c0) (kn.fd.mono fun d v hn hd => chg_dp nt chg d v hn hd)
        refine ⟨rfl, m + 1, _, xc ++ [.ref q5], cs.length, q5, _, _, _, ep6, ec6, dn6, by rw [valV_put, if_pos rfl], by rw [List.getElem?_append_right (by omega), hxc, Nat.sub_self]; rfl, SqT.of e6q, dt6, fun G' s' => ?_⟩
        refine qn hno p4' G' (fun b o hb e => s' _ _ (chg b o hb e)) (dp_same s' _ _ dp4) (KnW.same ⟨xd, xl, _, xt, xf, _, ⟨⟨dx, ep6⟩, chg _ _ (out _ (by simp)) kn.d, chg _ _ (out _ (by simp)) kn.l, ec6, chg _ _ (out _ (by simp)) kn.t, chg _ _ (out _ (by simp)) kn.f, dn6, hput, ?_, ?_⟩, chg_dpa nt chg _ _ (noLs_b3 _) h2, chg_dpa nt chg _ _ (noLs_ld _) h3, chg_dpa nt chg _ _ (noLs_pr _) h4, chg_dpa nt chg _ _ (noLs_f2s _) h5⟩ s')
        · rw [List.map_append]
          exact dpa_snoc (chg_dpa nt chg _ _ (noLs_ce _) kn.cx) (.tup (SqT.of e6q) (.cons (.int _) (.cons dt6 (.cons dp4 .nil))))
        · have := putN_len fnd (ck c0) (.int (cs.length : Nat))
          have := kn.le
          rw [List.length_append]
          show _ ≤ cs.length + 1
          omega
    · intro σ' G hM
      obtain ⟨rfl, m', fnd', ys, j, t8, v1, v2, v, ep, ec, dn, hv, hy, ht, dtG, k'⟩ := hM
      refine ⟨_, rfl, k.p, C, dx, _, _, rfl, ep, T.cl, T.nC, knF_c _ _ _ _ _ _ _, _, rfl, k.p, C, dx, _, _, rfl, ep, T.cl, T.nO, knF_o _ _ _ _ _ _ _, _, rfl, _, rfl, by show 2 ≤ sizeLine; decide, fun kt nk => ?_⟩
      have s1 := same_new (o := .tup [.int num, .ref t]) nk
      generalize hK : upd G kt _ = G1 at s1
      have ek : G1 kt = some (.tup [.int num, .ref t]) := hK ▸ upd_same
      refine ⟨k.ao, kt, fnd', ck c0, _, rfl, rfl, dn.same s1, hkd (dp_same s1 _ _ dtG) ek, ck_depth _, hv, ?_⟩
      refine ⟨k.ac, _, _, _, rfl, rfl, SqL.of (s1 _ _ ec), atI_nat hy, ?_⟩
      exact ⟨t8, _, _, _, rfl, rfl, sqt_same s1 ht, atI_nat (j := 2) rfl, k' G1 s1⟩
/-- a new one, of what stands in lists -/
theorem made {H H' : Hp} {p ad al ac at_ af ao : Addr} {m : Int} {bs : List T3} {ls : List Ld} {cs : List Ce} {ps : List Pr} {fs : List Fm} {xd xl xc xt xf : List V} {fnd : List (NestedKey × V)} (s : Same H H') (kn : KnAt P w K C H' p ad al ac at_ af ao m xd xl xc xt xf cs fnd) (nd : ([ad, al, ac, at_, af] : List Addr).Nodup)
    (h2 : DpAll K H xd (bs.map b3)) (h3 : DpAll K H xl (ls.map Ld.enc)) (h4 : DpAll K H xt (ps.map Pr.enc)) (h5 : DpAll K H xf (fs.map f2)) : (⟨p, ad, al, ac, at_, af, ao⟩ : Ka).foot.Nodup ∧ KnW P w K C H' ⟨p, ad, al, ac, at_, af, ao⟩ m bs ls cs ps fs := by
  refine ⟨?_, xd, xl, xc, xt, xf, fnd, kn, dpa_same s _ _ h2, dpa_same s _ _ h3, dpa_same s _ _ h4, dpa_same s _ _ h5⟩
  obtain ⟨dx, e⟩ := kn.ob
  obtain ⟨oo, _, _, _, eo, _⟩ := kn.o.ob
  have np : ∀ {a : Addr} {xs : List V}, H' a = some (.lst xs) → p ≠ a := fun h q => by
    rw [← q, e] at h
    cases h
  have no : ∀ {a : Addr} {xs : List V}, H' a = some (.lst xs) → a ≠ ao := fun h q => by
    rw [q, eo] at h
    cases h
  have npo : p ≠ ao := fun q => by
    rw [← q, e] at eo
    cases eo
  unfold Ka.foot
  simp only [List.nodup_cons, List.mem_cons, List.not_mem_nil, or_false, not_or, List.nodup_nil, and_true, not_false_eq_true] at nd ⊢
  obtain ⟨⟨a1, a2, a3, a4⟩, ⟨a5, a6, a7⟩, ⟨a8, a9⟩, a10⟩ := nd
  exact ⟨⟨np kn.d, np kn.l, np kn.c, np kn.t, np kn.f, npo⟩, ⟨a1, a2, a3, a4, no kn.d⟩, ⟨a5, a6, a7, no kn.l⟩, ⟨a8, a9, no kn.c⟩, ⟨a10, no kn.t⟩, no kn.f⟩
end
end SW

namespace SW
open PySem PySem.Spec PyProof.Rows L2
theorem sm_f2 {f : Fm} (h : f.1.natAbs < 10 ^ 60 ∧ f.2.natAbs < 10 ^ 60) : smS (f2 f) = true := by
  show (decide (f.1.natAbs < 10 ^ 60) && (decide (f.2.natAbs < 10 ^ 60) && true)) = true
  rw [decide_eq_true h.1, decide_eq_true h.2]
  rfl
/-! ### what stays through the law -/
structure SC (ns : List Int) (bs : List T3) (ls : List Ld) (ps : List Pr) (fs : List Fm) : Prop where
  nl : ns.length ≤ 10
  vs : VsB ns
  lok : LsOk ns.length ls
  lsb : LsB ns ls
  l0 : 0 < ls.length
  l1 : ls.length ≤ 10
  b1 : bs.length ≤ 20
  sb : ∀ b, b ∈ bs → smS (b3 b) = true
  p1 : ps.length ≤ 10
  sp : ∀ p, p ∈ ps → p.ok ls.length ns ∧ p.fin ns
  f1 : fs.length ≤ 10
  sf : ∀ f, f ∈ fs → fok ns.length f ∧ Wb ns f
/-- cells that may be told -/
structure CT (N : Nat) (cs : List Ce) : Prop where
  n : cs.length ≤ N
  s : ∀ c, c ∈ cs → c.n < 10 ∧ smS (f2 c.i) = true ∧ smS (f2 c.v) = true
  u : (cs.map fun c => (c.n, c.i)).Nodup
theorem CT.mono {N M : Nat} {cs : List Ce} (h : CT N cs) (l : N ≤ M) : CT M cs := ⟨Nat.le_trans h.n l, h.s, h.u⟩
theorem CT.uniq {N : Nat} {cs : List Ce} (h : CT N cs) {c d : Ce} (hc : c ∈ cs) (hd : d ∈ cs) (e : (c.n, c.i) = (d.n, d.i)) : c = d := by
  obtain ⟨i, hi⟩ := List.getElem?_of_mem hc
  obtain ⟨j, hj⟩ := List.getElem?_of_mem hd
  have ii := List.getElem?_eq_some_iff.mp hi
  have jj := List.getElem?_eq_some_iff.mp hj
  have : i = j := (List.getElem_inj (h₀ := by rw [List.length_map]; exact ii.1) (h₁ := by rw [List.length_map]; exact jj.1) h.u).mp (by rw [List.getElem_map, List.getElem_map, ii.2, jj.2]; exact e)
  subst this
  rw [hi] at hj
  exact Option.some.inj hj
theorem CT.add {N : Nat} {cs : List Ce} (h : CT N cs) {n : Nat} {f : Fm} {z : Int} (hn : n < 10) (hf : smS (f2 f) = true) (hz : z.natAbs < 10 ^ 60) (no : ∀ c, c ∈ cs → ¬ (c.n, c.i) = (n, f)) : CT (N + 1) (cs ++ [⟨n, f, (z, 0)⟩]) := by
  refine ⟨by rw [List.length_append]; exact Nat.succ_le_succ h.n, fun c hc => ?_, ?_⟩
  · rcases List.mem_append.mp hc with hc | hc
    · exact h.s c hc
    · rw [List.mem_singleton.mp hc]
      exact ⟨hn, hf, sm_f2 ⟨hz, by show (0 : Int).natAbs < 10 ^ 60; decide⟩⟩
  · rw [List.map_append]
    refine List.nodup_append.mpr ⟨h.u, List.nodup_cons.mpr ⟨List.not_mem_nil, List.nodup_nil⟩, fun a ha b hb e => ?_⟩
    obtain ⟨c, hc, rfl⟩ := List.mem_map.mp ha
    rw [List.mem_singleton.mp hb] at e
    exact no c hc e
theorem sm_ce {N : Nat} {cs : List Ce} {c : Ce} (h : CT N cs) (hc : c ∈ cs) : smS c.enc = true := by
  obtain ⟨h1, h2, h3⟩ := h.s c hc
  show (smS (.int c.n) && (smS (f2 c.i) && (smS (f2 c.v) && true))) = true
  have : smS (.int c.n) = true := decide_eq_true (by omega)
  rw [this, h2, h3]
  rfl
theorem sm_ld {ns : List Int} {bs : List T3} {ls : List Ld} {ps : List Pr} {fs : List Fm} (S : SC ns bs ls ps fs) {l : Ld} (h : l ∈ ls) : smS l.enc = true := by
  obtain ⟨j, hj⟩ := List.getElem?_of_mem h
  have h1 := S.lok j l hj
  have h2 := S.lsb l h
  have hjl := (List.getElem?_eq_some_iff.mp hj).1
  have sw : smS (.str "written") = true := by decide +kernel
  have sn : smS (.str "new") = true := by decide +kernel
  have hn : ns.length ≤ 1000 := Nat.le_trans S.nl (by decide)
  cases l with
  | new f =>
    show (smS (.str "new") && (smS (f2 f) && true)) = true
    have h2 : 0 ≤ wo ns f ∧ wo ns f ≤ 100 := h2
    rw [sn, sm_f2 (f_small hn S.vs h1 ⟨by omega, by omega⟩)]
    rfl
  | wr o i v =>
    obtain ⟨ho, hi, hw⟩ := h1
    show (smS (.str "written") && (smS (.int o) && (smS (f2 i) && (smS (f2 v) && true)))) = true
    have : smS (.int o) = true := decide_eq_true (by have := S.l1; omega)
    rw [sw, this, sm_f2 (f_small hn S.vs hi h2.1), sm_f2 (f_small hn S.vs hw h2.2)]
    rfl
theorem sm_sg : ∀ g, g ∈ sgs → smS (.str g) = true := by decide +kernel
theorem sm_b3 {t : T3} (h1 : t.1.natAbs < 10 ^ 60) (h2 : t.2.1.natAbs < 10 ^ 60) (h3 : t.2.2.natAbs < 10 ^ 60) : smS (b3 t) = true := by
  show (decide (t.1.natAbs < 10 ^ 60) && (decide (t.2.1.natAbs < 10 ^ 60) && (decide (t.2.2.natAbs < 10 ^ 60) && true))) = true
  rw [decide_eq_true h1, decide_eq_true h2, decide_eq_true h3]
  rfl
theorem sm_pr {ns : List Int} {bs : List T3} {ls : List Ld} {ps : List Pr} {fs : List Fm} (S : SC ns bs ls ps fs) {p : Pr} (h : p ∈ ps) : smS p.enc = true := by
  obtain ⟨h1, h2⟩ := S.sp p h
  have hn : ns.length ≤ 1000 := Nat.le_trans S.nl (by decide)
  have sf : ∀ {f : Fm}, fok ns.length f ∧ Wb ns f → smS (f2 f) = true := fun {f} h => sm_f2 (f_small hn S.vs h.1 h.2)
  have si : ∀ n : Nat, n < ls.length → smS (.int (n : Nat)) = true := fun n h => decide_eq_true (by have := S.l1; omega)
  have t1 : smS (.str "all") = true := by decide +kernel
  have t2 : smS (.str "match") = true := by decide +kernel
  have t3 : smS (.str "sorted") = true := by decide +kernel
  have t4 : smS (.str "below") = true := by decide +kernel
  have t5 : smS (.str "either") = true := by decide +kernel
  cases p with
  | all n lo hi g f =>
    obtain ⟨a1, a2, a3, a4, a5⟩ := h1
    show (smS (.str "all") && (smS (.int n) && (smS (f2 lo) && (smS (f2 hi) && (smS (.str g) && (smS (f2 f) && true)))))) = true
    rw [t1, si n a1, sf a2, sf a3, sm_sg g a4, sf a5]
    rfl
  | mat n lo hi g o c =>
    obtain ⟨a1, a2, a3, a4, a5, a6⟩ := h1
    show (smS (.str "match") && (smS (.int n) && (smS (f2 lo) && (smS (f2 hi) && (smS (.str g) && (smS (.int o) && (smS (.int c) && true))))))) = true
    have : smS (.int c) = true := decide_eq_true (by omega)
    rw [t2, si n a1, sf a2, sf a3, sm_sg g a4, si o a5, this]
    rfl
  | srt n lo hi =>
    obtain ⟨a1, a2, a3⟩ := h1
    show (smS (.str "sorted") && (smS (.int n) && (smS (f2 lo) && (smS (f2 hi) && true)))) = true
    rw [t3, si n a1, sf a2, sf a3]
    rfl
  | bel n lo hi o a b =>
    obtain ⟨a1, a2, a3, a4, a5, a6⟩ := h1
    show (smS (.str "below") && (smS (.int n) && (smS (f2 lo) && (smS (f2 hi) && (smS (.int o) && (smS (f2 a) && (smS (f2 b) && true))))))) = true
    rw [t4, si n a1, sf a2, sf a3, si o a4, sf a5, sf a6]
    rfl
  | eit ws =>
    obtain ⟨_, a2⟩ := h2
    have sw : smSs (ws.map fun x => PyData.tuple (x.map b3)) = true := smSs_map _ ws fun x hx => smSs_map b3 x fun t ht => by
      obtain ⟨b1, b2, b4, b5⟩ := (a2 x hx).2 t ht
      have := S.nl
      exact sm_b3 (by omega) (by omega) (by omega)
    show (smS (.str "either") && (smSs (ws.map fun x => PyData.tuple (x.map b3)) && true)) = true
    rw [t5, sw]
    rfl
theorem dep_f2 (f : Fm) : (f2 f).depth ≤ 1 := by show max 0 (max 0 0) + 1 ≤ 1; decide
theorem sh_f2 (f : Fm) : shS (f2 f) ≤ 200 := by show 70 + 10 + (70 + 10 + 0) + 10 ≤ 200; decide
theorem tell_of {ns : List Int} {bs : List T3} {ls : List Ld} {ps : List Pr} {fs : List Fm} {N : Nat} {cs : List Ce} {m : Int} (S : SC ns bs ls ps fs) (c : CT N cs) (hN : N ≤ 100) (hm : m.natAbs < 10 ^ 60) : Tell m bs ls cs ps fs := by
  have hn : ns.length ≤ 1000 := Nat.le_trans S.nl (by decide)
  refine ⟨?_, ?_, ?_⟩
  · show (smS (.int m) && (smSs (bs.map b3) && (smSs (ls.map Ld.enc) && (smSs (cs.map Ce.enc) && (smSs (ps.map Pr.enc) && (smSs (fs.map f2) && true)))))) = true
    have : smS (.int m) = true := decide_eq_true hm
    rw [this, smSs_map b3 bs S.sb, smSs_map Ld.enc ls fun l h => sm_ld S h, smSs_map Ce.enc cs fun d h => sm_ce c h, smSs_map Pr.enc ps fun p h => sm_pr S h, smSs_map f2 fs fun f h => sm_f2 (f_small hn S.vs (S.sf f h).1 (S.sf f h).2)]
    rfl
  · have a1 := depthS_map b3 1 bs fun d _ => by show max 0 (max 0 (max 0 0)) + 1 ≤ 1; decide
    have a2 := depthS_map Ld.enc 10 ls fun d _ => by
      cases d with
      | new f => show max 0 (max (max 0 (max 0 0) + 1) 0) + 1 ≤ 10; decide
      | wr o i v => show max 0 (max 0 (max (max 0 (max 0 0) + 1) (max (max 0 (max 0 0) + 1) 0))) + 1 ≤ 10; decide
    have a3 := depthS_map Ce.enc 10 cs fun d _ => by show max 0 (max (max 0 (max 0 0) + 1) (max (max 0 (max 0 0) + 1) 0)) + 1 ≤ 10; decide
    have a4 := depthS_map Pr.enc 10 ps fun d _ => by
      cases d with
      | all n lo hi g f => show max 0 (max 0 (max (max 0 (max 0 0) + 1) (max (max 0 (max 0 0) + 1) (max 0 (max (max 0 (max 0 0) + 1) 0))))) + 1 ≤ 10; decide
      | mat n lo hi g o c => show max 0 (max 0 (max (max 0 (max 0 0) + 1) (max (max 0 (max 0 0) + 1) (max 0 (max 0 (max 0 0)))))) + 1 ≤ 10; decide
      | srt n lo hi => show max 0 (max 0 (max (max 0 (max 0 0) + 1) (max (max 0 (max 0 0) + 1) 0))) + 1 ≤ 10; decide
      | bel n lo hi o a b => show max 0 (max 0 (max (max 0 (max 0 0) + 1) (max (max 0 (max 0 0) + 1) (max 0 (max (max 0 (max 0 0) + 1) (max (max 0 (max 0 0) + 1) 0)))))) + 1 ≤ 10; decide
      | eit ws =>
        have := depthS_map (fun x : List T3 => PyData.tuple (x.map b3)) 2 ws fun x _ => by
          have := depthS_map b3 1 x fun d _ => by show max 0 (max 0 (max 0 0)) + 1 ≤ 1; decide
          show PyData.depthAll (x.map b3) + 1 ≤ 2
          omega
        show max 0 (max (PyData.depthAll (ws.map fun x => PyData.tuple (x.map b3)) + 1) 0) + 1 ≤ 10
        omega
    have a5 := depthS_map f2 1 fs fun f _ => dep_f2 f
    show max 0 (max (PyData.depthAll (bs.map b3) + 1) (max (PyData.depthAll (ls.map Ld.enc) + 1) (max (PyData.depthAll (cs.map Ce.enc) + 1) (max (PyData.depthAll (ps.map Pr.enc) + 1) (max (PyData.depthAll (fs.map f2) + 1) 0))))) + 1 ≤ 60
    omega
  · have a1 := shSs_map b3 250 bs fun d _ => by show 70 + 10 + (70 + 10 + (70 + 10 + 0)) + 10 ≤ 250; decide
    have a2 := shSs_map Ld.enc 1000 ls fun d _ => by
      cases d with
      | new f => show 70 + 10 + ((70 + 10 + (70 + 10 + 0) + 10) + 10 + 0) + 10 ≤ 1000; decide
      | wr o i v => show 70 + 10 + (70 + 10 + ((70 + 10 + (70 + 10 + 0) + 10) + 10 + ((70 + 10 + (70 + 10 + 0) + 10) + 10 + 0))) + 10 ≤ 1000; decide
    have a3 := shSs_map Ce.enc 1000 cs fun d _ => by show 70 + 10 + ((70 + 10 + (70 + 10 + 0) + 10) + 10 + ((70 + 10 + (70 + 10 + 0) + 10) + 10 + 0)) + 10 ≤ 1000; decide
    have a4 := shSs_map Pr.enc 3000 ps fun d hd => by
      cases d with
      | all n lo hi g f => show 70 + 10 + (70 + 10 + ((70 + 10 + (70 + 10 + 0) + 10) + 10 + ((70 + 10 + (70 + 10 + 0) + 10) + 10 + (70 + 10 + ((70 + 10 + (70 + 10 + 0) + 10) + 10 + 0))))) + 10 ≤ 3000; decide
      | mat n lo hi g o c => show 70 + 10 + (70 + 10 + ((70 + 10 + (70 + 10 + 0) + 10) + 10 + ((70 + 10 + (70 + 10 + 0) + 10) + 10 + (70 + 10 + (70 + 10 + (70 + 10 + 0)))))) + 10 ≤ 3000; decide
      | srt n lo hi => show 70 + 10 + (70 + 10 + ((70 + 10 + (70 + 10 + 0) + 10) + 10 + ((70 + 10 + (70 + 10 + 0) + 10) + 10 + 0))) + 10 ≤ 3000; decide
      | bel n lo hi o a b => show 70 + 10 + (70 + 10 + ((70 + 10 + (70 + 10 + 0) + 10) + 10 + ((70 + 10 + (70 + 10 + 0) + 10) + 10 + (70 + 10 + ((70 + 10 + (70 + 10 + 0) + 10) + 10 + ((70 + 10 + (70 + 10 + 0) + 10) + 10 + 0)))))) + 10 ≤ 3000; decide
      | eit ws =>
        obtain ⟨w1, w2⟩ := (S.sp _ hd).2
        have := shSs_map (fun x : List T3 => PyData.tuple (x.map b3)) 600 ws fun x hx => by
          have h1 := shSs_map b3 260 x fun d _ => by show 70 + 10 + (70 + 10 + (70 + 10 + 0)) + 10 ≤ 260; decide
          have h2 := (w2 x hx).1
          show shSs (x.map b3) + 10 ≤ 600
          omega
        show 70 + 10 + ((shSs (ws.map fun x => PyData.tuple (x.map b3)) + 10) + 10 + 0) + 10 ≤ 3000
        omega
    have a5 := shSs_map f2 200 fs fun f _ => sh_f2 f
    have e : shS (tellE m bs ls cs ps fs) = (70 + 10 + ((shSs (bs.map b3) + 10) + 10 + ((shSs (ls.map Ld.enc) + 10) + 10 + ((shSs (cs.map Ce.enc) + 10) + 10 + ((shSs (ps.map Pr.enc) + 10) + 10 + ((shSs (fs.map f2) + 10) + 10 + 0)))))) + 10 := rfl
    have := S.b1
    have := S.l1
    have := c.n
    have := S.p1
    have := S.f1
    rw [e]
    exact Nat.le_trans (show _ ≤ 300000 by omega) (by decide)
theorem dep60 (f : Fm) : (f2 f).depth ≤ 60 := Nat.le_trans (dep_f2 f) (by decide)
theorem sh60 (f : Fm) : shS (f2 f) ≤ sizeLine := Nat.le_trans (sh_f2 f) (by decide)
section
variable {P : Program} {w : World} {K : PySem.W.Frag} {mg : PySem.Str → Option Value} {base : Heap} {C : Addr}
def spLengthM (P : Program) (w : World) (K : PySem.W.Frag) (C : Addr) : Sp := fun vs H Q _ => ∃ (k : Ka) (m : Int) (bs : List T3) (ls : List Ld) (cs : List Ce) (ps : List Pr) (fs : List Fm) (num n : Nat), vs = [.ref k.p, .int num] ∧ KnW P w K C H k m bs ls cs ps fs ∧ LsOk n ls ∧ num < ls.length ∧ ∀ v, Dp K H v (f2 (LN ls num)) → Q v H
theorem ok_lengthM {f : Addr} {fd : FuncData} (F : Fun K "length" "Known.length" s_length f fd) (T : TxK K mg C) : FnOk P w K mg base CX0 1 f fd ["self", "number"] (spLengthM P w K C) := by
  refine F.ok sc_length (fun vs H Q E h => ?_) (fun cdv A outer s H vs Q E hr h => ?_)
  · obtain ⟨k, m, bs, ls, cs, ps, fs, num, n, rfl, _⟩ := h
    rfl
  · obtain ⟨k, m, bs, ls, cs, ps, fs, num, n, rfl, kw, lok, hnum, q⟩ := h
    refine ⟨_, pss_cons (ps_set (i := 2) sc_length.nd rfl (.inl rfl) (pe_ix ix_list (pe_fld (pv 0) rfl) (pv 1) (fun _ _ => rfl)))
      (pss_cons (ps_while PassesOwn.never (pt_cmpR op_eq (pe_ix ix_tup (pv 2) pe_int (fun _ _ => rfl)) pe_str (nomark _)) (pss_one (ps_set (i := 2) sc_length.nd rfl (.inl rfl) (pe_ix ix_list (pe_fld (pv 0) rfl) (pe_ix ix_tup (pv 2) pe_int (fun _ _ => rfl)) (fun _ _ => rfl)))))
      (pss_one (ps_ret (pe_ix ix_tup (pv 2) pe_int (fun _ _ => rfl))))), ?_⟩
    obtain ⟨xd, xl, xc, xt, xf, fnd, kn, _, hx, _, _⟩ := kw.ex
    obtain ⟨dx, e⟩ := kn.ob
    have get : ∀ {j : Nat} {l : Ld}, ls[j]? = some l → ∃ v, xl[j]? = some v ∧ Dp K H v l.enc := fun {j l} h => by
      have hj := (List.getElem?_eq_some_iff.mp h).1
      obtain ⟨v, g1, g2⟩ := dp_mem hx hj
      rw [List.getElem?_eq_getElem hj] at h
      rw [Option.some.inj h] at g2
      exact ⟨v, g1, g2⟩
    obtain ⟨v0, g0, d0⟩ := get (List.getElem?_eq_getElem hnum)
    refine ⟨_, rfl, k.p, C, dx, _, _, rfl, e, T.cl, T.nL, knF_l _ _ _ _ _ _ _, _, rfl, k.al, _, _, _, rfl, rfl, SqL.of kn.l, atI_nat g0, ?_⟩
    refine ⟨fun j σ G => G = H ∧ ∃ (v : V) (l : Ld), σ = [some (.ref k.p), some (.int num), some v] ∧ ls[j]? = some l ∧ Dp K H v l.enc ∧ LN ls num = LN ls j, ⟨num, rfl, v0, _, rfl, List.getElem?_eq_getElem hnum, d0, rfl⟩, fun j σ G hP => ?_⟩
    obtain ⟨rfl, v, l, rfl, hl, hv, hw⟩ := hP
    cases l with
    | wr o i u =>
      obtain ⟨t, v1, v2, v3, v4, rfl, ht, w1, w2, w3, w4⟩ := dp_inv4 hv
      cases dp_str_inv w1
      cases dp_int_inv w2
      obtain ⟨ho, oki, oku⟩ := lok _ _ hl
      rw [LN_wr lok hl] at hw
      have hol : o < ls.length := by
        have := (List.getElem?_eq_some_iff.mp hl).1
        omega
      obtain ⟨v5, g5, d5⟩ := get (List.getElem?_eq_getElem hol)
      refine ⟨_, rfl, t, _, _, _, rfl, rfl, ht, atI_nat (j := 0) rfl, rfl, _, rfl, iteT ⟨_, fun _ _ h => h, ?_⟩⟩
      refine ⟨_, rfl, k.p, C, dx, _, _, rfl, e, T.cl, T.nL, knF_l _ _ _ _ _ _ _, _, rfl, t, _, _, _, rfl, rfl, ht, atI_nat (j := 1) rfl, k.al, _, _, _, rfl, rfl, SqL.of kn.l, atI_nat g5, ?_⟩
      exact ⟨o, ho, rfl, v5, _, rfl, List.getElem?_eq_getElem hol, d5, hw⟩
    | new ln =>
      obtain ⟨t, v1, v2, rfl, ht, w1, w2⟩ := dp_inv2 hv
      cases dp_str_inv w1
      rw [LN_new hl] at hw
      rw [hw] at q
      exact ⟨_, rfl, t, _, _, _, rfl, rfl, ht, atI_nat (j := 0) rfl, rfl, _, rfl, iteF ⟨_, rfl, t, _, _, _, rfl, rfl, ht, atI_nat (j := 1) rfl, q _ w2⟩⟩
end
end SW

namespace SW
open PySem PySem.Spec PyProof.Rows L2
abbrev s_equal : Stmt := topS 7
theorem sc_equal : FnScope ["f", "g"] ["f", "g"] (defScope s_equal) := ⟨rfl, rfl, rfl, by decide +kernel, rfl, by decide +kernel, by decide +kernel⟩

abbrev s_ways_of : Stmt := topS 8
theorem sc_ways_of : FnScope ["sign", "f", "g"] ["sign", "f", "g"] (defScope s_ways_of) := ⟨rfl, rfl, rfl, by decide +kernel, rfl, by decide +kernel, by decide +kernel⟩

abbrev s_tested : Stmt := topS 9
theorem sc_tested : FnScope ["tests", "ways", "found", "ahead", "test", "way"] ["tests", "ways"] (defScope s_tested) := ⟨rfl, rfl, rfl, by decide +kernel, rfl, by decide +kernel, by decide +kernel⟩

abbrev s_outside_tests : Stmt := topS 10
theorem sc_outside_tests : FnScope ["known", "number", "index"] ["known", "number", "index"] (defScope s_outside_tests) := ⟨rfl, rfl, rfl, by decide +kernel, rfl, by decide +kernel, by decide +kernel⟩

/-! ### differences and ways -/
def lessF (f g : Fm) : T3 := (f.1, g.1, g.2 - f.2 - 1)
def atmF (f g : Fm) : T3 := (f.1, g.1, g.2 - f.2)
def oppF (t : T3) : T3 := (t.2.1, t.1, -t.2.2 - 1)
def eqF (f g : Fm) : List T3 := [atmF f g, atmF g f]
def w3 (w : List T3) : PyData := .tuple (w.map b3)
theorem noL_w3 (w : List T3) : noL (w3 w) = true := noLs_b3 w
theorem noLs_w3 : ∀ ws : List (List T3), noLs (ws.map w3) = true
  | [] => rfl
  | w :: r => by
    show (noL (w3 w) && noLs (r.map w3)) = true
    rw [noL_w3, noLs_w3 r]
    rfl
def wyF (g : PySem.Str) (f h : Fm) : List (List T3) := if g = "<" then [[lessF f h]] else if g = "<=" then [[atmF f h]] else if g = ">" then [[lessF h f]] else if g = ">=" then [[atmF h f]] else if g = "==" then [eqF f h] else [[lessF f h], [lessF h f]]
/-- the ways out ahead of the i-th test -/
def fdF (ts : List T3) (i : Nat) : List (List T3) := (List.range i).map fun j => (ts.take j).map oppF ++ [ts.getD j (0, 0, 0)]
def tsF (ts : List T3) (ws : List (List T3)) : List (List T3) := fdF ts ts.length ++ ws.map fun w => ts.map oppF ++ w
theorem fdF_succ {ts : List T3} {i : Nat} (h : i < ts.length) : fdF ts (i + 1) = fdF ts i ++ [(ts.take i).map oppF ++ [ts[i]]] := by
  unfold fdF
  rw [List.range_succ, List.map_append, List.map_singleton, List.getD_eq_getElem?_getD, List.getElem?_eq_getElem h]
  rfl
theorem fdF_len (ts : List T3) (i : Nat) : (fdF ts i).length = i := by
  unfold fdF
  rw [List.length_map, List.length_range]
theorem small_szE {n : Nat} (h : n ≤ 1000) : n ≤ sizeLine := Nat.le_trans h (by decide)
theorem dp_t3 {K : PySem.W.Frag} {H : Hp} {t : Addr} {a b c : Int} (h : H t = some (.tup [.int a, .int b, .int c])) : Dp K H (.ref t) (b3 (a, b, c)) := .tup (SqT.of h) (.cons (.int _) (.cons (.int _) (.cons (.int _) .nil)))
section
variable {P : Program} {w : World} {K : PySem.W.Frag} {mg : PySem.Str → Option Value} {base : Heap} {C : Addr}
def spEq (K : PySem.W.Frag) : Sp := fun vs H Q _ => ∃ (u v : V) (f g : Fm), vs = [u, v] ∧ Dp K H u (f2 f) ∧ Dp K H v (f2 g) ∧ ∀ t H', Same H H' → Dp K H' (.ref t) (w3 (eqF f g)) → Q (.ref t) H'
def spWays (K : PySem.W.Frag) : Sp := fun vs H Q _ => ∃ (s : PySem.Str) (u v : V) (f g : Fm), vs = [.str s, u, v] ∧ Dp K H u (f2 f) ∧ Dp K H v (f2 g) ∧ ∀ (R : Addr) (xs : List V) (H' : Hp), Same H H' → H R = none → H' R = some (.lst xs) → DpAll K H' xs ((wyF s f g).map w3) → Q (.ref R) H'
def spTested (K : PySem.W.Frag) : Sp := fun vs H Q _ => ∃ (a b : Addr) (xa xb : List V) (ts : List T3) (ws : List (List T3)), vs = [.ref a, .ref b] ∧ H a = some (.lst xa) ∧ DpAll K H xa (ts.map b3) ∧ H b = some (.lst xb) ∧ DpAll K H xb (ws.map w3) ∧ ts.length ≤ 50 ∧ ws.length ≤ 50 ∧ (∀ x, x ∈ ws → x.length ≤ 50) ∧ ∀ (R : Addr) (xs : List V) (H' : Hp), Same H H' → H R = none → H' R = some (.lst xs) → DpAll K H' xs ((tsF ts ws).map w3) → Q (.ref R) H'
theorem one_w3 {H : Hp} {t p : Addr} {a b c : Int} (h : H t = some (.tup [.int a, .int b, .int c])) (hp : H p = some (.tup [.ref t])) : Dp K H (.ref p) (w3 [(a, b, c)]) := .tup (SqT.of hp) (.cons (dp_t3 h) .nil)
theorem ok_equal (T : TxB mg) (D_equal : Df K mg "equal" s_equal ["f", "g"]) (D_at_most : Df K mg "at_most" s_at_most ["f", "g"]) (G_at_most : FnOk P w K mg base CX0 1 D_at_most.f D_at_most.fd ["f", "g"] (spAtMost K)) : FnOk P w K mg base CX0 2 D_equal.f D_equal.fd ["f", "g"] (spEq K) := by
  refine D_equal.F.ok sc_equal (fun vs H Q E h => ?_) (fun cdv A outer s H vs Q E hr h => ?_)
  · obtain ⟨u, v, f, g, rfl, _⟩ := h
    rfl
  · obtain ⟨u, v, f, g, rfl, du, dv, q⟩ := h
    refine ⟨_, (pss_one (ps_ret (pe_tup (pa_cons (pe_call G_at_most (hr.mono (by decide)) (by rfl) D_at_most.g D_at_most.F.kp D_at_most.b .nil pass0 (pa_cons (pv 0) (pa_cons (pv 1) pa_nil))) (pa_cons (pe_call G_at_most (hr.mono (by decide)) (by rfl) D_at_most.g D_at_most.F.kp D_at_most.b .nil pass0 (pa_cons (pv 1) (pa_cons (pv 0) pa_nil))) pa_nil))))), ?_⟩
    refine ⟨_, rfl, _, rfl, u, v, f, g, rfl, du, dv, fun t1 J1 s1 e1 => ⟨_, rfl, _, rfl, v, u, g, f, rfl, dv.same s1, du.same s1, fun t2 J2 s2 e2 => ⟨by show 2 ≤ sizeLine; decide, fun t nt => ?_⟩⟩⟩
    generalize hG : upd J2 t _ = J3
    obtain ⟨s3, e3⟩ := new_of nt hG
    exact q t J3 ((s1.trans s2).trans s3) (.tup (SqT.of e3) (.cons (dp_t3 (s3 _ _ (s2 _ _ e1))) (.cons (dp_t3 (s3 _ _ e2)) .nil)))
theorem ok_ways_of (T : TxB mg) (D_ways_of : Df K mg "ways_of" s_ways_of ["sign", "f", "g"]) (D_less : Df K mg "less" s_less ["f", "g"]) (D_at_most : Df K mg "at_most" s_at_most ["f", "g"]) (D_equal : Df K mg "equal" s_equal ["f", "g"]) (G_less : FnOk P w K mg base CX0 1 D_less.f D_less.fd ["f", "g"] (spLess K)) (G_at_most : FnOk P w K mg base CX0 1 D_at_most.f D_at_most.fd ["f", "g"] (spAtMost K)) (G_equal : FnOk P w K mg base CX0 2 D_equal.f D_equal.fd ["f", "g"] (spEq K)) : FnOk P w K mg base CX0 3 D_ways_of.f D_ways_of.fd ["sign", "f", "g"] (spWays K) := by
  refine D_ways_of.F.ok sc_ways_of (fun vs H Q E h => ?_) (fun cdv A outer s H vs Q E hr h => ?_)
  · obtain ⟨s, u, v, f, g, rfl, _⟩ := h
    rfl
  · obtain ⟨s, u, v, f, g, rfl, du, dv, q⟩ := h
    refine ⟨_, (pss_cons (ps_if (pt_cmpR op_eq (pv 0) pe_str (nomark _))
    (pss_one (ps_ret (pe_lst (pa_cons (pe_tup (pa_cons (pe_call G_less (hr.mono (by decide)) (by rfl) D_less.g D_less.F.kp D_less.b .nil pass0 (pa_cons (pv 1) (pa_cons (pv 2) pa_nil))) pa_nil)) pa_nil))))
    pss_nil)
    (pss_cons (ps_if (pt_cmpR op_eq (pv 0) pe_str (nomark _))
    (pss_one (ps_ret (pe_lst (pa_cons (pe_tup (pa_cons (pe_call G_at_most (hr.mono (by decide)) (by rfl) D_at_most.g D_at_most.F.kp D_at_most.b .nil pass0 (pa_cons (pv 1) (pa_cons (pv 2) pa_nil))) pa_nil)) pa_nil))))
    pss_nil)
    (pss_cons (ps_if (pt_cmpR op_eq (pv 0) pe_str (nomark _))
    (pss_one (ps_ret (pe_lst (pa_cons (pe_tup (pa_cons (pe_call G_less (hr.mono (by decide)) (by rfl) D_less.g D_less.F.kp D_less.b .nil pass0 (pa_cons (pv 2) (pa_cons (pv 1) pa_nil))) pa_nil)) pa_nil))))
    pss_nil)
    (pss_cons (ps_if (pt_cmpR op_eq (pv 0) pe_str (nomark _))
    (pss_one (ps_ret (pe_lst (pa_cons (pe_tup (pa_cons (pe_call G_at_most (hr.mono (by decide)) (by rfl) D_at_most.g D_at_most.F.kp D_at_most.b .nil pass0 (pa_cons (pv 2) (pa_cons (pv 1) pa_nil))) pa_nil)) pa_nil))))
    pss_nil)
    (pss_cons (ps_if (pt_cmpR op_eq (pv 0) pe_str (nomark _))
    (pss_one (ps_ret (pe_lst (pa_cons (pe_call G_equal (hr.mono (by decide)) (by rfl) D_equal.g D_equal.F.kp D_equal.b .nil pass0 (pa_cons (pv 1) (pa_cons (pv 2) pa_nil))) pa_nil))))
    pss_nil)
    (pss_one (ps_ret (pe_lst (pa_cons (pe_tup (pa_cons (pe_call G_less (hr.mono (by decide)) (by rfl) D_less.g D_less.F.kp D_less.b .nil pass0 (pa_cons (pv 1) (pa_cons (pv 2) pa_nil))) pa_nil)) (pa_cons (pe_tup (pa_cons (pe_call G_less (hr.mono (by decide)) (by rfl) D_less.g D_less.F.kp D_less.b .nil pass0 (pa_cons (pv 2) (pa_cons (pv 1) pa_nil))) pa_nil)) pa_nil)))))))))), ?_⟩
    have one : ∀ (x y : Fm) (z : T3), wyF s f g = [[z]] → ∀ t1 J1, Same H J1 → J1 t1 = some (.tup [.int z.1, .int z.2.1, .int z.2.2]) → 1 ≤ sizeLine ∧ ∀ p, J1 p = none → 1 ≤ sizeLine ∧ ∀ R, upd J1 p (.tup [.ref t1]) R = none → Q (.ref R) (upd (upd J1 p (.tup [.ref t1])) R (.lst [.ref p])) := fun x y z hz t1 J1 s1 e1 => by
      refine ⟨by decide, fun p np => ⟨by decide, fun R nR => ?_⟩⟩
      generalize hG : upd J1 p _ = J2 at nR
      obtain ⟨s2, e2⟩ := new_of np hG
      generalize hG : upd J2 R _ = J3
      obtain ⟨s3, e3⟩ := new_of nR hG
      refine q R [.ref p] J3 ((s1.trans s2).trans s3) ((s1.trans s2).free nR) e3 ?_
      rw [hz]
      exact .cons (one_w3 (s3 _ _ (s2 _ _ e1)) (s3 _ _ e2)) .nil
    unfold wyF at one
    refine ⟨_, rfl, rfl, _, rfl, ?_⟩
    rw [str_dec]
    refine ite2 (fun e => ?_) (fun e => ?_)
    · have e := of_decide_eq_true e
      rw [if_pos e] at one
      exact ⟨_, rfl, _, rfl, u, v, f, g, rfl, du, dv, fun t1 J1 s1 e1 => one f g (lessF f g) rfl t1 J1 s1 e1⟩
    have e := of_decide_eq_false (Bool.eq_false_iff.mpr e)
    rw [if_neg e] at one
    refine ⟨_, rfl, rfl, _, rfl, ?_⟩
    rw [str_dec]
    refine ite2 (fun e2 => ?_) (fun e2 => ?_)
    · have e2 := of_decide_eq_true e2
      rw [if_pos e2] at one
      exact ⟨_, rfl, _, rfl, u, v, f, g, rfl, du, dv, fun t1 J1 s1 e1 => one f g (atmF f g) rfl t1 J1 s1 e1⟩
    have e2 := of_decide_eq_false (Bool.eq_false_iff.mpr e2)
    rw [if_neg e2] at one
    refine ⟨_, rfl, rfl, _, rfl, ?_⟩
    rw [str_dec]
    refine ite2 (fun e3 => ?_) (fun e3 => ?_)
    · have e3 := of_decide_eq_true e3
      rw [if_pos e3] at one
      exact ⟨_, rfl, _, rfl, v, u, g, f, rfl, dv, du, fun t1 J1 s1 e1 => one g f (lessF g f) rfl t1 J1 s1 e1⟩
    have e3 := of_decide_eq_false (Bool.eq_false_iff.mpr e3)
    rw [if_neg e3] at one
    refine ⟨_, rfl, rfl, _, rfl, ?_⟩
    rw [str_dec]
    refine ite2 (fun e4 => ?_) (fun e4 => ?_)
    · have e4 := of_decide_eq_true e4
      rw [if_pos e4] at one
      exact ⟨_, rfl, _, rfl, v, u, g, f, rfl, dv, du, fun t1 J1 s1 e1 => one g f (atmF g f) rfl t1 J1 s1 e1⟩
    have e4 := of_decide_eq_false (Bool.eq_false_iff.mpr e4)
    clear one
    refine ⟨_, rfl, rfl, _, rfl, ?_⟩
    rw [str_dec]
    have hw : wyF s f g = if s = "==" then [eqF f g] else [[lessF f g], [lessF g f]] := by
      unfold wyF
      rw [if_neg e, if_neg e2, if_neg e3, if_neg e4]
    refine ite2 (fun e5 => ?_) (fun e5 => ?_)
    · have e5 := of_decide_eq_true e5
      rw [if_pos e5] at hw
      refine ⟨_, rfl, _, rfl, u, v, f, g, rfl, du, dv, fun t1 J1 s1 e1 => ⟨by show 1 ≤ sizeLine; decide, fun R nR => ?_⟩⟩
      generalize hG : upd J1 R _ = J2
      obtain ⟨s2, x2⟩ := new_of nR hG
      refine q R _ J2 (s1.trans s2) (s1.free nR) x2 ?_
      rw [hw]
      exact .cons (dp_same s2 _ _ e1) .nil
    · have e5 := of_decide_eq_false (Bool.eq_false_iff.mpr e5)
      rw [if_neg e5] at hw
      refine ⟨_, rfl, _, rfl, u, v, f, g, rfl, du, dv, fun t1 J1 s1 e1 => ⟨by show 1 ≤ sizeLine; decide, fun p1 np1 => ?_⟩⟩
      generalize hG : upd J1 p1 _ = J2
      obtain ⟨s2, x2⟩ := new_of np1 hG
      have s12 := s1.trans s2
      refine ⟨_, rfl, _, rfl, v, u, g, f, rfl, dv.same s12, du.same s12, fun t3 J3 s3 e3' => ⟨by show 1 ≤ sizeLine; decide, fun p2 np2 => ?_⟩⟩
      generalize hG : upd J3 p2 _ = J4
      obtain ⟨s4, x4⟩ := new_of np2 hG
      refine ⟨by show 2 ≤ sizeLine; decide, fun R nR => ?_⟩
      generalize hG : upd J4 R _ = J5
      obtain ⟨s5, x5⟩ := new_of nR hG
      have s14 := (s12.trans s3).trans s4
      refine q R _ J5 (s14.trans s5) (s14.free nR) x5 ?_
      rw [hw]
      have s345 := (s3.trans s4).trans s5
      exact .cons (one_w3 (s345 _ _ (s2 _ _ e1)) (s345 _ _ x2)) (.cons (one_w3 (s5 _ _ (s4 _ _ e3')) (s5 _ _ x4)) .nil)
theorem ok_tested (T : TxB mg) (D_tested : Df K mg "tested" s_tested ["tests", "ways"]) (D_opposite : Df K mg "opposite" s_opposite ["difference"]) (G_opposite : FnOk P w K mg base CX0 1 D_opposite.f D_opposite.fd ["difference"] (spOpp K)) : FnOk P w K mg base CX0 2 D_tested.f D_tested.fd ["tests", "ways"] (spTested K) := by
  refine D_tested.F.ok sc_tested (fun vs H Q E h => ?_) (fun cdv A outer s H vs Q E hr h => ?_)
  · obtain ⟨a, b, xa, xb, ts, ws, rfl, _⟩ := h
    rfl
  · obtain ⟨a, b, xa, xb, ts, ws, rfl, ea, da, eb, db, hts, hws, hww, q⟩ := h
    refine ⟨_, (pss_cons (ps_set (i := 2) sc_tested.nd rfl (.inl rfl) (pe_lst pa_nil))
    (pss_cons (ps_set (i := 3) sc_tested.nd rfl (.inr rfl) (pe_tup pa_nil))
    (pss_cons (ps_for PassesOwn.never rfl (pi_list (pv 0)) (pg_name (i := 4) sc_tested.nd rfl (.inl rfl))
    (pss_cons (ps_expr (pe_bm PySem.F.plainAttrs_list PySem.F.slot_list_append PySem.F.type_list_append mt_append (pv 2) (pa_cons (pe_op op_catB (pv 3) (pe_tup (pa_cons (pv 4) pa_nil))) pa_nil)))
    (pss_one (ps_set (i := 3) sc_tested.nd rfl (.inr rfl) (pe_op op_catB (pv 3) (pe_tup (pa_cons (pe_call G_opposite (hr.mono (by decide)) (by rfl) D_opposite.g D_opposite.F.kp D_opposite.b .nil pass0 (pa_cons (pv 4) pa_nil)) pa_nil)))))))
    (pss_one (ps_ret (pe_op op_cat (pv 2) (pe_lc (own := [("way", 5)]) (g := gName 5) (by rfl) sc_tested.nd (pi_list (pv 1)) (blkOk_by (own := [("way", 5)]) (N := ["tests", "ways", "found", "ahead", "test", "way"]) (sc := defScope s_tested) (by decide +kernel)) (fun _ _ _ _ _ => pg_name (i := 5) sc_tested.nd rfl (Or.inl rfl)) (fun _ _ _ _ _ => pts_nil) (fun _ _ _ _ _ => (pe_op (show OpR _ _ (rCatB K) from op_catB) (pv 3) (pv 5)))))))))), ?_⟩
    have hxa : xa.length = ts.length := by rw [dpa_len da, List.length_map]
    have hxb : xb.length = ws.length := by rw [dpa_len db, List.length_map]
    refine ⟨Nat.zero_le _, fun F nF => ?_⟩
    generalize hG : upd H F _ = H1
    obtain ⟨s1, e1⟩ := new_of nF hG
    refine ⟨Nat.zero_le _, fun D nD => ?_⟩
    generalize hG : upd H1 D _ = H2
    obtain ⟨s2, e2⟩ := new_of nD hG
    have s12 := s1.trans s2
    refine ⟨_, rfl, a, rfl, ⟨_, SqL.of (s12 _ _ ea)⟩, ?_⟩
    refine for_list (K := K) (a := a) (xs := xa) (fun i σ G => ∃ (D : Addr) (y4 : Option V) (ys : List V), σ = [some (.ref a), some (.ref b), some (.ref F), some (.ref D), y4, none] ∧ Same H G ∧ G F = some (.lst ys) ∧ DpAll K G ys ((fdF ts i).map w3) ∧ Dp K G (.ref D) (w3 ((ts.take i).map oppF)))
      ⟨D, _, [], rfl, s12, s2 _ _ e1, .nil, .tup (SqT.of e2) .nil⟩ (fun i σ G _ hP => ?_) (fun i x σ G hxi hP => ?_) (fun σ G hP => ?_)
    · obtain ⟨_, _, _, _, sG, _⟩ := hP
      exact SqL.of (sG _ _ ea)
    · obtain ⟨D, y4, ys, rfl, sG, eF, dF, dD⟩ := hP
      have hi : i < ts.length := by rw [← hxa]; exact (List.getElem?_eq_some_iff.mp hxi).1
      obtain ⟨v, g1, g2⟩ := dp_mem da hi
      rw [hxi] at g1
      cases g1
      have dv := g2.same sG
      have hyl : ys.length = i := by rw [dpa_len dF, List.length_map, fdF_len]
      obtain ⟨D', zs, hD', hz1, hz2⟩ := dp_tup_inv dD
      cases hD'
      have hzl : zs.length ≤ 50 := by
        rw [dpa_len hz2, List.length_map, List.length_map, List.length_take]
        omega
      refine ⟨_, rfl, .inl ⟨rfl, _, SqL.of eF⟩, _, rfl, _, rfl, by show 1 ≤ sizeLine; decide, fun p1 np1 => ?_⟩
      generalize hG : upd G p1 _ = J1
      obtain ⟨v1, x1⟩ := new_of np1 hG
      refine ⟨D, p1, _, _, rfl, rfl, sqt_same v1 hz1, SqT.of x1, small_szE (by show zs.length + 1 ≤ 1000; omega), fun p2 J2 v2 x2 => ?_⟩
      have v12 := v1.trans v2
      refine ⟨F, _, _, rfl, rfl, v12 _ _ eF, small_sz5 (by omega), ?_⟩
      have b3' : But F J2 (upd J2 F (.lst (ys ++ [V.ref p2]))) := fun c o hc e => (upd_ne hc).trans e
      have e3 : (upd J2 F (.lst (ys ++ [V.ref p2]))) F = some (.lst (ys ++ [V.ref p2])) := upd_same
      have s3 : Same H (upd J2 F (.lst (ys ++ [V.ref p2]))) := same_mut (sG.trans v12) nF
      have dnew : Dp K J2 (.ref p2) (w3 ((ts.take i).map oppF ++ [ts[i]])) := .tup x2 (by
        rw [List.map_append]
        exact dpa_app (dpa_same v12 _ _ hz2) (.cons (dv.same v12) .nil))
      have dall : DpAll K (upd J2 F (.lst (ys ++ [V.ref p2]))) (ys ++ [V.ref p2]) ((fdF ts (i + 1)).map w3) := by
        rw [fdF_succ hi, List.map_append]
        exact dpa_but (v12 _ _ eF) b3' _ _ (by rw [← List.map_append]; exact noLs_w3 _) (dpa_snoc (dpa_same v12 _ _ dF) dnew)
      have dD3 := dp_but (v12 _ _ eF) b3' _ _ (noL_w3 _) (dp_same v12 _ _ dD)
      have dv3 := dp_but (v12 _ _ eF) b3' _ _ rfl (dv.same v12)
      generalize upd J2 F (.lst (ys ++ [V.ref p2])) = J3 at e3 s3 dall dD3 dv3
      obtain ⟨D', zs, hD', hz1, hz2⟩ := dp_tup_inv dD3
      cases hD'
      have hzl : zs.length ≤ 50 := by
        rw [dpa_len hz2, List.length_map, List.length_map, List.length_take]
        omega
      obtain ⟨t, us, rfl, ht, hu⟩ := dp_tup_inv dv3
      obtain ⟨u1, u2, u3, rfl, q1, q2, q3⟩ : ∃ u1 u2 u3, us = [u1, u2, u3] ∧ u1 = V.int ts[i].1 ∧ u2 = V.int ts[i].2.1 ∧ u3 = V.int ts[i].2.2 := by
        cases hu with
        | cons k1 hu => cases hu with
          | cons k2 hu => cases hu with
            | cons k3 hu =>
              cases hu
              cases dp_int_inv k1
              cases dp_int_inv k2
              cases dp_int_inv k3
              exact ⟨_, _, _, rfl, rfl, rfl, rfl⟩
      subst q1 q2 q3
      refine ⟨_, rfl, _, rfl, t, _, _, _, rfl, ht, fun p4 J4 v4 x4 => ⟨by show 1 ≤ sizeLine; decide, fun p5 np5 => ?_⟩⟩
      generalize hG : upd J4 p5 _ = J5
      obtain ⟨v5, x5⟩ := new_of np5 hG
      have v45 := v4.trans v5
      refine ⟨D, p5, _, _, rfl, rfl, sqt_same v45 hz1, SqT.of x5, small_szE (by show zs.length + 1 ≤ 1000; omega), fun p6 J6 v6 x6 => ?_⟩
      have v46 := v45.trans v6
      refine ⟨p6, _, _, rfl, s3.trans v46, v46 _ _ e3, dpa_same v46 _ _ dall, .tup x6 ?_⟩
      rw [List.take_succ_eq_append_getElem hi, List.map_append, List.map_append]
      exact dpa_app (dpa_same v46 _ _ hz2) (.cons (dp_t3 (v6 _ _ (v5 _ _ x4))) .nil)
    · obtain ⟨D, y4, ys, rfl, sG, eF, dF, dD⟩ := hP
      rw [hxa] at dF dD
      rw [List.take_length] at dD
      obtain ⟨D', zs, hD', hz1, hz2⟩ := dp_tup_inv dD
      cases hD'
      have hzl : zs.length = ts.length := by rw [dpa_len hz2, List.length_map, List.length_map]
      have hyl : ys.length = ts.length := by rw [dpa_len dF, List.length_map, fdF_len]
      refine ⟨_, rfl, _, rfl, b, rfl, ⟨_, SqL.of (sG _ _ eb)⟩, fun L nL => ?_⟩
      refine lc_list (K := K) (a := b) (xs := xb) (fun k G3 => Same G G3 ∧ ∃ us : List V, G3 L = some (.lst us) ∧ DpAll K G3 us (((ws.take k).map fun w => ts.map oppF ++ w).map w3)) ⟨same_new nL, [], upd_same, .nil⟩ (fun k G3 _ hP => SqL.of (hP.1 _ _ (sG _ _ eb))) (fun k x G3 hxi hP => ?_) (fun G3 hP => ?_)
      · obtain ⟨s3, us, eL, dL⟩ := hP
        have hk : k < ws.length := by rw [← hxb]; exact (List.getElem?_eq_some_iff.mp hxi).1
        obtain ⟨v, g1, g2⟩ := dp_mem db hk
        rw [hxi] at g1
        cases g1
        obtain ⟨t, qs, rfl, ht, hq⟩ := dp_tup_inv (g2.same (sG.trans s3))
        have hql : qs.length ≤ 50 := by
          rw [dpa_len hq, List.length_map]
          exact hww _ (List.getElem_mem hk)
        have hul : us.length = k := by
          rw [dpa_len dL, List.length_map, List.length_map, List.length_take]
          omega
        refine ⟨rfl, _, rfl, _, rfl, D, t, _, _, rfl, rfl, sqt_same s3 hz1, ht, small_szE (by omega), fun p J v x => ?_⟩
        refine ⟨us, v _ _ eL, small_sz5 (by omega), same_mut (s3.trans v) nL, us ++ [.ref p], upd_same, ?_⟩
        have bL : But L J (upd J L (.lst (us ++ [V.ref p]))) := fun c o hc e => (upd_ne hc).trans e
        rw [List.take_succ_eq_append_getElem hk, List.map_append, List.map_append]
        refine dpa_but (v _ _ eL) bL _ _ (by rw [← List.map_append]; exact noLs_w3 _) (dpa_snoc (dpa_same v _ _ dL) (.tup x ?_))
        rw [List.map_append]
        exact dpa_app (dpa_same (s3.trans v) _ _ hz2) (dpa_same v _ _ hq)
      · obtain ⟨s3, us, eL, dL⟩ := hP
        rw [hxb, List.take_length] at dL
        have hul : us.length = ws.length := by rw [dpa_len dL, List.length_map, List.length_map]
        refine ⟨F, L, _, _, rfl, rfl, s3 _ _ eF, eL, small_szE (by omega), fun R nR => ?_⟩
        generalize hG : upd G3 R _ = G4
        obtain ⟨s4, e4⟩ := new_of nR hG
        refine q R _ G4 ((sG.trans s3).trans s4) ((sG.trans s3).free nR) e4 ?_
        unfold tsF
        rw [List.map_append]
        exact dpa_app (dpa_same (s3.trans s4) _ _ dF) (dpa_same s4 _ _ dL)
end
end SW

namespace SW
open PySem PySem.Spec PyProof.Rows L2
abbrev s_pair_ways : Stmt := topS 18
theorem sc_pair_ways : FnScope ["known", "indexes", "split", "values", "_", "index", "value", "other", "worth"] ["known", "indexes", "split", "values"] (defScope s_pair_ways) := ⟨rfl, rfl, rfl, by decide +kernel, rfl, by decide +kernel, by decide +kernel⟩

abbrev s_write_ways : Stmt := topS 19
theorem sc_write_ways : FnScope ["known", "indexes", "split", "values", "number", "index", "value", "_", "at", "written", "kept"] ["known", "indexes", "split", "values"] (defScope s_write_ways) := ⟨rfl, rfl, rfl, by decide +kernel, rfl, by decide +kernel, by decide +kernel⟩

abbrev s_either_ways : Stmt := topS 20
theorem sc_either_ways : FnScope ["known", "indexes", "split", "values"] ["known", "indexes", "split", "values"] (defScope s_either_ways) := ⟨rfl, rfl, rfl, by decide +kernel, rfl, by decide +kernel, by decide +kernel⟩

abbrev s_all_ways : Stmt := topS 21
theorem sc_all_ways : FnScope ["known", "indexes", "split", "values", "_", "number", "lo", "hi", "sign", "form", "f", "tests"] ["known", "indexes", "split", "values"] (defScope s_all_ways) := ⟨rfl, rfl, rfl, by decide +kernel, rfl, by decide +kernel, by decide +kernel⟩

abbrev s_match_ways : Stmt := topS 22
theorem sc_match_ways : FnScope ["known", "indexes", "split", "values", "_", "number", "lo", "hi", "sign", "other", "plus", "f", "tests", "unknown", "amount"] ["known", "indexes", "split", "values"] (defScope s_match_ways) := ⟨rfl, rfl, rfl, by decide +kernel, rfl, by decide +kernel, by decide +kernel⟩

abbrev s_sorted_ways : Stmt := topS 23
theorem sc_sorted_ways : FnScope ["known", "indexes", "split", "values", "_", "number", "lo", "hi", "f", "g", "tests"] ["known", "indexes", "split", "values"] (defScope s_sorted_ways) := ⟨rfl, rfl, rfl, by decide +kernel, rfl, by decide +kernel, by decide +kernel⟩

abbrev s_below_ways : Stmt := topS 24
theorem sc_below_ways : FnScope ["known", "indexes", "split", "values", "_", "number", "lo", "hi", "other", "low", "high", "f", "g", "tests"] ["known", "indexes", "split", "values"] (defScope s_below_ways) := ⟨rfl, rfl, rfl, by decide +kernel, rfl, by decide +kernel, by decide +kernel⟩

def outF (ls : List Ld) (num : Nat) (f : Fm) : List T3 := [lessF f (0, 0), atmF (LN ls num) f]
def pairW (c d : Ce) : List (List T3) := [[lessF c.i d.i], [lessF d.i c.i], eqF c.i d.i ++ eqF c.v d.v]
def writeW (c : Ce) (at_ w e : Fm) : List (List T3) := [[lessF c.i at_] ++ eqF c.v e, [lessF at_ c.i] ++ eqF c.v e, eqF c.i at_ ++ eqF c.v w]
section
variable {P : Program} {w : World} {K : PySem.W.Frag} {mg : PySem.Str → Option Value} {base : Heap} {C : Addr}
theorem cell_get {H : Hp} {xc : List V} {cs : List Ce} (h : DpAll K H xc (cs.map Ce.enc)) {m : Nat} {c : Ce} (hc : cs[m]? = some c) : ∃ t v2 v3, xc[m]? = some (.ref t) ∧ SqT K H t [.int c.n, v2, v3] ∧ Dp K H v2 (f2 c.i) ∧ Dp K H v3 (f2 c.v) := by
  have hm := (List.getElem?_eq_some_iff.mp hc).1
  obtain ⟨u, u1, u2⟩ := dp_mem h hm
  rw [List.getElem?_eq_getElem hm] at hc
  rw [Option.some.inj hc] at u2
  obtain ⟨t8, v1, v2, v3, rfl, ht, w1, w2, w3⟩ := dp_inv3 u2
  cases dp_int_inv w1
  exact ⟨t8, v2, v3, u1, ht, w2, w3⟩
/-- ways that were made -/
def WaysAt (K : PySem.W.Frag) (H : Hp) (ws : List (List T3)) (Q : VK) : Prop := ∀ (R : Addr) (xs : List V) (H' : Hp), Same H H' → H R = none → H' R = some (.lst xs) → DpAll K H' xs (ws.map w3) → Q (.ref R) H'
def spOut (P : Program) (w : World) (K : PySem.W.Frag) (C : Addr) : Sp := fun vs H Q _ => ∃ (k : Ka) (m : Int) (bs : List T3) (ls : List Ld) (cs : List Ce) (ps : List Pr) (fs : List Fm) (num n : Nat) (u : V) (f : Fm), vs = [.ref k.p, .int num, u] ∧ KnW P w K C H k m bs ls cs ps fs ∧ LsOk n ls ∧ num < ls.length ∧ Dp K H u (f2 f) ∧ ∀ (R : Addr) (xs : List V) (H' : Hp), Same H H' → H R = none → H' R = some (.lst xs) → DpAll K H' xs ((outF ls num f).map b3) → Q (.ref R) H'
theorem ok_outside_tests (T : TxK K mg C) {fL : Addr} {fdL : FuncData} (m_length : Meth K C "length" fL) (G_length : FnOk P w K mg base CX0 1 fL fdL ["self", "number"] (spLengthM P w K C)) (b_length : Binds K fdL ["self", "number"] []) (D_outside_tests : Df K mg "outside_tests" s_outside_tests ["known", "number", "index"]) (D_less : Df K mg "less" s_less ["f", "g"]) (D_at_most : Df K mg "at_most" s_at_most ["f", "g"]) (G_less : FnOk P w K mg base CX0 1 D_less.f D_less.fd ["f", "g"] (spLess K)) (G_at_most : FnOk P w K mg base CX0 1 D_at_most.f D_at_most.fd ["f", "g"] (spAtMost K)) : FnOk P w K mg base CX0 2 D_outside_tests.f D_outside_tests.fd ["known", "number", "index"] (spOut P w K C) := by
  refine D_outside_tests.F.ok sc_outside_tests (fun vs H Q E h => ?_) (fun cdv A outer s H vs Q E hr h => ?_)
  · obtain ⟨k, m, bs, ls, cs, ps, fs, num, n, u, f, rfl, _⟩ := h
    rfl
  · obtain ⟨k, m, bs, ls, cs, ps, fs, num, n, u, f, rfl, kw, lok, hnum, du, q⟩ := h
    refine ⟨_, (pss_one (ps_ret (pe_lst (pa_cons (pe_call G_less (hr.mono (by decide)) (by rfl) D_less.g D_less.F.kp D_less.b .nil pass0 (pa_cons (pv 2) (pa_cons (pe_tup (pa_cons pe_int (pa_cons pe_int pa_nil))) pa_nil))) (pa_cons (pe_call G_at_most (hr.mono (by decide)) (by rfl) D_at_most.g D_at_most.F.kp D_at_most.b .nil pass0 (pa_cons (pe_meth (pv 0) T.cl m_length G_length (hr.mono (by decide)) b_length .nil pass0 (pa_cons (pv 1) pa_nil)) (pa_cons (pv 2) pa_nil))) pa_nil))))), ?_⟩
    refine ⟨_, rfl, by show 2 ≤ sizeLine; decide, fun t0 nt0 => ?_⟩
    generalize hG : upd H t0 _ = H1
    obtain ⟨s1, e1⟩ := new_of nt0 hG
    refine ⟨u, .ref t0, f, (0, 0), rfl, du.same s1, .tup (SqT.of e1) (.cons (.int _) (.cons (.int _) .nil)), fun t1 J1 s2 e2 => ?_⟩
    have s12 := s1.trans s2
    have kw1 := kw.same s12
    obtain ⟨_, _, _, _, _, _, kn, _⟩ := kw1.ex
    obtain ⟨dx, e⟩ := kn.ob
    refine ⟨_, rfl, k.p, dx, _, rfl, e, knF_no _ _ _ _ _ _ _ (by decide +kernel), _, rfl, k, m, bs, ls, cs, ps, fs, num, n, rfl, kw1, lok, hnum, fun v hv => ?_⟩
    refine ⟨_, rfl, v, u, LN ls num, f, rfl, hv, du.same s12, fun t2 J2 s3 e3 => ⟨by show 2 ≤ sizeLine; decide, fun R nR => ?_⟩⟩
    generalize hG : upd J2 R _ = J3
    obtain ⟨s4, e4⟩ := new_of nR hG
    exact q R _ J3 ((s12.trans s3).trans s4) ((s12.trans s3).free nR) e4 (.cons (dp_t3 (s4 _ _ (s3 _ _ e2))) (.cons (dp_t3 (s4 _ _ e3)) .nil))
def spPairW (P : Program) (w : World) (K : PySem.W.Frag) (C : Addr) : Sp := fun vs H Q _ => ∃ (k : Ka) (m : Int) (bs : List T3) (ls : List Ld) (cs : List Ce) (ps : List Pr) (fs : List Fm) (ix t va : Addr) (wd : PySem.Str) (i j : Nat) (c d : Ce), vs = [.ref k.p, .ref ix, .ref t, .ref va] ∧ KnW P w K C H k m bs ls cs ps fs ∧ SqT K H t [.str wd, .int i, .int j] ∧ cs[i]? = some c ∧ cs[j]? = some d ∧ WaysAt K H (pairW c d) Q
theorem ok_pair_ways (T : TxK K mg C) (D_pair_ways : Df K mg "_pair_ways" s_pair_ways ["known", "indexes", "split", "values"]) (D_less : Df K mg "less" s_less ["f", "g"]) (D_equal : Df K mg "equal" s_equal ["f", "g"]) (G_less : FnOk P w K mg base CX0 1 D_less.f D_less.fd ["f", "g"] (spLess K)) (G_equal : FnOk P w K mg base CX0 2 D_equal.f D_equal.fd ["f", "g"] (spEq K)) : FnOk P w K mg base CX0 3 D_pair_ways.f D_pair_ways.fd ["known", "indexes", "split", "values"] (spPairW P w K C) := by
  refine D_pair_ways.F.ok sc_pair_ways (fun vs H Q E h => ?_) (fun cdv A outer s H vs Q E hr h => ?_)
  · obtain ⟨k, m, bs, ls, cs, ps, fs, ix, t, va, wd, i, j, c, d, rfl, _⟩ := h
    rfl
  · obtain ⟨k, m, bs, ls, cs, ps, fs, ix, t, va, wd, i, j, c, d, rfl, kw, ht, hc, hd, q⟩ := h
    refine ⟨_, (pss_cons (ps_asg (pe_ix ix_list (pe_fld (pv 0) rfl) (pe_ix ix_tup (pv 2) pe_int (fun _ _ => rfl)) (fun _ _ => rfl)) (pg_tup (by rfl) (pgs_cons (pg_name (i := 4) sc_pair_ways.nd rfl (.inl rfl)) (pgs_cons (pg_name (i := 5) sc_pair_ways.nd rfl (.inl rfl)) (pgs_cons (pg_name (i := 6) sc_pair_ways.nd rfl (.inl rfl)) pgs_nil)))))
    (pss_cons (ps_asg (pe_ix ix_list (pe_fld (pv 0) rfl) (pe_ix ix_tup (pv 2) pe_int (fun _ _ => rfl)) (fun _ _ => rfl)) (pg_tup (by rfl) (pgs_cons (pg_name (i := 4) sc_pair_ways.nd rfl (.inl rfl)) (pgs_cons (pg_name (i := 7) sc_pair_ways.nd rfl (.inl rfl)) (pgs_cons (pg_name (i := 8) sc_pair_ways.nd rfl (.inl rfl)) pgs_nil)))))
    (pss_one (ps_ret (pe_lst (pa_cons (pe_tup (pa_cons (pe_call G_less (hr.mono (by decide)) (by rfl) D_less.g D_less.F.kp D_less.b .nil pass0 (pa_cons (pv 5) (pa_cons (pv 7) pa_nil))) pa_nil)) (pa_cons (pe_tup (pa_cons (pe_call G_less (hr.mono (by decide)) (by rfl) D_less.g D_less.F.kp D_less.b .nil pass0 (pa_cons (pv 7) (pa_cons (pv 5) pa_nil))) pa_nil)) (pa_cons (pe_op op_catB (pe_call G_equal (hr.mono (by decide)) (by rfl) D_equal.g D_equal.F.kp D_equal.b .nil pass0 (pa_cons (pv 5) (pa_cons (pv 7) pa_nil))) (pe_call G_equal (hr.mono (by decide)) (by rfl) D_equal.g D_equal.F.kp D_equal.b .nil pass0 (pa_cons (pv 6) (pa_cons (pv 8) pa_nil)))) pa_nil)))))))), ?_⟩
    obtain ⟨_, _, xc, _, _, _, kn, _⟩ := kw.ex
    obtain ⟨dx, e⟩ := kn.ob
    obtain ⟨tc, c2, c3, g1, htc, dc2, dc3⟩ := cell_get kn.cx hc
    obtain ⟨td, d2, d3, g2, htd, dd2, dd3⟩ := cell_get kn.cx hd
    refine ⟨_, rfl, k.p, C, dx, _, _, rfl, e, T.cl, T.nC, knF_c _ _ _ _ _ _ _, _, rfl, t, _, _, _, rfl, rfl, ht, atI_nat (j := 1) rfl, k.ac, _, _, _, rfl, rfl, SqL.of kn.c, atI_nat g1, tc, _, rfl, htc, rfl, _, _, rfl, _, _, rfl, _, _, rfl, rfl, ?_⟩
    refine ⟨_, rfl, k.p, C, dx, _, _, rfl, e, T.cl, T.nC, knF_c _ _ _ _ _ _ _, _, rfl, t, _, _, _, rfl, rfl, ht, atI_nat (j := 2) rfl, k.ac, _, _, _, rfl, rfl, SqL.of kn.c, atI_nat g2, td, _, rfl, htd, rfl, _, _, rfl, _, _, rfl, _, _, rfl, rfl, ?_⟩
    refine ⟨_, rfl, _, rfl, c2, d2, c.i, d.i, rfl, dc2, dd2, fun t1 J1 s1 e1 => ⟨by show 1 ≤ sizeLine; decide, fun p1 np1 => ?_⟩⟩
    generalize hG : upd J1 p1 _ = J2
    obtain ⟨s2, e2⟩ := new_of np1 hG
    have s12 := s1.trans s2
    refine ⟨_, rfl, _, rfl, d2, c2, d.i, c.i, rfl, dd2.same s12, dc2.same s12, fun t3 J3 s3 e3 => ⟨by show 1 ≤ sizeLine; decide, fun p2 np2 => ?_⟩⟩
    generalize hG : upd J3 p2 _ = J4
    obtain ⟨s4, e4⟩ := new_of np2 hG
    have s14 := (s12.trans s3).trans s4
    refine ⟨_, rfl, _, rfl, c2, d2, c.i, d.i, rfl, dc2.same s14, dd2.same s14, fun t5 J5 s5 d5 => ?_⟩
    have s15 := s14.trans s5
    refine ⟨_, rfl, _, rfl, c3, d3, c.v, d.v, rfl, dc3.same s15, dd3.same s15, fun t6 J6 s6 d6 => ?_⟩
    have s16 := s15.trans s6
    obtain ⟨_, z5, e5', h5, k5⟩ := dp_tup_inv (d5.same s6)
    cases e5'
    obtain ⟨_, z6, e6', h6, k6⟩ := dp_tup_inv d6
    cases e6'
    have l5 : z5.length = 2 := dpa_len k5
    have l6 : z6.length = 2 := dpa_len k6
    refine ⟨t5, t6, _, _, rfl, rfl, h5, h6, small_szE (by omega), fun p7 J7 s7 h7 => ⟨by show 3 ≤ sizeLine; decide, fun R nR => ?_⟩⟩
    generalize hG : upd J7 R _ = J8
    obtain ⟨s8, e8⟩ := new_of nR hG
    have s17 := s16.trans s7
    have s38 := (((((s3.trans s4).trans s5).trans s6).trans s7).trans s8)
    have s58 := ((s5.trans s6).trans s7).trans s8
    have s78 := s7.trans s8
    refine q R _ J8 (s17.trans s8) (s17.free nR) e8 (.cons (one_w3 (s38 _ _ (s2 _ _ e1)) (s38 _ _ e2)) (.cons (one_w3 (s58 _ _ (s4 _ _ e3)) (s58 _ _ e4)) (.cons (.tup (sqt_same s8 h7) ?_) .nil)))
    rw [List.map_append]
    exact dpa_app (dpa_same s78 _ _ k5) (dpa_same s78 _ _ k6)
def spWriteW (P : Program) (w : World) (K : PySem.W.Frag) (C : Addr) : Sp := fun vs H Q _ => ∃ (k : Ka) (m : Int) (bs : List T3) (ls : List Ld) (cs : List Ce) (ps : List Pr) (fs : List Fm) (ix t va : Addr) (wd : PySem.Str) (i o : Nat) (c : Ce) (a b e : Fm) (v : V), vs = [.ref k.p, .ref ix, .ref t, .ref va] ∧ KnW P w K C H k m bs ls cs ps fs ∧ SqT K H t [.str wd, .int i] ∧ cs[i]? = some c ∧ ls[c.n]? = some (.wr o a b) ∧ H va = some (.lst [v]) ∧ Dp K H v (f2 e) ∧ WaysAt K H (writeW c a b e) Q
theorem ok_write_ways (T : TxK K mg C) (D_write_ways : Df K mg "_write_ways" s_write_ways ["known", "indexes", "split", "values"]) (D_less : Df K mg "less" s_less ["f", "g"]) (D_equal : Df K mg "equal" s_equal ["f", "g"]) (G_less : FnOk P w K mg base CX0 1 D_less.f D_less.fd ["f", "g"] (spLess K)) (G_equal : FnOk P w K mg base CX0 2 D_equal.f D_equal.fd ["f", "g"] (spEq K)) : FnOk P w K mg base CX0 3 D_write_ways.f D_write_ways.fd ["known", "indexes", "split", "values"] (spWriteW P w K C) := by
  refine D_write_ways.F.ok sc_write_ways (fun vs H Q E h => ?_) (fun cdv A outer s H vs Q E hr h => ?_)
  · obtain ⟨k, m, bs, ls, cs, ps, fs, ix, t, va, wd, i, o, c, a, b, e, v, rfl, _⟩ := h
    rfl
  · obtain ⟨k, m, bs, ls, cs, ps, fs, ix, t, va, wd, i, o, c, a, b, el, v, rfl, kw, ht, hc, hl, hva, dv, q⟩ := h
    refine ⟨_, (pss_cons (ps_asg (pe_ix ix_list (pe_fld (pv 0) rfl) (pe_ix ix_tup (pv 2) pe_int (fun _ _ => rfl)) (fun _ _ => rfl)) (pg_tup (by rfl) (pgs_cons (pg_name (i := 4) sc_write_ways.nd rfl (.inl rfl)) (pgs_cons (pg_name (i := 5) sc_write_ways.nd rfl (.inl rfl)) (pgs_cons (pg_name (i := 6) sc_write_ways.nd rfl (.inl rfl)) pgs_nil)))))
    (pss_cons (ps_asg (pe_ix ix_list (pe_fld (pv 0) rfl) (pv 4) (fun _ _ => rfl)) (pg_tup (by rfl) (pgs_cons (pg_name (i := 7) sc_write_ways.nd rfl (.inl rfl)) (pgs_cons (pg_name (i := 7) sc_write_ways.nd rfl (.inl rfl)) (pgs_cons (pg_name (i := 8) sc_write_ways.nd rfl (.inl rfl)) (pgs_cons (pg_name (i := 9) sc_write_ways.nd rfl (.inl rfl)) pgs_nil))))))
    (pss_cons (ps_set (i := 10) sc_write_ways.nd rfl (.inl rfl) (pe_call G_equal (hr.mono (by decide)) (by rfl) D_equal.g D_equal.F.kp D_equal.b .nil pass0 (pa_cons (pv 6) (pa_cons (pe_ix ix_list (pv 3) pe_int (fun _ _ => rfl)) pa_nil))))
    (pss_one (ps_ret (pe_lst (pa_cons (pe_op op_catB (pe_tup (pa_cons (pe_call G_less (hr.mono (by decide)) (by rfl) D_less.g D_less.F.kp D_less.b .nil pass0 (pa_cons (pv 5) (pa_cons (pv 8) pa_nil))) pa_nil)) (pv 10)) (pa_cons (pe_op op_catB (pe_tup (pa_cons (pe_call G_less (hr.mono (by decide)) (by rfl) D_less.g D_less.F.kp D_less.b .nil pass0 (pa_cons (pv 8) (pa_cons (pv 5) pa_nil))) pa_nil)) (pv 10)) (pa_cons (pe_op op_catB (pe_call G_equal (hr.mono (by decide)) (by rfl) D_equal.g D_equal.F.kp D_equal.b .nil pass0 (pa_cons (pv 5) (pa_cons (pv 8) pa_nil))) (pe_call G_equal (hr.mono (by decide)) (by rfl) D_equal.g D_equal.F.kp D_equal.b .nil pass0 (pa_cons (pv 6) (pa_cons (pv 9) pa_nil)))) pa_nil))))))))), ?_⟩
    obtain ⟨_, xl, xc, _, _, _, kn, _, hx, _⟩ := kw.ex
    obtain ⟨dx, e⟩ := kn.ob
    obtain ⟨tc, c2, c3, g1, htc, dc2, dc3⟩ := cell_get kn.cx hc
    have hn := (List.getElem?_eq_some_iff.mp hl).1
    obtain ⟨lv, g2, g3⟩ := dp_mem hx hn
    rw [List.getElem?_eq_getElem hn] at hl
    rw [Option.some.inj hl] at g3
    obtain ⟨tl, l1, l2, l3, l4, rfl, htl, k1, k2, k3, k4⟩ := dp_inv4 g3
    refine ⟨_, rfl, k.p, C, dx, _, _, rfl, e, T.cl, T.nC, knF_c _ _ _ _ _ _ _, _, rfl, t, _, _, _, rfl, rfl, ht, atI_nat (j := 1) rfl, k.ac, _, _, _, rfl, rfl, SqL.of kn.c, atI_nat g1, tc, _, rfl, htc, rfl, _, _, rfl, _, _, rfl, _, _, rfl, rfl, ?_⟩
    refine ⟨_, rfl, k.p, C, dx, _, _, rfl, e, T.cl, T.nL, knF_l _ _ _ _ _ _ _, _, rfl, k.al, _, _, _, rfl, rfl, SqL.of kn.l, atI_nat g2, tl, _, rfl, htl, rfl, _, _, rfl, _, _, rfl, _, _, rfl, _, _, rfl, rfl, ?_⟩
    -- kept
    refine ⟨_, rfl, _, rfl, va, _, _, _, rfl, rfl, SqL.of hva, atI_nat (j := 0) rfl, c3, v, c.v, el, rfl, dc3, dv, fun t0 J0 s0 d0 => ?_⟩
    obtain ⟨_, z0, e0', h0, k0⟩ := dp_tup_inv d0
    cases e0'
    have lz0 : z0.length = 2 := dpa_len k0
    refine ⟨_, rfl, _, rfl, c2, l3, c.i, a, rfl, dc2.same s0, k3.same s0, fun t1 J1 s1 e1 => ⟨by show 1 ≤ sizeLine; decide, fun p1 np1 => ?_⟩⟩
    generalize hG : upd J1 p1 _ = J2
    obtain ⟨s2, e2⟩ := new_of np1 hG
    have s12 := s1.trans s2
    refine ⟨_, rfl, p1, t0, _, _, rfl, rfl, SqT.of e2, sqt_same s12 h0, small_szE (by show 1 + z0.length ≤ 1000; omega), fun p2 J3 s3 h3 => ?_⟩
    have s13 := s12.trans s3
    have s03 := s0.trans s13
    refine ⟨_, rfl, _, rfl, l3, c2, a, c.i, rfl, k3.same s03, dc2.same s03, fun t4 J4 s4 e4 => ⟨by show 1 ≤ sizeLine; decide, fun p5 np5 => ?_⟩⟩
    generalize hG : upd J4 p5 _ = J5
    obtain ⟨s5, e5⟩ := new_of np5 hG
    have s15 := (s13.trans s4).trans s5
    refine ⟨_, rfl, p5, t0, _, _, rfl, rfl, SqT.of e5, sqt_same s15 h0, small_szE (by show 1 + z0.length ≤ 1000; omega), fun p6 J6 s6 h6 => ?_⟩
    have s16 := s15.trans s6
    have s06 := s0.trans s16
    refine ⟨_, rfl, _, rfl, c2, l3, c.i, a, rfl, dc2.same s06, k3.same s06, fun t7 J7 s7 d7 => ?_⟩
    have s07 := s06.trans s7
    refine ⟨_, rfl, _, rfl, c3, l4, c.v, b, rfl, dc3.same s07, k4.same s07, fun t8 J8 s8 d8 => ?_⟩
    obtain ⟨_, z7, e7', h7, k7⟩ := dp_tup_inv (d7.same s8)
    cases e7'
    obtain ⟨_, z8, e8', h8, k8⟩ := dp_tup_inv d8
    cases e8'
    have lz7 : z7.length = 2 := dpa_len k7
    have lz8 : z8.length = 2 := dpa_len k8
    refine ⟨t7, t8, _, _, rfl, rfl, h7, h8, small_szE (by omega), fun p9 J9 s9 h9 => ⟨by show 3 ≤ sizeLine; decide, fun R nR => ?_⟩⟩
    generalize hG : upd J9 R _ = J10
    obtain ⟨s10, e10⟩ := new_of nR hG
    have s09 := (s07.trans s8).trans s9
    have s910 := s9.trans s10
    have s410 := (((((s4.trans s5).trans s6).trans s7).trans s8).trans s910)
    have s710 := (s7.trans s8).trans s910
    refine q R _ J10 (s09.trans s10) (s09.free nR) e10 (.cons (.tup (sqt_same s410 h3) ?_) (.cons (.tup (sqt_same s710 h6) ?_) (.cons (.tup (sqt_same s10 h9) ?_) .nil)))
    · exact .cons (dp_t3 (s410 _ _ (s3 _ _ (s2 _ _ e1)))) (dpa_same (s13.trans s410) _ _ k0)
    · exact .cons (dp_t3 (s710 _ _ (s6 _ _ (s5 _ _ e4)))) (dpa_same (s16.trans s710) _ _ k0)
    · rw [List.map_append]
      exact dpa_app (dpa_same s910 _ _ k7) (dpa_same s910 _ _ k8)
end
end SW

namespace SW
open PySem PySem.Spec PyProof.Rows L2
section
variable {P : Program} {w : World} {K : PySem.W.Frag} {mg : PySem.Str → Option Value} {base : Heap} {C : Addr}
theorem wy_len (g : PySem.Str) (f h : Fm) : (wyF g f h).length ≤ 50 ∧ ∀ x, x ∈ wyF g f h → x.length ≤ 50 := by
  unfold wyF
  have one : ∀ z : T3, ([[z]] : List (List T3)).length ≤ 50 ∧ ∀ x, x ∈ ([[z]] : List (List T3)) → x.length ≤ 50 := fun z => ⟨by show 1 ≤ 50; decide, fun x hx => by
    rw [List.mem_singleton.mp hx]
    show 1 ≤ 50
    decide⟩
  split
  · exact one _
  split
  · exact one _
  split
  · exact one _
  split
  · exact one _
  split
  · refine ⟨by show 1 ≤ 50; decide, fun x hx => ?_⟩
    rw [List.mem_singleton.mp hx]
    show 2 ≤ 50
    decide
  · refine ⟨by show 2 ≤ 50; decide, fun x hx => ?_⟩
    rcases List.mem_cons.mp hx with rfl | hx
    · show 1 ≤ 50
      decide
    · rw [List.mem_singleton.mp hx]
      show 1 ≤ 50
      decide
theorem pr_get {H : Hp} {xt : List V} {ps : List Pr} (h : DpAll K H xt (ps.map Pr.enc)) {i : Nat} {p : Pr} (hp : ps[i]? = some p) : ∃ v, xt[i]? = some v ∧ Dp K H v p.enc := by
  have hm := (List.getElem?_eq_some_iff.mp hp).1
  obtain ⟨u, u1, u2⟩ := dp_mem h hm
  rw [List.getElem?_eq_getElem hm] at hp
  rw [Option.some.inj hp] at u2
  exact ⟨u, u1, u2⟩
theorem f_get {H : Hp} {xi : List V} {is : List Fm} (h : DpAll K H xi (is.map f2)) {i : Nat} {f : Fm} (hf : is[i]? = some f) : ∃ v, xi[i]? = some v ∧ Dp K H v (f2 f) := by
  have hm := (List.getElem?_eq_some_iff.mp hf).1
  obtain ⟨u, u1, u2⟩ := dp_mem h hm
  rw [List.getElem?_eq_getElem hm] at hf
  rw [Option.some.inj hf] at u2
  exact ⟨u, u1, u2⟩
def spEitW (P : Program) (w : World) (K : PySem.W.Frag) (C : Addr) : Sp := fun vs H Q _ => ∃ (k : Ka) (m : Int) (bs : List T3) (ls : List Ld) (cs : List Ce) (ps : List Pr) (fs : List Fm) (ix t va : Addr) (wd : PySem.Str) (i : Nat) (ws : List (List T3)), vs = [.ref k.p, .ref ix, .ref t, .ref va] ∧ KnW P w K C H k m bs ls cs ps fs ∧ SqT K H t [.str wd, .int i] ∧ ps[i]? = some (.eit ws) ∧ WaysAt K H ws Q
theorem ok_either_ways (T : TxK K mg C) (D_either_ways : Df K mg "_either_ways" s_either_ways ["known", "indexes", "split", "values"]) : FnOk P w K mg base CX0 1 D_either_ways.f D_either_ways.fd ["known", "indexes", "split", "values"] (spEitW P w K C) := by
  refine D_either_ways.F.ok sc_either_ways (fun vs H Q E h => ?_) (fun cdv A outer s H vs Q E hr h => ?_)
  · obtain ⟨k, m, bs, ls, cs, ps, fs, ix, t, va, wd, i, ws, rfl, _⟩ := h
    rfl
  · obtain ⟨k, m, bs, ls, cs, ps, fs, ix, t, va, wd, i, ws, rfl, kw, ht, hp, q⟩ := h
    refine ⟨_, (pss_one (ps_ret (pe_callTy call_list_of (by rfl) T.n_list (by decide +kernel) (pa_cons (pe_ix ix_tup (pe_ix ix_list (pe_fld (pv 0) rfl) (pe_ix ix_tup (pv 2) pe_int (fun _ _ => rfl)) (fun _ _ => rfl)) pe_int (fun _ _ => rfl)) pa_nil)))), ?_⟩
    obtain ⟨_, _, _, xt, _, _, kn, _, _, hx, _⟩ := kw.ex
    obtain ⟨dx, e⟩ := kn.ob
    obtain ⟨v, g1, g2⟩ := pr_get hx hp
    obtain ⟨tp, v1, v2, rfl, htp, w1, w2⟩ := dp_inv2 g2
    obtain ⟨tw, zs, rfl, hz1, hz2⟩ := dp_tup_inv w2
    refine ⟨_, rfl, k.p, C, dx, _, _, rfl, e, T.cl, T.nT, knF_t _ _ _ _ _ _ _, _, rfl, t, _, _, _, rfl, rfl, ht, atI_nat (j := 1) rfl, k.tk, _, _, _, rfl, rfl, SqL.of kn.t, atI_nat g1, tp, _, _, _, rfl, rfl, htp, atI_nat (j := 1) rfl, tw, zs, rfl, .inr hz1, fun R nR => ?_⟩
    generalize hG : upd H R _ = J
    obtain ⟨s1, e1⟩ := new_of nR hG
    exact q R zs J s1 nR e1 (dpa_same s1 _ _ hz2)
def spAllW (P : Program) (w : World) (K : PySem.W.Frag) (C : Addr) : Sp := fun vs H Q _ => ∃ (k : Ka) (m : Int) (bs : List T3) (ls : List Ld) (cs : List Ce) (ps : List Pr) (fs : List Fm) (ix t va : Addr) (wd : PySem.Str) (i s n num : Nat) (lo hi fm f e : Fm) (g : PySem.Str) (xi : List V) (is : List Fm) (v : V), vs = [.ref k.p, .ref ix, .ref t, .ref va] ∧ KnW P w K C H k m bs ls cs ps fs ∧ LsOk n ls ∧ SqT K H t [.str wd, .int i, .int s] ∧ ps[i]? = some (.all num lo hi g fm) ∧ num < ls.length ∧ H ix = some (.lst xi) ∧ DpAll K H xi (is.map f2) ∧ is[s]? = some f ∧ H va = some (.lst [v]) ∧ Dp K H v (f2 e) ∧ WaysAt K H (tsF ([lessF f lo, atmF hi f] ++ outF ls num f) (wyF g e fm)) Q
theorem ok_all_ways (T : TxK K mg C) (D_all_ways : Df K mg "_all_ways" s_all_ways ["known", "indexes", "split", "values"]) (D_less : Df K mg "less" s_less ["f", "g"]) (D_at_most : Df K mg "at_most" s_at_most ["f", "g"]) (D_outside_tests : Df K mg "outside_tests" s_outside_tests ["known", "number", "index"]) (D_tested : Df K mg "tested" s_tested ["tests", "ways"]) (D_ways_of : Df K mg "ways_of" s_ways_of ["sign", "f", "g"]) (G_less : FnOk P w K mg base CX0 1 D_less.f D_less.fd ["f", "g"] (spLess K)) (G_at_most : FnOk P w K mg base CX0 1 D_at_most.f D_at_most.fd ["f", "g"] (spAtMost K)) (G_outside_tests : FnOk P w K mg base CX0 2 D_outside_tests.f D_outside_tests.fd ["known", "number", "index"] (spOut P w K C)) (G_tested : FnOk P w K mg base CX0 2 D_tested.f D_tested.fd ["tests", "ways"] (spTested K)) (G_ways_of : FnOk P w K mg base CX0 3 D_ways_of.f D_ways_of.fd ["sign", "f", "g"] (spWays K)) : FnOk P w K mg base CX0 4 D_all_ways.f D_all_ways.fd ["known", "indexes", "split", "values"] (spAllW P w K C) := by
  refine D_all_ways.F.ok sc_all_ways (fun vs H Q E h => ?_) (fun cdv A outer s H vs Q E hr h => ?_)
  · obtain ⟨k, m, bs, ls, cs, ps, fs, ix, t, va, wd, i, s, n, num, lo, hi, fm, f, e, g, xi, is, v, rfl, _⟩ := h
    rfl
  · obtain ⟨k, m, bs, ls, cs, ps, fs, ix, t, va, wd, i, s, n, num, lo, hi, fm, f, el, g, xi, is, v, rfl, kw, lok, ht, hp, hnum, hix, dix, hf, hva, dv, q⟩ := h
    refine ⟨_, (pss_cons (ps_asg (pe_ix ix_list (pe_fld (pv 0) rfl) (pe_ix ix_tup (pv 2) pe_int (fun _ _ => rfl)) (fun _ _ => rfl)) (pg_tup (by rfl) (pgs_cons (pg_name (i := 4) sc_all_ways.nd rfl (.inl rfl)) (pgs_cons (pg_name (i := 5) sc_all_ways.nd rfl (.inl rfl)) (pgs_cons (pg_name (i := 6) sc_all_ways.nd rfl (.inl rfl)) (pgs_cons (pg_name (i := 7) sc_all_ways.nd rfl (.inl rfl)) (pgs_cons (pg_name (i := 8) sc_all_ways.nd rfl (.inl rfl)) (pgs_cons (pg_name (i := 9) sc_all_ways.nd rfl (.inl rfl)) pgs_nil))))))))
    (pss_cons (ps_set (i := 10) sc_all_ways.nd rfl (.inl rfl) (pe_ix ix_list (pv 1) (pe_ix ix_tup (pv 2) pe_int (fun _ _ => rfl)) (fun _ _ => rfl)))
    (pss_cons (ps_set (i := 11) sc_all_ways.nd rfl (.inl rfl) (pe_op op_cat (pe_lst (pa_cons (pe_call G_less (hr.mono (by decide)) (by rfl) D_less.g D_less.F.kp D_less.b .nil pass0 (pa_cons (pv 10) (pa_cons (pv 6) pa_nil))) (pa_cons (pe_call G_at_most (hr.mono (by decide)) (by rfl) D_at_most.g D_at_most.F.kp D_at_most.b .nil pass0 (pa_cons (pv 7) (pa_cons (pv 10) pa_nil))) pa_nil))) (pe_call G_outside_tests (hr.mono (by decide)) (by rfl) D_outside_tests.g D_outside_tests.F.kp D_outside_tests.b .nil pass0 (pa_cons (pv 0) (pa_cons (pv 5) (pa_cons (pv 10) pa_nil))))))
    (pss_one (ps_ret (pe_call G_tested (hr.mono (by decide)) (by rfl) D_tested.g D_tested.F.kp D_tested.b .nil pass0 (pa_cons (pv 11) (pa_cons (pe_call G_ways_of (hr.mono (by decide)) (by rfl) D_ways_of.g D_ways_of.F.kp D_ways_of.b .nil pass0 (pa_cons (pv 8) (pa_cons (pe_ix ix_list (pv 3) pe_int (fun _ _ => rfl)) (pa_cons (pv 9) pa_nil)))) pa_nil)))))))), ?_⟩
    obtain ⟨_, _, _, xt, _, _, kn, _, _, hx, _⟩ := kw.ex
    obtain ⟨dx, e⟩ := kn.ob
    obtain ⟨vp, g1, g2⟩ := pr_get hx hp
    obtain ⟨tp, us, rfl, htp, ha⟩ := dp_tup_inv g2
    obtain ⟨v1, v2, v3, v4, v5, v6, rfl, w1, w2, w3', w4, w5, w6⟩ := dpa6 ha
    cases dp_int_inv w2
    cases dp_str_inv w5
    obtain ⟨vf, gf, df⟩ := f_get dix hf
    refine ⟨_, rfl, k.p, C, dx, _, _, rfl, e, T.cl, T.nT, knF_t _ _ _ _ _ _ _, _, rfl, t, _, _, _, rfl, rfl, ht, atI_nat (j := 1) rfl, k.tk, _, _, _, rfl, rfl, SqL.of kn.t, atI_nat g1, tp, _, rfl, htp, rfl, _, _, rfl, _, _, rfl, _, _, rfl, _, _, rfl, _, _, rfl, _, _, rfl, rfl, ?_⟩
    refine ⟨_, rfl, _, rfl, t, _, _, _, rfl, rfl, ht, atI_nat (j := 2) rfl, ix, _, _, _, rfl, rfl, SqL.of hix, atI_nat gf, ?_⟩
    refine ⟨_, rfl, _, rfl, vf, v3, f, lo, rfl, df, w3', fun t1 J1 s1 e1 => ⟨_, rfl, _, rfl, v4, vf, hi, f, rfl, w4.same s1, df.same s1, fun t2 J2 s2 e2 => ⟨by show 2 ≤ sizeLine; decide, fun A' nA => ?_⟩⟩⟩
    generalize hG : upd J2 A' _ = J3
    obtain ⟨s3, e3⟩ := new_of nA hG
    have s13 := (s1.trans s2).trans s3
    refine ⟨_, rfl, _, rfl, _, rfl, k, m, bs, ls, cs, ps, fs, num, n, vf, f, rfl, kw.same s13, lok, hnum, df.same s13, fun B xb J4 s4 nB eB dB => ?_⟩
    have lB : xb.length = 2 := by rw [dpa_len dB]; rfl
    refine ⟨A', B, _, _, rfl, rfl, s4 _ _ e3, eB, small_szE (by show 2 + xb.length ≤ 1000; omega), fun D nD => ?_⟩
    generalize hG : upd J4 D _ = J5
    obtain ⟨s5, e5⟩ := new_of nD hG
    have s15 := (s13.trans s4).trans s5
    have dD : DpAll K J5 ([.ref t1, .ref t2] ++ xb) (([lessF f lo, atmF hi f] ++ outF ls num f).map b3) := by
      rw [List.map_append]
      have s25 := ((s2.trans s3).trans s4).trans s5
      have s35 := (s3.trans s4).trans s5
      exact dpa_app (.cons (dp_t3 (s25 _ _ e1)) (.cons (dp_t3 (s35 _ _ e2)) .nil)) (dpa_same s5 _ _ dB)
    refine ⟨_, rfl, _, rfl, _, rfl, va, _, _, _, rfl, rfl, SqL.of (s15 _ _ hva), atI_nat (j := 0) rfl, _, rfl, g, v, v6, el, fm, rfl, dv.same s15, w6.same s15, fun W xw J6 s6 nW eW dW => ?_⟩
    obtain ⟨q1, q2⟩ := wy_len g el fm
    refine ⟨D, W, _, xw, _, _, rfl, s6 _ _ e5, dpa_same s6 _ _ dD, eW, dW, by show 4 ≤ 50; decide, q1, q2, fun R xs J7 s7 nR eR dR => ?_⟩
    have s16 := s15.trans s6
    exact q R xs J7 (s16.trans s7) (s16.free nR) eR dR
end
end SW

namespace SW
open PySem PySem.Spec PyProof.Rows L2
section
variable {P : Program} {w : World} {K : PySem.W.Frag} {mg : PySem.Str → Option Value} {base : Heap} {C : Addr}
def spMatW (P : Program) (w : World) (K : PySem.W.Frag) (C : Addr) : Sp := fun vs H Q _ => ∃ (k : Ka) (m : Int) (bs : List T3) (ls : List Ld) (cs : List Ce) (ps : List Pr) (fs : List Fm) (ix t va : Addr) (wd : PySem.Str) (i s n num o : Nat) (lo hi f e e2 : Fm) (c : Int) (g : PySem.Str) (xi : List V) (is : List Fm) (v v2 : V), vs = [.ref k.p, .ref ix, .ref t, .ref va] ∧ KnW P w K C H k m bs ls cs ps fs ∧ LsOk n ls ∧ SqT K H t [.str wd, .int i, .int s] ∧ ps[i]? = some (.mat num lo hi g o c) ∧ num < ls.length ∧ o < ls.length ∧ H ix = some (.lst xi) ∧ DpAll K H xi (is.map f2) ∧ is[s]? = some f ∧ H va = some (.lst [v, v2]) ∧ Dp K H v (f2 e) ∧ Dp K H v2 (f2 e2) ∧ WaysAt K H (tsF ([lessF f lo, atmF hi f] ++ outF ls num f ++ [atmF (LN ls o) f]) (wyF g e (e2.1, e2.2 + c))) Q
theorem ok_match_ways (T : TxK K mg C) {fL : Addr} {fdL : FuncData} (m_length : Meth K C "length" fL) (G_length : FnOk P w K mg base CX0 1 fL fdL ["self", "number"] (spLengthM P w K C)) (b_length : Binds K fdL ["self", "number"] []) (D_match_ways : Df K mg "_match_ways" s_match_ways ["known", "indexes", "split", "values"]) (D_less : Df K mg "less" s_less ["f", "g"]) (D_at_most : Df K mg "at_most" s_at_most ["f", "g"]) (D_outside_tests : Df K mg "outside_tests" s_outside_tests ["known", "number", "index"]) (D_tested : Df K mg "tested" s_tested ["tests", "ways"]) (D_ways_of : Df K mg "ways_of" s_ways_of ["sign", "f", "g"]) (G_less : FnOk P w K mg base CX0 1 D_less.f D_less.fd ["f", "g"] (spLess K)) (G_at_most : FnOk P w K mg base CX0 1 D_at_most.f D_at_most.fd ["f", "g"] (spAtMost K)) (G_outside_tests : FnOk P w K mg base CX0 2 D_outside_tests.f D_outside_tests.fd ["known", "number", "index"] (spOut P w K C)) (G_tested : FnOk P w K mg base CX0 2 D_tested.f D_tested.fd ["tests", "ways"] (spTested K)) (G_ways_of : FnOk P w K mg base CX0 3 D_ways_of.f D_ways_of.fd ["sign", "f", "g"] (spWays K)) : FnOk P w K mg base CX0 4 D_match_ways.f D_match_ways.fd ["known", "indexes", "split", "values"] (spMatW P w K C) := by
  refine D_match_ways.F.ok sc_match_ways (fun vs H Q E h => ?_) (fun cdv A outer s H vs Q E hr h => ?_)
  · obtain ⟨k, m, bs, ls, cs, ps, fs, ix, t, va, wd, i, s, n, num, o, lo, hi, f, e, e2, c, g, xi, is, v, v2, rfl, _⟩ := h
    rfl
  · obtain ⟨k, m, bs, ls, cs, ps, fs, ix, t, va, wd, i, s, n, num, o, lo, hi, f, el, el2, c, g, xi, is, v, vb, rfl, kw, lok, ht, hp, hnum, ho, hix, dix, hf, hva, dv, dvb, q⟩ := h
    refine ⟨_, (pss_cons (ps_asg (pe_ix ix_list (pe_fld (pv 0) rfl) (pe_ix ix_tup (pv 2) pe_int (fun _ _ => rfl)) (fun _ _ => rfl)) (pg_tup (by rfl) (pgs_cons (pg_name (i := 4) sc_match_ways.nd rfl (.inl rfl)) (pgs_cons (pg_name (i := 5) sc_match_ways.nd rfl (.inl rfl)) (pgs_cons (pg_name (i := 6) sc_match_ways.nd rfl (.inl rfl)) (pgs_cons (pg_name (i := 7) sc_match_ways.nd rfl (.inl rfl)) (pgs_cons (pg_name (i := 8) sc_match_ways.nd rfl (.inl rfl)) (pgs_cons (pg_name (i := 9) sc_match_ways.nd rfl (.inl rfl)) (pgs_cons (pg_name (i := 10) sc_match_ways.nd rfl (.inl rfl)) pgs_nil)))))))))
    (pss_cons (ps_set (i := 11) sc_match_ways.nd rfl (.inl rfl) (pe_ix ix_list (pv 1) (pe_ix ix_tup (pv 2) pe_int (fun _ _ => rfl)) (fun _ _ => rfl)))
    (pss_cons (ps_set (i := 12) sc_match_ways.nd rfl (.inl rfl) (pe_op op_cat (pe_op op_cat (pe_lst (pa_cons (pe_call G_less (hr.mono (by decide)) (by rfl) D_less.g D_less.F.kp D_less.b .nil pass0 (pa_cons (pv 11) (pa_cons (pv 6) pa_nil))) (pa_cons (pe_call G_at_most (hr.mono (by decide)) (by rfl) D_at_most.g D_at_most.F.kp D_at_most.b .nil pass0 (pa_cons (pv 7) (pa_cons (pv 11) pa_nil))) pa_nil))) (pe_call G_outside_tests (hr.mono (by decide)) (by rfl) D_outside_tests.g D_outside_tests.F.kp D_outside_tests.b .nil pass0 (pa_cons (pv 0) (pa_cons (pv 5) (pa_cons (pv 11) pa_nil))))) (pe_lst (pa_cons (pe_call G_at_most (hr.mono (by decide)) (by rfl) D_at_most.g D_at_most.F.kp D_at_most.b .nil pass0 (pa_cons (pe_meth (pv 0) T.cl m_length G_length (hr.mono (by decide)) b_length .nil pass0 (pa_cons (pv 9) pa_nil)) (pa_cons (pv 11) pa_nil))) pa_nil))))
    (pss_cons (ps_asg (pe_ix ix_list (pv 3) pe_int (fun _ _ => rfl)) (pg_tup (by rfl) (pgs_cons (pg_name (i := 13) sc_match_ways.nd rfl (.inl rfl)) (pgs_cons (pg_name (i := 14) sc_match_ways.nd rfl (.inl rfl)) pgs_nil))))
    (pss_one (ps_ret (pe_call G_tested (hr.mono (by decide)) (by rfl) D_tested.g D_tested.F.kp D_tested.b .nil pass0 (pa_cons (pv 12) (pa_cons (pe_call G_ways_of (hr.mono (by decide)) (by rfl) D_ways_of.g D_ways_of.F.kp D_ways_of.b .nil pass0 (pa_cons (pv 8) (pa_cons (pe_ix ix_list (pv 3) pe_int (fun _ _ => rfl)) (pa_cons (pe_tup (pa_cons (pv 13) (pa_cons (pe_op op_add (pv 14) (pv 10)) pa_nil))) pa_nil)))) pa_nil))))))))), ?_⟩
    obtain ⟨_, _, _, xt, _, _, kn, _, _, hx, _⟩ := kw.ex
    obtain ⟨dx, e⟩ := kn.ob
    obtain ⟨vp, g1, g2⟩ := pr_get hx hp
    obtain ⟨tp, us, rfl, htp, ha⟩ := dp_tup_inv g2
    obtain ⟨v1, v2, v3, v4, v5, v6, v7, rfl, w1, w2, w3', w4, w5, w6, w7⟩ := dpa7 ha
    cases dp_int_inv w2
    cases dp_str_inv w5
    cases dp_int_inv w6
    cases dp_int_inv w7
    obtain ⟨vf, gf, df⟩ := f_get dix hf
    refine ⟨_, rfl, k.p, C, dx, _, _, rfl, e, T.cl, T.nT, knF_t _ _ _ _ _ _ _, _, rfl, t, _, _, _, rfl, rfl, ht, atI_nat (j := 1) rfl, k.tk, _, _, _, rfl, rfl, SqL.of kn.t, atI_nat g1, tp, _, rfl, htp, rfl, _, _, rfl, _, _, rfl, _, _, rfl, _, _, rfl, _, _, rfl, _, _, rfl, _, _, rfl, rfl, ?_⟩
    refine ⟨_, rfl, _, rfl, t, _, _, _, rfl, rfl, ht, atI_nat (j := 2) rfl, ix, _, _, _, rfl, rfl, SqL.of hix, atI_nat gf, ?_⟩
    refine ⟨_, rfl, _, rfl, vf, v3, f, lo, rfl, df, w3', fun t1 J1 s1 e1 => ⟨_, rfl, _, rfl, v4, vf, hi, f, rfl, w4.same s1, df.same s1, fun t2 J2 s2 e2 => ⟨by show 2 ≤ sizeLine; decide, fun A' nA => ?_⟩⟩⟩
    generalize hG : upd J2 A' _ = J3
    obtain ⟨s3, e3⟩ := new_of nA hG
    have s13 := (s1.trans s2).trans s3
    refine ⟨_, rfl, _, rfl, _, rfl, k, m, bs, ls, cs, ps, fs, num, n, vf, f, rfl, kw.same s13, lok, hnum, df.same s13, fun B xb J4 s4 nB eB dB => ?_⟩
    have lB : xb.length = 2 := by rw [dpa_len dB]; rfl
    refine ⟨A', B, _, _, rfl, rfl, s4 _ _ e3, eB, small_szE (by show 2 + xb.length ≤ 1000; omega), fun D nD => ?_⟩
    generalize hG : upd J4 D _ = J5
    obtain ⟨s5, e5⟩ := new_of nD hG
    have s15 := (s13.trans s4).trans s5
    refine ⟨_, rfl, k.p, dx, _, rfl, s15 _ _ e, knF_no _ _ _ _ _ _ _ (by decide +kernel), _, rfl, k, m, bs, ls, cs, ps, fs, o, n, rfl, kw.same s15, lok, ho, fun vl hvl => ?_⟩
    refine ⟨_, rfl, vl, vf, LN ls o, f, rfl, hvl, df.same s15, fun t6 J6 s6 e6 => ⟨by show 1 ≤ sizeLine; decide, fun A7 nA7 => ?_⟩⟩
    generalize hG : upd J6 A7 _ = J7
    obtain ⟨s7, e7⟩ := new_of nA7 hG
    have s67 := s6.trans s7
    refine ⟨D, A7, _, _, rfl, rfl, s67 _ _ e5, e7, small_szE (by rw [List.length_append]; show 2 + xb.length + 1 ≤ 1000; omega), fun D8 nD8 => ?_⟩
    generalize hG : upd J7 D8 _ = J8
    obtain ⟨s8, e8⟩ := new_of nD8 hG
    have s18 := (s15.trans s67).trans s8
    have dD : DpAll K J8 ([.ref t1, .ref t2] ++ xb ++ [.ref t6]) (([lessF f lo, atmF hi f] ++ outF ls num f ++ [atmF (LN ls o) f]).map b3) := by
      rw [List.map_append, List.map_append]
      have s58 := (s5.trans s67).trans s8
      have s38 := (s3.trans s4).trans s58
      exact dpa_app (dpa_app (.cons (dp_t3 (s38 _ _ (s2 _ _ e1))) (.cons (dp_t3 (s38 _ _ e2)) .nil)) (dpa_same s58 _ _ dB)) (.cons (dp_t3 (s8 _ _ (s7 _ _ e6))) .nil)
    obtain ⟨tv, y1, y2, rfl, htv, z1, z2⟩ := dp_inv2 (dvb.same s18)
    cases dp_int_inv z1
    cases dp_int_inv z2
    refine ⟨_, rfl, va, _, _, _, rfl, rfl, SqL.of (s18 _ _ hva), atI_nat (j := 1) rfl, tv, _, rfl, htv, rfl, _, _, rfl, _, _, rfl, rfl, ?_⟩
    refine ⟨_, rfl, _, rfl, _, rfl, va, _, _, _, rfl, rfl, SqL.of (s18 _ _ hva), atI_nat (j := 0) rfl, _, rfl, _, rfl, _, rfl, _, _, rfl, rfl, by show 2 ≤ sizeLine; decide, fun t9 nt9 => ?_⟩
    generalize hG : upd J8 t9 _ = J9
    obtain ⟨s9, e9⟩ := new_of nt9 hG
    have s19 := s18.trans s9
    refine ⟨g, v, .ref t9, el, (el2.1, el2.2 + c), rfl, dv.same s19, .tup (SqT.of e9) (.cons (.int _) (.cons (.int _) .nil)), fun W xw J10 s10 nW eW dW => ?_⟩
    obtain ⟨q1, q2⟩ := wy_len g el (el2.1, el2.2 + c)
    have s910 := s9.trans s10
    refine ⟨D8, W, _, xw, _, _, rfl, s910 _ _ e8, dpa_same s910 _ _ dD, eW, dW, by show 5 ≤ 50; decide, q1, q2, fun R xs J11 s11 nR eR dR => ?_⟩
    have s110 := s19.trans s10
    exact q R xs J11 (s110.trans s11) (s110.free nR) eR dR
end
end SW

namespace SW
open PySem PySem.Spec PyProof.Rows L2
section
variable {P : Program} {w : World} {K : PySem.W.Frag} {mg : PySem.Str → Option Value} {base : Heap} {C : Addr}
def spSrtW (P : Program) (w : World) (K : PySem.W.Frag) (C : Addr) : Sp := fun vs H Q _ => ∃ (k : Ka) (m : Int) (bs : List T3) (ls : List Ld) (cs : List Ce) (ps : List Pr) (fs : List Fm) (ix t va : Addr) (wd : PySem.Str) (i s r n num : Nat) (lo hi f g e e2 : Fm) (xi : List V) (is : List Fm) (v v2 : V), vs = [.ref k.p, .ref ix, .ref t, .ref va] ∧ KnW P w K C H k m bs ls cs ps fs ∧ LsOk n ls ∧ SqT K H t [.str wd, .int i, .int s, .int r] ∧ ps[i]? = some (.srt num lo hi) ∧ num < ls.length ∧ H ix = some (.lst xi) ∧ DpAll K H xi (is.map f2) ∧ is[s]? = some f ∧ is[r]? = some g ∧ H va = some (.lst [v, v2]) ∧ Dp K H v (f2 e) ∧ Dp K H v2 (f2 e2) ∧ WaysAt K H (tsF [lessF f lo, lessF g f, atmF hi g, lessF f (0, 0), atmF (LN ls num) g] [[atmF e e2]]) Q
theorem ok_sorted_ways (T : TxK K mg C) {fL : Addr} {fdL : FuncData} (m_length : Meth K C "length" fL) (G_length : FnOk P w K mg base CX0 1 fL fdL ["self", "number"] (spLengthM P w K C)) (b_length : Binds K fdL ["self", "number"] []) (D_sorted_ways : Df K mg "_sorted_ways" s_sorted_ways ["known", "indexes", "split", "values"]) (D_less : Df K mg "less" s_less ["f", "g"]) (D_at_most : Df K mg "at_most" s_at_most ["f", "g"]) (D_tested : Df K mg "tested" s_tested ["tests", "ways"]) (G_less : FnOk P w K mg base CX0 1 D_less.f D_less.fd ["f", "g"] (spLess K)) (G_at_most : FnOk P w K mg base CX0 1 D_at_most.f D_at_most.fd ["f", "g"] (spAtMost K)) (G_tested : FnOk P w K mg base CX0 2 D_tested.f D_tested.fd ["tests", "ways"] (spTested K)) : FnOk P w K mg base CX0 3 D_sorted_ways.f D_sorted_ways.fd ["known", "indexes", "split", "values"] (spSrtW P w K C) := by
  refine D_sorted_ways.F.ok sc_sorted_ways (fun vs H Q E h => ?_) (fun cdv A outer s H vs Q E hr h => ?_)
  · obtain ⟨k, m, bs, ls, cs, ps, fs, ix, t, va, wd, i, s, r, n, num, lo, hi, f, g, e, e2, xi, is, v, v2, rfl, _⟩ := h
    rfl
  · obtain ⟨k, m, bs, ls, cs, ps, fs, ix, t, va, wd, i, s, r, n, num, lo, hi, f, g, el, el2, xi, is, v, vb, rfl, kw, lok, ht, hp, hnum, hix, dix, hf, hg', hva, dv, dvb, q⟩ := h
    refine ⟨_, (pss_cons (ps_asg (pe_ix ix_list (pe_fld (pv 0) rfl) (pe_ix ix_tup (pv 2) pe_int (fun _ _ => rfl)) (fun _ _ => rfl)) (pg_tup (by rfl) (pgs_cons (pg_name (i := 4) sc_sorted_ways.nd rfl (.inl rfl)) (pgs_cons (pg_name (i := 5) sc_sorted_ways.nd rfl (.inl rfl)) (pgs_cons (pg_name (i := 6) sc_sorted_ways.nd rfl (.inl rfl)) (pgs_cons (pg_name (i := 7) sc_sorted_ways.nd rfl (.inl rfl)) pgs_nil))))))
    (pss_cons (ps_par rfl sc_sorted_ways.nd (i := 8) (j := 9) rfl rfl (by decide) rfl rfl (pa_cons (pe_ix ix_list (pv 1) (pe_ix ix_tup (pv 2) pe_int (fun _ _ => rfl)) (fun _ _ => rfl)) (pa_cons (pe_ix ix_list (pv 1) (pe_ix ix_tup (pv 2) pe_int (fun _ _ => rfl)) (fun _ _ => rfl)) pa_nil)) rfl)
    (pss_cons (ps_set (i := 10) sc_sorted_ways.nd rfl (.inl rfl) (pe_lst (pa_cons (pe_call G_less (hr.mono (by decide)) (by rfl) D_less.g D_less.F.kp D_less.b .nil pass0 (pa_cons (pv 8) (pa_cons (pv 6) pa_nil))) (pa_cons (pe_call G_less (hr.mono (by decide)) (by rfl) D_less.g D_less.F.kp D_less.b .nil pass0 (pa_cons (pv 9) (pa_cons (pv 8) pa_nil))) (pa_cons (pe_call G_at_most (hr.mono (by decide)) (by rfl) D_at_most.g D_at_most.F.kp D_at_most.b .nil pass0 (pa_cons (pv 7) (pa_cons (pv 9) pa_nil))) (pa_cons (pe_call G_less (hr.mono (by decide)) (by rfl) D_less.g D_less.F.kp D_less.b .nil pass0 (pa_cons (pv 8) (pa_cons (pe_tup (pa_cons pe_int (pa_cons pe_int pa_nil))) pa_nil))) (pa_cons (pe_call G_at_most (hr.mono (by decide)) (by rfl) D_at_most.g D_at_most.F.kp D_at_most.b .nil pass0 (pa_cons (pe_meth (pv 0) T.cl m_length G_length (hr.mono (by decide)) b_length .nil pass0 (pa_cons (pv 5) pa_nil)) (pa_cons (pv 9) pa_nil))) pa_nil)))))))
    (pss_one (ps_ret (pe_call G_tested (hr.mono (by decide)) (by rfl) D_tested.g D_tested.F.kp D_tested.b .nil pass0 (pa_cons (pv 10) (pa_cons (pe_lst (pa_cons (pe_tup (pa_cons (pe_call G_at_most (hr.mono (by decide)) (by rfl) D_at_most.g D_at_most.F.kp D_at_most.b .nil pass0 (pa_cons (pe_ix ix_list (pv 3) pe_int (fun _ _ => rfl)) (pa_cons (pe_ix ix_list (pv 3) pe_int (fun _ _ => rfl)) pa_nil))) pa_nil)) pa_nil)) pa_nil)))))))), ?_⟩
    obtain ⟨_, _, _, xt, _, _, kn, _, _, hx, _⟩ := kw.ex
    obtain ⟨dx, e⟩ := kn.ob
    obtain ⟨vp, g1, g2⟩ := pr_get hx hp
    obtain ⟨tp, v1, v2, v3, v4, rfl, htp, w1, w2, w3', w4⟩ := dp_inv4 g2
    cases dp_int_inv w2
    obtain ⟨vf, gf, df⟩ := f_get dix hf
    obtain ⟨vg, gg, dg⟩ := f_get dix hg'
    refine ⟨_, rfl, k.p, C, dx, _, _, rfl, e, T.cl, T.nT, knF_t _ _ _ _ _ _ _, _, rfl, t, _, _, _, rfl, rfl, ht, atI_nat (j := 1) rfl, k.tk, _, _, _, rfl, rfl, SqL.of kn.t, atI_nat g1, tp, _, rfl, htp, rfl, _, _, rfl, _, _, rfl, _, _, rfl, _, _, rfl, rfl, ?_⟩
    refine ⟨_, rfl, _, rfl, t, _, _, _, rfl, rfl, ht, atI_nat (j := 2) rfl, ix, _, _, _, rfl, rfl, SqL.of hix, atI_nat gf, _, rfl, _, rfl, t, _, _, _, rfl, rfl, ht, atI_nat (j := 3) rfl, ix, _, _, _, rfl, rfl, SqL.of hix, atI_nat gg, _, _, rfl, ?_⟩
    have s0 : Same H H := Same.refl H
    refine ⟨_, rfl, _, rfl, vf, v3, f, lo, rfl, df.same s0, w3'.same s0, fun t1 J1 s1 e1 => ?_⟩
    have s01 := s1
    refine ⟨_, rfl, _, rfl, vg, vf, g, f, rfl, dg.same s01, df.same s01, fun t2 J2 s2 e2 => ?_⟩
    have s02 := s01.trans s2
    refine ⟨_, rfl, _, rfl, v4, vg, hi, g, rfl, w4.same s02, dg.same s02, fun t3 J3 s3 e3 => ?_⟩
    have s03 := s02.trans s3
    refine ⟨_, rfl, by show 2 ≤ sizeLine; decide, fun tz ntz => ?_⟩
    generalize hG : upd J3 tz _ = J4
    obtain ⟨s4, e4⟩ := new_of ntz hG
    have s04 := s03.trans s4
    refine ⟨vf, .ref tz, f, (0, 0), rfl, df.same s04, .tup (SqT.of e4) (.cons (.int _) (.cons (.int _) .nil)), fun t5 J5 s5 e5 => ?_⟩
    have s05 := s04.trans s5
    refine ⟨_, rfl, k.p, dx, _, rfl, s05 _ _ e, knF_no _ _ _ _ _ _ _ (by decide +kernel), _, rfl, k, m, bs, ls, cs, ps, fs, num, n, rfl, kw.same s05, lok, hnum, fun vl hvl => ?_⟩
    refine ⟨_, rfl, vl, vg, LN ls num, g, rfl, hvl, dg.same s05, fun t6 J6 s6 e6 => ⟨by show 5 ≤ sizeLine; decide, fun D nD => ?_⟩⟩
    generalize hG : upd J6 D _ = J7
    obtain ⟨s7, e7⟩ := new_of nD hG
    have s07 := (s05.trans s6).trans s7
    have dD : DpAll K J7 [.ref t1, .ref t2, .ref t3, .ref t5, .ref t6] ([lessF f lo, lessF g f, atmF hi g, lessF f (0, 0), atmF (LN ls num) g].map b3) := by
      have s67 := s6.trans s7
      have s57 := s5.trans s67
      have s37 := s4.trans s57
      exact .cons (dp_t3 (s37 _ _ (s3 _ _ (s2 _ _ e1)))) (.cons (dp_t3 (s37 _ _ (s3 _ _ e2))) (.cons (dp_t3 (s37 _ _ e3)) (.cons (dp_t3 (s67 _ _ e5)) (.cons (dp_t3 (s7 _ _ e6)) .nil))))
    refine ⟨_, rfl, _, rfl, va, _, _, _, rfl, rfl, SqL.of (s07 _ _ hva), atI_nat (j := 0) rfl, _, rfl, va, _, _, _, rfl, rfl, SqL.of (s07 _ _ hva), atI_nat (j := 1) rfl, v, vb, el, el2, rfl, dv.same s07, dvb.same s07, fun t8 J8 s8 e8 => ⟨by show 1 ≤ sizeLine; decide, fun p9 np9 => ?_⟩⟩
    generalize hG : upd J8 p9 _ = J9
    obtain ⟨s9, e9⟩ := new_of np9 hG
    refine ⟨by show 1 ≤ sizeLine; decide, fun W nW => ?_⟩
    generalize hG : upd J9 W _ = J10
    obtain ⟨s10, e10⟩ := new_of nW hG
    have s810 := (s8.trans s9).trans s10
    refine ⟨D, W, _, _, [lessF f lo, lessF g f, atmF hi g, lessF f (0, 0), atmF (LN ls num) g], [[atmF el el2]], rfl, s810 _ _ e7, dpa_same s810 _ _ dD, e10, .cons (one_w3 (s10 _ _ (s9 _ _ e8)) (s10 _ _ e9)) .nil, by show 5 ≤ 50; decide, by show 1 ≤ 50; decide, fun x hx => ?_, fun R xs J11 s11 nR eR dR => ?_⟩
    · rw [List.mem_singleton.mp hx]
      show 1 ≤ 50
      decide
    have s010 := s07.trans s810
    exact q R xs J11 (s010.trans s11) (s010.free nR) eR dR
end
end SW

namespace SW
open PySem PySem.Spec PyProof.Rows L2
section
variable {P : Program} {w : World} {K : PySem.W.Frag} {mg : PySem.Str → Option Value} {base : Heap} {C : Addr}
def spBelW (P : Program) (w : World) (K : PySem.W.Frag) (C : Addr) : Sp := fun vs H Q _ => ∃ (k : Ka) (m : Int) (bs : List T3) (ls : List Ld) (cs : List Ce) (ps : List Pr) (fs : List Fm) (ix t va : Addr) (wd : PySem.Str) (i s r n num o : Nat) (lo hi fa fb f g e e2 : Fm) (xi : List V) (is : List Fm) (v v2 : V), vs = [.ref k.p, .ref ix, .ref t, .ref va] ∧ KnW P w K C H k m bs ls cs ps fs ∧ LsOk n ls ∧ SqT K H t [.str wd, .int i, .int s, .int r] ∧ ps[i]? = some (.bel num lo hi o fa fb) ∧ num < ls.length ∧ o < ls.length ∧ H ix = some (.lst xi) ∧ DpAll K H xi (is.map f2) ∧ is[s]? = some f ∧ is[r]? = some g ∧ H va = some (.lst [v, v2]) ∧ Dp K H v (f2 e) ∧ Dp K H v2 (f2 e2) ∧ WaysAt K H (tsF (([lessF f lo, atmF hi f] ++ outF ls num f) ++ ([lessF g fa, atmF fb g] ++ outF ls o g)) [[atmF e e2]]) Q
theorem ok_below_ways (T : TxK K mg C) (D_below_ways : Df K mg "_below_ways" s_below_ways ["known", "indexes", "split", "values"]) (D_less : Df K mg "less" s_less ["f", "g"]) (D_at_most : Df K mg "at_most" s_at_most ["f", "g"]) (D_outside_tests : Df K mg "outside_tests" s_outside_tests ["known", "number", "index"]) (D_tested : Df K mg "tested" s_tested ["tests", "ways"]) (G_less : FnOk P w K mg base CX0 1 D_less.f D_less.fd ["f", "g"] (spLess K)) (G_at_most : FnOk P w K mg base CX0 1 D_at_most.f D_at_most.fd ["f", "g"] (spAtMost K)) (G_outside_tests : FnOk P w K mg base CX0 2 D_outside_tests.f D_outside_tests.fd ["known", "number", "index"] (spOut P w K C)) (G_tested : FnOk P w K mg base CX0 2 D_tested.f D_tested.fd ["tests", "ways"] (spTested K)) : FnOk P w K mg base CX0 3 D_below_ways.f D_below_ways.fd ["known", "indexes", "split", "values"] (spBelW P w K C) := by
  refine D_below_ways.F.ok sc_below_ways (fun vs H Q E h => ?_) (fun cdv A outer s H vs Q E hr h => ?_)
  · obtain ⟨k, m, bs, ls, cs, ps, fs, ix, t, va, wd, i, s, r, n, num, o, lo, hi, fa, fb, f, g, e, e2, xi, is, v, v2, rfl, _⟩ := h
    rfl
  · obtain ⟨k, m, bs, ls, cs, ps, fs, ix, t, va, wd, i, s, r, n, num, o, lo, hi, fa, fb, f, g, el, el2, xi, is, v, vb, rfl, kw, lok, ht, hp, hnum, ho, hix, dix, hf, hg', hva, dv, dvb, q⟩ := h
    refine ⟨_, (pss_cons (ps_asg (pe_ix ix_list (pe_fld (pv 0) rfl) (pe_ix ix_tup (pv 2) pe_int (fun _ _ => rfl)) (fun _ _ => rfl)) (pg_tup (by rfl) (pgs_cons (pg_name (i := 4) sc_below_ways.nd rfl (.inl rfl)) (pgs_cons (pg_name (i := 5) sc_below_ways.nd rfl (.inl rfl)) (pgs_cons (pg_name (i := 6) sc_below_ways.nd rfl (.inl rfl)) (pgs_cons (pg_name (i := 7) sc_below_ways.nd rfl (.inl rfl)) (pgs_cons (pg_name (i := 8) sc_below_ways.nd rfl (.inl rfl)) (pgs_cons (pg_name (i := 9) sc_below_ways.nd rfl (.inl rfl)) (pgs_cons (pg_name (i := 10) sc_below_ways.nd rfl (.inl rfl)) pgs_nil)))))))))
    (pss_cons (ps_par rfl sc_below_ways.nd (i := 11) (j := 12) rfl rfl (by decide) rfl rfl (pa_cons (pe_ix ix_list (pv 1) (pe_ix ix_tup (pv 2) pe_int (fun _ _ => rfl)) (fun _ _ => rfl)) (pa_cons (pe_ix ix_list (pv 1) (pe_ix ix_tup (pv 2) pe_int (fun _ _ => rfl)) (fun _ _ => rfl)) pa_nil)) rfl)
    (pss_cons (ps_set (i := 13) sc_below_ways.nd rfl (.inl rfl) (pe_op op_cat (pe_lst (pa_cons (pe_call G_less (hr.mono (by decide)) (by rfl) D_less.g D_less.F.kp D_less.b .nil pass0 (pa_cons (pv 11) (pa_cons (pv 6) pa_nil))) (pa_cons (pe_call G_at_most (hr.mono (by decide)) (by rfl) D_at_most.g D_at_most.F.kp D_at_most.b .nil pass0 (pa_cons (pv 7) (pa_cons (pv 11) pa_nil))) pa_nil))) (pe_call G_outside_tests (hr.mono (by decide)) (by rfl) D_outside_tests.g D_outside_tests.F.kp D_outside_tests.b .nil pass0 (pa_cons (pv 0) (pa_cons (pv 5) (pa_cons (pv 11) pa_nil))))))
    (pss_cons (ps_expr (pe_bm PySem.F.plainAttrs_list PySem.F.slot_list_extend PySem.F.type_list_extend mt_extend (pv 13) (pa_cons (pe_op op_cat (pe_lst (pa_cons (pe_call G_less (hr.mono (by decide)) (by rfl) D_less.g D_less.F.kp D_less.b .nil pass0 (pa_cons (pv 12) (pa_cons (pv 9) pa_nil))) (pa_cons (pe_call G_at_most (hr.mono (by decide)) (by rfl) D_at_most.g D_at_most.F.kp D_at_most.b .nil pass0 (pa_cons (pv 10) (pa_cons (pv 12) pa_nil))) pa_nil))) (pe_call G_outside_tests (hr.mono (by decide)) (by rfl) D_outside_tests.g D_outside_tests.F.kp D_outside_tests.b .nil pass0 (pa_cons (pv 0) (pa_cons (pv 8) (pa_cons (pv 12) pa_nil))))) pa_nil)))
    (pss_one (ps_ret (pe_call G_tested (hr.mono (by decide)) (by rfl) D_tested.g D_tested.F.kp D_tested.b .nil pass0 (pa_cons (pv 13) (pa_cons (pe_lst (pa_cons (pe_tup (pa_cons (pe_call G_at_most (hr.mono (by decide)) (by rfl) D_at_most.g D_at_most.F.kp D_at_most.b .nil pass0 (pa_cons (pe_ix ix_list (pv 3) pe_int (fun _ _ => rfl)) (pa_cons (pe_ix ix_list (pv 3) pe_int (fun _ _ => rfl)) pa_nil))) pa_nil)) pa_nil)) pa_nil))))))))), ?_⟩
    obtain ⟨_, _, _, xt, _, _, kn, _, _, hx, _⟩ := kw.ex
    obtain ⟨dx, e⟩ := kn.ob
    obtain ⟨vp, g1, g2⟩ := pr_get hx hp
    obtain ⟨tp, us, rfl, htp, ha⟩ := dp_tup_inv g2
    obtain ⟨v1, v2, v3, v4, v5, v6, v7, rfl, w1, w2, w3', w4, w5, w6, w7⟩ := dpa7 ha
    cases dp_int_inv w2
    cases dp_int_inv w5
    obtain ⟨vf, gf, df⟩ := f_get dix hf
    obtain ⟨vg, gg, dg⟩ := f_get dix hg'
    refine ⟨_, rfl, k.p, C, dx, _, _, rfl, e, T.cl, T.nT, knF_t _ _ _ _ _ _ _, _, rfl, t, _, _, _, rfl, rfl, ht, atI_nat (j := 1) rfl, k.tk, _, _, _, rfl, rfl, SqL.of kn.t, atI_nat g1, tp, _, rfl, htp, rfl, _, _, rfl, _, _, rfl, _, _, rfl, _, _, rfl, _, _, rfl, _, _, rfl, _, _, rfl, rfl, ?_⟩
    refine ⟨_, rfl, _, rfl, t, _, _, _, rfl, rfl, ht, atI_nat (j := 2) rfl, ix, _, _, _, rfl, rfl, SqL.of hix, atI_nat gf, _, rfl, _, rfl, t, _, _, _, rfl, rfl, ht, atI_nat (j := 3) rfl, ix, _, _, _, rfl, rfl, SqL.of hix, atI_nat gg, _, _, rfl, ?_⟩
    have s0 : Same H H := Same.refl H
    refine ⟨_, rfl, _, rfl, vf, v3, f, lo, rfl, df.same s0, w3'.same s0, fun t1 J1 s1 e1 => ?_⟩
    have s01 := s1
    refine ⟨_, rfl, _, rfl, v4, vf, hi, f, rfl, w4.same s01, df.same s01, fun t2 J2 s2 e2 => ⟨by show 2 ≤ sizeLine; decide, fun A' nA => ?_⟩⟩
    generalize hG : upd J2 A' _ = J3
    obtain ⟨s3, e3⟩ := new_of nA hG
    have s03 := (s01.trans s2).trans s3
    refine ⟨_, rfl, _, rfl, _, rfl, k, m, bs, ls, cs, ps, fs, num, n, vf, f, rfl, kw.same s03, lok, hnum, df.same s03, fun B xb J4 s4 nB eB dB => ?_⟩
    have lB : xb.length = 2 := by rw [dpa_len dB]; rfl
    refine ⟨A', B, _, _, rfl, rfl, s4 _ _ e3, eB, small_szE (by show 2 + xb.length ≤ 1000; omega), fun D nD => ?_⟩
    generalize hG : upd J4 D _ = J5
    obtain ⟨s5, e5⟩ := new_of nD hG
    have s05 := (s03.trans s4).trans s5
    -- extend
    refine ⟨_, rfl, .inl ⟨rfl, _, SqL.of e5⟩, _, rfl, _, rfl, vg, v6, g, fa, rfl, dg.same s05, w6.same s05, fun t6 J6 s6 e6 => ?_⟩
    have s06 := s05.trans s6
    refine ⟨_, rfl, _, rfl, v7, vg, fb, g, rfl, w7.same s06, dg.same s06, fun t7 J7 s7 e7 => ⟨by show 2 ≤ sizeLine; decide, fun A8 nA8 => ?_⟩⟩
    generalize hG : upd J7 A8 _ = J8
    obtain ⟨s8, e8⟩ := new_of nA8 hG
    have s08 := (s06.trans s7).trans s8
    refine ⟨_, rfl, _, rfl, _, rfl, k, m, bs, ls, cs, ps, fs, o, n, vg, g, rfl, kw.same s08, lok, ho, dg.same s08, fun B9 x9 J9 s9 nB9 eB9 dB9 => ?_⟩
    have lB9 : x9.length = 2 := by rw [dpa_len dB9]; rfl
    refine ⟨A8, B9, _, _, rfl, rfl, s9 _ _ e8, eB9, small_szE (by show 2 + x9.length ≤ 1000; omega), fun E10 nE10 => ?_⟩
    generalize hG : upd J9 E10 _ = J10
    obtain ⟨s10, e10⟩ := new_of nE10 hG
    have s510 := (((s6.trans s7).trans s8).trans s9).trans s10
    have s010 := s05.trans s510
    -- the list is longer by four
    have dD : DpAll K J10 ([.ref t1, .ref t2] ++ xb) (([lessF f lo, atmF hi f] ++ outF ls num f).map b3) := by
      rw [List.map_append]
      have s510' := s5.trans s510
      have s310 := (s3.trans s4).trans s510'
      exact dpa_app (.cons (dp_t3 (s310 _ _ (s2 _ _ e1))) (.cons (dp_t3 (s310 _ _ e2)) .nil)) (dpa_same s510' _ _ dB)
    have dE : DpAll K J10 ([.ref t6, .ref t7] ++ x9) (([lessF g fa, atmF fb g] ++ outF ls o g).map b3) := by
      rw [List.map_append]
      have s810 := (s8.trans s9).trans s10
      exact dpa_app (.cons (dp_t3 (s810 _ _ (s7 _ _ e6))) (.cons (dp_t3 (s810 _ _ e7)) .nil)) (dpa_same s10 _ _ dB9)
    have eD10 := s510 _ _ e5
    have nDH : H D = none := (s03.trans s4).free nD
    have dDE : DpAll K J10 (([.ref t1, .ref t2] ++ xb) ++ ([.ref t6, .ref t7] ++ x9)) ((([lessF f lo, atmF hi f] ++ outF ls num f) ++ ([lessF g fa, atmF fb g] ++ outF ls o g)).map b3) := by
      rw [List.map_append]
      exact dpa_app dD dE
    refine ⟨D, E10, _, _, rfl, rfl, eD10, e10, small_szE (by rw [List.length_append, List.length_append]; show 2 + xb.length + (2 + x9.length) ≤ 1000; omega), ?_⟩
    have b11 : But D J10 (upd J10 D (.lst (([V.ref t1, V.ref t2] ++ xb) ++ ([V.ref t6, V.ref t7] ++ x9)))) := fun c o hc e => (upd_ne hc).trans e
    have e11 : (upd J10 D (.lst (([V.ref t1, V.ref t2] ++ xb) ++ ([V.ref t6, V.ref t7] ++ x9)))) D = some (.lst (([V.ref t1, V.ref t2] ++ xb) ++ ([V.ref t6, V.ref t7] ++ x9))) := upd_same
    have s011 : Same H (upd J10 D (.lst (([V.ref t1, V.ref t2] ++ xb) ++ ([V.ref t6, V.ref t7] ++ x9)))) := same_mut s010 nDH
    have d11 := dpa_but eD10 b11 _ _ (noLs_b3 _) dDE
    generalize upd J10 D (.lst (([V.ref t1, V.ref t2] ++ xb) ++ ([V.ref t6, V.ref t7] ++ x9))) = J11 at e11 s011 d11
    refine ⟨_, rfl, _, rfl, va, _, _, _, rfl, rfl, SqL.of (s011 _ _ hva), atI_nat (j := 0) rfl, _, rfl, va, _, _, _, rfl, rfl, SqL.of (s011 _ _ hva), atI_nat (j := 1) rfl, v, vb, el, el2, rfl, dv.same s011, dvb.same s011, fun t12 J12 s12 e12 => ⟨by show 1 ≤ sizeLine; decide, fun p13 np13 => ?_⟩⟩
    generalize hG : upd J12 p13 _ = J13
    obtain ⟨s13, e13⟩ := new_of np13 hG
    refine ⟨by show 1 ≤ sizeLine; decide, fun W nW => ?_⟩
    generalize hG : upd J13 W _ = J14
    obtain ⟨s14, e14⟩ := new_of nW hG
    have s1214 := (s12.trans s13).trans s14
    refine ⟨D, W, _, _, ([lessF f lo, atmF hi f] ++ outF ls num f) ++ ([lessF g fa, atmF fb g] ++ outF ls o g), [[atmF el el2]], rfl, s1214 _ _ e11, dpa_same s1214 _ _ d11, e14, .cons (one_w3 (s14 _ _ (s13 _ _ e12)) (s14 _ _ e13)) .nil, by show 8 ≤ 50; decide, by show 1 ≤ 50; decide, fun x hx => ?_, fun R xs J15 s15 nR eR dR => ?_⟩
    · rw [List.mem_singleton.mp hx]
      show 1 ≤ 50
      decide
    have s014 := s011.trans s1214
    exact q R xs J15 (s014.trans s15) (s014.free nR) eR dR
end
end SW

namespace SW
open PySem PySem.Spec PyProof.Rows L2
abbrev s_fits : Stmt := topS 17
theorem sc_fits : FnScope ["number", "things"] ["number", "things"] (defScope s_fits) := ⟨rfl, rfl, rfl, by decide +kernel, rfl, by decide +kernel, by decide +kernel⟩

abbrev s_is_pair : Stmt := topS 16
theorem sc_is_pair : FnScope ["cells", "m", "n"] ["cells", "m", "n"] (defScope s_is_pair) := ⟨rfl, rfl, rfl, by decide +kernel, rfl, by decide +kernel, by decide +kernel⟩

def fitsF (z : Int) (n : Nat) : Bool := decide (0 ≤ z) && decide (z < (n : Int))
section
variable {P : Program} {w : World} {K : PySem.W.Frag} {mg : PySem.Str → Option Value} {base : Heap} {C : Addr}
def spFits (K : PySem.W.Frag) : Sp := fun vs H Q _ => ∃ (z : Int) (a : Addr) (xs : List V), vs = [.int z, .ref a] ∧ SqL K H a xs ∧ Q (.bl (fitsF z xs.length)) H
theorem ok_fits (T : TxB mg) (D_fits : Df K mg "_fits" s_fits ["number", "things"]) : FnOk P w K mg base CX0 1 D_fits.f D_fits.fd ["number", "things"] (spFits K) := by
  refine D_fits.F.ok sc_fits (fun vs H Q E h => ?_) (fun cdv A outer s H vs Q E hr h => ?_)
  · obtain ⟨z, a, xs, rfl, _⟩ := h
    rfl
  · obtain ⟨z, a, xs, rfl, ha, q⟩ := h
    refine ⟨_, (pss_one (ps_ret (pe_and (pe_callB call_isi (by rfl) T.n_isinstance (by decide +kernel) (pa_cons (pv 0) (pa_cons (pe_bltn (v := .ty "int") (u := .type "int") (by rfl) T.n_int (by decide +kernel) rfl) pa_nil))) (pe_one (pe_chain op_le op_lt pe_int (pv 0) (pe_callB call_len_seq (by rfl) T.n_len PySem.boot_len (pa_cons (pv 1) pa_nil))))))), ?_⟩
    refine ⟨_, rfl, .int z, .ty "int", .type "int", .type "int", true, rfl, .ty _, .base (.int _), kit_ty (by decide +kernel), ?_⟩
    refine ⟨true, rfl, iteT ⟨_, rfl, _, _, rfl, rfl, _, rfl, ite2 (fun e => ?_) (fun e => ?_)⟩⟩
    · refine ⟨_, rfl, a, xs, rfl, .inl ha, _, _, rfl, rfl, ?_⟩
      unfold fitsF at q
      rw [e, Bool.true_and] at q
      exact q
    · unfold fitsF at q
      rw [Bool.eq_false_iff.mpr e, Bool.false_and] at q
      exact q
theorem fits_iff {z : Int} {n : Nat} : fitsF z n = true ↔ ∃ i : Nat, z = i ∧ i < n := by
  unfold fitsF
  rw [Bool.and_eq_true, decide_eq_true_iff, decide_eq_true_iff]
  constructor
  · rintro ⟨h1, h2⟩
    exact ⟨z.toNat, by omega, by omega⟩
  · rintro ⟨i, rfl, h⟩
    exact ⟨by omega, by omega⟩
/-- two cells of one list, in their order -/
def PairOk (cs : List Ce) (m n : Int) : Prop := ∃ (i j : Nat) (c d : Ce), m = i ∧ n = j ∧ i < j ∧ cs[i]? = some c ∧ cs[j]? = some d ∧ c.n = d.n
def spIsPair (K : PySem.W.Frag) : Sp := fun vs H Q _ => ∃ (a : Addr) (m n : Int) (xc : List V) (cs : List Ce), vs = [.ref a, .int m, .int n] ∧ H a = some (.lst xc) ∧ DpAll K H xc (cs.map Ce.enc) ∧ ∀ b : Bool, (b = true ↔ PairOk cs m n) → Q (.bl b) H
theorem ok_is_pair (T : TxB mg) (D_is_pair : Df K mg "_is_pair" s_is_pair ["cells", "m", "n"]) (D_fits : Df K mg "_fits" s_fits ["number", "things"]) (G_fits : FnOk P w K mg base CX0 1 D_fits.f D_fits.fd ["number", "things"] (spFits K)) : FnOk P w K mg base CX0 2 D_is_pair.f D_is_pair.fd ["cells", "m", "n"] (spIsPair K) := by
  refine D_is_pair.F.ok sc_is_pair (fun vs H Q E h => ?_) (fun cdv A outer s H vs Q E hr h => ?_)
  · obtain ⟨a, m, n, xc, cs, rfl, _⟩ := h
    rfl
  · obtain ⟨a, m, n, xc, cs, rfl, ha, dc, q⟩ := h
    refine ⟨_, (pss_one (ps_ret (pe_and (pe_call G_fits (hr.mono (by decide)) (by rfl) D_fits.g D_fits.F.kp D_fits.b .nil pass0 (pa_cons (pv 1) (pa_cons (pv 0) pa_nil))) (pe_and (pe_call G_fits (hr.mono (by decide)) (by rfl) D_fits.g D_fits.F.kp D_fits.b .nil pass0 (pa_cons (pv 2) (pa_cons (pv 0) pa_nil))) (pe_and (pe_cmpR op_lt (pv 1) (pv 2) (nomark _)) (pe_one (pe_cmpR op_eq (pe_ix ix_tup (pe_ix ix_list (pv 0) (pv 1) (fun _ _ => rfl)) pe_int (fun _ _ => rfl)) (pe_ix ix_tup (pe_ix ix_list (pv 0) (pv 2) (fun _ _ => rfl)) pe_int (fun _ _ => rfl)) (nomark _)))))))), ?_⟩
    have hxc : xc.length = cs.length := by rw [dpa_len dc, List.length_map]
    have lt : ∀ {i : Nat} {c : Ce}, cs[i]? = some c → i < cs.length := fun h => (List.getElem?_eq_some_iff.mp h).1
    refine ⟨_, rfl, _, rfl, m, a, xc, rfl, SqL.of ha, _, rfl, ?_⟩
    rw [hxc]
    refine ite2 (fun e1 => ?_) (fun e1 => ?_)
    · obtain ⟨i, rfl, hi⟩ := fits_iff.mp e1
      refine ⟨_, rfl, _, rfl, n, a, xc, rfl, SqL.of ha, _, rfl, ?_⟩
      rw [hxc]
      refine ite2 (fun e2 => ?_) (fun e2 => ?_)
      · obtain ⟨j, rfl, hj⟩ := fits_iff.mp e2
        refine ⟨_, rfl, _, rfl, _, _, rfl, rfl, _, rfl, ite2 (fun e3 => ?_) (fun e3 => ?_)⟩
        · have e3 := of_decide_eq_true e3
          obtain ⟨tc, _, _, g1, htc, _⟩ := cell_get dc (List.getElem?_eq_getElem hi)
          obtain ⟨td, _, _, g2, htd, _⟩ := cell_get dc (List.getElem?_eq_getElem hj)
          refine ⟨_, rfl, _, rfl, a, _, _, _, rfl, rfl, SqL.of ha, atI_nat g1, tc, _, _, _, rfl, rfl, htc, atI_nat (j := 0) rfl, _, rfl, _, rfl, a, _, _, _, rfl, rfl, SqL.of ha, atI_nat g2, td, _, _, _, rfl, rfl, htd, atI_nat (j := 0) rfl, rfl, ?_⟩
          refine q _ ?_
          rw [decide_eq_true_iff]
          constructor
          · intro h
            injection h with h
            exact ⟨i, j, _, _, rfl, rfl, by omega, List.getElem?_eq_getElem hi, List.getElem?_eq_getElem hj, by omega⟩
          · rintro ⟨i', j', c, d, h1, h2, _, h3, h4, h5⟩
            have h1 : i = i' := by omega
            have h2 : j = j' := by omega
            subst h1 h2
            rw [List.getElem?_eq_getElem hi] at h3
            rw [List.getElem?_eq_getElem hj] at h4
            cases h3
            cases h4
            rw [h5]
        · have e3 := of_decide_eq_false (Bool.eq_false_iff.mpr e3)
          refine q false ⟨(fun h => by cases h), ?_⟩
          rintro ⟨i', j', c, d, h1, h2, h3, _⟩
          omega
      · refine q false ⟨(fun h => by cases h), ?_⟩
        rintro ⟨i', j', c, d, h1, h2, h3, h4, h5, _⟩
        exact absurd (fits_iff.mpr ⟨j', h2, lt h5⟩) e2
    · refine q false ⟨(fun h => by cases h), ?_⟩
      rintro ⟨i', j', c, d, h1, h2, h3, h4, _⟩
      exact absurd (fits_iff.mpr ⟨i', h1, lt h4⟩) e1
end
end SW

namespace SW
open PySem PySem.Spec PyProof.Rows L2
section
variable {P : Program} {w : World} {K : PySem.W.Frag} {mg : PySem.Str → Option Value} {base : Heap} {C : Addr}
theorem LkW.nt {H : Hp} {kp ad al ac tk : Addr} {m : Int} {bs : List T3} {ls : List Ld} {cs : List Ce} {ps : List Pr} (h : LkW K H kp ad al ac tk m bs ls cs ps) : ∀ c, c ∈ ([kp, ad, al, ac, tk] : List Addr) → NT H c := fun c hc => by
  obtain ⟨xd, d1, _⟩ := h.d
  obtain ⟨xl, l1, _⟩ := h.l
  obtain ⟨xc, c1, _⟩ := h.c
  obtain ⟨xt, t1, _⟩ := h.t
  simp only [List.mem_cons, List.not_mem_nil, or_false] at hc
  rcases hc with rfl | rfl | rfl | rfl | rfl
  · exact NT.lst h.k
  · exact NT.lst d1
  · exact NT.lst l1
  · exact NT.lst c1
  · exact NT.lst t1
end
end SW

namespace SW
open PySem PySem.Spec PyProof.Rows L2
abbrev s_is_split : Stmt := topS 15
theorem sc_is_split : FnScope ["known", "indexes", "split", "kind", "at"] ["known", "indexes", "split"] (defScope s_is_split) := ⟨rfl, rfl, rfl, by decide +kernel, rfl, by decide +kernel, by decide +kernel⟩

/-! ### splits -/
/-- the kinds of splits with their sizes; all words that are drawn -/
def kds : List (PySem.Str × Nat) := [("pair", 3), ("write", 2), ("either", 2), ("all", 3), ("match", 3), ("sorted", 4), ("below", 4)]
def wds : List PySem.Str := ["pair", "write", "either", "all", "match", "sorted", "below", "pairs", "on", "dead", "", "new"]
def SzOk (K : PySem.W.Frag) (a : Addr) (z : PySem.Str) : Prop := ∃ r : Option Value, PySem.W.nsIn K a z = some r ∧ ((kds.lookup z = none ∧ r = none) ∨ ∃ (k : Nat) (u : Value), kds.lookup z = some k ∧ r = some u ∧ RelV (.int (k : Nat)) u)
/-- the file of splits -/
structure TxS (K : PySem.W.Frag) (w : World) (mg : PySem.Str → Option Value) (C : Addr) extends TxK K mg C where
  aSizes : Addr
  es : Array DictEntry
  en : Nat
  m_SIZES : mg "SIZES" = some (.ref aSizes)
  kd : KDict K w aSizes es en
  sz : ∀ z, z ∈ wds → SzOk K aSizes z
  aMakers : Addr
  m_MAKERS : mg "MAKERS" = some (.ref aMakers)
/-- a split with what it speaks of -/
inductive Sx where
  | pair (c d : Ce)
  | wr (c : Ce) (o : Nat) (a b : Fm)
  | eit (ws : List (List T3))
  | all (n : Nat) (lo hi : Fm) (g : PySem.Str) (fm f : Fm)
  | mat (n : Nat) (lo hi : Fm) (g : PySem.Str) (o : Nat) (c : Int) (f : Fm)
  | srt (n : Nat) (lo hi f g : Fm)
  | bel (n : Nat) (lo hi : Fm) (o : Nat) (a b f g : Fm)
def Fit (ls : List Ld) (cs : List Ce) (ps : List Pr) (is : List Fm) (wd : PySem.Str) (zs : List Int) : Sx → Prop
  | .pair c d => wd = "pair" ∧ ∃ i j : Nat, zs = [(i : Int), (j : Int)] ∧ i < j ∧ cs[i]? = some c ∧ cs[j]? = some d ∧ c.n = d.n
  | .wr c o a b => wd = "write" ∧ ∃ i : Nat, zs = [(i : Int)] ∧ cs[i]? = some c ∧ ls[c.n]? = some (.wr o a b)
  | .eit ws => wd = "either" ∧ ∃ i : Nat, zs = [(i : Int)] ∧ ps[i]? = some (.eit ws)
  | .all n lo hi g fm f => wd = "all" ∧ ∃ i s : Nat, zs = [(i : Int), (s : Int)] ∧ ps[i]? = some (.all n lo hi g fm) ∧ is[s]? = some f
  | .mat n lo hi g o c f => wd = "match" ∧ ∃ i s : Nat, zs = [(i : Int), (s : Int)] ∧ ps[i]? = some (.mat n lo hi g o c) ∧ is[s]? = some f
  | .srt n lo hi f g => wd = "sorted" ∧ ∃ i s r : Nat, zs = [(i : Int), (s : Int), (r : Int)] ∧ ps[i]? = some (.srt n lo hi) ∧ is[s]? = some f ∧ is[r]? = some g
  | .bel n lo hi o a b f g => wd = "below" ∧ ∃ i s r : Nat, zs = [(i : Int), (s : Int), (r : Int)] ∧ ps[i]? = some (.bel n lo hi o a b) ∧ is[s]? = some f ∧ is[r]? = some g
theorem all_map_id {α : Type} (xs : List α) (g : α → Bool) : (xs.map g).all id = xs.all g := by
  rw [List.all_map]
  rfl
def Pr.wd : Pr → PySem.Str
  | .all .. => "all"
  | .mat .. => "match"
  | .srt .. => "sorted"
  | .bel .. => "below"
  | .eit .. => "either"
section
variable {ls : List Ld} {cs : List Ce} {ps : List Pr} {is : List Fm} {zs : List Int} {wd : PySem.Str}
theorem fit_pair : (∃ x, Fit ls cs ps is "pair" zs x) ↔ ∃ m n, zs = [m, n] ∧ PairOk cs m n := by
  constructor
  · rintro ⟨x, h⟩
    cases x with
    | pair c d =>
      obtain ⟨_, i, j, rfl, h1, h2, h3, h4⟩ := h
      exact ⟨_, _, rfl, i, j, c, d, rfl, rfl, h1, h2, h3, h4⟩
    | _ => exact absurd h.1 (by decide +kernel)
  · rintro ⟨m, n, rfl, i, j, c, d, rfl, rfl, h1, h2, h3, h4⟩
    exact ⟨.pair c d, rfl, i, j, rfl, h1, h2, h3, h4⟩
theorem fit_write : (∃ x, Fit ls cs ps is "write" zs x) ↔ ∃ (i : Nat) (c : Ce) (o : Nat) (a b : Fm), zs = [(i : Int)] ∧ cs[i]? = some c ∧ ls[c.n]? = some (.wr o a b) := by
  constructor
  · rintro ⟨x, h⟩
    cases x with
    | wr c o a b =>
      obtain ⟨_, i, rfl, h1, h2⟩ := h
      exact ⟨i, c, o, a, b, rfl, h1, h2⟩
    | _ => exact absurd h.1 (by decide +kernel)
  · rintro ⟨i, c, o, a, b, rfl, h1, h2⟩
    exact ⟨.wr c o a b, rfl, i, rfl, h1, h2⟩
theorem fits_of {α : Type} {xs : List α} {s : Nat} {f : α} (h : xs[s]? = some f) : fitsF (s : Int) xs.length = true := fits_iff.mpr ⟨s, rfl, (List.getElem?_eq_some_iff.mp h).1⟩
theorem of_fits {α : Type} {xs : List α} {z : Int} (h : fitsF z xs.length = true) : ∃ (s : Nat) (f : α), z = s ∧ xs[s]? = some f := by
  obtain ⟨s, rfl, h2⟩ := fits_iff.mp h
  exact ⟨s, xs[s], rfl, List.getElem?_eq_getElem h2⟩
def Rest (ps : List Pr) (is : List Fm) (wd : PySem.Str) (zs : List Int) : Prop := ∃ (i : Nat) (p : Pr) (r : List Int), zs = (i : Int) :: r ∧ ps[i]? = some p ∧ p.wd = wd ∧ ∀ z, z ∈ r → fitsF z is.length = true
theorem fit_rest {k : Nat} (h1 : wd ≠ "pair") (h2 : wd ≠ "write") (hk : kds.lookup wd = some k) (hz : zs.length + 1 = k) : (∃ x, Fit ls cs ps is wd zs x) ↔ Rest ps is wd zs := by
  have one : ∀ {z s : Int}, z ∈ ([s] : List Int) → z = s := fun h => List.mem_singleton.mp h
  constructor
  · rintro ⟨x, h⟩
    cases x with
    | pair c d => exact absurd h.1 h1
    | wr c o a b => exact absurd h.1 h2
    | eit ws =>
      obtain ⟨rfl, i, rfl, hp⟩ := h
      exact ⟨i, _, [], rfl, hp, rfl, fun z hz => (List.not_mem_nil hz).elim⟩
    | all n lo hi g fm f =>
      obtain ⟨rfl, i, s, rfl, hp, hf⟩ := h
      exact ⟨i, _, [_], rfl, hp, rfl, fun z hz => by rw [one hz]; exact fits_of hf⟩
    | mat n lo hi g o c f =>
      obtain ⟨rfl, i, s, rfl, hp, hf⟩ := h
      exact ⟨i, _, [_], rfl, hp, rfl, fun z hz => by rw [one hz]; exact fits_of hf⟩
    | srt n lo hi f g =>
      obtain ⟨rfl, i, s, r, rfl, hp, hf, hg⟩ := h
      refine ⟨i, _, [_, _], rfl, hp, rfl, fun z hz => ?_⟩
      rcases List.mem_cons.mp hz with rfl | hz
      · exact fits_of hf
      · rw [one hz]
        exact fits_of hg
    | bel n lo hi o a b f g =>
      obtain ⟨rfl, i, s, r, rfl, hp, hf, hg⟩ := h
      refine ⟨i, _, [_, _], rfl, hp, rfl, fun z hz => ?_⟩
      rcases List.mem_cons.mp hz with rfl | hz
      · exact fits_of hf
      · rw [one hz]
        exact fits_of hg
  · rintro ⟨i, p, r, rfl, hp, rfl, hr⟩
    have l2 : ∀ {r : List Int}, ((i : Int) :: r).length + 1 = 2 → r = [] := fun {r} h => by
      cases r with
      | nil => rfl
      | cons a r => cases h
    have l3 : ∀ {r : List Int}, ((i : Int) :: r).length + 1 = 3 → ∃ a, r = [a] := fun {r} h => by
      match r, h with
      | [a], _ => exact ⟨a, rfl⟩
    have l4 : ∀ {r : List Int}, ((i : Int) :: r).length + 1 = 4 → ∃ a b, r = [a, b] := fun {r} h => by
      match r, h with
      | [a, b], _ => exact ⟨a, b, rfl⟩
    cases p with
    | eit ws =>
      have hk : some 2 = some k := hk
      cases hk
      cases l2 hz
      exact ⟨.eit ws, rfl, i, rfl, hp⟩
    | all n lo hi g fm =>
      have hk : some 3 = some k := hk
      cases hk
      obtain ⟨a, rfl⟩ := l3 hz
      obtain ⟨s, f, rfl, hf⟩ := of_fits (hr a List.mem_cons_self)
      exact ⟨.all n lo hi g fm f, rfl, i, s, rfl, hp, hf⟩
    | mat n lo hi g o c =>
      have hk : some 3 = some k := hk
      cases hk
      obtain ⟨a, rfl⟩ := l3 hz
      obtain ⟨s, f, rfl, hf⟩ := of_fits (hr a List.mem_cons_self)
      exact ⟨.mat n lo hi g o c f, rfl, i, s, rfl, hp, hf⟩
    | srt n lo hi =>
      have hk : some 4 = some k := hk
      cases hk
      obtain ⟨a, b, rfl⟩ := l4 hz
      obtain ⟨s, f, rfl, hf⟩ := of_fits (hr a List.mem_cons_self)
      obtain ⟨r, g, rfl, hg⟩ := of_fits (hr b (List.mem_cons_of_mem _ List.mem_cons_self))
      exact ⟨.srt n lo hi f g, rfl, i, s, r, rfl, hp, hf, hg⟩
    | bel n lo hi o a' b' =>
      have hk : some 4 = some k := hk
      cases hk
      obtain ⟨a, b, rfl⟩ := l4 hz
      obtain ⟨s, f, rfl, hf⟩ := of_fits (hr a List.mem_cons_self)
      obtain ⟨r, g, rfl, hg⟩ := of_fits (hr b (List.mem_cons_of_mem _ List.mem_cons_self))
      exact ⟨.bel n lo hi o a' b' f g, rfl, i, s, r, rfl, hp, hf, hg⟩
theorem fit_fun {x y : Sx} (h : Fit ls cs ps is wd zs x) (h' : Fit ls cs ps is wd zs y) : x = y := by
  cases x <;> cases y <;> first | exact absurd (h.1.symm.trans h'.1) (by decide +kernel) | skip
  · obtain ⟨_, i, j, rfl, _, a1, a2, _⟩ := h
    obtain ⟨_, i', j', e, _, b1, b2, _⟩ := h'
    injection e with e1 e
    injection e with e2 _
    rw [← show i = i' by omega, a1] at b1
    rw [← show j = j' by omega, a2] at b2
    cases b1
    cases b2
    rfl
  · obtain ⟨_, i, rfl, a1, a2⟩ := h
    obtain ⟨_, i', e, b1, b2⟩ := h'
    injection e with e1 _
    rw [← show i = i' by omega, a1] at b1
    cases b1
    rw [a2] at b2
    cases b2
    rfl
  · obtain ⟨_, i, rfl, a1⟩ := h
    obtain ⟨_, i', e, b1⟩ := h'
    injection e with e1 _
    rw [← show i = i' by omega, a1] at b1
    cases b1
    rfl
  · obtain ⟨_, i, j, rfl, a1, a2⟩ := h
    obtain ⟨_, i', j', e, b1, b2⟩ := h'
    injection e with e1 e
    injection e with e2 _
    rw [← show i = i' by omega, a1] at b1
    rw [← show j = j' by omega, a2] at b2
    cases b1
    cases b2
    rfl
  · obtain ⟨_, i, j, rfl, a1, a2⟩ := h
    obtain ⟨_, i', j', e, b1, b2⟩ := h'
    injection e with e1 e
    injection e with e2 _
    rw [← show i = i' by omega, a1] at b1
    rw [← show j = j' by omega, a2] at b2
    cases b1
    cases b2
    rfl
  · obtain ⟨_, i, j, l, rfl, a1, a2, a3⟩ := h
    obtain ⟨_, i', j', l', e, b1, b2, b3⟩ := h'
    injection e with e1 e
    injection e with e2 e
    injection e with e3 _
    rw [← show i = i' by omega, a1] at b1
    rw [← show j = j' by omega, a2] at b2
    rw [← show l = l' by omega, a3] at b3
    cases b1
    cases b2
    cases b3
    rfl
  · obtain ⟨_, i, j, l, rfl, a1, a2, a3⟩ := h
    obtain ⟨_, i', j', l', e, b1, b2, b3⟩ := h'
    injection e with e1 e
    injection e with e2 e
    injection e with e3 _
    rw [← show i = i' by omega, a1] at b1
    rw [← show j = j' by omega, a2] at b2
    rw [← show l = l' by omega, a3] at b3
    cases b1
    cases b2
    cases b3
    rfl
/-- a split that fits has a word and a size -/
theorem fit_size {x : Sx} (h : Fit ls cs ps is wd zs x) : kds.lookup wd = some (zs.length + 1) := by
  cases x with
  | pair c d =>
    obtain ⟨rfl, i, j, rfl, _⟩ := h
    rfl
  | wr c o a b =>
    obtain ⟨rfl, i, rfl, _⟩ := h
    rfl
  | eit ws =>
    obtain ⟨rfl, i, rfl, _⟩ := h
    rfl
  | all n lo hi g fm f =>
    obtain ⟨rfl, i, s, rfl, _⟩ := h
    rfl
  | mat n lo hi g o c f =>
    obtain ⟨rfl, i, s, rfl, _⟩ := h
    rfl
  | srt n lo hi f g =>
    obtain ⟨rfl, i, s, r, rfl, _⟩ := h
    rfl
  | bel n lo hi o a b f g =>
    obtain ⟨rfl, i, s, r, rfl, _⟩ := h
    rfl
end
section
variable {P : Program} {w : World} {K : PySem.W.Frag} {mg : PySem.Str → Option Value} {base : Heap} {C : Addr}
theorem pr_wd {H : Hp} {v : V} {p : Pr} (h : Dp K H v p.enc) : ∃ t us, v = .ref t ∧ SqT K H t (.str p.wd :: us) := by
  have go : ∀ (x : PySem.Str) (ds : List PyData), Dp K H v (.tuple (.str x :: ds)) → ∃ t us, v = .ref t ∧ SqT K H t (.str x :: us) := fun x ds h => by
    obtain ⟨t, us, rfl, ht, ha⟩ := dp_tup_inv h
    cases ha with
    | cons h1 h2 =>
      cases dp_str_inv h1
      exact ⟨t, _, rfl, ht⟩
  cases p <;> exact go _ _ h
theorem ld_get {H : Hp} {xl : List V} {ls : List Ld} (h : DpAll K H xl (ls.map Ld.enc)) {n : Nat} {l : Ld} (hl : ls[n]? = some l) : ∃ v, xl[n]? = some v ∧ Dp K H v l.enc := by
  have hn := (List.getElem?_eq_some_iff.mp hl).1
  obtain ⟨lv, g2, g3⟩ := dp_mem h hn
  rw [List.getElem?_eq_getElem hn] at hl
  rw [Option.some.inj hl] at g3
  exact ⟨lv, g2, g3⟩
def Ld.wd : Ld → PySem.Str
  | .new _ => "new"
  | .wr .. => "written"
theorem ld_wd {H : Hp} {v : V} {l : Ld} (h : Dp K H v l.enc) : ∃ t us, v = .ref t ∧ SqT K H t (.str l.wd :: us) := by
  have go : ∀ (x : PySem.Str) (ds : List PyData), Dp K H v (.tuple (.str x :: ds)) → ∃ t us, v = .ref t ∧ SqT K H t (.str x :: us) := fun x ds h => by
    obtain ⟨t, us, rfl, ht, ha⟩ := dp_tup_inv h
    cases ha with
    | cons h1 h2 =>
      cases dp_str_inv h1
      exact ⟨t, _, rfl, ht⟩
  cases l <;> exact go _ _ h
def spIsSplit (P : Program) (w : World) (K : PySem.W.Frag) (C : Addr) : Sp := fun vs H Q _ => ∃ (k : Ka) (m : Int) (bs : List T3) (ls : List Ld) (cs : List Ce) (ps : List Pr) (fs : List Fm) (ix t : Addr) (wd : PySem.Str) (zs : List Int) (xi : List V) (is : List Fm), vs = [.ref k.p, .ref ix, .ref t] ∧ KnW P w K C H k m bs ls cs ps fs ∧ (∀ c, c ∈ cs → c.n < ls.length) ∧ SqT K H t (.str wd :: zs.map V.int) ∧ wd ∈ wds ∧ zs.length ≤ 4 ∧ H ix = some (.lst xi) ∧ DpAll K H xi (is.map f2) ∧
  ∀ (b : Bool) (H' : Hp), Same H H' → (b = true ↔ ∃ x, Fit ls cs ps is wd zs x) → Q (.bl b) H'
theorem ok_is_split (T : TxS K w mg C) (D_is_split : Df K mg "_is_split" s_is_split ["known", "indexes", "split"]) (D_fits : Df K mg "_fits" s_fits ["number", "things"]) (D_is_pair : Df K mg "_is_pair" s_is_pair ["cells", "m", "n"]) (G_fits : FnOk P w K mg base CX0 1 D_fits.f D_fits.fd ["number", "things"] (spFits K)) (G_is_pair : FnOk P w K mg base CX0 2 D_is_pair.f D_is_pair.fd ["cells", "m", "n"] (spIsPair K)) : FnOk P w K mg base CX0 3 D_is_split.f D_is_split.fd ["known", "indexes", "split"] (spIsSplit P w K C) := by
  refine D_is_split.F.ok sc_is_split (fun vs H Q E h => ?_) (fun cdv A outer s H vs Q E hr h => ?_)
  · obtain ⟨k, m, bs, ls, cs, ps, fs, ix, t, wd, zs, xi, is, rfl, _⟩ := h
    rfl
  · obtain ⟨k, m, bs, ls, cs, ps, fs, ix, t, wd, zs, xi, is, rfl, kw, hcn, ht, hwd, hzl, hix, dix, q⟩ := h
    refine ⟨_, (pss_cons (ps_if (PW.pt (pw_or (pt_not (pt_truth (pv 2) (by intro _; rfl))) (pw_or (pt_cmpR (op_notIn_kd T.kd) (pe_ix ix_tup (pv 2) pe_int (fun _ _ => rfl)) (pe_glob (v := .ref T.aSizes) rfl T.m_SIZES rfl) (by rfl)) (pw_or1 (pt_cmpR op_ne (pe_callB call_len_seq (by rfl) T.n_len PySem.boot_len (pa_cons (pv 2) pa_nil)) (pe_ix ix_kdict (pe_glob (v := .ref T.aSizes) rfl T.m_SIZES rfl) (pe_ix ix_tup (pv 2) pe_int (fun _ _ => rfl)) (fun _ _ => rfl)) (nomark _))))))
    (pss_one (ps_ret pe_bl))
    pss_nil)
    (pss_cons (ps_set (i := 3) sc_is_split.nd rfl (.inl rfl) (pe_ix ix_tup (pv 2) pe_int (fun _ _ => rfl)))
    (pss_cons (ps_if (pt_cmpR op_eq (pv 3) pe_str (nomark _))
    (pss_one (ps_ret (pe_call G_is_pair (hr.mono (by decide)) (by rfl) D_is_pair.g D_is_pair.F.kp D_is_pair.b .nil pass0 (pa_cons (pe_fld (pv 0) rfl) (pa_cons (pe_ix ix_tup (pv 2) pe_int (fun _ _ => rfl)) (pa_cons (pe_ix ix_tup (pv 2) pe_int (fun _ _ => rfl)) pa_nil))))))
    pss_nil)
    (pss_cons (ps_if (pt_cmpR op_eq (pv 3) pe_str (nomark _))
    (pss_one (ps_ret (pe_and (pe_call G_fits (hr.mono (by decide)) (by rfl) D_fits.g D_fits.F.kp D_fits.b .nil pass0 (pa_cons (pe_ix ix_tup (pv 2) pe_int (fun _ _ => rfl)) (pa_cons (pe_fld (pv 0) rfl) pa_nil))) (pe_one (pe_cmpR op_eq (pe_ix ix_tup (pe_ix ix_list (pe_fld (pv 0) rfl) (pe_ix ix_tup (pe_ix ix_list (pe_fld (pv 0) rfl) (pe_ix ix_tup (pv 2) pe_int (fun _ _ => rfl)) (fun _ _ => rfl)) pe_int (fun _ _ => rfl)) (fun _ _ => rfl)) pe_int (fun _ _ => rfl)) pe_str (nomark _))))))
    pss_nil)
    (pss_cons (ps_if (PW.pt (pw_or (pt_not (pt_val (pe_call G_fits (hr.mono (by decide)) (by rfl) D_fits.g D_fits.F.kp D_fits.b .nil pass0 (pa_cons (pe_ix ix_tup (pv 2) pe_int (fun _ _ => rfl)) (pa_cons (pe_fld (pv 0) rfl) pa_nil))))) (pw_or1 (pt_cmpR op_ne (pe_ix ix_tup (pe_ix ix_list (pe_fld (pv 0) rfl) (pe_ix ix_tup (pv 2) pe_int (fun _ _ => rfl)) (fun _ _ => rfl)) pe_int (fun _ _ => rfl)) (pv 3) (nomark _)))))
    (pss_one (ps_ret pe_bl))
    pss_nil)
    (pss_one (ps_ret (pe_callB (cr_all rfl) (by rfl) T.n_all (by decide +kernel) (pa_cons (pe_lc (own := [("at", 4)]) (g := gName 4) (by rfl) sc_is_split.nd (pi_tup (pe_slice sl_tup (pv 2) (po_some pe_int) po_none)) (blkOk_by (own := [("at", 4)]) (N := ["known", "indexes", "split", "kind", "at"]) (sc := defScope s_is_split) (by decide +kernel)) (fun _ _ _ _ _ => pg_name (i := 4) sc_is_split.nd rfl (Or.inl rfl)) (fun _ _ _ _ _ => pts_nil) (fun _ _ _ _ _ => (pe_call G_fits (hr.mono (by decide)) (by rfl) D_fits.g D_fits.F.kp D_fits.b .nil pass0 (pa_cons (pv 4) (pa_cons (pv 1) pa_nil))))) pa_nil))))))))), ?_⟩
    obtain ⟨_, xl, xc, xt, _, _, kn, _, hx, hp, _⟩ := kw.ex
    obtain ⟨dx, e⟩ := kn.ob
    have hxc : xc.length = cs.length := by rw [dpa_len kn.cx, List.length_map]
    have hxt : xt.length = ps.length := by rw [dpa_len hp, List.length_map]
    have hxi : xi.length = is.length := by rw [dpa_len dix, List.length_map]
    have no : ∀ H', Same H H' → (∀ x, ¬ Fit ls cs ps is wd zs x) → Q (.bl false) H' := fun H' s' h => q false H' s' ⟨fun e => Bool.noConfusion e, fun ⟨x, hx⟩ => absurd hx (h x)⟩
    obtain ⟨rr, hr0, hrr⟩ := T.sz wd hwd
    refine ⟨_, rfl, _, .inr (.inl ⟨_, ht, rfl⟩), iteF ?_⟩
    refine ⟨_, rfl, t, _, _, _, rfl, rfl, ht, atI_nat (j := 0) rfl, wd, rr, rfl, rfl, hr0, _, rfl, ?_⟩
    rcases hrr with ⟨hk, rfl⟩ | ⟨sz, u, hk, rfl, hu⟩
    · refine iteT (no H (Same.refl _) fun x hx => ?_)
      rw [fit_size hx] at hk
      cases hk
    refine iteF ?_
    refine ⟨_, rfl, t, _, rfl, .inr ht, _, rfl, t, _, _, _, rfl, rfl, ht, atI_nat (j := 0) rfl, T.aSizes, wd, _, rfl, rfl, ⟨T.es, T.en, u, T.kd.at_, T.kd.lit, hr0, hu⟩, rfl, _, rfl, ite2 (fun e1 => ?_) (fun e1 => ?_)⟩
    · refine no H (Same.refl _) fun x hx => ?_
      rw [fit_size hx] at hk
      have hk : zs.length + 1 = sz := Option.some.inj hk
      rw [List.length_cons, List.length_map, hk, decide_eq_true rfl] at e1
      cases e1
    have hsz : zs.length + 1 = sz := by
      refine Classical.byContradiction fun h => e1 ?_
      rw [List.length_cons, List.length_map, decide_eq_false fun h2 => h (by injection h2 with h2; omega)]
      rfl
    refine ⟨_, rfl, t, _, _, _, rfl, rfl, ht, atI_nat (j := 0) rfl, ?_⟩
    refine ⟨_, rfl, rfl, _, rfl, ?_⟩
    rw [str_dec]
    refine ite2 (fun e2 => ?_) (fun e2 => ?_)
    · have e2 := of_decide_eq_true e2
      subst e2
      have hk : some 3 = some sz := hk
      cases hk
      obtain ⟨z1, z2, rfl⟩ : ∃ z1 z2, zs = [z1, z2] := by
        match zs, hsz with
        | [a, b], _ => exact ⟨a, b, rfl⟩
      refine ⟨_, rfl, k.p, C, dx, _, _, rfl, e, T.cl, T.nC, knF_c _ _ _ _ _ _ _, _, rfl, t, _, _, _, rfl, rfl, ht, atI_nat (j := 1) rfl, _, rfl, t, _, _, _, rfl, rfl, ht, atI_nat (j := 2) rfl, k.ac, z1, z2, xc, cs, rfl, kn.c, kn.cx, fun b hb => q b H (Same.refl _) ?_⟩
      rw [fit_pair, hb]
      constructor
      · exact fun h => ⟨z1, z2, rfl, h⟩
      · rintro ⟨m', n', h1, h2⟩
        cases h1
        exact h2
    have e2 := of_decide_eq_false (Bool.eq_false_iff.mpr e2)
    refine ⟨_, rfl, rfl, _, rfl, ?_⟩
    rw [str_dec]
    refine ite2 (fun e3 => ?_) (fun e3 => ?_)
    · have e3 := of_decide_eq_true e3
      subst e3
      have hk : some 2 = some sz := hk
      cases hk
      obtain ⟨z1, rfl⟩ : ∃ z1, zs = [z1] := by
        match zs, hsz with
        | [a], _ => exact ⟨a, rfl⟩
      refine ⟨_, rfl, t, _, _, _, rfl, rfl, ht, atI_nat (j := 1) rfl, _, rfl, k.p, C, dx, _, _, rfl, e, T.cl, T.nC, knF_c _ _ _ _ _ _ _, z1, k.ac, xc, rfl, SqL.of kn.c, _, rfl, ?_⟩
      rw [hxc]
      refine ite2 (fun e4 => ?_) (fun e4 => ?_)
      · obtain ⟨i, c, rfl, hc⟩ := of_fits e4
        obtain ⟨tc, c2, c3, g1, htc, dc2, dc3⟩ := cell_get kn.cx hc
        have hn := hcn c (List.mem_of_getElem? hc)
        obtain ⟨lv, g2, g3⟩ := ld_get hx (List.getElem?_eq_getElem hn)
        obtain ⟨tl, us, rfl, htl⟩ := ld_wd g3
        refine ⟨_, rfl, k.p, C, dx, _, _, rfl, e, T.cl, T.nL, knF_l _ _ _ _ _ _ _, _, rfl, k.p, C, dx, _, _, rfl, e, T.cl, T.nC, knF_c _ _ _ _ _ _ _, _, rfl, t, _, _, _, rfl, rfl, ht, atI_nat (j := 1) rfl, k.ac, _, _, _, rfl, rfl, SqL.of kn.c, atI_nat g1, tc, _, _, _, rfl, rfl, htc, atI_nat (j := 0) rfl, k.al, _, _, _, rfl, rfl, SqL.of kn.l, atI_nat g2, tl, _, _, _, rfl, rfl, htl, atI_nat (j := 0) rfl, rfl, q _ H (Same.refl _) ?_⟩
        rw [fit_write, str_dec, decide_eq_true_iff]
        constructor
        · intro h
          cases hl : ls[c.n] with
          | new f =>
            rw [hl] at h
            exact absurd (show ("new" : PySem.Str) = "written" from h) (by decide +kernel)
          | wr o a b =>
            refine ⟨i, c, o, a, b, rfl, hc, ?_⟩
            rw [List.getElem?_eq_getElem hn, hl]
        · rintro ⟨i', c', o, a, b, h1, h2, h3⟩
          injection h1 with h1
          have h1 : i = i' := by omega
          subst h1
          rw [hc] at h2
          cases h2
          rw [List.getElem?_eq_getElem hn] at h3
          rw [Option.some.inj h3]
          rfl
      · refine no H (Same.refl _) fun x hx' => ?_
        obtain ⟨i', c', o, a, b, h1, h2, h3⟩ := fit_write.mp ⟨x, hx'⟩
        injection h1 with h1
        subst h1
        exact e4 (fits_of h2)
    have e3 := of_decide_eq_false (Bool.eq_false_iff.mpr e3)
    have hfr : (∃ x, Fit ls cs ps is wd zs x) ↔ Rest ps is wd zs := fit_rest e2 e3 hk hsz
    obtain ⟨z1, r, rfl⟩ : ∃ z1 r, zs = z1 :: r := by
      cases zs with
      | nil =>
        exfalso
        have hk : kds.lookup wd = some 1 := by rw [hk, ← hsz]; rfl
        unfold wds at hwd
        simp only [List.mem_cons, List.not_mem_nil, or_false] at hwd
        rcases hwd with rfl | rfl | rfl | rfl | rfl | rfl | rfl | rfl | rfl | rfl | rfl | rfl <;> exact absurd hk (by decide +kernel)
      | cons z1 r => exact ⟨z1, r, rfl⟩
    have nr : ¬ Rest ps is wd (z1 :: r) → Q (.bl false) H := fun h => no H (Same.refl _) fun x hx' => h (hfr.mp ⟨x, hx'⟩)
    refine ⟨_, rfl, t, _, _, _, rfl, rfl, ht, atI_nat (j := 1) rfl, _, rfl, k.p, C, dx, _, _, rfl, e, T.cl, T.nT, knF_t _ _ _ _ _ _ _, z1, k.tk, xt, rfl, SqL.of kn.t, _, rfl, ?_⟩
    rw [hxt]
    cases e4 : fitsF z1 ps.length with
    | false =>
      refine iteT (nr ?_)
      rintro ⟨i', p', r', h1, h2, _⟩
      injection h1 with h1 _
      subst h1
      rw [fits_of h2] at e4
      cases e4
    | true =>
    refine iteF ?_
    obtain ⟨i, p, rfl, hpi⟩ := of_fits e4
    obtain ⟨vp, g1, g2⟩ := pr_get hp hpi
    obtain ⟨tp, us, rfl, htp⟩ := pr_wd g2
    refine ⟨_, rfl, k.p, C, dx, _, _, rfl, e, T.cl, T.nT, knF_t _ _ _ _ _ _ _, _, rfl, t, _, _, _, rfl, rfl, ht, atI_nat (j := 1) rfl, k.tk, _, _, _, rfl, rfl, SqL.of kn.t, atI_nat g1, tp, _, _, _, rfl, rfl, htp, atI_nat (j := 0) rfl, _, rfl, rfl, _, rfl, ?_⟩
    rw [str_dec]
    have inj : ∀ {i' : Nat} {p' : Pr} {r' : List Int}, ((i : Int) :: r) = (i' : Int) :: r' → ps[i']? = some p' → p' = p ∧ r' = r := fun {i' p' r'} h1 h2 => by
      injection h1 with h1 h3
      have h1 : i = i' := by omega
      subst h1
      rw [hpi] at h2
      cases h2
      exact ⟨rfl, h3.symm⟩
    refine ite2 (fun e5 => nr ?_) (fun e5 => ?_)
    · rintro ⟨i', p', r', h1, h2, h3, _⟩
      rw [(inj h1 h2).1] at h3
      rw [decide_eq_true h3] at e5
      cases e5
    have e5 : p.wd = wd := Classical.byContradiction fun h => e5 (by
      rw [decide_eq_false h]
      rfl)
    refine ⟨_, rfl, 2, rfl, t, _, rfl, ht, ?_, fun p1 np1 => ?_⟩
    · show ¬ (HT.sIx _ 0 (some ((2 : Nat) : Int)) = 0 ∧ _)
      rw [HT.sIx_nat, List.length_cons]
      omega
    have r0 := same_new (o := .tup (cutV (.str wd :: (((i : Int) :: r).map V.int)) (some 2) none)) np1
    generalize hK1 : upd H p1 _ = J0 at r0
    have ep : J0 p1 = some (.tup (r.map V.int)) := by
      rw [← hK1, upd_same]
      exact congrArg (fun z => some (HO.tup z)) (cutv_from _ 2)
    refine ⟨p1, rfl, ⟨_, SqT.of ep⟩, fun L nL => ?_⟩
    refine lc_tup (K := K) (a := p1) (xs := r.map V.int) (fun j G => Same J0 G ∧ G L = some (.lst (((r.take j).map fun z => fitsF z is.length).map V.bl))) ⟨same_new nL, upd_same⟩ (fun j G _ hP => sqt_same hP.1 (SqT.of ep)) (fun j x G hxj hP => ?_) (fun G hP => ?_)
    · obtain ⟨s3, eL⟩ := hP
      rw [List.getElem?_map] at hxj
      obtain ⟨z, hz, rfl⟩ := Option.map_eq_some_iff.mp hxj
      have hj : j < r.length := (List.getElem?_eq_some_iff.mp hz).1
      refine ⟨rfl, _, rfl, _, rfl, z, ix, xi, rfl, SqL.of (s3 _ _ (r0 _ _ hix)), _, eL, ?_, same_mut s3 nL, ?_⟩
      · rw [List.length_map, List.length_map, List.length_take]
        refine small_sz5 ?_
        rw [List.length_cons] at hzl
        omega
      · rw [upd_same, hxi, List.take_succ_eq_append_getElem hj, List.map_append, List.map_append]
        rw [List.getElem?_eq_getElem hj] at hz
        rw [Option.some.inj hz]
        rfl
    · obtain ⟨s3, eL⟩ := hP
      rw [List.length_map, List.take_length] at eL
      refine ⟨L, _, rfl, SqL.of eL, q _ G (r0.trans s3) ?_⟩
      rw [hfr, all_map_id, List.all_eq_true]
      constructor
      · exact fun h => ⟨i, p, r, rfl, hpi, e5, h⟩
      · rintro ⟨i', p', r', h1, h2, h3, h4⟩
        rw [(inj h1 h2).2] at h4
        exact h4
end
end SW

namespace SW
open PySem PySem.Spec PyProof.Rows L2
abbrev s_spots_of : Stmt := topS 14
theorem sc_spots_of : FnScope ["known", "indexes", "split", "kind", "number", "index", "_", "promise", "forms", "at"] ["known", "indexes", "split"] (defScope s_spots_of) := ⟨rfl, rfl, rfl, by decide +kernel, rfl, by decide +kernel, by decide +kernel⟩

/-! ### the cells that a split asks for -/
def spotsF : Sx → List (Nat × Fm)
  | .pair _ _ => []
  | .wr c o _ _ => [(o, c.i)]
  | .eit _ => []
  | .all n _ _ _ _ f => [(n, f)]
  | .mat n _ _ _ o _ f => [(n, f), (o, f)]
  | .srt n _ _ f g => [(n, f), (n, g)]
  | .bel n _ _ o _ _ f g => [(n, f), (o, g)]
def sp2 (s : Nat × Fm) : PyData := .tuple [.int s.1, f2 s.2]
def Four : Sx → Pr → List Fm → PySem.Str → Prop
  | .all n lo hi g fm f, p, gs, wd => p = .all n lo hi g fm ∧ gs = [f] ∧ wd = "all"
  | .mat n lo hi g o c f, p, gs, wd => p = .mat n lo hi g o c ∧ gs = [f] ∧ wd = "match"
  | .srt n lo hi f g, p, gs, wd => p = .srt n lo hi ∧ gs = [f, g] ∧ wd = "sorted"
  | .bel n lo hi o a b f g, p, gs, wd => p = .bel n lo hi o a b ∧ gs = [f, g] ∧ wd = "below"
  | _, _, _, _ => False
section
variable {ls : List Ld} {cs : List Ce} {ps : List Pr} {is : List Fm} {zs : List Int} {wd : PySem.Str}
theorem got1 {s : Nat} {f : Fm} (hf : is[s]? = some f) : ∀ (j : Nat) (z : Int), ([(s : Int)] : List Int)[j]? = some z → ∃ (s : Nat) (h : Fm), z = s ∧ is[s]? = some h ∧ ([f] : List Fm)[j]? = some h := fun j z h => by
  match j, h with
  | 0, h =>
    cases h
    exact ⟨s, f, rfl, hf, rfl⟩
theorem got2 {s r : Nat} {f g : Fm} (hf : is[s]? = some f) (hg : is[r]? = some g) : ∀ (j : Nat) (z : Int), ([(s : Int), (r : Int)] : List Int)[j]? = some z → ∃ (s : Nat) (h : Fm), z = s ∧ is[s]? = some h ∧ ([f, g] : List Fm)[j]? = some h := fun j z h => by
  match j, h with
  | 0, h =>
    cases h
    exact ⟨s, f, rfl, hf, rfl⟩
  | 1, h =>
    cases h
    exact ⟨r, g, rfl, hg, rfl⟩
theorem fit_four {x : Sx} (h : Fit ls cs ps is wd zs x) : (∃ c d, x = .pair c d ∧ wd = "pair") ∨ (∃ c o a b, x = .wr c o a b) ∨ (∃ ws, x = .eit ws ∧ wd = "either") ∨
    ∃ (i : Nat) (p : Pr) (r : List Int) (gs : List Fm), zs = (i : Int) :: r ∧ ps[i]? = some p ∧ gs.length = r.length ∧ (∀ (j : Nat) (z : Int), r[j]? = some z → ∃ (s : Nat) (f : Fm), z = s ∧ is[s]? = some f ∧ gs[j]? = some f) ∧ inV (.str wd) [.str "pair", .str "either"] = false ∧ wd ≠ "write" ∧ Four x p gs wd := by
  cases x with
  | pair c d => exact .inl ⟨c, d, rfl, h.1⟩
  | wr c o a b => exact .inr (.inl ⟨c, o, a, b, rfl⟩)
  | eit ws => exact .inr (.inr (.inl ⟨ws, rfl, h.1⟩))
  | all n lo hi g fm f =>
    obtain ⟨rfl, i, s, rfl, hp, hf⟩ := h
    exact .inr (.inr (.inr ⟨i, _, [_], [f], rfl, hp, rfl, got1 hf, by decide +kernel, by decide +kernel, rfl, rfl, rfl⟩))
  | mat n lo hi g o c f =>
    obtain ⟨rfl, i, s, rfl, hp, hf⟩ := h
    exact .inr (.inr (.inr ⟨i, _, [_], [f], rfl, hp, rfl, got1 hf, by decide +kernel, by decide +kernel, rfl, rfl, rfl⟩))
  | srt n lo hi f g =>
    obtain ⟨rfl, i, s, r, rfl, hp, hf, hg⟩ := h
    exact .inr (.inr (.inr ⟨i, _, [_, _], [f, g], rfl, hp, rfl, got2 hf hg, by decide +kernel, by decide +kernel, rfl, rfl, rfl⟩))
  | bel n lo hi o a b f g =>
    obtain ⟨rfl, i, s, r, rfl, hp, hf, hg⟩ := h
    exact .inr (.inr (.inr ⟨i, _, [_, _], [f, g], rfl, hp, rfl, got2 hf hg, by decide +kernel, by decide +kernel, rfl, rfl, rfl⟩))
end
section
variable {P : Program} {w : World} {K : PySem.W.Frag} {mg : PySem.Str → Option Value} {base : Heap} {C : Addr}
def spSpots (P : Program) (w : World) (K : PySem.W.Frag) (C : Addr) : Sp := fun vs H Q _ => ∃ (k : Ka) (m : Int) (bs : List T3) (ls : List Ld) (cs : List Ce) (ps : List Pr) (fs : List Fm) (ix t : Addr) (wd : PySem.Str) (zs : List Int) (xi : List V) (is : List Fm), vs = [.ref k.p, .ref ix, .ref t] ∧ KnW P w K C H k m bs ls cs ps fs ∧ (∀ c, c ∈ cs → c.n < ls.length) ∧ SqT K H t (.str wd :: zs.map V.int) ∧ wd ∈ wds ∧ zs.length ≤ 4 ∧ H ix = some (.lst xi) ∧ DpAll K H xi (is.map f2) ∧
  ((∀ x, ¬ Fit ls cs ps is wd zs x) → ∀ H', Same H H' → Q .non H') ∧
  ∀ x, Fit ls cs ps is wd zs x → ∀ (R : Addr) (xs : List V) (H' : Hp), Same H H' → H R = none → H' R = some (.lst xs) → DpAll K H' xs ((spotsF x).map sp2) → Q (.ref R) H'
theorem ok_spots_of (T : TxS K w mg C) (D_spots_of : Df K mg "spots_of" s_spots_of ["known", "indexes", "split"]) (D_is_split : Df K mg "_is_split" s_is_split ["known", "indexes", "split"]) (G_is_split : FnOk P w K mg base CX0 3 D_is_split.f D_is_split.fd ["known", "indexes", "split"] (spIsSplit P w K C)) : FnOk P w K mg base CX0 4 D_spots_of.f D_spots_of.fd ["known", "indexes", "split"] (spSpots P w K C) := by
  refine D_spots_of.F.ok sc_spots_of (fun vs H Q E h => ?_) (fun cdv A outer s H vs Q E hr h => ?_)
  · obtain ⟨k, m, bs, ls, cs, ps, fs, ix, t, wd, zs, xi, is, rfl, _⟩ := h
    rfl
  · obtain ⟨k, m, bs, ls, cs, ps, fs, ix, t, wd, zs, xi, is, rfl, kw0, hcn, ht0, hwd, hzl, hix0, dix0, qn, qy0⟩ := h
    refine ⟨_, (pss_cons (ps_if (pt_not (pt_val (pe_call G_is_split (hr.mono (by decide)) (by rfl) D_is_split.g D_is_split.F.kp D_is_split.b .nil pass0 (pa_cons (pv 0) (pa_cons (pv 1) (pa_cons (pv 2) pa_nil))))))
    (pss_one (ps_ret pe_non))
    pss_nil)
    (pss_cons (ps_set (i := 3) sc_spots_of.nd rfl (.inl rfl) (pe_ix ix_tup (pv 2) pe_int (fun _ _ => rfl)))
    (pss_cons (ps_if (pt_cmpR op_in_seq (pv 3) (pe_tup (pa_cons pe_str (pa_cons pe_str pa_nil))) (by rfl))
    (pss_one (ps_ret (pe_lst pa_nil)))
    pss_nil)
    (pss_cons (ps_if (pt_cmpR op_eq (pv 3) pe_str (nomark _))
    (pss_cons (ps_asg (pe_ix ix_list (pe_fld (pv 0) rfl) (pe_ix ix_tup (pv 2) pe_int (fun _ _ => rfl)) (fun _ _ => rfl)) (pg_tup (by rfl) (pgs_cons (pg_name (i := 4) sc_spots_of.nd rfl (.inl rfl)) (pgs_cons (pg_name (i := 5) sc_spots_of.nd rfl (.inl rfl)) (pgs_cons (pg_name (i := 6) sc_spots_of.nd rfl (.inl rfl)) pgs_nil)))))
    (pss_one (ps_ret (pe_lst (pa_cons (pe_tup (pa_cons (pe_ix ix_tup (pe_ix ix_list (pe_fld (pv 0) rfl) (pv 4) (fun _ _ => rfl)) pe_int (fun _ _ => rfl)) (pa_cons (pv 5) pa_nil))) pa_nil)))))
    pss_nil)
    (pss_cons (ps_set (i := 7) sc_spots_of.nd rfl (.inl rfl) (pe_ix ix_list (pe_fld (pv 0) rfl) (pe_ix ix_tup (pv 2) pe_int (fun _ _ => rfl)) (fun _ _ => rfl)))
    (pss_cons (ps_setLc (i := 8) (own := [("at", 9)]) (g := gName 9) (by rfl) sc_spots_of.nd rfl rfl (sw_true rfl rfl rfl (by decide +kernel)) (pi_tup (pe_slice sl_tup (pv 2) (po_some pe_int) po_none)) (blkOk_by (own := [("at", 9)]) (N := ["known", "indexes", "split", "kind", "number", "index", "_", "promise", "forms", "at"]) (sc := defScope s_spots_of) (by decide +kernel)) (fun _ _ _ _ _ => pg_name (i := 9) sc_spots_of.nd rfl (Or.inl rfl)) (fun _ _ _ _ _ => pts_nil) (fun _ _ _ _ _ => (pe_ix (show IxR _ (rIxL K) from ix_list) (pv 1) (pv 9) (fun _ _ => rfl))))
    (pss_cons (ps_if (pt_cmpR op_eq (pv 3) pe_str (nomark _))
    (pss_one (ps_ret (pe_lst (pa_cons (pe_tup (pa_cons (pe_ix ix_tup (pv 7) pe_int (fun _ _ => rfl)) (pa_cons (pe_ix ix_list (pv 8) pe_int (fun _ _ => rfl)) pa_nil))) pa_nil))))
    pss_nil)
    (pss_cons (ps_if (pt_cmpR op_eq (pv 3) pe_str (nomark _))
    (pss_one (ps_ret (pe_lst (pa_cons (pe_tup (pa_cons (pe_ix ix_tup (pv 7) pe_int (fun _ _ => rfl)) (pa_cons (pe_ix ix_list (pv 8) pe_int (fun _ _ => rfl)) pa_nil))) (pa_cons (pe_tup (pa_cons (pe_ix ix_tup (pv 7) pe_int (fun _ _ => rfl)) (pa_cons (pe_ix ix_list (pv 8) pe_int (fun _ _ => rfl)) pa_nil))) pa_nil)))))
    pss_nil)
    (pss_cons (ps_if (pt_cmpR op_eq (pv 3) pe_str (nomark _))
    (pss_one (ps_ret (pe_lst (pa_cons (pe_tup (pa_cons (pe_ix ix_tup (pv 7) pe_int (fun _ _ => rfl)) (pa_cons (pe_ix ix_list (pv 8) pe_int (fun _ _ => rfl)) pa_nil))) (pa_cons (pe_tup (pa_cons (pe_ix ix_tup (pv 7) pe_int (fun _ _ => rfl)) (pa_cons (pe_ix ix_list (pv 8) pe_int (fun _ _ => rfl)) pa_nil))) pa_nil)))))
    pss_nil)
    (pss_one (ps_ret (pe_lst (pa_cons (pe_tup (pa_cons (pe_ix ix_tup (pv 7) pe_int (fun _ _ => rfl)) (pa_cons (pe_ix ix_list (pv 8) pe_int (fun _ _ => rfl)) pa_nil))) (pa_cons (pe_tup (pa_cons (pe_ix ix_tup (pv 7) pe_int (fun _ _ => rfl)) (pa_cons (pe_ix ix_list (pv 8) pe_int (fun _ _ => rfl)) pa_nil))) pa_nil)))))))))))))), ?_⟩
    refine ⟨_, rfl, _, rfl, _, rfl, k, m, bs, ls, cs, ps, fs, ix, t, wd, zs, xi, is, rfl, kw0, hcn, ht0, hwd, hzl, hix0, dix0, fun b H1 s1 hb => ⟨_, rfl, ?_⟩⟩
    cases b with
    | false => exact iteT (qn (fun x hx => by cases hb.mpr ⟨x, hx⟩) H1 s1)
    | true =>
    obtain ⟨x, hx⟩ := hb.mp rfl
    refine iteF ?_
    clear hb qn
    have ht1 := sqt_same s1 ht0
    refine ⟨_, rfl, t, _, _, _, rfl, rfl, ht1, atI_nat (j := 0) rfl, ?_⟩
    refine ⟨_, rfl, by show 2 ≤ sizeLine; decide, fun tp ntp => ?_⟩
    generalize hG : upd H1 tp _ = H2
    obtain ⟨s2, e2⟩ := new_of ntp hG
    have s12 := s1.trans s2
    have kw := kw0.same s12
    have ht := sqt_same s12 ht0
    have hix := s12 _ _ hix0
    have dix := dpa_same s12 _ _ dix0
    have qy : ∀ (R : Addr) (xs : List V) (H' : Hp), Same H2 H' → H2 R = none → H' R = some (.lst xs) → DpAll K H' xs ((spotsF x).map sp2) → Q (.ref R) H' := fun R xs H' s' nR => qy0 x hx R xs H' (s12.trans s') (s12.free nR)
    clear qy0 kw0 ht0 hix0 dix0 ht1
    obtain ⟨_, xl, xc, xt, _, _, kn, _, hxl, hp, _⟩ := kw.ex
    obtain ⟨dx, e⟩ := kn.ob
    refine ⟨tp, _, rfl, .inr (SqT.of e2), rfl, rfl, _, rfl, ?_⟩
    have emp : inV (.str wd) [.str "pair", .str "either"] = true → spotsF x = [] → ∀ (Z : Prop), if inV (.str wd) [.str "pair", .str "either"] = true then (0 ≤ sizeLine ∧ ∀ p, H2 p = none → Q (.ref p) (upd H2 p (.lst []))) else Z := fun h1 h2 Z => by
      rw [h1]
      refine iteT ⟨Nat.zero_le _, fun p np => ?_⟩
      generalize hG : upd H2 p _ = H3
      obtain ⟨s3, e3⟩ := new_of np hG
      refine qy p [] H3 s3 np e3 ?_
      rw [h2]
      exact .nil
    rcases fit_four hx with ⟨c, d, rfl, rfl⟩ | ⟨c, o, a, b, rfl⟩ | ⟨ws, rfl, rfl⟩ | ⟨i, p, r, gs, rfl, hpi, hgl, hgs, hne, hnw, hx4⟩
    · exact emp (by decide +kernel) rfl _
    · obtain ⟨rfl, i, rfl, hc, hl⟩ := hx
      rw [show inV (.str "write") [.str "pair", .str "either"] = false from by decide +kernel]
      refine iteF ?_
      refine ⟨_, rfl, rfl, _, rfl, iteT ?_⟩
      obtain ⟨tc, c2, c3, g1, htc, dc2, dc3⟩ := cell_get kn.cx hc
      obtain ⟨lv, g2, g3⟩ := ld_get hxl hl
      obtain ⟨tl, l1, l2, l3, l4, rfl, htl, k1, k2, k3, k4⟩ := dp_inv4 g3
      cases dp_int_inv k2
      refine ⟨_, rfl, k.p, C, dx, _, _, rfl, e, T.cl, T.nC, knF_c _ _ _ _ _ _ _, _, rfl, t, _, _, _, rfl, rfl, ht, atI_nat (j := 1) rfl, k.ac, _, _, _, rfl, rfl, SqL.of kn.c, atI_nat g1, tc, _, rfl, htc, rfl, _, _, rfl, _, _, rfl, _, _, rfl, rfl, ?_⟩
      refine ⟨_, rfl, k.p, C, dx, _, _, rfl, e, T.cl, T.nL, knF_l _ _ _ _ _ _ _, _, rfl, k.al, _, _, _, rfl, rfl, SqL.of kn.l, atI_nat g2, tl, _, _, _, rfl, rfl, htl, atI_nat (j := 1) rfl, _, rfl, by show 2 ≤ sizeLine; decide, fun p1 np1 => ⟨by show 1 ≤ sizeLine; decide, fun R nR => ?_⟩⟩
      generalize hG : upd H2 p1 _ = H3
      obtain ⟨s3, e3⟩ := new_of np1 hG
      rw [hG] at nR
      generalize hG : upd H3 R _ = H4
      obtain ⟨s4, e4⟩ := new_of nR hG
      exact qy R _ H4 (s3.trans s4) (s3.free nR) e4 (.cons (.tup (SqT.of (s4 _ _ e3)) (.cons (.int _) (.cons (dc2.same (s3.trans s4)) .nil))) .nil)
    · exact emp (by decide +kernel) rfl _
    · rw [hne]
      refine iteF ?_
      refine ⟨_, rfl, rfl, _, rfl, ?_⟩
      rw [str_dec, decide_eq_false hnw]
      refine iteF ?_
      obtain ⟨vp, g1, dp⟩ := pr_get hp hpi
      refine ⟨_, rfl, k.p, C, dx, _, _, rfl, e, T.cl, T.nT, knF_t _ _ _ _ _ _ _, _, rfl, t, _, _, _, rfl, rfl, ht, atI_nat (j := 1) rfl, k.tk, _, _, _, rfl, rfl, SqL.of kn.t, atI_nat g1, ?_⟩
      refine ⟨_, rfl, 2, rfl, t, _, rfl, ht, ?_, fun p1 np1 => ?_⟩
      · show ¬ (HT.sIx _ 0 (some ((2 : Nat) : Int)) = 0 ∧ _)
        rw [HT.sIx_nat, List.length_cons]
        omega
      have r0 := same_new (o := .tup (cutV (.str wd :: (((i : Int) :: r).map V.int)) (some 2) none)) np1
      generalize hK1 : upd H2 p1 _ = J0 at r0
      have ep : J0 p1 = some (.tup (r.map V.int)) := by
        rw [← hK1, upd_same]
        exact congrArg (fun z => some (HO.tup z)) (cutv_from _ 2)
      refine ⟨p1, rfl, ⟨_, SqT.of ep⟩, fun L nL => ?_⟩
      refine lc_tup (K := K) (a := p1) (xs := r.map V.int) (fun j G => Same J0 G ∧ ∃ us, G L = some (.lst us) ∧ DpAll K G us ((gs.take j).map f2)) ⟨same_new nL, [], upd_same, .nil⟩ (fun j G _ hP => sqt_same hP.1 (SqT.of ep)) (fun j x G hxj hP => ?_) (fun G hP => ?_)
      · obtain ⟨s3, us, eL, dL⟩ := hP
        rw [List.getElem?_map] at hxj
        obtain ⟨z, hz, rfl⟩ := Option.map_eq_some_iff.mp hxj
        have hj : j < r.length := (List.getElem?_eq_some_iff.mp hz).1
        obtain ⟨s', f, rfl, hf, hg⟩ := hgs j z hz
        have r03 := r0.trans s3
        obtain ⟨vf, gf, df⟩ := f_get (dpa_same r03 _ _ dix) hf
        have hul : us.length = j := by
          rw [dpa_len dL, List.length_map, List.length_take]
          omega
        refine ⟨rfl, _, rfl, _, rfl, ix, _, _, _, rfl, rfl, SqL.of (r03 _ _ hix), atI_nat gf, us, eL, ?_, same_mut s3 nL, us ++ [vf], upd_same, ?_⟩
        · rw [List.length_cons] at hzl
          exact small_sz5 (by omega)
        · have hjg : j < gs.length := by omega
          have bL : But L G (upd G L (.lst (us ++ [vf]))) := fun c o hc e => (upd_ne hc).trans e
          rw [List.take_succ_eq_append_getElem hjg, List.map_append]
          rw [List.getElem?_eq_getElem hjg] at hg
          rw [Option.some.inj hg]
          refine dpa_but eL bL _ _ ?_ (dpa_snoc dL df)
          have := noLs_f2s (gs.take j ++ [f])
          rw [List.map_append] at this
          exact this
      · obtain ⟨s3, us, eL, dL⟩ := hP
        rw [List.length_map, ← hgl, List.take_length] at dL
        have s23 := r0.trans s3
        have dpG := dp.same s23
        have fin2 : ∀ (n1 n2 : Nat) (v1 v2 : V) (f g : Fm), spotsF x = [(n1, f), (n2, g)] → Dp K G v1 (f2 f) → Dp K G v2 (f2 g) → 2 ≤ sizeLine ∧ ∀ p, G p = none → 2 ≤ sizeLine ∧ ∀ q, upd G p (.tup [.int n1, v1]) q = none → 2 ≤ sizeLine ∧ ∀ R, upd (upd G p (.tup [.int n1, v1])) q (.tup [.int n2, v2]) R = none → Q (.ref R) (upd (upd (upd G p (.tup [.int n1, v1])) q (.tup [.int n2, v2])) R (.lst [.ref p, .ref q])) := fun n1 n2 v1 v2 f g hs d1 d2 => by
          refine ⟨by decide, fun p np => ⟨by decide, fun q nq => ⟨by decide, fun R nR => ?_⟩⟩⟩
          generalize hG : upd G p _ = J1 at nq nR
          obtain ⟨u1, y1⟩ := new_of np hG
          generalize hG : upd J1 q _ = J2 at nR
          obtain ⟨u2, y2⟩ := new_of nq hG
          generalize hG : upd J2 R _ = J3
          obtain ⟨u3, y3⟩ := new_of nR hG
          have u12 := u1.trans u2
          have u13 := u12.trans u3
          refine qy R _ J3 (s23.trans u13) ((s23.trans u12).free nR) y3 ?_
          rw [hs]
          exact .cons (.tup (SqT.of (u3 _ _ (u2 _ _ y1))) (.cons (.int _) (.cons (d1.same u13) .nil))) (.cons (.tup (SqT.of (u3 _ _ y2)) (.cons (.int _) (.cons (d2.same u13) .nil))) .nil)
        cases x with
        | pair c d => exact hx4.elim
        | wr c o a b => exact hx4.elim
        | eit ws => exact hx4.elim
        | all n lo hi g fm f =>
          obtain ⟨rfl, rfl, rfl⟩ := hx4
          obtain ⟨tp', us', rfl, htp, ha⟩ := dp_tup_inv dpG
          obtain ⟨v1, v2, v3, v4, v5, v6, rfl, w1, w2, w3', w4, w5, w6⟩ := dpa6 ha
          cases dp_int_inv w2
          obtain ⟨vf, gf, df⟩ := f_get dL (i := 0) rfl
          refine ⟨_, rfl, rfl, _, rfl, iteT ?_⟩
          refine ⟨_, rfl, tp', _, _, _, rfl, rfl, htp, atI_nat (j := 1) rfl, _, rfl, L, _, _, _, rfl, rfl, SqL.of eL, atI_nat (j := 0) gf, by show 2 ≤ sizeLine; decide, fun p1 np1 => ⟨by show 1 ≤ sizeLine; decide, fun R nR => ?_⟩⟩
          generalize hG : upd G p1 _ = J1
          obtain ⟨u1, y1⟩ := new_of np1 hG
          rw [hG] at nR
          generalize hG : upd J1 R _ = J2
          obtain ⟨u2, y2⟩ := new_of nR hG
          exact qy R _ J2 ((s23.trans u1).trans u2) ((s23.trans u1).free nR) y2 (.cons (.tup (SqT.of (u2 _ _ y1)) (.cons (.int _) (.cons (df.same (u1.trans u2)) .nil))) .nil)
        | mat n lo hi g o c f =>
          obtain ⟨rfl, rfl, rfl⟩ := hx4
          obtain ⟨tp', us', rfl, htp, ha⟩ := dp_tup_inv dpG
          obtain ⟨v1, v2, v3, v4, v5, v6, v7, rfl, w1, w2, w3', w4, w5, w6, w7⟩ := dpa7 ha
          cases dp_int_inv w2
          cases dp_int_inv w6
          obtain ⟨vf, gf, df⟩ := f_get dL (i := 0) rfl
          refine ⟨_, rfl, rfl, _, rfl, iteF ⟨_, rfl, rfl, _, rfl, iteT ?_⟩⟩
          refine ⟨_, rfl, tp', _, _, _, rfl, rfl, htp, atI_nat (j := 1) rfl, _, rfl, L, _, _, _, rfl, rfl, SqL.of eL, atI_nat (j := 0) gf, (fin2 n o vf vf f f rfl df df).1, fun p1 np1 => ?_⟩
          have f1 := (fin2 n o vf vf f f rfl df df).2 p1 np1
          have u1 := same_new (o := .tup [.int n, vf]) np1
          exact ⟨_, rfl, tp', _, _, _, rfl, rfl, sqt_same u1 htp, atI_nat (j := 5) rfl, _, rfl, L, _, _, _, rfl, rfl, SqL.of (u1 _ _ eL), atI_nat (j := 0) gf, f1⟩
        | srt n lo hi f g =>
          obtain ⟨rfl, rfl, rfl⟩ := hx4
          obtain ⟨tp', v1, v2, v3, v4, rfl, htp, w1, w2, w3', w4⟩ := dp_inv4 dpG
          cases dp_int_inv w2
          obtain ⟨vf, gf, df⟩ := f_get dL (i := 0) rfl
          obtain ⟨vg, gg, dg⟩ := f_get dL (i := 1) rfl
          refine ⟨_, rfl, rfl, _, rfl, iteF ⟨_, rfl, rfl, _, rfl, iteF ⟨_, rfl, rfl, _, rfl, iteT ?_⟩⟩⟩
          refine ⟨_, rfl, tp', _, _, _, rfl, rfl, htp, atI_nat (j := 1) rfl, _, rfl, L, _, _, _, rfl, rfl, SqL.of eL, atI_nat (j := 0) gf, (fin2 n n vf vg f g rfl df dg).1, fun p1 np1 => ?_⟩
          have f1 := (fin2 n n vf vg f g rfl df dg).2 p1 np1
          have u1 := same_new (o := .tup [.int n, vf]) np1
          exact ⟨_, rfl, tp', _, _, _, rfl, rfl, sqt_same u1 htp, atI_nat (j := 1) rfl, _, rfl, L, _, _, _, rfl, rfl, SqL.of (u1 _ _ eL), atI_nat (j := 1) gg, f1⟩
        | bel n lo hi o a b f g =>
          obtain ⟨rfl, rfl, rfl⟩ := hx4
          obtain ⟨tp', us', rfl, htp, ha⟩ := dp_tup_inv dpG
          obtain ⟨v1, v2, v3, v4, v5, v6, v7, rfl, w1, w2, w3', w4, w5, w6, w7⟩ := dpa7 ha
          cases dp_int_inv w2
          cases dp_int_inv w5
          obtain ⟨vf, gf, df⟩ := f_get dL (i := 0) rfl
          obtain ⟨vg, gg, dg⟩ := f_get dL (i := 1) rfl
          refine ⟨_, rfl, rfl, _, rfl, iteF ⟨_, rfl, rfl, _, rfl, iteF ⟨_, rfl, rfl, _, rfl, iteF ?_⟩⟩⟩
          refine ⟨_, rfl, tp', _, _, _, rfl, rfl, htp, atI_nat (j := 1) rfl, _, rfl, L, _, _, _, rfl, rfl, SqL.of eL, atI_nat (j := 0) gf, (fin2 n o vf vg f g rfl df dg).1, fun p1 np1 => ?_⟩
          have f1 := (fin2 n o vf vg f g rfl df dg).2 p1 np1
          have u1 := same_new (o := .tup [.int n, vf]) np1
          exact ⟨_, rfl, tp', _, _, _, rfl, rfl, sqt_same u1 htp, atI_nat (j := 4) rfl, _, rfl, L, _, _, _, rfl, rfl, SqL.of (u1 _ _ eL), atI_nat (j := 1) gg, f1⟩
end
end SW

namespace SW
open PySem PySem.Spec PyProof.Rows L2
/-! ### one known and the law's own -/
structure La where
  kp : Addr
  ad : Addr
  al : Addr
  ac : Addr
  tk : Addr
def La.foot (q : La) : List Addr := [q.kp, q.ad, q.al, q.ac, q.tk]
structure Pw (P : Program) (w : World) (K : PySem.W.Frag) (C : Addr) (H : Hp) (k : Ka) (q : La) (m : Int) (bs : List T3) (ls : List Ld) (cs : List Ce) (ps : List Pr) (fs : List Fm) : Prop where
  a : KnW P w K C H k m bs ls cs ps fs
  b : LkW K H q.kp q.ad q.al q.ac q.tk m bs ls cs ps
  na : k.foot.Nodup
  nb : q.foot.Nodup
  x : ∀ c, c ∈ k.foot → c ∉ q.foot
/-- where they change -/
def kmut (k : Ka) : List Addr := [k.p, k.ac, k.ao]
def qmut (q : La) : List Addr := [q.kp, q.ac]
def pmut (k : Ka) (q : La) : List Addr := kmut k ++ qmut q
theorem kmut_foot {k : Ka} {c : Addr} (h : c ∈ kmut k) : c ∈ k.foot := by
  unfold kmut at h
  unfold Ka.foot
  simp only [List.mem_cons, List.not_mem_nil, or_false] at h ⊢
  rcases h with h | h | h <;> simp [h]
theorem qmut_foot {q : La} {c : Addr} (h : c ∈ qmut q) : c ∈ q.foot := by
  unfold qmut at h
  unfold La.foot
  simp only [List.mem_cons, List.not_mem_nil, or_false] at h ⊢
  rcases h with h | h <;> simp [h]
theorem pmut_foot {k : Ka} {q : La} {c : Addr} (h : c ∈ pmut k q) : c ∈ k.foot ∨ c ∈ q.foot := (List.mem_append.mp h).imp kmut_foot qmut_foot
theorem Chg.refl (S : List Addr) (H : Hp) : Chg S H H := fun _ _ _ e => e
theorem Chg.trans {S : List Addr} {H G J : Hp} (a : Chg S H G) (b : Chg S G J) : Chg S H J := fun c o hc e => b c o hc (a c o hc e)
theorem Chg.same {S : List Addr} {H G J : Hp} (a : Chg S H G) (b : Same G J) : Chg S H J := fun c o hc e => b c o (a c o hc e)
theorem Chg.mono {S R : List Addr} {H G : Hp} (a : Chg S H G) (h : ∀ c, c ∈ S → c ∈ R) : Chg R H G := fun c o hc e => a c o (fun g => hc (h c g)) e
theorem same_chg {S : List Addr} {H G : Hp} (a : Same H G) : Chg S H G := fun c o _ e => a c o e
section
variable {P : Program} {w : World} {K : PySem.W.Frag} {mg : PySem.Str → Option Value} {base : Heap} {C : Addr}
theorem KnW.nt {H : Hp} {k : Ka} {m : Int} {bs : List T3} {ls : List Ld} {cs : List Ce} {ps : List Pr} {fs : List Fm} (h : KnW P w K C H k m bs ls cs ps fs) : ∀ c, c ∈ k.foot → NT H c := fun c hc => by
  obtain ⟨xd, xl, xc, xt, xf, fnd, kn, _⟩ := h.ex
  obtain ⟨dx, e⟩ := kn.ob
  obtain ⟨oo, _, _, _, eo, _⟩ := kn.o.ob
  unfold Ka.foot at hc
  simp only [List.mem_cons, List.not_mem_nil, or_false] at hc
  rcases hc with rfl | rfl | rfl | rfl | rfl | rfl | rfl
  · exact NT.ins e
  · exact NT.lst kn.d
  · exact NT.lst kn.l
  · exact NT.lst kn.c
  · exact NT.lst kn.t
  · exact NT.lst kn.f
  · exact NT.ext eo
theorem Pw.nt {H : Hp} {k : Ka} {q : La} {m : Int} {bs : List T3} {ls : List Ld} {cs : List Ce} {ps : List Pr} {fs : List Fm} (h : Pw P w K C H k q m bs ls cs ps fs) : ∀ c, c ∈ pmut k q → NT H c := fun c hc => (pmut_foot hc).elim (h.a.nt c) (h.b.nt c)
theorem Pw.same {H H' : Hp} {k : Ka} {q : La} {m : Int} {bs : List T3} {ls : List Ld} {cs : List Ce} {ps : List Pr} {fs : List Fm} (h : Pw P w K C H k q m bs ls cs ps fs) (s : Same H H') : Pw P w K C H' k q m bs ls cs ps fs := ⟨h.a.same s, h.b.same s, h.na, h.nb, h.x⟩
theorem Pw.chg {H H' : Hp} {k : Ka} {q : La} {m : Int} {bs : List T3} {ls : List Ld} {cs : List Ce} {ps : List Pr} {fs : List Fm} {S : List Addr} (h : Pw P w K C H k q m bs ls cs ps fs) (n : ∀ c, c ∈ S → NT H c) (g : Chg S H H') (n1 : ∀ c, c ∈ k.foot → c ∉ S) (n2 : ∀ c, c ∈ q.foot → c ∉ S) : Pw P w K C H' k q m bs ls cs ps fs := ⟨h.a.chg n g n1, h.b.chg n g n2, h.na, h.nb, h.x⟩
end
/-! ### cells that are there, or made -/
def KeyU (cs : List Ce) : Prop := (cs.map fun c => (c.n, c.i)).Nodup
def have1 (m : Int) (cs : List Ce) (s : Nat × Fm) : Int × List Ce × Fm :=
  match cs.find? fun c => decide ((c.n, c.i) = s) with
  | some c => (m, cs, c.v)
  | none => (m + 1, cs ++ [⟨s.1, s.2, (m + 1, 0)⟩], (m + 1, 0))
theorem keyU_uniq {cs : List Ce} (h : KeyU cs) {c d : Ce} (hc : c ∈ cs) (hd : d ∈ cs) (e : (c.n, c.i) = (d.n, d.i)) : c = d := by
  obtain ⟨i, hi⟩ := List.getElem?_of_mem hc
  obtain ⟨j, hj⟩ := List.getElem?_of_mem hd
  have ii := List.getElem?_eq_some_iff.mp hi
  have jj := List.getElem?_eq_some_iff.mp hj
  have : i = j := (List.getElem_inj (h₀ := by rw [List.length_map]; exact ii.1) (h₁ := by rw [List.length_map]; exact jj.1) h).mp (by rw [List.getElem_map, List.getElem_map, ii.2, jj.2]; exact e)
  subst this
  rw [hi] at hj
  exact Option.some.inj hj
theorem have1_in {m : Int} {cs : List Ce} {s : Nat × Fm} {c : Ce} (u : KeyU cs) (hc : c ∈ cs) (hk : (c.n, c.i) = s) : have1 m cs s = (m, cs, c.v) := by
  unfold have1
  cases h : cs.find? fun c => decide ((c.n, c.i) = s) with
  | none => exact absurd (decide_eq_true hk) (List.find?_eq_none.mp h c hc)
  | some d =>
    have h1 := of_decide_eq_true (List.find?_some (p := fun c : Ce => decide ((c.n, c.i) = s)) h)
    have := keyU_uniq u hc (List.mem_of_find?_eq_some h) (hk.trans h1.symm)
    rw [this]
theorem have1_no {m : Int} {cs : List Ce} {s : Nat × Fm} (h : ∀ c, c ∈ cs → ¬ (c.n, c.i) = s) : have1 m cs s = (m + 1, cs ++ [⟨s.1, s.2, (m + 1, 0)⟩], (m + 1, 0)) := by
  unfold have1
  rw [List.find?_eq_none.mpr fun c hc e => h c hc (of_decide_eq_true e)]
theorem have1_cases (m : Int) (cs : List Ce) (s : Nat × Fm) : (∃ c, c ∈ cs ∧ (c.n, c.i) = s) ∨ ∀ c, c ∈ cs → ¬ (c.n, c.i) = s := by
  by_cases h : ∃ c, c ∈ cs ∧ (c.n, c.i) = s
  · exact .inl h
  · exact .inr fun c hc e => h ⟨c, hc, e⟩
theorem have1_ext (m : Int) (cs : List Ce) (s : Nat × Fm) (u : KeyU cs) : KeyU (have1 m cs s).2.1 ∧ (∃ r, (have1 m cs s).2.1 = cs ++ r) ∧ (have1 m cs s).2.1.length ≤ cs.length + 1 ∧ (m ≤ (have1 m cs s).1 ∧ (have1 m cs s).1 ≤ m + 1) ∧ ∃ c, c ∈ (have1 m cs s).2.1 ∧ (c.n, c.i) = s ∧ c.v = (have1 m cs s).2.2 := by
  rcases have1_cases m cs s with ⟨c, hc, hk⟩ | hno
  · rw [have1_in u hc hk]
    exact ⟨u, ⟨[], (List.append_nil _).symm⟩, by show cs.length ≤ _; omega, by show m ≤ m ∧ m ≤ _; omega, c, hc, hk, rfl⟩
  · rw [have1_no hno]
    refine ⟨?_, ⟨_, rfl⟩, by show (cs ++ [_]).length ≤ _; rw [List.length_append]; exact Nat.le_refl _, by show m ≤ m + 1 ∧ m + 1 ≤ _; omega, _, List.mem_append_right _ List.mem_cons_self, rfl, rfl⟩
    show ((cs ++ [_]).map fun c : Ce => (c.n, c.i)).Nodup
    rw [List.map_append]
    refine List.nodup_append.mpr ⟨u, List.nodup_cons.mpr ⟨List.not_mem_nil, List.nodup_nil⟩, fun a ha b hb e => ?_⟩
    obtain ⟨c, hc, rfl⟩ := List.mem_map.mp ha
    rw [List.mem_singleton.mp hb] at e
    exact hno c hc e
def hstep (a : Int × List Ce × List Fm) (s : Nat × Fm) : Int × List Ce × List Fm := ((have1 a.1 a.2.1 s).1, (have1 a.1 a.2.1 s).2.1, a.2.2 ++ [(have1 a.1 a.2.1 s).2.2])
def haves (m : Int) (cs : List Ce) (ss : List (Nat × Fm)) : Int × List Ce × List Fm := ss.foldl hstep (m, cs, [])
theorem haves_snoc (m : Int) (cs : List Ce) (ss : List (Nat × Fm)) (s : Nat × Fm) : haves m cs (ss ++ [s]) = hstep (haves m cs ss) s := by
  unfold haves
  rw [List.foldl_append]
  rfl
/-- what stays and what grows, from the back -/
theorem haves_ext (m : Int) (cs : List Ce) (u : KeyU cs) : ∀ (n : Nat) (ss : List (Nat × Fm)), ss.length = n → KeyU (haves m cs ss).2.1 ∧ (∃ r, (haves m cs ss).2.1 = cs ++ r) ∧ (haves m cs ss).2.1.length ≤ cs.length + n ∧ (m ≤ (haves m cs ss).1 ∧ (haves m cs ss).1 ≤ m + (n : Nat)) ∧ (haves m cs ss).2.2.length = n ∧ ∀ (j : Nat) (s : Nat × Fm), ss[j]? = some s → ∃ c, c ∈ (haves m cs ss).2.1 ∧ (c.n, c.i) = s ∧ (haves m cs ss).2.2[j]? = some c.v := by
  intro n
  induction n with
  | zero =>
    intro ss h
    cases ss with
    | cons a r => cases h
    | nil => exact ⟨u, ⟨[], (List.append_nil _).symm⟩, Nat.le_refl _, by show m ≤ m ∧ m ≤ _; omega, rfl, fun j s h => by cases h⟩
  | succ n ih =>
    intro ss h
    obtain ⟨ss, s, rfl⟩ : ∃ r s, ss = r ++ [s] := by
      have hn : ss ≠ [] := fun e => by rw [e] at h; cases h
      exact ⟨ss.dropLast, ss.getLast hn, (List.dropLast_concat_getLast hn).symm⟩
    rw [List.length_append] at h
    have h : ss.length = n := Nat.succ.inj h
    obtain ⟨i1, ⟨r, i2⟩, i3, i4, i5, i6⟩ := ih ss h
    rw [haves_snoc]
    obtain ⟨j1, ⟨r', j2⟩, j3, j4, c0, j5, j6, j7⟩ := have1_ext (haves m cs ss).1 (haves m cs ss).2.1 s i1
    refine ⟨j1, ⟨r ++ r', ?_⟩, ?_, ?_, ?_, fun j t hj => ?_⟩
    · show (have1 _ _ s).2.1 = _
      rw [j2, i2, List.append_assoc]
    · show (have1 _ _ s).2.1.length ≤ _
      omega
    · show m ≤ (have1 _ _ s).1 ∧ (have1 _ _ s).1 ≤ _
      omega
    · show ((haves m cs ss).2.2 ++ [_]).length = _
      rw [List.length_append, i5]
      rfl
    · show ∃ c, c ∈ (have1 _ _ s).2.1 ∧ _ ∧ ((haves m cs ss).2.2 ++ [_])[j]? = some c.v
      by_cases hl : j < ss.length
      · rw [List.getElem?_append_left hl] at hj
        obtain ⟨c, q1, q2, q3⟩ := i6 j t hj
        exact ⟨c, by rw [j2]; exact List.mem_append_left _ q1, q2, by rw [List.getElem?_append_left (by omega)]; exact q3⟩
      · rw [List.getElem?_append_right (by omega)] at hj
        have h0 : j - ss.length = 0 := by
          have := (List.getElem?_eq_some_iff.mp hj).1
          rw [List.length_singleton] at this
          omega
        rw [h0] at hj
        cases hj
        refine ⟨c0, j5, j6, ?_⟩
        rw [List.getElem?_append_right (by omega), i5, show j - n = 0 by omega, j7]
        rfl
/-- once all are there, nothing changes -/
theorem haves_stay {m : Int} {cs : List Ce} (u : KeyU cs) : ∀ (n : Nat) (ss : List (Nat × Fm)) (vs : List Fm), ss.length = n → vs.length = n → (∀ (j : Nat) (s : Nat × Fm), ss[j]? = some s → ∃ c, c ∈ cs ∧ (c.n, c.i) = s ∧ vs[j]? = some c.v) → haves m cs ss = (m, cs, vs) := by
  intro n
  induction n with
  | zero =>
    intro ss vs h1 h2 _
    cases ss with
    | cons a r => cases h1
    | nil =>
      cases vs with
      | cons a r => cases h2
      | nil => rfl
  | succ n ih =>
    intro ss vs h1 h2 h3
    obtain ⟨ss, s, rfl⟩ : ∃ r s, ss = r ++ [s] := by
      have hn : ss ≠ [] := fun e => by rw [e] at h1; cases h1
      exact ⟨ss.dropLast, ss.getLast hn, (List.dropLast_concat_getLast hn).symm⟩
    obtain ⟨vs, v, rfl⟩ : ∃ r s, vs = r ++ [s] := by
      have hn : vs ≠ [] := fun e => by rw [e] at h2; cases h2
      exact ⟨vs.dropLast, vs.getLast hn, (List.dropLast_concat_getLast hn).symm⟩
    rw [List.length_append] at h1 h2
    have h1 : ss.length = n := Nat.succ.inj h1
    have h2 : vs.length = n := Nat.succ.inj h2
    have e := ih ss vs h1 h2 fun j t ht => by
      have hj := (List.getElem?_eq_some_iff.mp ht).1
      obtain ⟨c, q1, q2, q3⟩ := h3 j t (by rw [List.getElem?_append_left hj]; exact ht)
      rw [List.getElem?_append_left (by omega)] at q3
      exact ⟨c, q1, q2, q3⟩
    obtain ⟨c, q1, q2, q3⟩ := h3 n s (by rw [List.getElem?_append_right (by omega), show n - ss.length = 0 by omega]; rfl)
    rw [List.getElem?_append_right (by omega), show n - vs.length = 0 by omega] at q3
    cases q3
    rw [haves_snoc, e]
    unfold hstep
    rw [have1_in u q1 q2]
theorem haves_twice {m : Int} {cs : List Ce} (u : KeyU cs) (ss : List (Nat × Fm)) : haves (haves m cs ss).1 (haves m cs ss).2.1 ss = haves m cs ss := by
  obtain ⟨i1, _, _, _, i5, i6⟩ := haves_ext m cs u _ ss rfl
  exact haves_stay i1 _ ss _ rfl i5 i6
section
variable {P : Program} {w : World} {K : PySem.W.Frag} {mg : PySem.Str → Option Value} {base : Heap} {C : Addr}
theorem cell_have {H : Hp} {Q : VK} {E : XK} {k : Ka} {m : Int} {bs : List T3} {ls : List Ld} {cs : List Ce} {ps : List Pr} {fs : List Fm} {num : Nat} {f : Fm} {t : Addr} (kw : KnW P w K C H k m bs ls cs ps fs) (nd : k.foot.Nodup) (dt : Dp K H (.ref t) (f2 f)) (hcl : cs.length ≤ 1000) (u : KeyU cs)
    (q : ∀ v G, Chg (kmut k) H G → KnW P w K C G k (have1 m cs (num, f)).1 bs ls (have1 m cs (num, f)).2.1 ps fs → Dp K G v (f2 (have1 m cs (num, f)).2.2) → Q v G) : spCellM P w K C [.ref k.p, .int num, .ref t] H Q E := by
  refine ⟨k, m, bs, ls, cs, ps, fs, num, f, t, rfl, kw, nd, dt, hcl, fun c v G hc hk s hv => ?_, fun hno p G cg dp kw' => ?_⟩
  · rw [have1_in u hc hk] at q
    exact q v G (same_chg s) (kw.same s) hv
  · rw [have1_no hno] at q
    exact q _ G cg kw' dp
theorem l_have {H : Hp} {Q : VK} {E : XK} {kp ad al ac tk : Addr} {m : Int} {bs : List T3} {ls : List Ld} {cs : List Ce} {ps : List Pr} {num : Nat} {f : Fm} {t : Addr} (lk : LkW K H kp ad al ac tk m bs ls cs ps) (nd : ([kp, ad, al, ac, tk] : List Addr).Nodup) (dt : Dp K H (.ref t) (f2 f)) (hcl : cs.length ≤ 1000) (u : KeyU cs)
    (q : ∀ v G, Chg [kp, ac] H G → LkW K G kp ad al ac tk (have1 m cs (num, f)).1 bs ls (have1 m cs (num, f)).2.1 ps → Dp K G v (f2 (have1 m cs (num, f)).2.2) → (∃ tv, v = .ref tv) → Q v G) : spHave K [.ref kp, .int num, .ref t] H Q E := by
  refine ⟨kp, ad, al, ac, tk, t, m, bs, ls, cs, ps, num, f, rfl, lk, nd, dt, hcl, fun c v hc hk hv => ?_, fun hno p G cg np ep lk' => ?_⟩
  · rw [have1_in u hc hk] at q
    obtain ⟨tv, _, _, rfl, _⟩ := dp_inv2 hv
    exact q _ H (Chg.refl _ _) lk hv ⟨tv, rfl⟩
  · rw [have1_no hno] at q
    exact q _ G cg lk' (.tup (SqT.of ep) (.cons (.int _) (.cons (.int _) .nil))) ⟨p, rfl⟩
end
end SW

namespace SW
open PySem PySem.Spec PyProof.Rows L2
abbrev s_split_ways : Stmt := topS 13
theorem sc_split_ways : FnScope ["known", "indexes", "split", "spots", "values", "number", "index", "maker"] ["known", "indexes", "split"] (defScope s_split_ways) := ⟨rfl, rfl, rfl, by decide +kernel, rfl, by decide +kernel, by decide +kernel⟩

def g0 (vs : List Fm) : Fm := vs.getD 0 (0, 0)
def g1 (vs : List Fm) : Fm := vs.getD 1 (0, 0)
/-- the ways of a split, of the values of its cells -/
def waysF (ls : List Ld) (vs : List Fm) : Sx → List (List T3)
  | .pair c d => pairW c d
  | .wr c _ a b => writeW c a b (g0 vs)
  | .eit ws => ws
  | .all n lo hi g fm f => tsF ([lessF f lo, atmF hi f] ++ outF ls n f) (wyF g (g0 vs) fm)
  | .mat n lo hi g o c f => tsF ([lessF f lo, atmF hi f] ++ outF ls n f ++ [atmF (LN ls o) f]) (wyF g (g0 vs) ((g1 vs).1, (g1 vs).2 + c))
  | .srt n lo hi f g => tsF [lessF f lo, lessF g f, atmF hi g, lessF f (0, 0), atmF (LN ls n) g] [[atmF (g0 vs) (g1 vs)]]
  | .bel n lo hi o a b f g => tsF (([lessF f lo, atmF hi f] ++ outF ls n f) ++ ([lessF g a, atmF b g] ++ outF ls o g)) [[atmF (g0 vs) (g1 vs)]]
/-- a promise of lists that are there -/
def Pr.lim (N : Nat) : Pr → Prop
  | .all n .. => n < N
  | .mat n _ _ _ o _ => n < N ∧ o < N
  | .srt n _ _ => n < N
  | .bel n _ _ o _ _ => n < N ∧ o < N
  | .eit _ => True
section
variable {P : Program} {w : World} {K : PySem.W.Frag} {mg : PySem.Str → Option Value} {base : Heap} {C : Addr}
/-- the makers' dict -/
structure MkS (K : PySem.W.Frag) (w : World) (aM fp fw fe fa fm fs fb : Addr) : Prop where
  kp : KDct K w aM "pair" (.ref fp)
  kw : KDct K w aM "write" (.ref fw)
  ke : KDct K w aM "either" (.ref fe)
  ka : KDct K w aM "all" (.ref fa)
  km : KDct K w aM "match" (.ref fm)
  ks : KDct K w aM "sorted" (.ref fs)
  kb : KDct K w aM "below" (.ref fb)
/-- a maker with what it makes -/
structure Mkr (P : Program) (w : World) (K : PySem.W.Frag) (mg : PySem.Str → Option Value) (base : Heap) (aM : Addr) (wd : PySem.Str) where
  f : Addr
  fd : FuncData
  sp : Sp
  F : FnOk P w K mg base CX0 4 f fd ["known", "indexes", "split", "values"] sp
  kk : PySem.W.keepIn K (.ref f) = true
  bb : Binds K fd ["known", "indexes", "split", "values"] []
  at_ : KDct K w aM wd (.ref f)
def Mkr.ok {aM : Addr} {wd : PySem.Str} (M : Mkr P w K mg base aM wd) (C : Addr) (x : Sx) (ls : List Ld) (cs : List Ce) (ps : List Pr) (is : List Fm) (zs : List Int) : Prop :=
  ∀ (H : Hp) (Q : VK) (E : XK) (k : Ka) (m' : Int) (bs : List T3) (cs' : List Ce) (fs : List Fm) (n : Nat) (ix t va : Addr) (xi : List V) (us : List V) (vs : List Fm), KnW P w K C H k m' bs ls cs' ps fs → (∃ r, cs' = cs ++ r) → LsOk n ls → (∀ p, p ∈ ps → p.lim ls.length) → SqT K H t (.str wd :: zs.map V.int) → H ix = some (.lst xi) → DpAll K H xi (is.map f2) →
    H va = some (.lst us) → DpAll K H us (vs.map f2) → vs.length = (spotsF x).length → WaysAt K H (waysF ls vs x) Q → M.sp [.ref k.p, .ref ix, .ref t, .ref va] H Q E
theorem vals1 {K : PySem.W.Frag} {H : Hp} {us : List V} {vs : List Fm} (h : DpAll K H us (vs.map f2)) (hl : vs.length = 1) : ∃ v, us = [v] ∧ Dp K H v (f2 (g0 vs)) := by
  match vs, hl with
  | [f], _ =>
    cases h with
    | cons h1 h2 =>
      cases h2
      exact ⟨_, rfl, h1⟩
theorem vals2 {K : PySem.W.Frag} {H : Hp} {us : List V} {vs : List Fm} (h : DpAll K H us (vs.map f2)) (hl : vs.length = 2) : ∃ v v2, us = [v, v2] ∧ Dp K H v (f2 (g0 vs)) ∧ Dp K H v2 (f2 (g1 vs)) := by
  match vs, hl with
  | [f, g], _ =>
    cases h with
    | cons h1 h2 =>
      cases h2 with
      | cons h2 h3 =>
        cases h3
        exact ⟨_, _, rfl, h1, h2⟩
theorem ext_get {cs cs' : List Ce} {i : Nat} {c : Ce} (h : ∃ r, cs' = cs ++ r) (hc : cs[i]? = some c) : cs'[i]? = some c := by
  obtain ⟨r, rfl⟩ := h
  rw [List.getElem?_append_left (List.getElem?_eq_some_iff.mp hc).1]
  exact hc
theorem mkr {ls : List Ld} {cs : List Ce} {ps : List Pr} {is : List Fm} {zs : List Int} {wd : PySem.Str} {x : Sx} {aM : Addr} (D_pair_ways : Df K mg "_pair_ways" s_pair_ways ["known", "indexes", "split", "values"]) (D_write_ways : Df K mg "_write_ways" s_write_ways ["known", "indexes", "split", "values"]) (D_either_ways : Df K mg "_either_ways" s_either_ways ["known", "indexes", "split", "values"]) (D_all_ways : Df K mg "_all_ways" s_all_ways ["known", "indexes", "split", "values"]) (D_match_ways : Df K mg "_match_ways" s_match_ways ["known", "indexes", "split", "values"]) (D_sorted_ways : Df K mg "_sorted_ways" s_sorted_ways ["known", "indexes", "split", "values"]) (D_below_ways : Df K mg "_below_ways" s_below_ways ["known", "indexes", "split", "values"]) (M : MkS K w aM D_pair_ways.f D_write_ways.f D_either_ways.f D_all_ways.f D_match_ways.f D_sorted_ways.f D_below_ways.f)
    (G_pair_ways : FnOk P w K mg base CX0 3 D_pair_ways.f D_pair_ways.fd ["known", "indexes", "split", "values"] (spPairW P w K C)) (G_write_ways : FnOk P w K mg base CX0 3 D_write_ways.f D_write_ways.fd ["known", "indexes", "split", "values"] (spWriteW P w K C)) (G_either_ways : FnOk P w K mg base CX0 1 D_either_ways.f D_either_ways.fd ["known", "indexes", "split", "values"] (spEitW P w K C)) (G_all_ways : FnOk P w K mg base CX0 4 D_all_ways.f D_all_ways.fd ["known", "indexes", "split", "values"] (spAllW P w K C)) (G_match_ways : FnOk P w K mg base CX0 4 D_match_ways.f D_match_ways.fd ["known", "indexes", "split", "values"] (spMatW P w K C)) (G_sorted_ways : FnOk P w K mg base CX0 3 D_sorted_ways.f D_sorted_ways.fd ["known", "indexes", "split", "values"] (spSrtW P w K C)) (G_below_ways : FnOk P w K mg base CX0 3 D_below_ways.f D_below_ways.fd ["known", "indexes", "split", "values"] (spBelW P w K C))
    (h : Fit ls cs ps is wd zs x) : ∃ m : Mkr P w K mg base aM wd, m.ok C x ls cs ps is zs := by
  cases x with
  | pair c d =>
    obtain ⟨rfl, i, j, rfl, hij, hc, hd, _⟩ := h
    refine ⟨⟨_, _, _, G_pair_ways.mono (by decide), D_pair_ways.F.kp, D_pair_ways.b, M.kp⟩, ?_⟩
    intro H Q E k m' bs cs' fs n ix t va xi us vs kw he lok hp ht hix dix hva dva hl q
    exact ⟨k, m', bs, ls, cs', ps, fs, ix, t, va, _, i, j, c, d, rfl, kw, ht, ext_get he hc, ext_get he hd, q⟩
  | wr c o a b =>
    obtain ⟨rfl, i, rfl, hc, hw⟩ := h
    refine ⟨⟨_, _, _, G_write_ways.mono (by decide), D_write_ways.F.kp, D_write_ways.b, M.kw⟩, ?_⟩
    intro H Q E k m' bs cs' fs n ix t va xi us vs kw he lok hp ht hix dix hva dva hl q
    obtain ⟨v, rfl, dv⟩ := vals1 dva hl
    exact ⟨k, m', bs, ls, cs', ps, fs, ix, t, va, _, i, o, c, a, b, _, v, rfl, kw, ht, ext_get he hc, hw, hva, dv, q⟩
  | eit ws =>
    obtain ⟨rfl, i, rfl, hpi⟩ := h
    refine ⟨⟨_, _, _, G_either_ways.mono (by decide), D_either_ways.F.kp, D_either_ways.b, M.ke⟩, ?_⟩
    intro H Q E k m' bs cs' fs n ix t va xi us vs kw he lok hp ht hix dix hva dva hl q
    exact ⟨k, m', bs, ls, cs', ps, fs, ix, t, va, _, i, ws, rfl, kw, ht, hpi, q⟩
  | all num lo hi g fm f =>
    obtain ⟨rfl, i, s, rfl, hpi, hf⟩ := h
    refine ⟨⟨_, _, _, G_all_ways.mono (by decide), D_all_ways.F.kp, D_all_ways.b, M.ka⟩, ?_⟩
    intro H Q E k m' bs cs' fs n ix t va xi us vs kw he lok hp ht hix dix hva dva hl q
    obtain ⟨v, rfl, dv⟩ := vals1 dva hl
    have h1 : num < ls.length := hp _ (List.mem_of_getElem? hpi)
    exact ⟨k, m', bs, ls, cs', ps, fs, ix, t, va, _, i, s, n, num, lo, hi, fm, f, _, g, xi, is, v, rfl, kw, lok, ht, hpi, h1, hix, dix, hf, hva, dv, q⟩
  | mat num lo hi g o c f =>
    obtain ⟨rfl, i, s, rfl, hpi, hf⟩ := h
    refine ⟨⟨_, _, _, G_match_ways.mono (by decide), D_match_ways.F.kp, D_match_ways.b, M.km⟩, ?_⟩
    intro H Q E k m' bs cs' fs n ix t va xi us vs kw he lok hp ht hix dix hva dva hl q
    obtain ⟨v, v2, rfl, dv, dv2⟩ := vals2 dva hl
    obtain ⟨h1, h2⟩ : num < ls.length ∧ o < ls.length := hp _ (List.mem_of_getElem? hpi)
    exact ⟨k, m', bs, ls, cs', ps, fs, ix, t, va, _, i, s, n, num, o, lo, hi, f, _, _, c, g, xi, is, v, v2, rfl, kw, lok, ht, hpi, h1, h2, hix, dix, hf, hva, dv, dv2, q⟩
  | srt num lo hi f g =>
    obtain ⟨rfl, i, s, r, rfl, hpi, hf, hg⟩ := h
    refine ⟨⟨_, _, _, G_sorted_ways.mono (by decide), D_sorted_ways.F.kp, D_sorted_ways.b, M.ks⟩, ?_⟩
    intro H Q E k m' bs cs' fs n ix t va xi us vs kw he lok hp ht hix dix hva dva hl q
    obtain ⟨v, v2, rfl, dv, dv2⟩ := vals2 dva hl
    have h1 : num < ls.length := hp _ (List.mem_of_getElem? hpi)
    exact ⟨k, m', bs, ls, cs', ps, fs, ix, t, va, _, i, s, r, n, num, lo, hi, f, g, _, _, xi, is, v, v2, rfl, kw, lok, ht, hpi, h1, hix, dix, hf, hg, hva, dv, dv2, q⟩
  | bel num lo hi o a b f g =>
    obtain ⟨rfl, i, s, r, rfl, hpi, hf, hg⟩ := h
    refine ⟨⟨_, _, _, G_below_ways.mono (by decide), D_below_ways.F.kp, D_below_ways.b, M.kb⟩, ?_⟩
    intro H Q E k m' bs cs' fs n ix t va xi us vs kw he lok hp ht hix dix hva dva hl q
    obtain ⟨v, v2, rfl, dv, dv2⟩ := vals2 dva hl
    obtain ⟨h1, h2⟩ : num < ls.length ∧ o < ls.length := hp _ (List.mem_of_getElem? hpi)
    exact ⟨k, m', bs, ls, cs', ps, fs, ix, t, va, _, i, s, r, n, num, o, lo, hi, a, b, f, g, _, _, xi, is, v, v2, rfl, kw, lok, ht, hpi, h1, h2, hix, dix, hf, hg, hva, dv, dv2, q⟩
/-- what is asked of a split, what comes of it -/
def spSplitW (P : Program) (w : World) (K : PySem.W.Frag) (C : Addr) : Sp := fun vs H Q _ => ∃ (k : Ka) (m : Int) (bs : List T3) (ls : List Ld) (cs : List Ce) (ps : List Pr) (fs : List Fm) (n : Nat) (ix t : Addr) (wd : PySem.Str) (zs : List Int) (xi : List V) (is : List Fm), vs = [.ref k.p, .ref ix, .ref t] ∧ KnW P w K C H k m bs ls cs ps fs ∧ k.foot.Nodup ∧ LsOk n ls ∧ (∀ p, p ∈ ps → p.lim ls.length) ∧ (∀ c, c ∈ cs → c.n < ls.length) ∧ KeyU cs ∧ cs.length ≤ 900 ∧ SqT K H t (.str wd :: zs.map V.int) ∧ wd ∈ wds ∧ zs.length ≤ 4 ∧ H ix = some (.lst xi) ∧ DpAll K H xi (is.map f2) ∧ ix ∉ kmut k ∧
  ((∀ x, ¬ Fit ls cs ps is wd zs x) → ∀ H', Same H H' → Q .non H') ∧
  ∀ x, Fit ls cs ps is wd zs x → ∀ (R : Addr) (xs : List V) (H' : Hp), Chg (kmut k) H H' → H R = none → H' R = some (.lst xs) → KnW P w K C H' k (haves m cs (spotsF x)).1 bs ls (haves m cs (spotsF x)).2.1 ps fs → DpAll K H' xs ((waysF ls (haves m cs (spotsF x)).2.2 x).map w3) → Q (.ref R) H'
theorem spots_len (x : Sx) : (spotsF x).length ≤ 2 := by
  cases x <;> first | exact Nat.zero_le _ | exact Nat.le_refl _ | exact Nat.le_succ _
theorem ok_split_ways (T : TxS K w mg C) {fC : Addr} {fdC : FuncData} (m_cell : Meth K C "cell" fC) (G_cell : FnOk P w K mg base CX0 2 fC fdC ["self", "number", "index"] (spCellM P w K C)) (b_cell : Binds K fdC ["self", "number", "index"] []) (D_split_ways : Df K mg "split_ways" s_split_ways ["known", "indexes", "split"]) (D_spots_of : Df K mg "spots_of" s_spots_of ["known", "indexes", "split"]) (D_pair_ways : Df K mg "_pair_ways" s_pair_ways ["known", "indexes", "split", "values"]) (D_write_ways : Df K mg "_write_ways" s_write_ways ["known", "indexes", "split", "values"]) (D_either_ways : Df K mg "_either_ways" s_either_ways ["known", "indexes", "split", "values"]) (D_all_ways : Df K mg "_all_ways" s_all_ways ["known", "indexes", "split", "values"]) (D_match_ways : Df K mg "_match_ways" s_match_ways ["known", "indexes", "split", "values"]) (D_sorted_ways : Df K mg "_sorted_ways" s_sorted_ways ["known", "indexes", "split", "values"]) (D_below_ways : Df K mg "_below_ways" s_below_ways ["known", "indexes", "split", "values"]) (M : MkS K w T.aMakers D_pair_ways.f D_write_ways.f D_either_ways.f D_all_ways.f D_match_ways.f D_sorted_ways.f D_below_ways.f)
    (G_pair_ways : FnOk P w K mg base CX0 3 D_pair_ways.f D_pair_ways.fd ["known", "indexes", "split", "values"] (spPairW P w K C)) (G_write_ways : FnOk P w K mg base CX0 3 D_write_ways.f D_write_ways.fd ["known", "indexes", "split", "values"] (spWriteW P w K C)) (G_either_ways : FnOk P w K mg base CX0 1 D_either_ways.f D_either_ways.fd ["known", "indexes", "split", "values"] (spEitW P w K C)) (G_all_ways : FnOk P w K mg base CX0 4 D_all_ways.f D_all_ways.fd ["known", "indexes", "split", "values"] (spAllW P w K C)) (G_match_ways : FnOk P w K mg base CX0 4 D_match_ways.f D_match_ways.fd ["known", "indexes", "split", "values"] (spMatW P w K C)) (G_sorted_ways : FnOk P w K mg base CX0 3 D_sorted_ways.f D_sorted_ways.fd ["known", "indexes", "split", "values"] (spSrtW P w K C)) (G_below_ways : FnOk P w K mg base CX0 3 D_below_ways.f D_below_ways.fd ["known", "indexes", "split", "values"] (spBelW P w K C))
    (G_spots_of : FnOk P w K mg base CX0 4 D_spots_of.f D_spots_of.fd ["known", "indexes", "split"] (spSpots P w K C)) : FnOk P w K mg base CX0 5 D_split_ways.f D_split_ways.fd ["known", "indexes", "split"] (spSplitW P w K C) := by
  refine D_split_ways.F.ok sc_split_ways (fun vs H Q E h => ?_) (fun cdv A outer s H vs Q E hr h => ?_)
  · obtain ⟨k, m, bs, ls, cs, ps, fs, n, ix, t, wd, zs, xi, is, rfl, _⟩ := h
    rfl
  · obtain ⟨k, m, bs, ls, cs, ps, fs, n, ix, t, wd, zs, xi, is, rfl, kw, nd, lok, hlim, hcn, hku, hcl, ht, hwd, hzl, hix, dix, nix, qn, qy⟩ := h
    by_cases hex : ∃ x, Fit ls cs ps is wd zs x
    · obtain ⟨x, hx⟩ := hex
      obtain ⟨M0, hM⟩ := mkr (mg := mg) (base := base) D_pair_ways D_write_ways D_either_ways D_all_ways D_match_ways D_sorted_ways D_below_ways M G_pair_ways G_write_ways G_either_ways G_all_ways G_match_ways G_sorted_ways G_below_ways hx
      have F_maker := M0.F
      have K_maker := M0.kk
      have B_maker := M0.bb
      refine ⟨_, (pss_cons (ps_set (i := 3) sc_split_ways.nd rfl (.inl rfl) (pe_call G_spots_of (hr.mono (by decide)) (by rfl) D_spots_of.g D_spots_of.F.kp D_spots_of.b .nil pass0 (pa_cons (pv 0) (pa_cons (pv 1) (pa_cons (pv 2) pa_nil)))))
    (pss_cons (ps_if (pt_cmpR op_isN (pv 3) pe_non (nomark _))
    (pss_one (ps_ret pe_non))
    pss_nil)
    (pss_cons (ps_setLc (i := 4) (own := [("number", 5), ("index", 6)]) (g := gTup K 2 (gCons (gName 5) (gCons (gName 6) gNil))) (by rfl) sc_split_ways.nd rfl rfl (sw_true rfl rfl rfl (by decide +kernel)) (pi_list (pv 3)) (blkOk_by (own := [("number", 5), ("index", 6)]) (N := ["known", "indexes", "split", "spots", "values", "number", "index", "maker"]) (sc := defScope s_split_ways) (by decide +kernel)) (fun _ _ _ _ _ => pg_tup rfl (pgs_cons (pg_name (i := 5) sc_split_ways.nd rfl (Or.inl rfl)) (pgs_cons (pg_name (i := 6) sc_split_ways.nd rfl (Or.inl rfl)) pgs_nil))) (fun _ _ _ _ _ => pts_nil) (fun _ _ _ _ _ => (pe_meth (pv 0) T.cl m_cell G_cell (hr.mono (by decide)) b_cell .nil pass0 (pa_cons (pv 5) (pa_cons (pv 6) pa_nil)))))
    (pss_cons (ps_set (i := 7) sc_split_ways.nd rfl (.inl rfl) (pe_ix ix_kdict (pe_glob (v := .ref T.aMakers) rfl T.m_MAKERS rfl) (pe_ix ix_tup (pv 2) pe_int (fun _ _ => rfl)) (fun _ _ => rfl)))
    (pss_one (ps_ret (pe_callL (i := 7) F_maker (hr.mono (by decide)) rfl (.inl rfl) K_maker B_maker .nil pass0 (pa_cons (pv 0) (pa_cons (pv 1) (pa_cons (pv 2) (pa_cons (pv 4) pa_nil))))))))))), ?_⟩
      have hsl := spots_len x
      obtain ⟨e1, e2, e3, _, e5, _⟩ := haves_ext m cs hku _ (spotsF x) rfl
      have nf : ∀ {c : Addr}, H c = none → c ∉ kmut k := fun h hc => by
        obtain ⟨o, ho, _⟩ := kw.nt _ (kmut_foot hc)
        rw [h] at ho
        cases ho
      refine ⟨_, rfl, _, rfl, _, rfl, k, m, bs, ls, cs, ps, fs, ix, t, wd, zs, xi, is, rfl, kw, hcn, ht, hwd, hzl, hix, dix, fun h => absurd hx (h x), fun x' hx' R xs H1 s1 nR eR dR => ?_⟩
      have hxx : x' = x := fit_fun hx' hx
      subst hxx
      refine ⟨_, rfl, rfl, _, rfl, iteF ?_⟩
      have hxl : xs.length = (spotsF x').length := by rw [dpa_len dR, List.length_map]
      refine ⟨_, rfl, R, rfl, ⟨_, SqL.of eR⟩, fun L nL => ?_⟩
      have nL0 : H L = none := s1.free nL
      have kw1 := kw.same s1
      have nt1 := kw1.nt
      refine lc_list (K := K) (a := R) (xs := xs) (fun j G => Chg (kmut k) H1 G ∧ KnW P w K C G k (haves m cs ((spotsF x').take j)).1 bs ls (haves m cs ((spotsF x').take j)).2.1 ps fs ∧ ∃ us, G L = some (.lst us) ∧ DpAll K G us ((haves m cs ((spotsF x').take j)).2.2.map f2))
        ⟨same_chg (same_new nL), kw1.same (same_new nL), [], upd_same, .nil⟩ (fun j G _ hP => SqL.of (hP.1 _ _ (nf nR) eR)) (fun j y G hxj hP => ?_) (fun G hP => ?_)
      · obtain ⟨cg, kwG, us, eL, dL⟩ := hP
        have hj : j < (spotsF x').length := by
          rw [← hxl]
          exact (List.getElem?_eq_some_iff.mp hxj).1
        obtain ⟨v, g1', g2'⟩ := dp_mem dR hj
        rw [hxj] at g1'
        cases g1'
        have nt : ∀ c, c ∈ kmut k → NT H1 c := fun c hc => nt1 c (kmut_foot hc)
        have noL : noL (sp2 (spotsF x')[j]) = true := rfl
        have g3 := chg_dp nt cg _ _ noL g2'
        obtain ⟨t8, v1, v2, rfl, ht8, w1, w2⟩ := dp_inv2 g3
        cases dp_int_inv w1
        obtain ⟨tf, _, _, rfl, _⟩ := dp_inv2 w2
        obtain ⟨_, _, _, _, _, _, kn, _⟩ := kwG.ex
        obtain ⟨dx, e⟩ := kn.ob
        obtain ⟨u1, u2, u3, _, u5, _⟩ := haves_ext m cs hku _ ((spotsF x').take j) rfl
        have htl : ((spotsF x').take j).length ≤ 2 := by
          rw [List.length_take]
          omega
        refine ⟨t8, _, rfl, ht8, rfl, _, _, rfl, _, _, rfl, rfl, rfl, ?_⟩
        refine ⟨_, rfl, k.p, dx, _, rfl, e, knF_no _ _ _ _ _ _ _ (by decide +kernel), _, rfl, _, rfl, ?_⟩
        refine cell_have (E := E) kwG nd w2 (by omega) u1 fun v G2 cg2 kw2 dv => ?_
        have hLm : L ∉ kmut k := nf nL0
        have ntG : ∀ c, c ∈ kmut k → NT G c := fun c hc => kwG.nt c (kmut_foot hc)
        have eL2 := cg2 _ _ hLm eL
        have htk : (spotsF x').take (j + 1) = (spotsF x').take j ++ [(spotsF x')[j]] := List.take_succ_eq_append_getElem hj
        have hLk : ∀ c, c ∈ ([k.p, k.ad, k.al, k.ac, k.tk, k.af, k.ao] : List Addr) → c ∉ ([L] : List Addr) := fun c hc h => by
          rw [List.mem_singleton.mp h] at hc
          obtain ⟨o, ho, _⟩ := kw.nt _ hc
          rw [nL0] at ho
          cases ho
        refine ⟨us, eL2, ?_, ?_⟩
        · have : us.length = ((spotsF x').take j).length := by
            rw [dpa_len dL, List.length_map, u5]
          exact small_sz5 (by omega)
        · have bL : But L G2 (upd G2 L (.lst (us ++ [v]))) := fun c o hc e => (upd_ne hc).trans e
          have cL : Chg [L] G2 (upd G2 L (.lst (us ++ [v]))) := fun c o hc e => bL c o (fun h => hc (List.mem_singleton.mpr h)) e
          have ntL : ∀ c, c ∈ ([L] : List Addr) → NT G2 c := fun c hc => by
            rw [List.mem_singleton.mp hc]
            exact NT.lst eL2
          have kw3 := kw2.chg ntL cL hLk
          rw [htk, haves_snoc]
          refine ⟨fun c o hc e => ?_, kw3, us ++ [v], upd_same, ?_⟩
          · refine (bL c o (fun h => ?_) (cg2 _ _ hc (cg _ _ hc e)))
            rw [h, nL] at e
            cases e
          · show DpAll K _ _ (((haves m cs ((spotsF x').take j)).2.2 ++ [_]).map f2)
            have := noLs_f2s ((haves m cs ((spotsF x').take j)).2.2 ++ [(have1 (haves m cs ((spotsF x').take j)).1 (haves m cs ((spotsF x').take j)).2.1 ((spotsF x')[j].1, (spotsF x')[j].2)).2.2])
            refine dpa_but eL2 bL _ _ this ?_
            rw [List.map_append]
            exact dpa_snoc (chg_dpa ntG cg2 _ _ (noLs_f2s _) dL) dv
      · obtain ⟨cg, kwG, us, eL, dL⟩ := hP
        rw [hxl, List.take_length] at kwG dL
        have nt : ∀ c, c ∈ kmut k → NT H1 c := fun c hc => nt1 c (kmut_foot hc)
        have htG := chg_sqt nt cg (sqt_same s1 ht)
        refine ⟨_, rfl, t, _, _, _, rfl, rfl, htG, atI_nat (j := 0) rfl, T.aMakers, wd, _, rfl, rfl, M0.at_, ?_⟩
        refine ⟨rfl, _, rfl, _, rfl, _, rfl, _, rfl, ?_⟩
        refine hM G _ _ k _ bs _ fs n ix t L xi us _ kwG e2 lok hlim htG (cg _ _ nix (s1 _ _ hix)) (chg_dpa nt cg _ _ (noLs_f2s _) (dpa_same s1 _ _ dix)) eL dL e5 ?_
        intro R2 xs2 G2 s2 nR2 eR2 dR2
        have cgH : Chg (kmut k) H G2 := fun c o hc e => s2 _ _ (cg _ _ hc (s1 _ _ e))
        refine qy x' hx' R2 xs2 G2 cgH ?_ eR2 (kwG.same s2) dR2
        cases hg : H R2 with
        | none => rfl
        | some o =>
          by_cases hm : R2 ∈ kmut k
          · obtain ⟨o', ho, _⟩ := kwG.nt _ (kmut_foot hm)
            rw [nR2] at ho
            cases ho
          · rw [cg _ _ hm (s1 _ _ hg)] at nR2
            cases nR2
    · have hno : ∀ x, ¬ Fit ls cs ps is wd zs x := fun x hx => hex ⟨x, hx⟩
      have F_maker := G_pair_ways.mono (k := 4) (by decide)
      have K_maker := D_pair_ways.F.kp
      have B_maker := D_pair_ways.b
      refine ⟨_, (pss_cons (ps_set (i := 3) sc_split_ways.nd rfl (.inl rfl) (pe_call G_spots_of (hr.mono (by decide)) (by rfl) D_spots_of.g D_spots_of.F.kp D_spots_of.b .nil pass0 (pa_cons (pv 0) (pa_cons (pv 1) (pa_cons (pv 2) pa_nil)))))
    (pss_cons (ps_if (pt_cmpR op_isN (pv 3) pe_non (nomark _))
    (pss_one (ps_ret pe_non))
    pss_nil)
    (pss_cons (ps_setLc (i := 4) (own := [("number", 5), ("index", 6)]) (g := gTup K 2 (gCons (gName 5) (gCons (gName 6) gNil))) (by rfl) sc_split_ways.nd rfl rfl (sw_true rfl rfl rfl (by decide +kernel)) (pi_list (pv 3)) (blkOk_by (own := [("number", 5), ("index", 6)]) (N := ["known", "indexes", "split", "spots", "values", "number", "index", "maker"]) (sc := defScope s_split_ways) (by decide +kernel)) (fun _ _ _ _ _ => pg_tup rfl (pgs_cons (pg_name (i := 5) sc_split_ways.nd rfl (Or.inl rfl)) (pgs_cons (pg_name (i := 6) sc_split_ways.nd rfl (Or.inl rfl)) pgs_nil))) (fun _ _ _ _ _ => pts_nil) (fun _ _ _ _ _ => (pe_meth (pv 0) T.cl m_cell G_cell (hr.mono (by decide)) b_cell .nil pass0 (pa_cons (pv 5) (pa_cons (pv 6) pa_nil)))))
    (pss_cons (ps_set (i := 7) sc_split_ways.nd rfl (.inl rfl) (pe_ix ix_kdict (pe_glob (v := .ref T.aMakers) rfl T.m_MAKERS rfl) (pe_ix ix_tup (pv 2) pe_int (fun _ _ => rfl)) (fun _ _ => rfl)))
    (pss_one (ps_ret (pe_callL (i := 7) F_maker (hr.mono (by decide)) rfl (.inl rfl) K_maker B_maker .nil pass0 (pa_cons (pv 0) (pa_cons (pv 1) (pa_cons (pv 2) (pa_cons (pv 4) pa_nil))))))))))), ?_⟩
      refine ⟨_, rfl, _, rfl, _, rfl, k, m, bs, ls, cs, ps, fs, ix, t, wd, zs, xi, is, rfl, kw, hcn, ht, hwd, hzl, hix, dix, fun _ H1 s1 => ?_, fun x' hx' => absurd hx' (hno x')⟩
      exact ⟨_, rfl, rfl, _, rfl, iteT (qn hno H1 s1)⟩
end
end SW

namespace SW
open PySem PySem.Spec PyProof.Rows L2
/-! ### ways that are kept -/
def cntK (ns : List Int) (ws : List (List T3)) : Nat := (ws.filter fun w => w.all (kptB ns)).length
theorem wo_split (ns : List Int) (f : Fm) : wo ns f = wo ns (f.1, 0) + f.2 := by
  unfold wo
  by_cases h : f.1 = 0
  · rw [if_pos h, if_pos h]
    show f.2 = 0 + f.2
    omega
  · rw [if_neg h, if_neg h]
    show _ = ns.getD (f.1 - 1).toNat 0 + 0 + f.2
    omega
theorem wo_plus (ns : List Int) (f : Fm) (c : Int) : wo ns (f.1, f.2 + c) = wo ns f + c := by
  rw [wo_split ns f, wo_split ns (f.1, f.2 + c)]
  show wo ns (f.1, 0) + (f.2 + c) = _
  omega
theorem wo_zero (ns : List Int) : wo ns (0, 0) = 0 := if_pos rfl
section
variable {ns : List Int}
theorem kb_less (f g : Fm) : kptB ns (lessF f g) = decide (wo ns f < wo ns g) := by
  rw [wo_split ns f, wo_split ns g]
  exact decide_eq_decide.mpr (by show wo ns (f.1, 0) - wo ns (g.1, 0) ≤ g.2 - f.2 - 1 ↔ _; omega)
theorem kb_atm (f g : Fm) : kptB ns (atmF f g) = decide (wo ns f ≤ wo ns g) := by
  rw [wo_split ns f, wo_split ns g]
  exact decide_eq_decide.mpr (by show wo ns (f.1, 0) - wo ns (g.1, 0) ≤ g.2 - f.2 ↔ _; omega)
theorem kb_opp (t : T3) : kptB ns (oppF t) = !kptB ns t := by
  unfold kptB
  rw [← decide_not]
  exact decide_eq_decide.mpr (by show wo ns (t.2.1, 0) - wo ns (t.1, 0) ≤ -t.2.2 - 1 ↔ _; omega)
theorem kb_eq (f g : Fm) : (eqF f g).all (kptB ns) = decide (wo ns f = wo ns g) := by
  show (kptB ns (atmF f g) && (kptB ns (atmF g f) && true)) = _
  rw [kb_atm, kb_atm, Bool.and_true, Bool.eq_iff_iff, Bool.and_eq_true, decide_eq_true_iff, decide_eq_true_iff, decide_eq_true_iff]
  omega
theorem cnt_nil : cntK ns [] = 0 := rfl
theorem cnt_cons (w : List T3) (ws : List (List T3)) : cntK ns (w :: ws) = (if w.all (kptB ns) = true then 1 else 0) + cntK ns ws := by
  unfold cntK
  rw [List.filter_cons]
  split
  · rw [List.length_cons]
    omega
  · omega
theorem cnt_map (t : T3) (ws : List (List T3)) : cntK ns (ws.map fun w => t :: w) = if kptB ns t = true then cntK ns ws else 0 := by
  induction ws with
  | nil =>
    rw [List.map_nil, cnt_nil]
    split <;> rfl
  | cons w r ih =>
    rw [List.map_cons, cnt_cons, ih, cnt_cons]
    have e : (t :: w).all (kptB ns) = (kptB ns t && w.all (kptB ns)) := List.all_cons
    rw [e]
    cases kptB ns t with
    | true => rw [Bool.true_and, if_pos rfl, if_pos rfl]
    | false => rfl
theorem ts_nil (ws : List (List T3)) : tsF [] ws = ws := by
  show [] ++ ws.map (fun w => [] ++ w) = ws
  rw [List.nil_append]
  exact (List.map_congr_left fun w _ => List.nil_append w).trans (List.map_id _)
theorem ts_cons (t : T3) (r : List T3) (ws : List (List T3)) : tsF (t :: r) ws = [t] :: (tsF r ws).map fun w => oppF t :: w := by
  unfold tsF
  rw [List.map_append, List.map_map, List.length_cons]
  have e : fdF (t :: r) (r.length + 1) = [t] :: (fdF r r.length).map fun w => oppF t :: w := by
    unfold fdF
    rw [List.range_succ_eq_map, List.map_cons, List.map_map, List.map_map]
    rfl
  rw [e]
  rfl
theorem cnt_ts (ts : List T3) (ws : List (List T3)) : cntK ns (tsF ts ws) = if ts.any (kptB ns) = true then 1 else cntK ns ws := by
  induction ts with
  | nil =>
    rw [ts_nil]
    rfl
  | cons t r ih =>
    rw [ts_cons, cnt_cons, cnt_map, ih, kb_opp]
    have e1 : [t].all (kptB ns) = kptB ns t := by
      show (kptB ns t && true) = _
      rw [Bool.and_true]
    have e2 : (t :: r).any (kptB ns) = (kptB ns t || r.any (kptB ns)) := List.any_cons
    rw [e1, e2]
    cases kptB ns t with
    | true => rfl
    | false =>
      show (if false = true then 1 else 0) + (if (!false) = true then _ else 0) = if (false || _) = true then 1 else cntK ns ws
      rw [if_neg Bool.false_ne_true, Bool.false_or, Nat.zero_add]
      rfl
theorem cnt_one1 {t : T3} (h : kptB ns t = true) : cntK ns [[t]] = 1 := by
  rw [cnt_cons, cnt_nil]
  have e1 : [t].all (kptB ns) = kptB ns t := by
    show (kptB ns t && true) = _
    rw [Bool.and_true]
  rw [e1, h]
  rfl
theorem cnt_wy {g : PySem.Str} {f h : Fm} (hc : cmpF g (wo ns f) (wo ns h) = true) : cntK ns (wyF g f h) = 1 := by
  have a1 : ∀ t : T3, [t].all (kptB ns) = kptB ns t := fun t => by
    show (kptB ns t && true) = _
    rw [Bool.and_true]
  unfold cmpF at hc
  unfold wyF
  split at hc
  · rw [if_pos (by assumption)]
    exact cnt_one1 ((kb_less f h).trans hc)
  rw [if_neg (by assumption)]
  split at hc
  · rw [if_pos (by assumption)]
    exact cnt_one1 ((kb_atm f h).trans hc)
  rw [if_neg (by assumption)]
  split at hc
  · rw [if_pos (by assumption)]
    exact cnt_one1 ((kb_less h f).trans hc)
  rw [if_neg (by assumption)]
  split at hc
  · rw [if_pos (by assumption)]
    exact cnt_one1 ((kb_atm h f).trans hc)
  rw [if_neg (by assumption)]
  split at hc
  · rw [if_pos (by assumption), cnt_cons, kb_eq, hc]
    rfl
  rw [if_neg (by assumption), cnt_cons, cnt_cons, a1, a1, kb_less, kb_less, cnt_nil]
  have hne : ¬ wo ns f = wo ns h := fun e => by
    rw [decide_eq_true e] at hc
    cases hc
  by_cases hl : wo ns f < wo ns h
  · rw [decide_eq_true hl, decide_eq_false (show ¬ wo ns h < wo ns f by omega)]
    rfl
  · rw [decide_eq_false hl, decide_eq_true (show wo ns h < wo ns f by omega)]
    rfl
/-- what the state makes true of a split -/
def SxT (ls : List Ld) (ns : List Int) (vs : List Fm) : Sx → Prop
  | .pair c d => wo ns c.i = wo ns d.i → wo ns c.v = wo ns d.v
  | .wr c _ a b => wo ns c.v = if wo ns c.i = wo ns a then wo ns b else wo ns (g0 vs)
  | .eit ws => ∃ w, w ∈ ws ∧ ∀ t, t ∈ w → kptB ns t = true
  | .all n lo hi g fm f => wo ns lo ≤ wo ns f → wo ns f < wo ns hi → 0 ≤ wo ns f → wo ns f < wo ns (LN ls n) → cmpF g (wo ns (g0 vs)) (wo ns fm) = true
  | .mat n lo hi g o c f => wo ns lo ≤ wo ns f → wo ns f < wo ns hi → 0 ≤ wo ns f → wo ns f < wo ns (LN ls n) → wo ns f < wo ns (LN ls o) → cmpF g (wo ns (g0 vs)) (wo ns (g1 vs) + c) = true
  | .srt n lo hi f g => wo ns lo ≤ wo ns f → wo ns f ≤ wo ns g → wo ns g < wo ns hi → 0 ≤ wo ns f → wo ns g < wo ns (LN ls n) → wo ns (g0 vs) ≤ wo ns (g1 vs)
  | .bel n lo hi o a b f g => wo ns lo ≤ wo ns f → wo ns f < wo ns hi → 0 ≤ wo ns f → wo ns f < wo ns (LN ls n) → wo ns a ≤ wo ns g → wo ns g < wo ns b → 0 ≤ wo ns g → wo ns g < wo ns (LN ls o) → wo ns (g0 vs) ≤ wo ns (g1 vs)
theorem any_no {ts : List T3} (h : ¬ ts.any (kptB ns) = true) {t : T3} (ht : t ∈ ts) : kptB ns t = false := by
  cases e : kptB ns t with
  | false => rfl
  | true => exact absurd (List.any_eq_true.mpr ⟨t, ht, e⟩) h
theorem no_less {f g : Fm} (h : kptB ns (lessF f g) = false) : wo ns g ≤ wo ns f := by
  rw [kb_less] at h
  have := of_decide_eq_false h
  omega
theorem no_atm {f g : Fm} (h : kptB ns (atmF f g) = false) : wo ns g < wo ns f := by
  rw [kb_atm] at h
  have := of_decide_eq_false h
  omega
theorem cnt_way {ls : List Ld} {vs : List Fm} {x : Sx} (h : SxT ls ns vs x) (hne : ∀ ws, x ≠ .eit ws) : cntK ns (waysF ls vs x) = 1 := by
  have a1 : ∀ t : T3, [t].all (kptB ns) = kptB ns t := fun t => by
    show (kptB ns t && true) = _
    rw [Bool.and_true]
  cases x with
  | eit ws => exact absurd rfl (hne ws)
  | pair c d =>
    have h : wo ns c.i = wo ns d.i → wo ns c.v = wo ns d.v := h
    show cntK ns [[lessF c.i d.i], [lessF d.i c.i], eqF c.i d.i ++ eqF c.v d.v] = 1
    rw [cnt_cons, cnt_cons, cnt_cons, cnt_nil, a1, a1, List.all_append, kb_eq, kb_eq, kb_less, kb_less]
    by_cases h1 : wo ns c.i < wo ns d.i
    · rw [decide_eq_true h1, decide_eq_false (show ¬ wo ns d.i < wo ns c.i by omega), decide_eq_false (show ¬ wo ns c.i = wo ns d.i by omega)]
      rfl
    · by_cases h2 : wo ns d.i < wo ns c.i
      · rw [decide_eq_false h1, decide_eq_true h2, decide_eq_false (show ¬ wo ns c.i = wo ns d.i by omega)]
        rfl
      · have e := show wo ns c.i = wo ns d.i by omega
        rw [decide_eq_false h1, decide_eq_false h2, decide_eq_true e, decide_eq_true (h e)]
        rfl
  | wr c o a b =>
    have h : wo ns c.v = if wo ns c.i = wo ns a then wo ns b else wo ns (g0 vs) := h
    show cntK ns [[lessF c.i a] ++ eqF c.v (g0 vs), [lessF a c.i] ++ eqF c.v (g0 vs), eqF c.i a ++ eqF c.v b] = 1
    rw [cnt_cons, cnt_cons, cnt_cons, cnt_nil, List.all_append, List.all_append, List.all_append, a1, a1, kb_eq, kb_eq, kb_eq, kb_less, kb_less]
    by_cases e : wo ns c.i = wo ns a
    · rw [if_pos e] at h
      rw [decide_eq_false (show ¬ wo ns c.i < wo ns a by omega), decide_eq_false (show ¬ wo ns a < wo ns c.i by omega), decide_eq_true e, decide_eq_true h]
      rfl
    · rw [if_neg e] at h
      rw [decide_eq_true h, decide_eq_false e]
      by_cases h1 : wo ns c.i < wo ns a
      · rw [decide_eq_true h1, decide_eq_false (show ¬ wo ns a < wo ns c.i by omega)]
        rfl
      · rw [decide_eq_false h1, decide_eq_true (show wo ns a < wo ns c.i by omega)]
        rfl
  | all n lo hi g fm f =>
    show cntK ns (tsF ([lessF f lo, atmF hi f] ++ [lessF f (0, 0), atmF (LN ls n) f]) (wyF g (g0 vs) fm)) = 1
    rw [cnt_ts]
    by_cases ha : ([lessF f lo, atmF hi f] ++ [lessF f (0, 0), atmF (LN ls n) f]).any (kptB ns) = true
    · rw [if_pos ha]
    · rw [if_neg ha]
      have q1 := no_less (any_no ha (t := lessF f lo) (by simp))
      have q2 := no_atm (any_no ha (t := atmF hi f) (by simp))
      have q3 := no_less (any_no ha (t := lessF f (0, 0)) (by simp))
      have q4 := no_atm (any_no ha (t := atmF (LN ls n) f) (by simp))
      rw [wo_zero] at q3
      exact cnt_wy (h q1 q2 q3 q4)
  | mat n lo hi g o c f =>
    show cntK ns (tsF ([lessF f lo, atmF hi f] ++ [lessF f (0, 0), atmF (LN ls n) f] ++ [atmF (LN ls o) f]) (wyF g (g0 vs) ((g1 vs).1, (g1 vs).2 + c))) = 1
    rw [cnt_ts]
    by_cases ha : ([lessF f lo, atmF hi f] ++ [lessF f (0, 0), atmF (LN ls n) f] ++ [atmF (LN ls o) f]).any (kptB ns) = true
    · rw [if_pos ha]
    · rw [if_neg ha]
      have q1 := no_less (any_no ha (t := lessF f lo) (by simp))
      have q2 := no_atm (any_no ha (t := atmF hi f) (by simp))
      have q3 := no_less (any_no ha (t := lessF f (0, 0)) (by simp))
      have q4 := no_atm (any_no ha (t := atmF (LN ls n) f) (by simp))
      have q5 := no_atm (any_no ha (t := atmF (LN ls o) f) (by simp))
      rw [wo_zero] at q3
      exact cnt_wy (by rw [wo_plus]; exact h q1 q2 q3 q4 q5)
  | srt n lo hi f g =>
    show cntK ns (tsF [lessF f lo, lessF g f, atmF hi g, lessF f (0, 0), atmF (LN ls n) g] [[atmF (g0 vs) (g1 vs)]]) = 1
    rw [cnt_ts]
    by_cases ha : ([lessF f lo, lessF g f, atmF hi g, lessF f (0, 0), atmF (LN ls n) g] : List T3).any (kptB ns) = true
    · rw [if_pos ha]
    · rw [if_neg ha]
      have q1 := no_less (any_no ha (t := lessF f lo) (by simp))
      have q2 := no_less (any_no ha (t := lessF g f) (by simp))
      have q3 := no_atm (any_no ha (t := atmF hi g) (by simp))
      have q4 := no_less (any_no ha (t := lessF f (0, 0)) (by simp))
      have q5 := no_atm (any_no ha (t := atmF (LN ls n) g) (by simp))
      rw [wo_zero] at q4
      exact cnt_one1 (by rw [kb_atm]; exact decide_eq_true (h q1 q2 q3 q4 q5))
  | bel n lo hi o a b f g =>
    show cntK ns (tsF (([lessF f lo, atmF hi f] ++ [lessF f (0, 0), atmF (LN ls n) f]) ++ ([lessF g a, atmF b g] ++ [lessF g (0, 0), atmF (LN ls o) g])) [[atmF (g0 vs) (g1 vs)]]) = 1
    rw [cnt_ts]
    by_cases ha : (([lessF f lo, atmF hi f] ++ [lessF f (0, 0), atmF (LN ls n) f]) ++ ([lessF g a, atmF b g] ++ [lessF g (0, 0), atmF (LN ls o) g])).any (kptB ns) = true
    · rw [if_pos ha]
    · rw [if_neg ha]
      have q1 := no_less (any_no ha (t := lessF f lo) (by simp))
      have q2 := no_atm (any_no ha (t := atmF hi f) (by simp))
      have q3 := no_less (any_no ha (t := lessF f (0, 0)) (by simp))
      have q4 := no_atm (any_no ha (t := atmF (LN ls n) f) (by simp))
      have q5 := no_less (any_no ha (t := lessF g a) (by simp))
      have q6 := no_atm (any_no ha (t := atmF b g) (by simp))
      have q7 := no_less (any_no ha (t := lessF g (0, 0)) (by simp))
      have q8 := no_atm (any_no ha (t := atmF (LN ls o) g) (by simp))
      rw [wo_zero] at q3 q7
      exact cnt_one1 (by rw [kb_atm]; exact decide_eq_true (h q1 q2 q3 q4 q5 q6 q7 q8))
theorem cnt_eit {ws : List (List T3)} (h : ∃ w, w ∈ ws ∧ ∀ t, t ∈ w → kptB ns t = true) : 0 < cntK ns ws := by
  obtain ⟨w, hw, ht⟩ := h
  unfold cntK
  exact List.length_pos_of_mem (List.mem_filter.mpr ⟨hw, List.all_eq_true.mpr ht⟩)
end
/-! ### values that grow -/
theorem wo_ext {ns xs : List Int} {f : Fm} (h : fok ns.length f) : wo (ns ++ xs) f = wo ns f := by
  obtain ⟨h0, h1⟩ := h
  unfold wo
  by_cases e : f.1 = 0
  · rw [if_pos e, if_pos e]
  · rw [if_neg e, if_neg e, List.getD_eq_getElem?_getD, List.getD_eq_getElem?_getD, List.getElem?_append_left (by omega)]
/-- cells whose values are those of the state -/
structure CX (nl n0 : Nat) (nv : List Int) (th : Nat → Int → Int) (cs : List Ce) : Prop where
  s : ∀ c, c ∈ cs → c.n < nl ∧ fok n0 c.i ∧ (-1000 ≤ wo nv c.i ∧ wo nv c.i ≤ 1001) ∧ fok nv.length c.v ∧ wo nv c.v = th c.n (wo nv c.i)
  u : KeyU cs
theorem CX.ext {nl n0 : Nat} {nv xs : List Int} {th : Nat → Int → Int} {cs : List Ce} (h : CX nl n0 nv th cs) (hn : n0 ≤ nv.length) : CX nl n0 (nv ++ xs) th cs := ⟨fun c hc => by
  obtain ⟨h1, h2, h3, h4, h5⟩ := h.s c hc
  have e1 : wo (nv ++ xs) c.i = wo nv c.i := wo_ext ⟨h2.1, by have := h2.2; omega⟩
  rw [e1, wo_ext h4]
  exact ⟨h1, h2, h3, ⟨h4.1, by rw [List.length_append]; have := h4.2; omega⟩, h5⟩, h.u⟩
/-- one cell more, with its value at the end -/
theorem CX.add {nl n0 : Nat} {nv : List Int} {th : Nat → Int → Int} {cs : List Ce} {n : Nat} {f : Fm} (h : CX nl n0 nv th cs) (hn : n0 ≤ nv.length) (h1 : n < nl) (h2 : fok n0 f) (h3 : -1000 ≤ wo nv f ∧ wo nv f ≤ 1001) (no : ∀ c, c ∈ cs → ¬ (c.n, c.i) = (n, f)) :
    CX nl n0 (nv ++ [th n (wo nv f)]) th (cs ++ [⟨n, f, ((nv.length : Nat) + 1, 0)⟩]) := by
  have hx := h.ext (xs := [th n (wo nv f)]) hn
  have ef : wo (nv ++ [th n (wo nv f)]) f = wo nv f := wo_ext ⟨h2.1, by have := h2.2; omega⟩
  have ev : wo (nv ++ [th n (wo nv f)]) (((nv.length : Nat) : Int) + 1, 0) = th n (wo nv f) := by
    generalize th n (wo nv f) = z
    have h1 : wo (nv ++ [z]) (((nv.length : Nat) : Int) + 1, 0) = (nv ++ [z]).getD ((((nv.length : Nat) : Int) + 1) - 1).toNat 0 + 0 := if_neg (by show ¬ ((nv.length : Nat) : Int) + 1 = 0; omega)
    rw [h1, show ((((nv.length : Nat) : Int) + 1) - 1).toNat = nv.length by omega, List.getD_eq_getElem?_getD, List.getElem?_append_right (Nat.le_refl _), Nat.sub_self]
    exact Int.add_zero z
  refine ⟨fun c hc => ?_, ?_⟩
  · rcases List.mem_append.mp hc with hc | hc
    · exact hx.s c hc
    · rw [List.mem_singleton.mp hc]
      show n < nl ∧ fok n0 f ∧ _ ∧ fok _ _ ∧ wo _ _ = th n (wo _ f)
      rw [ef, ev]
      exact ⟨h1, h2, h3, ⟨by show 0 ≤ ((nv.length : Nat) : Int) + 1; omega, by rw [List.length_append]; show ((nv.length : Nat) : Int) + 1 ≤ ((nv.length + 1 : Nat) : Int); omega⟩, rfl⟩
  · show ((cs ++ [_]).map fun c : Ce => (c.n, c.i)).Nodup
    rw [List.map_append]
    refine List.nodup_append.mpr ⟨h.u, List.nodup_cons.mpr ⟨List.not_mem_nil, List.nodup_nil⟩, fun a ha b hb e => ?_⟩
    obtain ⟨c, hc, rfl⟩ := List.mem_map.mp ha
    rw [List.mem_singleton.mp hb] at e
    exact no c hc e
end SW

namespace SW
open PySem PySem.Spec PyProof.Rows L2
abbrev s_l_made : Stmt := topS 48
theorem sc_l_made : FnScope ["world", "fresh", "known"] ["world", "fresh"] (defScope s_l_made) := ⟨rfl, rfl, rfl, by decide +kernel, rfl, by decide +kernel, by decide +kernel⟩

abbrev s_l_splits : Stmt := topS 49
theorem sc_l_splits : FnScope ["known", "indexes", "draws", "found", "m", "n", "q", "kind", "s"] ["known", "indexes", "draws"] (defScope s_l_splits) := ⟨rfl, rfl, rfl, by decide +kernel, rfl, by decide +kernel, by decide +kernel⟩

abbrev s_l_kept : Stmt := topS 50
theorem sc_l_kept : FnScope ["way", "values", "u", "v", "c"] ["way", "values"] (defScope s_l_kept) := ⟨rfl, rfl, rfl, by decide +kernel, rfl, by decide +kernel, by decide +kernel⟩

structure CkK (K : PySem.W.Frag) (C : Addr) where
  f : Addr
  fd : FuncData
  F : Fun K "__init__" "Known.__init__" s_Known f fd
  b : Binds K fd ["self", "many", "differences", "lists", "cells", "taken", "fresh"] []
  M : Mk K C f
structure CkM (K : PySem.W.Frag) (C : Addr) (x q : PySem.Str) (s : Stmt) (ps : List PySem.Str) where
  f : Addr
  fd : FuncData
  F : Fun K x q s f fd
  b : Binds K fd ps []
  M : Meth K C x f
theorem kit_list {K : PySem.W.Frag} : PySem.W.kitOne K (.type "list") (.type "list") = some true := kit_ty (by decide +kernel)
theorem seq_chg {K : PySem.W.Frag} {H G J : Hp} {S : List Addr} {a : Addr} {xs : List V} (h : SqL K H a xs) (s : Same H G) (n : ∀ c, c ∈ S → H c = none) (g : Chg S G J) : SqL K J a xs := by
  have ne : ∀ {o : HO}, H a = some o → a ∉ S := fun h1 hb => by
    rw [n _ hb] at h1
    cases h1
  rcases h with (h | ⟨o, h⟩) | h
  · exact .inl (.inl (g _ _ (ne h) (s _ _ h)))
  · exact .inl (.inr ⟨o, g _ _ (ne h) (s _ _ h)⟩)
  · exact .inr h
theorem int_ref {K : PySem.W.Frag} {H : Hp} {m : Int} {xs ys : List V} {ds : List PyData} (h : DpAll K H xs ds) (hd : ∀ d, d ∈ ds → ∀ n : Int, d ≠ .int n) (e : xs = .int m :: ys) : False := by
  subst e
  cases h with
  | cons h1 h2 =>
    cases h1
    exact hd _ List.mem_cons_self m rfl
theorem mem_foldl {l acc : List Fm} {f : Fm} (h : f ∈ l.foldl addF acc) : f ∈ acc ∨ f ∈ l := by
  induction l generalizing acc with
  | nil => exact .inl h
  | cons g r ih =>
    rcases ih (acc := addF acc g) h with h | h
    · unfold addF at h
      split at h
      · exact .inl h
      · rcases List.mem_append.mp h with h | h
        · exact .inl h
        · exact .inr (by rw [List.mem_singleton.mp h]; exact List.mem_cons_self)
    · exact .inr (List.mem_cons_of_mem _ h)
theorem mem_dd' {l : List Fm} {f : Fm} (h : f ∈ dd l) : f ∈ l := (mem_foldl (acc := []) h).elim (fun h => (List.not_mem_nil h).elim) id
theorem ix_len {ns : List Int} {bs : List T3} {ls : List Ld} {ps : List Pr} {fs : List Fm} {N : Nat} {cs : List Ce} (S : SC ns bs ls ps fs) (c : CT N cs) (hN : N ≤ 100) : (dd (ixs ls cs ps fs)).length ≤ 200 := by
  have h2 := dd_len (ixs ls cs ps fs)
  have h3 := fix_le ls
  have h4 := pix_le ps
  have h5 : (ixs ls cs ps fs).length ≤ 200 := by
    unfold ixs
    simp only [List.length_append, List.length_map, List.length_cons, List.length_nil]
    have := S.f1
    have := c.n
    have := S.l1
    have := S.p1
    omega
  omega
def AllT (q : T3 → Prop) (w : List T3) : Prop := ∀ t, t ∈ w → q t
theorem AllT.nil {q : T3 → Prop} : AllT q [] := fun t h => (List.not_mem_nil h).elim
theorem AllT.cons {q : T3 → Prop} {t : T3} {w : List T3} (h : q t) (r : AllT q w) : AllT q (t :: w) := fun u hu => by
  rcases List.mem_cons.mp hu with rfl | hu
  · exact h
  · exact r u hu
theorem AllT.app {q : T3 → Prop} {w v : List T3} (h : AllT q w) (r : AllT q v) : AllT q (w ++ v) := fun u hu => (List.mem_append.mp hu).elim (h u) (r u)
theorem AllT.mono {q r : T3 → Prop} {w : List T3} (h : AllT q w) (m : ∀ t, q t → r t) : AllT r w := fun u hu => m u (h u hu)
/-- few ways, short ones, with small numbers -/
def WB (q : T3 → Prop) (n l : Nat) (ws : List (List T3)) : Prop := ws.length ≤ n ∧ ∀ x, x ∈ ws → x.length ≤ l ∧ AllT q x
theorem WB.nil {q : T3 → Prop} {n l : Nat} : WB q n l [] := ⟨Nat.zero_le _, fun x h => (List.not_mem_nil h).elim⟩
theorem WB.cons {q : T3 → Prop} {n l : Nat} {w : List T3} {ws : List (List T3)} (h : w.length ≤ l) (hq : AllT q w) (r : WB q n l ws) : WB q (n + 1) l (w :: ws) := ⟨Nat.succ_le_succ r.1, fun x hx => by
  rcases List.mem_cons.mp hx with rfl | hx
  · exact ⟨h, hq⟩
  · exact r.2 x hx⟩
theorem WB.mono {q r : T3 → Prop} {n n' l l' : Nat} {ws : List (List T3)} (h : WB q n l ws) (h1 : n ≤ n') (h2 : l ≤ l') (m : ∀ t, q t → r t) : WB r n' l' ws := ⟨Nat.le_trans h.1 h1, fun x hx => ⟨Nat.le_trans (h.2 x hx).1 h2, (h.2 x hx).2.mono m⟩⟩

/-- forms and differences of one sort -/
structure FQ (Fo : Fm → Prop) (q : T3 → Prop) : Prop where
  l : ∀ f g, Fo f → Fo g → q (lessF f g)
  a : ∀ f g, Fo f → Fo g → q (atmF f g)
  o : ∀ t, q t → q (oppF t)
  z : Fo (0, 0)
  p : ∀ f c, Fo f → Fo (f.1, f.2 + c)
def Sx.allF (Fo : Fm → Prop) (q : T3 → Prop) (ls : List Ld) : Sx → Prop
  | .pair c d => Fo c.i ∧ Fo c.v ∧ Fo d.i ∧ Fo d.v
  | .wr c _ a b => Fo c.i ∧ Fo c.v ∧ Fo a ∧ Fo b
  | .eit ws => WB q 30 30 ws
  | .all n lo hi _ fm f => Fo (LN ls n) ∧ Fo lo ∧ Fo hi ∧ Fo fm ∧ Fo f
  | .mat n lo hi _ o _ f => Fo (LN ls n) ∧ Fo (LN ls o) ∧ Fo lo ∧ Fo hi ∧ Fo f
  | .srt n lo hi f g => Fo (LN ls n) ∧ Fo lo ∧ Fo hi ∧ Fo f ∧ Fo g
  | .bel n lo hi o a b f g => Fo (LN ls n) ∧ Fo (LN ls o) ∧ Fo lo ∧ Fo hi ∧ Fo a ∧ Fo b ∧ Fo f ∧ Fo g
section
variable {Fo : Fm → Prop} {q : T3 → Prop}
theorem eq_q (Q : FQ Fo q) {f g : Fm} (hf : Fo f) (hg : Fo g) : AllT q (eqF f g) := .cons (Q.a _ _ hf hg) (.cons (Q.a _ _ hg hf) .nil)
theorem out_q (Q : FQ Fo q) {ls : List Ld} {n : Nat} {f : Fm} (hL : Fo (LN ls n)) (hf : Fo f) : AllT q (outF ls n f) := .cons (Q.l _ _ hf Q.z) (.cons (Q.a _ _ hL hf) .nil)
theorem wy_q (Q : FQ Fo q) {g : PySem.Str} {f h : Fm} (hf : Fo f) (hh : Fo h) : WB q 2 2 (wyF g f h) := by
  have one : ∀ z : T3, q z → WB q 2 2 [[z]] := fun z hz => (WB.cons (n := 0) (by show 1 ≤ 2; decide) (.cons hz .nil) .nil).mono (by decide) (Nat.le_refl _) fun _ h => h
  unfold wyF
  split
  · exact one _ (Q.l _ _ hf hh)
  split
  · exact one _ (Q.a _ _ hf hh)
  split
  · exact one _ (Q.l _ _ hh hf)
  split
  · exact one _ (Q.a _ _ hh hf)
  split
  · exact (WB.cons (n := 0) (by show 2 ≤ 2; decide) (eq_q Q hf hh) .nil).mono (by decide) (Nat.le_refl _) fun _ h => h
  · exact WB.cons (by show 1 ≤ 2; decide) (.cons (Q.l _ _ hf hh) .nil) (WB.cons (n := 0) (by show 1 ≤ 2; decide) (.cons (Q.l _ _ hh hf) .nil) .nil)
theorem ts_q (Q : FQ Fo q) {ts : List T3} {ws : List (List T3)} (hl : ts.length ≤ 8) (ht : AllT q ts) (hw : WB q 2 2 ws) : WB q 30 30 (tsF ts ws) := by
  have op : AllT q (ts.map oppF) := fun u hu => by
    obtain ⟨t, h1, rfl⟩ := List.mem_map.mp hu
    exact Q.o _ (ht t h1)
  refine ⟨?_, fun x hx => ?_⟩
  · unfold tsF
    rw [List.length_append, fdF_len, List.length_map]
    have := hw.1
    omega
  · unfold tsF at hx
    rcases List.mem_append.mp hx with hx | hx
    · unfold fdF at hx
      obtain ⟨j, hj, rfl⟩ := List.mem_map.mp hx
      have hj := List.mem_range.mp hj
      refine ⟨?_, AllT.app (fun u hu => ?_) (.cons ?_ .nil)⟩
      · rw [List.length_append, List.length_map, List.length_take]
        show _ + 1 ≤ 30
        omega
      · obtain ⟨t, h1, rfl⟩ := List.mem_map.mp hu
        exact Q.o _ (ht t (List.mem_of_mem_take h1))
      · rw [List.getD_eq_getElem?_getD, List.getElem?_eq_getElem hj]
        exact ht _ (List.getElem_mem hj)
    · obtain ⟨v, hv, rfl⟩ := List.mem_map.mp hx
      obtain ⟨h1, h2⟩ := hw.2 v hv
      refine ⟨?_, AllT.app op h2⟩
      rw [List.length_append, List.length_map]
      omega
theorem ways_q (Q : FQ Fo q) {ls : List Ld} {vs : List Fm} {x : Sx} (hx : x.allF Fo q ls) (h0 : Fo (g0 vs)) (h1 : Fo (g1 vs)) : WB q 30 30 (waysF ls vs x) := by
  have one : WB q 2 2 [[atmF (g0 vs) (g1 vs)]] := (WB.cons (n := 0) (by show 1 ≤ 2; decide) (.cons (Q.a _ _ h0 h1) .nil) .nil).mono (by decide) (Nat.le_refl _) fun _ h => h
  cases x with
  | pair c d =>
    obtain ⟨a1, a2, a3, a4⟩ := hx
    have r : WB q 3 4 (pairW c d) := WB.cons (by show 1 ≤ 4; decide) (.cons (Q.l _ _ a1 a3) .nil) (WB.cons (by show 1 ≤ 4; decide) (.cons (Q.l _ _ a3 a1) .nil) (WB.cons (by show 4 ≤ 4; decide) (AllT.app (eq_q Q a1 a3) (eq_q Q a2 a4)) .nil))
    exact r.mono (by decide) (by decide) fun _ h => h
  | wr c o a b =>
    obtain ⟨a1, a2, a3, a4⟩ := hx
    have r : WB q 3 4 (writeW c a b (g0 vs)) := WB.cons (by show 3 ≤ 4; decide) (AllT.app (.cons (Q.l _ _ a1 a3) .nil) (eq_q Q a2 h0)) (WB.cons (by show 3 ≤ 4; decide) (AllT.app (.cons (Q.l _ _ a3 a1) .nil) (eq_q Q a2 h0)) (WB.cons (by show 4 ≤ 4; decide) (AllT.app (eq_q Q a1 a3) (eq_q Q a2 a4)) .nil))
    exact r.mono (by decide) (by decide) fun _ h => h
  | eit ws => exact hx
  | all n lo hi g fm f =>
    obtain ⟨hn, a1, a2, a3, a4⟩ := hx
    exact ts_q Q (by show 4 ≤ 8; decide) (AllT.app (.cons (Q.l _ _ a4 a1) (.cons (Q.a _ _ a2 a4) .nil)) (out_q Q hn a4)) (wy_q Q h0 a3)
  | mat n lo hi g o c f =>
    obtain ⟨hn, ho, a1, a2, a4⟩ := hx
    exact ts_q Q (by show 5 ≤ 8; decide) (AllT.app (AllT.app (.cons (Q.l _ _ a4 a1) (.cons (Q.a _ _ a2 a4) .nil)) (out_q Q hn a4)) (.cons (Q.a _ _ ho a4) .nil)) (wy_q Q h0 (Q.p _ _ h1))
  | srt n lo hi f g =>
    obtain ⟨hn, a1, a2, a3, a4⟩ := hx
    exact ts_q Q (by show 5 ≤ 8; decide) (.cons (Q.l _ _ a3 a1) (.cons (Q.l _ _ a4 a3) (.cons (Q.a _ _ a2 a4) (.cons (Q.l _ _ a3 Q.z) (.cons (Q.a _ _ hn a4) .nil))))) one
  | bel n lo hi o a b f g =>
    obtain ⟨hn, ho, a1, a2, a3, a4, a5, a6⟩ := hx
    exact ts_q Q (by show 8 ≤ 8; decide) (AllT.app (AllT.app (.cons (Q.l _ _ a5 a1) (.cons (Q.a _ _ a2 a5) .nil)) (out_q Q hn a5)) (AllT.app (.cons (Q.l _ _ a6 a3) (.cons (Q.a _ _ a4 a6) .nil)) (out_q Q ho a6))) one
end
/-- differences between numbers that are there -/
def inN (N : Nat) (t : T3) : Prop := (0 ≤ t.1 ∧ t.1 ≤ N) ∧ (0 ≤ t.2.1 ∧ t.2.1 ≤ N)
theorem fq_in (N : Nat) : FQ (fok N) (inN N) := ⟨fun f g hf hg => ⟨hf, hg⟩, fun f g hf hg => ⟨hf, hg⟩, fun t h => ⟨h.2, h.1⟩, ⟨Int.le_refl _, by show (0 : Int) ≤ (N : Nat); omega⟩, fun f c h => h⟩
/-! ### what the state makes true -/
theorem sx_true {ls : List Ld} {rf : Nat → Ru} {ns xs : List Int} {ps : List Pr} {cs : List Ce} {is : List Fm} {wd : PySem.Str} {zs : List Int} {x : Sx} {vs : List Fm} (lok : LsOk ns.length ls) (cx : CX ls.length ns.length (ns ++ xs) (TH ls rf ns) cs) (hps : ∀ p, p ∈ ps → p.ok ls.length ns ∧ PrT ls rf ns p) (his : ∀ f, f ∈ is → fok ns.length f)
    (h : Fit ls cs ps is wd zs x) (hvs : ∀ (j : Nat) (s : Nat × Fm), (spotsF x)[j]? = some s → wo (ns ++ xs) (vs.getD j (0, 0)) = TH ls rf ns s.1 (wo (ns ++ xs) s.2)) : SxT ls (ns ++ xs) vs x := by
  have e : ∀ {f : Fm}, fok ns.length f → wo (ns ++ xs) f = wo ns f := fun h => wo_ext h
  have gi : ∀ {s : Nat} {f : Fm}, is[s]? = some f → fok ns.length f := fun h => his _ (List.mem_of_getElem? h)
  have gc : ∀ {i : Nat} {c : Ce}, cs[i]? = some c → wo (ns ++ xs) c.v = TH ls rf ns c.n (wo (ns ++ xs) c.i) := fun h => (cx.s _ (List.mem_of_getElem? h)).2.2.2.2
  have gp : ∀ {i : Nat} {p : Pr}, ps[i]? = some p → p.ok ls.length ns ∧ PrT ls rf ns p := fun h => hps _ (List.mem_of_getElem? h)
  have eL : ∀ {n : Nat}, n < ls.length → wo (ns ++ xs) (LN ls n) = wo ns (LN ls n) := fun h => e (LN_ok lok _ _ (Nat.le_refl _) h)
  cases x with
  | pair c d =>
    obtain ⟨_, i, j, _, _, h1, h2, h3⟩ := h
    intro hi
    rw [gc h1, gc h2, hi, h3]
  | wr c o a b =>
    obtain ⟨_, i, _, h1, h2⟩ := h
    obtain ⟨_, h4, h5⟩ := lok _ _ h2
    show wo (ns ++ xs) c.v = if wo (ns ++ xs) c.i = wo (ns ++ xs) a then wo (ns ++ xs) b else wo (ns ++ xs) (g0 vs)
    rw [gc h1, TH_wr lok h2, e h4, e h5, show wo (ns ++ xs) (g0 vs) = _ from hvs 0 (o, c.i) rfl]
  | eit ws =>
    obtain ⟨_, i, _, h1⟩ := h
    obtain ⟨⟨_, h2⟩, w, hw, ht⟩ := gp h1
    refine ⟨w, hw, fun t htm => ?_⟩
    obtain ⟨b1, b2⟩ := (h2 w hw).2 t htm
    have := ht t htm
    unfold kpt at this
    unfold kptB
    rw [e (f := (t.1, 0)) b1, e (f := (t.2.1, 0)) b2]
    exact decide_eq_true this
  | all n lo hi g fm f =>
    obtain ⟨_, i, s, _, h1, h2⟩ := h
    obtain ⟨⟨a1, a2, a3, a4, a5, _⟩, ht⟩ := gp h1
    intro q1 q2 q3 q4
    rw [show wo (ns ++ xs) (g0 vs) = _ from hvs 0 (n, f) rfl]
    show cmpF g (TH ls rf ns n (wo (ns ++ xs) f)) (wo (ns ++ xs) fm) = true
    rw [e (gi h2), e a2.1] at q1
    rw [e (gi h2), e a3.1] at q2
    rw [e (gi h2)] at q3
    rw [e (gi h2), eL a1] at q4
    rw [e (gi h2), e a5]
    exact ht _ ⟨q3, q4, q1, q2⟩
  | mat n lo hi g o c f =>
    obtain ⟨_, i, s, _, h1, h2⟩ := h
    obtain ⟨⟨a1, a2, a3, a4, a5, _⟩, ht⟩ := gp h1
    intro q1 q2 q3 q4 q5
    rw [show wo (ns ++ xs) (g0 vs) = _ from hvs 0 (n, f) rfl, show wo (ns ++ xs) (g1 vs) = _ from hvs 1 (o, f) rfl]
    show cmpF g (TH ls rf ns n (wo (ns ++ xs) f)) (TH ls rf ns o (wo (ns ++ xs) f) + c) = true
    rw [e (gi h2), e a2.1] at q1
    rw [e (gi h2), e a3.1] at q2
    rw [e (gi h2)] at q3
    rw [e (gi h2), eL a1] at q4
    rw [e (gi h2), eL a5] at q5
    rw [e (gi h2)]
    exact ht _ ⟨q3, q4, q1, q2⟩ ⟨q3, q5, q1, q2⟩
  | srt n lo hi f g =>
    obtain ⟨_, i, s, r, _, h1, h2, h3⟩ := h
    obtain ⟨⟨a1, a2, a3⟩, ht⟩ := gp h1
    intro q1 q2 q3 q4 q5
    rw [show wo (ns ++ xs) (g0 vs) = _ from hvs 0 (n, f) rfl, show wo (ns ++ xs) (g1 vs) = _ from hvs 1 (n, g) rfl]
    show TH ls rf ns n (wo (ns ++ xs) f) ≤ TH ls rf ns n (wo (ns ++ xs) g)
    rw [e (gi h2), e a2.1] at q1
    rw [e (gi h2), e (gi h3)] at q2
    rw [e (gi h3), e a3.1] at q3
    rw [e (gi h2)] at q4
    rw [e (gi h3), eL a1] at q5
    rw [e (gi h2), e (gi h3)]
    exact ht _ _ ⟨q4, by omega, q1, by omega⟩ ⟨by omega, q5, by omega, q3⟩ q2
  | bel n lo hi o a b f g =>
    obtain ⟨_, i, s, r, _, h1, h2, h3⟩ := h
    obtain ⟨⟨a1, a2, a3, a4, a5, a6⟩, ht⟩ := gp h1
    intro q1 q2 q3 q4 q5 q6 q7 q8
    rw [show wo (ns ++ xs) (g0 vs) = _ from hvs 0 (n, f) rfl, show wo (ns ++ xs) (g1 vs) = _ from hvs 1 (o, g) rfl]
    show TH ls rf ns n (wo (ns ++ xs) f) ≤ TH ls rf ns o (wo (ns ++ xs) g)
    rw [e (gi h2), e a2.1] at q1
    rw [e (gi h2), e a3.1] at q2
    rw [e (gi h2)] at q3
    rw [e (gi h2), eL a1] at q4
    rw [e (gi h3), e a5.1] at q5
    rw [e (gi h3), e a6.1] at q6
    rw [e (gi h3)] at q7
    rw [e (gi h3), eL a4] at q8
    rw [e (gi h2), e (gi h3)]
    exact ht _ _ ⟨q3, q4, q1, q2⟩ ⟨q7, q8, q5, q6⟩
theorem sx_in {ls : List Ld} {rf : Nat → Ru} {ns xs : List Int} {ps : List Pr} {cs : List Ce} {is : List Fm} {wd : PySem.Str} {zs : List Int} {x : Sx} (lok : LsOk ns.length ls) (cx : CX ls.length ns.length (ns ++ xs) (TH ls rf ns) cs) (hps : ∀ p, p ∈ ps → p.ok ls.length ns ∧ p.fin ns) (his : ∀ f, f ∈ is → fok ns.length f) (h : Fit ls cs ps is wd zs x) : x.allF (fok (ns ++ xs).length) (inN (ns ++ xs).length) ls := by
  have up : ∀ {f : Fm}, fok ns.length f → fok (ns ++ xs).length f := fun h => ⟨h.1, by rw [List.length_append]; have := h.2; omega⟩
  have gi : ∀ {s : Nat} {f : Fm}, is[s]? = some f → fok (ns ++ xs).length f := fun h => up (his _ (List.mem_of_getElem? h))
  have gc : ∀ {i : Nat} {c : Ce}, cs[i]? = some c → fok (ns ++ xs).length c.i ∧ fok (ns ++ xs).length c.v := fun h => by
    obtain ⟨_, h2, _, h4, _⟩ := cx.s _ (List.mem_of_getElem? h)
    exact ⟨up h2, h4⟩
  have gp : ∀ {i : Nat} {p : Pr}, ps[i]? = some p → p.ok ls.length ns ∧ p.fin ns := fun h => hps _ (List.mem_of_getElem? h)
  have eL : ∀ {n : Nat}, n < ls.length → fok (ns ++ xs).length (LN ls n) := fun h => up (LN_ok lok _ _ (Nat.le_refl _) h)
  cases x with
  | pair c d =>
    obtain ⟨_, i, j, _, _, h1, h2, h3⟩ := h
    exact ⟨(gc h1).1, (gc h1).2, (gc h2).1, (gc h2).2⟩
  | wr c o a b =>
    obtain ⟨_, i, _, h1, h2⟩ := h
    obtain ⟨_, h4, h5⟩ := lok _ _ h2
    exact ⟨(gc h1).1, (gc h1).2, up h4, up h5⟩
  | eit ws =>
    obtain ⟨_, i, _, h1⟩ := h
    obtain ⟨h2, h3⟩ : EitB ns ws := (gp h1).2
    refine ⟨by omega, fun x hx => ⟨by have := (h3 x hx).1; omega, fun t ht => ?_⟩⟩
    obtain ⟨b1, b2, _⟩ := (h3 x hx).2 t ht
    exact ⟨up (f := (t.1, 0)) b1, up (f := (t.2.1, 0)) b2⟩
  | all n lo hi g fm f =>
    obtain ⟨_, i, s, _, h1, h2⟩ := h
    obtain ⟨a1, a2, a3, a4, a5, _⟩ := (gp h1).1
    exact ⟨eL a1, up a2.1, up a3.1, up a5, gi h2⟩
  | mat n lo hi g o c f =>
    obtain ⟨_, i, s, _, h1, h2⟩ := h
    obtain ⟨a1, a2, a3, a4, a5, _⟩ := (gp h1).1
    exact ⟨eL a1, eL a5, up a2.1, up a3.1, gi h2⟩
  | srt n lo hi f g =>
    obtain ⟨_, i, s, r, _, h1, h2, h3⟩ := h
    obtain ⟨a1, a2, a3⟩ := (gp h1).1
    exact ⟨eL a1, up a2.1, up a3.1, gi h2, gi h3⟩
  | bel n lo hi o a b f g =>
    obtain ⟨_, i, s, r, _, h1, h2, h3⟩ := h
    obtain ⟨a1, a2, a3, a4, a5, a6⟩ := (gp h1).1
    exact ⟨eL a1, eL a4, up a2.1, up a3.1, up a5.1, up a6.1, gi h2, gi h3⟩
/-- the cells that are added, one after the other -/
theorem haves_new (m : Int) (cs : List Ce) : ∀ (n : Nat) (ss : List (Nat × Fm)), ss.length = n → ∃ r : List Ce, (haves m cs ss).2.1 = cs ++ r ∧ (haves m cs ss).1 = m + (r.length : Nat) ∧ r.length ≤ n ∧ ∀ (t : Nat) (c : Ce), r[t]? = some c → c.v = (m + (t : Nat) + 1, 0) ∧ (c.n, c.i) ∈ ss := by
  intro n
  induction n with
  | zero =>
    intro ss h
    cases ss with
    | cons a r => cases h
    | nil => exact ⟨[], (List.append_nil _).symm, by show m = m + 0; omega, Nat.le_refl _, fun t c h => by cases h⟩
  | succ n ih =>
    intro ss h
    obtain ⟨ss, s, rfl⟩ : ∃ r s, ss = r ++ [s] := by
      have hn : ss ≠ [] := fun e => by rw [e] at h; cases h
      exact ⟨ss.dropLast, ss.getLast hn, (List.dropLast_concat_getLast hn).symm⟩
    rw [List.length_append] at h
    have h : ss.length = n := Nat.succ.inj h
    obtain ⟨r, i1, i2, i3, i4⟩ := ih ss h
    rw [haves_snoc]
    unfold hstep
    have old : ∀ (t : Nat) (c : Ce), r[t]? = some c → c.v = (m + (t : Nat) + 1, 0) ∧ (c.n, c.i) ∈ ss ++ [s] := fun t c hc => ⟨(i4 t c hc).1, List.mem_append_left _ (i4 t c hc).2⟩
    cases hf : (haves m cs ss).2.1.find? fun c => decide ((c.n, c.i) = s) with
    | some d =>
      have e : have1 (haves m cs ss).1 (haves m cs ss).2.1 s = ((haves m cs ss).1, (haves m cs ss).2.1, d.v) := by
        unfold have1
        rw [hf]
      rw [e]
      exact ⟨r, i1, i2, Nat.le_succ_of_le i3, old⟩
    | none =>
      have e : have1 (haves m cs ss).1 (haves m cs ss).2.1 s = ((haves m cs ss).1 + 1, (haves m cs ss).2.1 ++ [⟨s.1, s.2, ((haves m cs ss).1 + 1, 0)⟩], ((haves m cs ss).1 + 1, 0)) := by
        unfold have1
        rw [hf]
      rw [e]
      refine ⟨r ++ [⟨s.1, s.2, ((haves m cs ss).1 + 1, 0)⟩], ?_, ?_, ?_, fun t c hc => ?_⟩
      · show (haves m cs ss).2.1 ++ [_] = _
        rw [i1, List.append_assoc]
      · show (haves m cs ss).1 + 1 = _
        rw [i2, List.length_append]
        show m + (r.length : Nat) + 1 = m + ((r.length + 1 : Nat) : Int)
        omega
      · rw [List.length_append]
        show r.length + 1 ≤ n + 1
        omega
      · by_cases hl : t < r.length
        · rw [List.getElem?_append_left hl] at hc
          exact old t c hc
        · rw [List.getElem?_append_right (by omega)] at hc
          have h0 : t - r.length = 0 := by
            have := (List.getElem?_eq_some_iff.mp hc).1
            rw [List.length_singleton] at this
            omega
          rw [h0] at hc
          cases hc
          refine ⟨?_, List.mem_append_right _ List.mem_cons_self⟩
          show ((haves m cs ss).1 + 1, 0) = ((m + (t : Nat) + 1, 0) : Fm)
          rw [i2, show t = r.length by omega]
/-! ### splits in a list -/
def spD (s : PySem.Str × List Int) : PyData := .tuple (.str s.1 :: s.2.map PyData.int)
theorem noLs_ints : ∀ zs : List Int, noLs (zs.map PyData.int) = true
  | [] => rfl
  | _ :: r => noLs_ints r
theorem noLs_sp : ∀ ss : List (PySem.Str × List Int), noLs (ss.map spD) = true
  | [] => rfl
  | s :: r => by
    show (noLs (s.2.map PyData.int) && noLs (r.map spD)) = true
    rw [noLs_ints, noLs_sp r]
    rfl
theorem dp_sp {K : PySem.W.Frag} {H : Hp} {p : Addr} {wd : PySem.Str} {zs : List Int} (h : SqT K H p (.str wd :: zs.map V.int)) : Dp K H (.ref p) (spD (wd, zs)) := .tup h (.cons (.str _) (dpa_ints zs))
theorem sp_inv {K : PySem.W.Frag} {H : Hp} {v : V} {s : PySem.Str × List Int} (h : Dp K H v (spD s)) : ∃ p, v = .ref p ∧ SqT K H p (.str s.1 :: s.2.map V.int) := by
  obtain ⟨t, us, rfl, ht, ha⟩ := dp_tup_inv h
  cases ha with
  | cons h1 h2 =>
    cases dp_str_inv h1
    rw [dpa_ints' h2] at ht
    exact ⟨t, rfl, ht⟩
def Good (ls : List Ld) (cs : List Ce) (ps : List Pr) (is : List Fm) (s : PySem.Str × List Int) : Prop := s.1 ∈ wds ∧ s.2.length ≤ 4 ∧ ∃ x, Fit ls cs ps is s.1 s.2 x
/-- splits found so far -/
structure Spl (K : PySem.W.Frag) (H G : Hp) (F : Addr) (N : Nat) (go : PySem.Str × List Int → Prop) : Prop where
  n : H F = none
  s : Same H G
  ex : ∃ (xs : List V) (ss : List (PySem.Str × List Int)), G F = some (.lst xs) ∧ DpAll K G xs (ss.map spD) ∧ (∀ s, s ∈ ss → go s) ∧ ss.length ≤ N
theorem Spl.mono {K : PySem.W.Frag} {H G : Hp} {F : Addr} {N M : Nat} {go : PySem.Str × List Int → Prop} (h : Spl K H G F N go) (l : N ≤ M) : Spl K H G F M go := by
  obtain ⟨xs, ss, h1, h2, h3, h4⟩ := h.ex
  exact ⟨h.n, h.s, xs, ss, h1, h2, h3, Nat.le_trans h4 l⟩
theorem Spl.same {K : PySem.W.Frag} {H G J : Hp} {F : Addr} {N : Nat} {go : PySem.Str × List Int → Prop} (h : Spl K H G F N go) (s : Same G J) : Spl K H J F N go := by
  obtain ⟨xs, ss, h1, h2, h3, h4⟩ := h.ex
  exact ⟨h.n, h.s.trans s, xs, ss, s _ _ h1, dpa_same s _ _ h2, h3, h4⟩
/-- one more at the end -/
theorem Spl.add {K : PySem.W.Frag} {H G : Hp} {F : Addr} {N : Nat} {go : PySem.Str × List Int → Prop} (h : Spl K H G F N go) (hN : N ≤ 9000) {p : Addr} (n : G p = none) {wd : PySem.Str} {zs : List Int} (hg : go (wd, zs)) :
    ∃ xs, (upd G p (.tup (.str wd :: zs.map V.int))) F = some (.lst xs) ∧ xs.length < sizeLine ∧ Spl K H (upd (upd G p (.tup (.str wd :: zs.map V.int))) F (.lst (xs ++ [.ref p]))) F (N + 1) go := by
  obtain ⟨xs, ss, h1, h2, h3, h4⟩ := h.ex
  have s1 := same_new (o := .tup (.str wd :: zs.map V.int)) n
  have ep : (upd G p (.tup (.str wd :: zs.map V.int))) p = some (.tup (.str wd :: zs.map V.int)) := upd_same
  generalize upd G p (.tup (.str wd :: zs.map V.int)) = J at s1 ep
  have hx : xs.length = ss.length := by rw [dpa_len h2, List.length_map]
  refine ⟨xs, s1 _ _ h1, small_sz5 (by omega), ⟨h.n, same_mut (h.s.trans s1) h.n, xs ++ [.ref p], ss ++ [(wd, zs)], upd_same, ?_, fun s hs => ?_, by rw [List.length_append]; exact Nat.succ_le_succ h4⟩⟩
  · rw [List.map_append]
    refine dpa_but (s1 _ _ h1) (fun b o hb e => (upd_ne hb).trans e) _ _ ?_ (dpa_snoc (dpa_same s1 _ _ h2) (dp_sp (SqT.of ep)))
    have := noLs_sp (ss ++ [(wd, zs)])
    rw [List.map_append] at this
    exact this
  · rcases List.mem_append.mp hs with hs | hs
    · exact h3 s hs
    · rw [List.mem_singleton.mp hs]
      exact hg
theorem good_pr {ls : List Ld} {cs : List Ce} {ps : List Pr} {is : List Fm} {q : Nat} {p : Pr} (hp : ps[q]? = some p) : (p.wd = "either" → Good ls cs ps is (p.wd, [(q : Int)])) ∧ ((p.wd = "all" ∨ p.wd = "match") → ∀ s : Nat, s < is.length → Good ls cs ps is (p.wd, [(q : Int), (s : Int)])) ∧ (¬ p.wd = "either" → ¬ p.wd = "all" → ¬ p.wd = "match" → ∀ s t : Nat, s < is.length → t < is.length → Good ls cs ps is (p.wd, [(q : Int), (s : Int), (t : Int)])) := by
  have gi : ∀ {s : Nat} (h : s < is.length), is[s]? = some is[s] := fun h => List.getElem?_eq_getElem h
  cases p with
  | eit ws => exact ⟨fun _ => ⟨by show ("either" : PySem.Str) ∈ wds; decide +kernel, by show 1 ≤ 4; decide, .eit ws, rfl, q, rfl, hp⟩, fun h => absurd h (by show ¬ (("either" : PySem.Str) = "all" ∨ ("either" : PySem.Str) = "match"); decide +kernel), fun h => absurd rfl h⟩
  | all n lo hi g f => exact ⟨fun h => absurd h (by show ¬ ("all" : PySem.Str) = "either"; decide +kernel), fun _ s hs => ⟨by show ("all" : PySem.Str) ∈ wds; decide +kernel, by show 2 ≤ 4; decide, .all n lo hi g f is[s], rfl, q, s, rfl, hp, gi hs⟩, fun _ h => absurd rfl h⟩
  | mat n lo hi g o c => exact ⟨fun h => absurd h (by show ¬ ("match" : PySem.Str) = "either"; decide +kernel), fun _ s hs => ⟨by show ("match" : PySem.Str) ∈ wds; decide +kernel, by show 2 ≤ 4; decide, .mat n lo hi g o c is[s], rfl, q, s, rfl, hp, gi hs⟩, fun _ _ h => absurd rfl h⟩
  | srt n lo hi => exact ⟨fun h => absurd h (by show ¬ ("sorted" : PySem.Str) = "either"; decide +kernel), fun h => absurd h (by show ¬ (("sorted" : PySem.Str) = "all" ∨ ("sorted" : PySem.Str) = "match"); decide +kernel), fun _ _ _ s t hs ht => ⟨by show ("sorted" : PySem.Str) ∈ wds; decide +kernel, by show 3 ≤ 4; decide, .srt n lo hi is[s] is[t], rfl, q, s, t, rfl, hp, gi hs, gi ht⟩⟩
  | bel n lo hi o a b => exact ⟨fun h => absurd h (by show ¬ ("below" : PySem.Str) = "either"; decide +kernel), fun h => absurd h (by show ¬ (("below" : PySem.Str) = "all" ∨ ("below" : PySem.Str) = "match"); decide +kernel), fun _ _ _ s t hs ht => ⟨by show ("below" : PySem.Str) ∈ wds; decide +kernel, by show 3 ≤ 4; decide, .bel n lo hi o a b is[s] is[t], rfl, q, s, t, rfl, hp, gi hs, gi ht⟩⟩
section
variable {P : Program} {w : World} {K : PySem.W.Frag} {mg : PySem.Str → Option Value} {base : Heap} {C : Addr}
def spMade (P : Program) (w : World) (K : PySem.W.Frag) (C : Addr) : Sp := fun vs H Q _ => ∃ (q : La) (wt af : Addr) (u1 u2 : V) (m : Int) (bs : List T3) (ls : List Ld) (cs : List Ce) (ps : List Pr) (fs : List Fm) (xf : List V), vs = [.ref wt, .ref af] ∧ SqT K H wt [.ref q.kp, u1, u2] ∧ LkW K H q.kp q.ad q.al q.ac q.tk m bs ls cs ps ∧ H af = some (.lst xf) ∧ DpAll K H xf (fs.map f2) ∧ cs.length ≤ 1000 ∧
  ∀ (k : Ka) (H' : Hp), Same H H' → k.foot.Nodup → KnW P w K C H' k m bs ls cs ps fs → (∀ c, c ∈ k.foot → H c = none) → Q (.ref k.p) H'
theorem ok_l_made (T : TxK K mg C) (c_Known : CkK K C) (D_l_made : Df K mg "_law_made" s_l_made ["world", "fresh"]) : FnOk P w K mg base CX0 3 D_l_made.f D_l_made.fd ["world", "fresh"] (spMade P w K C) := by
  have M_Known := c_Known.M
  have G_Known := ok_Known (P := P) (w := w) (base := base) c_Known.F T
  have b_Known := c_Known.b
  refine D_l_made.F.ok sc_l_made (fun vs H Q E h => ?_) (fun cdv A outer s H vs Q E hr h => ?_)
  · obtain ⟨q, wt, af, u1, u2, m, bs, ls, cs, ps, fs, xf, rfl, _⟩ := h
    rfl
  · obtain ⟨q, wt, af, u1, u2, m, bs, ls, cs, ps, fs, xf, rfl, hw, lk, ef, df, hcl, qq⟩ := h
    refine ⟨_, (pss_cons (ps_set (i := 2) sc_l_made.nd rfl (.inl rfl) (pe_ix ix_tup (pv 0) pe_int (fun _ _ => rfl)))
    (pss_one (ps_ret (pe_make M_Known G_Known (hr.mono (by decide)) rfl T.mg_Known b_Known .nil pass0 (pa_cons (pe_ix ix_list (pv 2) pe_int (fun _ _ => rfl)) (pa_cons (pe_callTy call_list_of (by rfl) T.n_list (by decide +kernel) (pa_cons (pe_ix ix_list (pv 2) pe_int (fun _ _ => rfl)) pa_nil)) (pa_cons (pe_callTy call_list_of (by rfl) T.n_list (by decide +kernel) (pa_cons (pe_ix ix_list (pv 2) pe_int (fun _ _ => rfl)) pa_nil)) (pa_cons (pe_callTy call_list_of (by rfl) T.n_list (by decide +kernel) (pa_cons (pe_ix ix_list (pv 2) pe_int (fun _ _ => rfl)) pa_nil)) (pa_cons (pe_callTy call_list_of (by rfl) T.n_list (by decide +kernel) (pa_cons (pe_ix ix_list (pv 2) pe_int (fun _ _ => rfl)) pa_nil)) (pa_cons (pe_callTy call_list_of (by rfl) T.n_list (by decide +kernel) (pa_cons (pv 1) pa_nil)) pa_nil)))))))))), ?_⟩
    obtain ⟨xd, ed, dd'⟩ := lk.d
    obtain ⟨xl, el, dl⟩ := lk.l
    obtain ⟨xc, ec, dc⟩ := lk.c
    obtain ⟨xt, et, dt⟩ := lk.t
    refine ⟨_, rfl, wt, _, _, _, rfl, rfl, hw, atI_nat (j := 0) rfl, ?_⟩
    refine ⟨_, rfl, q.kp, _, _, _, rfl, rfl, SqL.of lk.k, atI_nat (j := 0) rfl, _, rfl, q.kp, _, _, _, rfl, rfl, SqL.of lk.k, atI_nat (j := 1) rfl, q.ad, xd, rfl, .inl (SqL.of ed), fun a1 m1 => ?_⟩
    generalize hK : upd H a1 _ = G1
    obtain ⟨r1, e1⟩ := new_of m1 hK
    refine ⟨_, rfl, q.kp, _, _, _, rfl, rfl, SqL.of (r1 _ _ lk.k), atI_nat (j := 2) rfl, q.al, xl, rfl, .inl (SqL.of (r1 _ _ el)), fun a2 m2 => ?_⟩
    generalize hK : upd G1 a2 _ = G2
    obtain ⟨r2, e2⟩ := new_of m2 hK
    have r12 := r1.trans r2
    refine ⟨_, rfl, q.kp, _, _, _, rfl, rfl, SqL.of (r12 _ _ lk.k), atI_nat (j := 3) rfl, q.ac, xc, rfl, .inl (SqL.of (r12 _ _ ec)), fun a3 m3 => ?_⟩
    generalize hK : upd G2 a3 _ = G3
    obtain ⟨r3, e3⟩ := new_of m3 hK
    have r13 := r12.trans r3
    refine ⟨_, rfl, q.kp, _, _, _, rfl, rfl, SqL.of (r13 _ _ lk.k), atI_nat (j := 4) rfl, q.tk, xt, rfl, .inl (SqL.of (r13 _ _ et)), fun a4 m4 => ?_⟩
    generalize hK : upd G3 a4 _ = G4
    obtain ⟨r4, e4⟩ := new_of m4 hK
    have r14 := r13.trans r4
    refine ⟨_, rfl, af, xf, rfl, .inl (SqL.of (r14 _ _ ef)), fun a5 m5 => ?_⟩
    generalize hK : upd G4 a5 _ = G5
    obtain ⟨r5, e5⟩ := new_of m5 hK
    have r15 := r14.trans r5
    have z1 := r5 _ _ (r4 _ _ (r3 _ _ (r2 _ _ e1)))
    have z2 := r5 _ _ (r4 _ _ (r3 _ _ e2))
    have z3 := r5 _ _ (r4 _ _ e3)
    have z4 := r5 _ _ e4
    intro p dx np ndx ne
    have s7 : Same G5 (upd (upd G5 dx (.own p)) p (.ins C dx [])) := fun b o e => (upd_ne (ne_of_none e np)).trans ((upd_ne (ne_of_none e ndx)).trans e)
    refine ⟨p, dx, a1, a2, a3, a4, a5, _, xd, xl, xc, xt, xf, cs, rfl, upd_same, SqL.of (s7 _ _ z1), SqL.of (s7 _ _ z2), SqL.of (s7 _ _ z3), SqL.of (s7 _ _ z4), SqL.of (s7 _ _ e5), dpa_same (r15.trans s7) _ _ dc, hcl, fun H7 ad al ac at_ af' ao fnd kk k1 k2 k3 k4 k5 k6 nod kn => ⟨rfl, ?_⟩⟩
    have r7 : Same G5 H7 := fun b o e => kk _ _ (ne_of_none e np) (s7 _ _ e)
    have r17 := r15.trans r7
    obtain ⟨g1, g2⟩ := made r17 kn nod dd' dl dt df
    refine qq ⟨p, ad, al, ac, at_, af', ao⟩ H7 r17 g1 g2 fun c hc => ?_
    unfold Ka.foot at hc
    simp only [List.mem_cons, List.not_mem_nil, or_false] at hc
    rcases hc with rfl | rfl | rfl | rfl | rfl | rfl | rfl
    · exact r15.free np
    · exact r15.free (s7.free k1)
    · exact r15.free (s7.free k2)
    · exact r15.free (s7.free k3)
    · exact r15.free (s7.free k4)
    · exact r15.free (s7.free k5)
    · exact r15.free (s7.free k6)
def spKept (K : PySem.W.Frag) : Sp := fun vs H Q _ => ∃ (v : V) (b : Addr) (nv : List Int) (x : List T3), vs = [v, .ref b] ∧ Dp K H v (w3 x) ∧ SqL K H b (nv.map V.int) ∧ x.length ≤ 1000 ∧ AllT (inN nv.length) x ∧ ∀ H', Same H H' → Q (.bl (x.all (kptB nv))) H'
theorem ok_l_kept (T : TxB mg) (D_l_kept : Df K mg "_law_kept" s_l_kept ["way", "values"]) (D_l_of : Df K mg "_law_of" s_l_of ["form", "values"]) (G_l_of : FnOk P w K mg base CX0 1 D_l_of.f D_l_of.fd ["form", "values"] (spLOf K)) : FnOk P w K mg base CX0 2 D_l_kept.f D_l_kept.fd ["way", "values"] (spKept K) := by
  refine D_l_kept.F.ok sc_l_kept (fun vs H Q E h => ?_) (fun cdv A outer s H vs Q E hr h => ?_)
  · obtain ⟨v, b, nv, x, rfl, _⟩ := h
    rfl
  · obtain ⟨v, b, nv, x, rfl, dv, hb, hxl, hx, q⟩ := h
    refine ⟨_, (pss_one (ps_ret (pe_callB (cr_all rfl) (by rfl) T.n_all (by decide +kernel) (pa_cons (pe_lc (own := [("u", 2), ("v", 3), ("c", 4)]) (g := gTup K 3 (gCons (gName 2) (gCons (gName 3) (gCons (gName 4) gNil)))) (by rfl) sc_l_kept.nd (pi_tup (pv 0)) (blkOk_by (own := [("u", 2), ("v", 3), ("c", 4)]) (N := ["way", "values", "u", "v", "c"]) (sc := defScope s_l_kept) (by decide +kernel)) (fun _ _ _ _ _ => pg_tup rfl (pgs_cons (pg_name (i := 2) sc_l_kept.nd rfl (Or.inl rfl)) (pgs_cons (pg_name (i := 3) sc_l_kept.nd rfl (Or.inl rfl)) (pgs_cons (pg_name (i := 4) sc_l_kept.nd rfl (Or.inl rfl)) pgs_nil)))) (fun _ _ _ _ _ => pts_nil) (fun _ _ _ _ _ => (pe_cmpR op_le (pe_op op_sub (pe_call G_l_of (hr.mono (by decide)) (by rfl) D_l_of.g D_l_of.F.kp D_l_of.b .nil pass0 (pa_cons (pe_tup (pa_cons (pv 2) (pa_cons pe_int pa_nil))) (pa_cons (pv 1) pa_nil))) (pe_call G_l_of (hr.mono (by decide)) (by rfl) D_l_of.g D_l_of.F.kp D_l_of.b .nil pass0 (pa_cons (pe_tup (pa_cons (pv 3) (pa_cons pe_int pa_nil))) (pa_cons (pv 1) pa_nil)))) (pv 4) (nomark _)))) pa_nil)))), ?_⟩
    obtain ⟨t1, zs, rfl, hty1, hzs⟩ := dp_tup_inv dv
    have hzl : zs.length = x.length := by rw [dpa_len hzs, List.length_map]
    refine ⟨_, rfl, t1, rfl, ⟨_, hty1⟩, fun D nD => ?_⟩
    refine lc_exT V.bl (kptB nv) (K := K) (a := t1) (xs := zs) (ys := x) nD hzl hxl hty1 (fun j y yt G2 Q' hxj hyj s2 q' => ?_) (fun G2 s2 eD => ?_)
    · have hjc : j < x.length := (List.getElem?_eq_some_iff.mp hyj).1
      obtain ⟨v, g3, g4⟩ := dp_mem (enc := b3) hzs hjc
      rw [hxj] at g3
      cases g3
      rw [List.getElem?_eq_getElem hjc] at hyj
      cases hyj
      obtain ⟨hu, hv⟩ := hx _ (List.getElem_mem hjc)
      obtain ⟨t2, u1, u2, u3, rfl, ht2, z1, z2, z3⟩ := dp_inv3 (g4.same s2)
      cases dp_int_inv z1
      cases dp_int_inv z2
      cases dp_int_inv z3
      have sb := s2.seq hb
      refine ⟨t2, _, rfl, ht2, rfl, _, _, rfl, _, _, rfl, _, _, rfl, rfl, rfl, ?_⟩
      refine ⟨_, rfl, by show (2 : Nat) ≤ sizeLine; decide, fun p1 np1 => ?_⟩
      have sp1 := same_new (o := .tup [.int x[j].1, .int 0]) np1
      refine ⟨_, rfl, _, b, (x[j].1, 0), nv, rfl, .tup (SqT.of upd_same) (.cons (.int _) (.cons (.int _) .nil)), sp1.seq sb, hu, ?_⟩
      refine ⟨_, rfl, by show (2 : Nat) ≤ sizeLine; decide, fun p2 np2 => ?_⟩
      have sp2 := same_new (o := .tup [.int x[j].2.1, .int 0]) np2
      refine ⟨_, rfl, _, b, (x[j].2.1, 0), nv, rfl, .tup (SqT.of upd_same) (.cons (.int _) (.cons (.int _) .nil)), (sp1.trans sp2).seq sb, hv, ?_⟩
      exact ⟨_, _, rfl, rfl, _, rfl, _, _, rfl, rfl, q' _ (sp1.trans sp2)⟩
    · refine ⟨D, _, rfl, SqL.of eD, ?_⟩
      rw [all_map_id]
      exact q _ s2
def spSplits (K : PySem.W.Frag) : Sp := fun vs H Q _ => ∃ (kp ad al ac tk ix dl : Addr) (m : Int) (bs : List T3) (ls : List Ld) (cs : List Ce) (ps : List Pr) (xi : List V) (is : List Fm) (ds : List Int), vs = [.ref kp, .ref ix, .ref dl] ∧ LkW K H kp ad al ac tk m bs ls cs ps ∧ (∀ c, c ∈ cs → c.n < ls.length) ∧ cs.length ≤ 10 ∧ ps.length ≤ 10 ∧ H ix = some (.lst xi) ∧ xi.length = is.length ∧ is.length ≤ 200 ∧ H dl = some (.lst (ds.map V.int)) ∧ ds.length = 18 ∧
  ∀ (R : Addr) (xs : List V) (ss : List (PySem.Str × List Int)) (H' : Hp), Same H H' → H R = none → H' R = some (.lst xs) → DpAll K H' xs (ss.map spD) → (∀ s, s ∈ ss → Good ls cs ps is s) → ss.length ≤ 9000 → Q (.ref R) H'
theorem ok_l_splits (T : TxB mg) (D_l_splits : Df K mg "_law_splits" s_l_splits ["known", "indexes", "draws"]) : FnOk P w K mg base CX0 1 D_l_splits.f D_l_splits.fd ["known", "indexes", "draws"] (spSplits K) := by
  refine D_l_splits.F.ok sc_l_splits (fun vs H Q E h => ?_) (fun cdv A outer s H vs Q E hr h => ?_)
  · obtain ⟨kp, ad, al, ac, tk, ix, dl, m, bs, ls, cs, ps, xi, is, ds, rfl, _⟩ := h
    rfl
  · obtain ⟨kp, ad, al, ac, tk, ix, dl, m, bs, ls, cs, ps, xi, is, ds, rfl, lk, hcn, hcl, hpl, hix, hxi, hil, edl, hdl, q⟩ := h
    refine ⟨_, (pss_cons (ps_set (i := 3) sc_l_splits.nd rfl (.inl rfl) (pe_lst pa_nil))
    (pss_cons (ps_for PassesOwn.never rfl (pi_range1 (by rfl) T.n_range (pa_cons (pe_callB call_len_seq (by rfl) T.n_len PySem.boot_len (pa_cons (pe_ix ix_list (pv 0) pe_int (fun _ _ => rfl)) pa_nil)) pa_nil)) (pg_name (i := 4) sc_l_splits.nd rfl (.inl rfl))
    (Evl.pss_cut (ps_if (pt_cmpR op_eq (pe_ix ix_tup (pe_ix ix_list (pe_ix ix_list (pv 0) pe_int (fun _ _ => rfl)) (pe_ix ix_tup (pe_ix ix_list (pe_ix ix_list (pv 0) pe_int (fun _ _ => rfl)) (pv 4) (fun _ _ => rfl)) pe_int (fun _ _ => rfl)) (fun _ _ => rfl)) pe_int (fun _ _ => rfl)) pe_str (nomark _))
    (pss_one (ps_expr (pe_bm PySem.F.plainAttrs_list PySem.F.slot_list_append PySem.F.type_list_append mt_append (pv 3) (pa_cons (pe_tup (pa_cons pe_str (pa_cons (pv 4) pa_nil))) pa_nil))))
    pss_nil)
    (pss_one (ps_for PassesOwn.never rfl (pi_range2 (by rfl) T.n_range (pa_cons (pe_op op_add (pv 4) pe_int) (pa_cons (pe_callB call_len_seq (by rfl) T.n_len PySem.boot_len (pa_cons (pe_ix ix_list (pv 0) pe_int (fun _ _ => rfl)) pa_nil)) pa_nil))) (pg_name (i := 5) sc_l_splits.nd rfl (.inl rfl))
    (pss_one (ps_if (pt_cmpR op_eq (pe_ix ix_tup (pe_ix ix_list (pe_ix ix_list (pv 0) pe_int (fun _ _ => rfl)) (pv 4) (fun _ _ => rfl)) pe_int (fun _ _ => rfl)) (pe_ix ix_tup (pe_ix ix_list (pe_ix ix_list (pv 0) pe_int (fun _ _ => rfl)) (pv 5) (fun _ _ => rfl)) pe_int (fun _ _ => rfl)) (nomark _))
    (pss_one (ps_expr (pe_bm PySem.F.plainAttrs_list PySem.F.slot_list_append PySem.F.type_list_append mt_append (pv 3) (pa_cons (pe_tup (pa_cons pe_str (pa_cons (pv 4) (pa_cons (pv 5) pa_nil)))) pa_nil))))
    pss_nil))))))
    (pss_cons (ps_for PassesOwn.never rfl (pi_range1 (by rfl) T.n_range (pa_cons (pe_callB call_len_seq (by rfl) T.n_len PySem.boot_len (pa_cons (pe_ix ix_list (pv 0) pe_int (fun _ _ => rfl)) pa_nil)) pa_nil)) (pg_name (i := 6) sc_l_splits.nd rfl (.inr rfl))
    (pss_cons (ps_set (i := 7) sc_l_splits.nd rfl (.inr rfl) (pe_ix ix_tup (pe_ix ix_list (pe_ix ix_list (pv 0) pe_int (fun _ _ => rfl)) (pv 6) (fun _ _ => rfl)) pe_int (fun _ _ => rfl)))
    (pss_one (ps_if (pt_cmpR op_eq (pv 7) pe_str (nomark _))
    (pss_one (ps_expr (pe_bm PySem.F.plainAttrs_list PySem.F.slot_list_append PySem.F.type_list_append mt_append (pv 3) (pa_cons (pe_tup (pa_cons (pv 7) (pa_cons (pv 6) pa_nil))) pa_nil))))
    (pss_one (ps_if (PW.pt (pw_or (pt_cmpR op_eq (pv 7) pe_str (nomark _)) (pw_or1 (pt_cmpR op_eq (pv 7) pe_str (nomark _)))))
    (pss_one (ps_set (i := 3) sc_l_splits.nd rfl (.inl rfl) (pe_op op_cat (pv 3) (pe_lc (own := [("s", 8)]) (g := gName 8) (by rfl) sc_l_splits.nd (pi_range1 (by rfl) T.n_range (pa_cons (pe_callB call_len_seq (by rfl) T.n_len PySem.boot_len (pa_cons (pv 1) pa_nil)) pa_nil)) (blkOk_by (own := [("s", 8)]) (N := ["known", "indexes", "draws", "found", "m", "n", "q", "kind", "s"]) (sc := defScope s_l_splits) (by decide +kernel)) (fun _ _ _ _ _ => pg_name (i := 8) sc_l_splits.nd rfl (Or.inl rfl)) (fun _ _ _ _ _ => pts_nil) (fun _ _ _ _ _ => (pe_tup (pa_cons (pv 7) (pa_cons (pv 6) (pa_cons (pv 8) pa_nil)))))))))
    (pss_one (ps_for PassesOwn.never rfl (pi_range1 (by rfl) T.n_range (pa_cons (pe_callB call_len_seq (by rfl) T.n_len PySem.boot_len (pa_cons (pv 1) pa_nil)) pa_nil)) (pg_name (i := 8) sc_l_splits.nd rfl (.inl rfl))
    (pss_cons (ps_expr (pe_bm PySem.F.plainAttrs_list PySem.F.slot_list_append PySem.F.type_list_append mt_append (pv 3) (pa_cons (pe_tup (pa_cons (pv 7) (pa_cons (pv 6) (pa_cons (pv 8) (pa_cons (pe_op op_mod (pe_callTy call_int1 (by rfl) T.n_int (by decide +kernel) (pa_cons (pe_op op_add (pe_ix ix_list (pv 2) (pv 6) (fun _ _ => rfl)) (pe_op op_mul pe_int (pv 8))) pa_nil)) (pe_callB call_len_seq (by rfl) T.n_len PySem.boot_len (pa_cons (pv 1) pa_nil))) pa_nil))))) pa_nil)))
    (pss_one (ps_expr (pe_bm PySem.F.plainAttrs_list PySem.F.slot_list_append PySem.F.type_list_append mt_append (pv 3) (pa_cons (pe_tup (pa_cons (pv 7) (pa_cons (pv 6) (pa_cons (pe_op op_mod (pe_callTy call_int1 (by rfl) T.n_int (by decide +kernel) (pa_cons (pe_op op_add (pe_ix ix_list (pv 2) (pe_op op_add (pv 6) pe_int) (fun _ _ => rfl)) (pe_op op_mul pe_int (pv 8))) pa_nil)) (pe_callB call_len_seq (by rfl) T.n_len PySem.boot_len (pa_cons (pv 1) pa_nil))) (pa_cons (pv 8) pa_nil))))) pa_nil)))))))))))))
    (pss_one (ps_ret (pv 3)))))), ?_⟩
    obtain ⟨xc, ec, dc⟩ := lk.c
    obtain ⟨xl, el, dlL⟩ := lk.l
    obtain ⟨xt, et, dt⟩ := lk.t
    have hxc : xc.length = cs.length := by rw [dpa_len dc, List.length_map]
    have hxt : xt.length = ps.length := by rw [dpa_len dt, List.length_map]
    have aN : ∀ (z : Int) (j : Nat), z = (j : Nat) → j < 18 → ∃ d : Int, atI (ds.map V.int) z = some (.int d) := fun z j e h => by
      subst e
      exact ⟨_, ints_at (by omega)⟩
    refine ⟨Nat.zero_le _, fun F nF => ?_⟩
    have S0 : Spl K H (upd H F (.lst [])) F 0 (Good ls cs ps is) := ⟨nF, same_new nF, [], [], upd_same, .nil, fun s h => (List.not_mem_nil h).elim, Nat.le_refl _⟩
    generalize upd H F (.lst []) = G0 at S0
    -- cells
    refine ⟨_, rfl, kp, _, _, _, rfl, rfl, SqL.of (S0.s _ _ lk.k), atI_nat (j := 3) rfl, ac, _, rfl, .inl (SqL.of (S0.s _ _ ec)), _, rfl, by omega, by omega, ?_⟩
    refine for_range (lo := 0) (n := ((xc.length : Nat) : Int).toNat) (fun i σ G => ∃ (y4 y5 : Option V), σ = [some (.ref kp), some (.ref ix), some (.ref dl), some (.ref F), y4, y5, none, none, none] ∧ Spl K H G F (20 * i) (Good ls cs ps is))
      ⟨_, _, rfl, S0⟩ (fun i σ G hi hP => ?_) (fun σ G hP => ?_)
    · obtain ⟨y4, y5, rfl, S⟩ := hP
      have hi' : i < cs.length := by omega
      have ei : (0 : Int) + (i : Nat) = (i : Nat) := by omega
      have hc := List.getElem?_eq_getElem hi'
      generalize cs[i] = c at hc
      obtain ⟨tc, _, _, g1, htc, _, _⟩ := cell_get dc hc
      have hn := hcn c (List.mem_of_getElem? hc)
      obtain ⟨lv, g2, g3⟩ := ld_get dlL (List.getElem?_eq_getElem hn)
      obtain ⟨tl, us, rfl, htl⟩ := ld_wd g3
      refine ⟨fun σ' G => ∃ (y5 : Option V), σ' = [some (.ref kp), some (.ref ix), some (.ref dl), some (.ref F), some (.int (0 + (i : Nat))), y5, none, none, none] ∧ Spl K H G F (20 * i + 1) (Good ls cs ps is), ?_, ?_⟩
      · refine ⟨_, rfl, kp, _, _, _, rfl, rfl, SqL.of (S.s _ _ lk.k), atI_nat (j := 2) rfl, _, rfl, kp, _, _, _, rfl, rfl, SqL.of (S.s _ _ lk.k), atI_nat (j := 3) rfl, _, rfl, ac, _, _, _, rfl, rfl, SqL.of (S.s _ _ ec), at_of ei g1, tc, _, _, _, rfl, rfl, sqt_same S.s htc, atI_nat (j := 0) rfl, al, _, _, _, rfl, rfl, SqL.of (S.s _ _ el), atI_nat g2, tl, _, _, _, rfl, rfl, sqt_same S.s htl, atI_nat (j := 0) rfl, rfl, _, rfl, ?_⟩
        rw [str_dec]
        refine ite2 (fun e => ?_) (fun _ => ⟨_, rfl, S.mono (Nat.le_succ _)⟩)
        have e := of_decide_eq_true e
        have hg : Good ls cs ps is ("write", [(i : Int)]) := by
          refine ⟨by show ("write" : PySem.Str) ∈ wds; decide +kernel, by show 1 ≤ 4; decide, fit_write.mpr ?_⟩
          cases hl : ls[c.n] with
          | new f =>
            rw [hl] at e
            exact absurd (show ("new" : PySem.Str) = "written" from e) (by decide +kernel)
          | wr o a b =>
            refine ⟨i, c, o, a, b, rfl, hc, ?_⟩
            rw [List.getElem?_eq_getElem hn, hl]
        rw [ei]
        obtain ⟨xs, ss, h1, _⟩ := S.ex
        refine ⟨_, rfl, .inl ⟨rfl, _, SqL.of h1⟩, _, rfl, by show 2 ≤ sizeLine; decide, fun p np => ?_⟩
        obtain ⟨xs, e1, e2, SJ⟩ := S.add (by omega) np hg
        exact ⟨F, xs, _, rfl, rfl, e1, e2, _, rfl, SJ⟩
      · intro σ' G2 hM
        obtain ⟨y5, rfl, S2⟩ := hM
        refine ⟨_, rfl, _, _, rfl, rfl, _, rfl, kp, _, _, _, rfl, rfl, SqL.of (S2.s _ _ lk.k), atI_nat (j := 3) rfl, ac, _, rfl, .inl (SqL.of (S2.s _ _ ec)), _, _, rfl, ⟨by omega, by omega, by omega, by omega⟩, ?_⟩
        refine for_range (lo := (0 : Int) + (i : Nat) + 1) (n := (((xc.length : Nat) : Int) - ((0 : Int) + (i : Nat) + 1)).toNat) (fun j σ G => ∃ (y5 : Option V), σ = [some (.ref kp), some (.ref ix), some (.ref dl), some (.ref F), some (.int (0 + (i : Nat))), y5, none, none, none] ∧ Spl K H G F (20 * i + 1 + j) (Good ls cs ps is))
          ⟨_, rfl, S2⟩ (fun j σ G3 hj hP => ?_) (fun σ G3 hP => ?_)
        · obtain ⟨y5, rfl, S3⟩ := hP
          have hj' : i + 1 + j < cs.length := by omega
          have ej : (0 : Int) + (i : Nat) + 1 + (j : Nat) = ((i + 1 + j : Nat) : Int) := by omega
          have hd := List.getElem?_eq_getElem hj'
          generalize cs[i + 1 + j] = d at hd
          obtain ⟨td, _, _, g4, htd, _, _⟩ := cell_get dc hd
          refine ⟨_, rfl, kp, _, _, _, rfl, rfl, SqL.of (S3.s _ _ lk.k), atI_nat (j := 3) rfl, _, rfl, ac, _, _, _, rfl, rfl, SqL.of (S3.s _ _ ec), at_of ei g1, tc, _, _, _, rfl, rfl, sqt_same S3.s htc, atI_nat (j := 0) rfl, _, rfl, kp, _, _, _, rfl, rfl, SqL.of (S3.s _ _ lk.k), atI_nat (j := 3) rfl, _, rfl, ac, _, _, _, rfl, rfl, SqL.of (S3.s _ _ ec), at_of ej g4, td, _, _, _, rfl, rfl, sqt_same S3.s htd, atI_nat (j := 0) rfl, rfl, _, rfl, ite2 (fun e => ?_) (fun _ => ⟨_, rfl, S3.mono (Nat.le_succ _)⟩)⟩
          have e := of_decide_eq_true e
          injection e with e
          have hg : Good ls cs ps is ("pair", [(i : Int), ((i + 1 + j : Nat) : Int)]) := ⟨by show ("pair" : PySem.Str) ∈ wds; decide +kernel, by show 2 ≤ 4; decide, fit_pair.mpr ⟨_, _, rfl, i, i + 1 + j, c, d, rfl, rfl, by omega, hc, hd, by omega⟩⟩
          rw [ej, ei]
          obtain ⟨xs, ss, h1, _⟩ := S3.ex
          refine ⟨_, rfl, .inl ⟨rfl, _, SqL.of h1⟩, _, rfl, _, rfl, by show 3 ≤ sizeLine; decide, fun p np => ?_⟩
          obtain ⟨xs, e1, e2, SJ⟩ := S3.add (by omega) np hg
          exact ⟨F, xs, _, rfl, rfl, e1, e2, _, rfl, SJ⟩
        · obtain ⟨y5, rfl, S3⟩ := hP
          exact ⟨_, _, rfl, S3.mono (by omega)⟩
    obtain ⟨y4, y5, rfl, S1⟩ := hP
    have S1 : Spl K H G F 200 (Good ls cs ps is) := S1.mono (by omega)
    -- promises
    refine ⟨_, rfl, kp, _, _, _, rfl, rfl, SqL.of (S1.s _ _ lk.k), atI_nat (j := 4) rfl, tk, _, rfl, .inl (SqL.of (S1.s _ _ et)), _, rfl, by omega, by omega, ?_⟩
    refine for_range (lo := 0) (n := ((xt.length : Nat) : Int).toNat) (fun i σ G => ∃ (F : Addr) (y6 y7 y8 : Option V), σ = [some (.ref kp), some (.ref ix), some (.ref dl), some (.ref F), y4, y5, y6, y7, y8] ∧ Spl K H G F (200 + 500 * i) (Good ls cs ps is))
      ⟨F, _, _, _, rfl, S1⟩ (fun i σ G hi hP => ?_) (fun σ G hP => ?_)
    · obtain ⟨F, y6, y7, y8, rfl, S⟩ := hP
      have hi' : i < ps.length := by omega
      have ei : (0 : Int) + (i : Nat) = (i : Nat) := by omega
      have hp := List.getElem?_eq_getElem hi'
      generalize ps[i] = p at hp
      obtain ⟨vp, g1, g2⟩ := pr_get dt hp
      obtain ⟨tp, us, rfl, htp⟩ := pr_wd g2
      obtain ⟨k1, k2, k3⟩ := good_pr (ls := ls) (cs := cs) (is := is) hp
      refine ⟨_, rfl, kp, _, _, _, rfl, rfl, SqL.of (S.s _ _ lk.k), atI_nat (j := 4) rfl, _, rfl, tk, _, _, _, rfl, rfl, SqL.of (S.s _ _ et), at_of ei g1, tp, _, _, _, rfl, rfl, sqt_same S.s htp, atI_nat (j := 0) rfl, ?_⟩
      rw [ei]
      refine ⟨_, rfl, rfl, _, rfl, ?_⟩
      rw [str_dec]
      refine ite2 (fun e => ?_) (fun e => ?_)
      · obtain ⟨xs, ss, h1, _⟩ := S.ex
        refine ⟨_, rfl, .inl ⟨rfl, _, SqL.of h1⟩, _, rfl, _, rfl, by show 2 ≤ sizeLine; decide, fun p' np => ?_⟩
        obtain ⟨xs, e1, e2, SJ⟩ := S.add (zs := [(i : Int)]) (by omega) np (k1 (of_decide_eq_true e))
        exact ⟨F, xs, _, rfl, rfl, e1, e2, _, _, _, _, rfl, SJ.mono (by omega)⟩
      have e1 : ¬ p.wd = "either" := fun h => e (decide_eq_true h)
      refine ⟨_, rfl, rfl, _, rfl, ?_⟩
      rw [str_dec]
      refine (fun (body : (p.wd = "all" ∨ p.wd = "match") → _) => ite2 (fun e2 => body (.inl (of_decide_eq_true e2))) (fun e2 => ?rest)) (fun hw => ?bd)
      case bd =>
        obtain ⟨xs, ss, h1, h2, h3, h4⟩ := S.ex
        refine ⟨_, rfl, _, rfl, ix, _, rfl, .inl (SqL.of (S.s _ _ hix)), _, rfl, by omega, by omega, fun L nL => ?_⟩
        refine lc_range (lo := 0) (n := ((xi.length : Nat) : Int).toNat) (fun t J => Same G J ∧ ∃ us, J L = some (.lst us) ∧ DpAll K J us ((((List.range is.length).take t).map fun s : Nat => (p.wd, [(i : Int), (s : Int)])).map spD)) ⟨same_new nL, [], upd_same, .nil⟩ (fun t J ht hP => ?_) (fun J hP => ?_)
        · obtain ⟨sJ, us, eL, dL⟩ := hP
          have ht' : t < is.length := by omega
          have et0 : (0 : Int) + (t : Nat) = (t : Nat) := by omega
          refine ⟨rfl, _, rfl, _, rfl, _, rfl, by show 3 ≤ sizeLine; decide, fun p' np => ?_⟩
          rw [et0]
          have s1 := same_new (o := .tup [.str p.wd, .int (i : Nat), .int (t : Nat)]) np
          generalize hG : upd J p' _ = J1 at s1
          have ep : J1 p' = some (.tup (.str p.wd :: ([(i : Int), (t : Int)] : List Int).map V.int)) := hG ▸ upd_same
          have hul : us.length = t := by
            rw [dpa_len dL, List.length_map, List.length_map, List.length_take, List.length_range]
            omega
          refine ⟨us, s1 _ _ eL, small_sz5 (by omega), same_mut (sJ.trans s1) nL, us ++ [.ref p'], upd_same, ?_⟩
          rw [List.take_succ_eq_append_getElem (by rw [List.length_range]; exact ht'), List.map_append, List.map_append, List.getElem_range]
          refine dpa_but (s1 _ _ eL) (fun b o hb e => (upd_ne hb).trans e) _ _ ?_ (dpa_snoc (dpa_same s1 _ _ dL) (dp_sp (SqT.of ep)))
          have := noLs_sp (((List.range is.length).take t).map (fun s : Nat => (p.wd, [(i : Int), (s : Int)])) ++ [(p.wd, [(i : Int), (t : Int)])])
          rw [List.map_append] at this
          exact this
        · obtain ⟨sJ, us, eL, dL⟩ := hP
          rw [List.take_of_length_le (by rw [List.length_range]; omega)] at dL
          have hul : us.length = is.length := by rw [dpa_len dL, List.length_map, List.length_map, List.length_range]
          have hxs : xs.length = ss.length := by rw [dpa_len h2, List.length_map]
          refine ⟨F, L, _, _, rfl, rfl, sJ _ _ h1, eL, Nat.le_of_lt (small_sz5 (by omega)), fun R nR => ?_⟩
          have s1 := same_new (o := .lst (xs ++ us)) nR
          have sR := (S.s.trans sJ).trans s1
          refine ⟨R, _, _, _, rfl, (S.s.trans sJ).free nR, sR, xs ++ us, ss ++ (List.range is.length).map (fun s : Nat => (p.wd, [(i : Int), (s : Int)])), upd_same, ?_, fun s hs => ?_, ?_⟩
          · rw [List.map_append]
            exact dpa_app (dpa_same (sJ.trans s1) _ _ h2) (dpa_same s1 _ _ dL)
          · rcases List.mem_append.mp hs with hs | hs
            · exact h3 s hs
            · obtain ⟨t, ht, rfl⟩ := List.mem_map.mp hs
              exact k2 hw t (List.mem_range.mp ht)
          · rw [List.length_append, List.length_map, List.length_range]
            omega
      case rest =>
      refine ⟨_, rfl, rfl, _, rfl, ?_⟩
      rw [str_dec]
      refine ite2 (fun e3 => body (.inr (of_decide_eq_true e3))) (fun e3 => ?_)
      have e2 : ¬ p.wd = "all" := fun h => e2 (decide_eq_true h)
      have e3 : ¬ p.wd = "match" := fun h => e3 (decide_eq_true h)
      clear body
      refine ⟨_, rfl, ix, _, rfl, .inl (SqL.of (S.s _ _ hix)), _, rfl, by omega, by omega, ?_⟩
      refine for_range (lo := 0) (n := ((xi.length : Nat) : Int).toNat) (fun t σ J => ∃ (y8 : Option V), σ = [some (.ref kp), some (.ref ix), some (.ref dl), some (.ref F), y4, y5, some (.int (i : Nat)), some (.str p.wd), y8] ∧ Spl K H J F (200 + 500 * i + 2 * t) (Good ls cs ps is))
        ⟨_, rfl, S⟩ (fun t σ J ht hP => ?_) (fun σ J hP => ?_)
      · obtain ⟨y8, rfl, SJ⟩ := hP
        have ht' : t < is.length := by omega
        have et0 : (0 : Int) + (t : Nat) = (t : Nat) := by omega
        rw [et0]
        have md : ∀ z : Int, ∃ r : Nat, z % ((xi.length : Nat) : Int) = (r : Nat) ∧ r < is.length := fun z => by
          have n0 : 0 ≤ z % ((xi.length : Nat) : Int) := Int.emod_nonneg _ (by omega)
          have n1 : z % ((xi.length : Nat) : Int) < ((xi.length : Nat) : Int) := Int.emod_lt_of_pos _ (by omega)
          exact ⟨(z % ((xi.length : Nat) : Int)).toNat, by omega, by omega⟩
        obtain ⟨d1, a1⟩ := aN (i : Nat) i rfl (by omega)
        obtain ⟨d2, a2⟩ := aN ((i : Nat) + 8) (i + 8) (by omega) (by omega)
        obtain ⟨r1, er1, hr1⟩ := md (d1 + 7 * (t : Nat))
        obtain ⟨r2, er2, hr2⟩ := md (d2 + 5 * (t : Nat))
        obtain ⟨xs, ss, h1, _⟩ := SJ.ex
        refine ⟨_, rfl, .inl ⟨rfl, _, SqL.of h1⟩, _, rfl, _, rfl, _, rfl, _, rfl, _, rfl, dl, _, _, _, rfl, rfl, SqL.of (SJ.s _ _ edl), a1, _, rfl, _, _, rfl, rfl, .inl ⟨by decide, by decide⟩, _, _, rfl, rfl, .inl ⟨_, rfl, _, rfl, ix, _, rfl, .inl (SqL.of (SJ.s _ _ hix)), _, _, rfl, rfl, by omega, ?_⟩⟩
        dsimp -proj only
        rw [er1]
        refine ⟨by show 4 ≤ sizeLine; decide, fun p' np => ?_⟩
        obtain ⟨xs, f1, f2, SJ2⟩ := SJ.add (zs := [(i : Int), (t : Int), (r1 : Int)]) (by omega) np (k3 e1 e2 e3 t r1 ht' hr1)
        refine ⟨F, xs, _, rfl, rfl, f1, f2, ?_⟩
        clear f1 f2
        dsimp -proj only [List.map] at SJ2
        generalize upd (upd J p' _) F _ = J2 at SJ2 ⊢
        obtain ⟨xs, ss, h1, _⟩ := SJ2.ex
        refine ⟨_, rfl, .inl ⟨rfl, _, SqL.of h1⟩, _, rfl, _, rfl, _, rfl, _, rfl, _, _, rfl, rfl, dl, _, _, _, rfl, rfl, SqL.of (SJ2.s _ _ edl), a2, _, rfl, _, _, rfl, rfl, .inl ⟨by decide, by decide⟩, _, _, rfl, rfl, .inl ⟨_, rfl, _, rfl, ix, _, rfl, .inl (SqL.of (SJ2.s _ _ hix)), _, _, rfl, rfl, by omega, ?_⟩⟩
        dsimp -proj only
        rw [er2]
        refine ⟨_, rfl, by show 4 ≤ sizeLine; decide, fun p' np => ?_⟩
        obtain ⟨xs, f1, f2, SJ3⟩ := SJ2.add (zs := [(i : Int), (r2 : Int), (t : Int)]) (by omega) np (k3 e1 e2 e3 r2 t hr2 ht')
        exact ⟨F, xs, _, rfl, rfl, f1, f2, _, rfl, SJ3⟩
      · obtain ⟨y8, rfl, SJ⟩ := hP
        exact ⟨F, _, _, _, rfl, SJ.mono (by omega)⟩
    obtain ⟨F, y6, y7, y8, rfl, S⟩ := hP
    obtain ⟨xs, ss, h1, h2, h3, h4⟩ := S.ex
    exact ⟨_, rfl, q F xs ss G S.s S.n h1 h2 h3 (by omega)⟩
end
end SW

namespace SW
open PySem PySem.Spec PyProof.Rows L2
theorem ix_lenN {ns : List Int} {bs : List T3} {ls : List Ld} {ps : List Pr} {fs : List Fm} {cs : List Ce} (S : SC ns bs ls ps fs) (c : cs.length ≤ 100) : (dd (ixs ls cs ps fs)).length ≤ 200 := by
  have h2 := dd_len (ixs ls cs ps fs)
  have h3 := fix_le ls
  have h4 := pix_le ps
  have h5 : (ixs ls cs ps fs).length ≤ 200 := by
    unfold ixs
    simp only [List.length_append, List.length_map, List.length_cons, List.length_nil]
    have := S.f1
    have := S.l1
    have := S.p1
    omega
  omega
theorem ix_in {ns : List Int} {bs : List T3} {ls : List Ld} {ps : List Pr} {fs : List Fm} {cs : List Ce} {nl : Nat} {th : Nat → Int → Int} (S : SC ns bs ls ps fs) (cw : CsW nl ns th cs) : ∀ f, f ∈ dd (ixs ls cs ps fs) → fok ns.length f ∧ (-1000 ≤ wo ns f ∧ wo ns f ≤ 1001) := fun f hf => by
  have go : ∀ {f : Fm}, fok ns.length f → Wb ns f → fok ns.length f ∧ (-1000 ≤ wo ns f ∧ wo ns f ≤ 1001) := fun h1 h2 => ⟨h1, h2.1, by have := h2.2; omega⟩
  have hf := mem_dd' hf
  unfold ixs at hf
  simp only [List.append_assoc, List.mem_append, List.mem_map, List.mem_flatten, List.mem_cons, List.not_mem_nil, or_false] at hf
  rcases hf with hf | ⟨d, hd, rfl⟩ | ⟨l, ⟨e, he, rfl⟩, hf⟩ | ⟨l, ⟨e, he, rfl⟩, hf⟩ | rfl
  · exact go (S.sf f hf).1 (S.sf f hf).2
  · exact go (cw.1 d hd).2.1.1 (cw.1 d hd).2.1.2
  · obtain ⟨j, hj⟩ := List.getElem?_of_mem he
    have h1 := S.lok j e hj
    have h2 := S.lsb e he
    cases e with
    | new g => exact (List.not_mem_nil hf).elim
    | wr o i v =>
      have hf : f ∈ [i, (i.1, i.2 + 1)] := hf
      simp only [List.mem_cons, List.not_mem_nil, or_false] at hf
      rcases hf with rfl | rfl
      · exact go h1.2.1 h2.1
      · refine ⟨⟨h1.2.1.1, h1.2.1.2⟩, ?_⟩
        rw [wo_plus]
        have h3 := h2.1
        unfold Wb at h3
        omega
  · have h1 := (S.sp e he).1
    cases e with
    | all n lo hi g f' =>
      rw [List.mem_singleton.mp hf]
      exact go h1.2.1.1 h1.2.1.2
    | mat n lo hi g o c =>
      rw [List.mem_singleton.mp hf]
      exact go h1.2.1.1 h1.2.1.2
    | srt n lo hi =>
      rw [List.mem_singleton.mp hf]
      exact go h1.2.1.1 h1.2.1.2
    | bel n lo hi o a b =>
      have hf : f ∈ [lo, a] := hf
      simp only [List.mem_cons, List.not_mem_nil, or_false] at hf
      rcases hf with rfl | rfl
      · exact go h1.2.1.1 h1.2.1.2
      · exact go h1.2.2.2.2.1.1 h1.2.2.2.2.1.2
    | eit ws => exact (List.not_mem_nil hf).elim
  · refine ⟨⟨Int.le_refl _, by show (0 : Int) ≤ (ns.length : Nat); omega⟩, ?_⟩
    rw [wo_zero]
    decide
theorem sc_lim {ns : List Int} {bs : List T3} {ls : List Ld} {ps : List Pr} {fs : List Fm} (S : SC ns bs ls ps fs) : ∀ p, p ∈ ps → p.lim ls.length := fun p hp => by
  have h := (S.sp p hp).1
  cases p with
  | all n lo hi g f => exact h.1
  | mat n lo hi g o c => exact ⟨h.1, h.2.2.2.2.1⟩
  | srt n lo hi => exact h.1
  | bel n lo hi o a b => exact ⟨h.1, h.2.2.2.1⟩
  | eit ws => trivial
theorem fit_ext {ls : List Ld} {cs cs' : List Ce} {ps : List Pr} {is : List Fm} {wd : PySem.Str} {zs : List Int} {x : Sx} (he : ∃ r, cs' = cs ++ r) (h : Fit ls cs ps is wd zs x) : Fit ls cs' ps is wd zs x := by
  cases x with
  | pair c d =>
    obtain ⟨h0, i, j, h1, h2, h3, h4, h5⟩ := h
    exact ⟨h0, i, j, h1, h2, ext_get he h3, ext_get he h4, h5⟩
  | wr c o a b =>
    obtain ⟨h0, i, h1, h2, h3⟩ := h
    exact ⟨h0, i, h1, ext_get he h2, h3⟩
  | eit ws => exact h
  | all n lo hi g fm f => exact h
  | mat n lo hi g o c f => exact h
  | srt n lo hi f g => exact h
  | bel n lo hi o a b f g => exact h
theorem spots_ok {ls : List Ld} {ns xs : List Int} {th : Nat → Int → Int} {bs : List T3} {ps : List Pr} {fs : List Fm} {cs : List Ce} {is : List Fm} {wd : PySem.Str} {zs : List Int} {x : Sx} (S : SC ns bs ls ps fs) (cx : CX ls.length ns.length (ns ++ xs) th cs) (his : ∀ f, f ∈ is → fok ns.length f ∧ (-1000 ≤ wo ns f ∧ wo ns f ≤ 1001)) (h : Fit ls cs ps is wd zs x) :
    ∀ s, s ∈ spotsF x → s.1 < ls.length ∧ fok ns.length s.2 ∧ (-1000 ≤ wo (ns ++ xs) s.2 ∧ wo (ns ++ xs) s.2 ≤ 1001) := by
  have gi : ∀ {s : Nat} {f : Fm}, is[s]? = some f → fok ns.length f ∧ (-1000 ≤ wo (ns ++ xs) f ∧ wo (ns ++ xs) f ≤ 1001) := fun h => by
    have h2 := his _ (List.mem_of_getElem? h)
    rw [wo_ext h2.1]
    exact h2
  have gp : ∀ {i : Nat} {p : Pr}, ps[i]? = some p → p.ok ls.length ns := fun h => (S.sp _ (List.mem_of_getElem? h)).1
  have two : ∀ {a b : Nat × Fm} {q : Nat × Fm → Prop}, q a → q b → ∀ s, s ∈ [a, b] → q s := fun ha hb s hs => by
    simp only [List.mem_cons, List.not_mem_nil, or_false] at hs
    rcases hs with rfl | rfl
    · exact ha
    · exact hb
  cases x with
  | pair c d => exact fun s hs => (List.not_mem_nil hs).elim
  | eit ws => exact fun s hs => (List.not_mem_nil hs).elim
  | wr c o a b =>
    obtain ⟨_, i, _, h1, h2⟩ := h
    obtain ⟨h3, _⟩ := S.lok _ _ h2
    have h4 := (List.getElem?_eq_some_iff.mp h2).1
    obtain ⟨_, h5, h6, _⟩ := cx.s _ (List.mem_of_getElem? h1)
    intro s hs
    rw [List.mem_singleton.mp hs]
    exact ⟨by show o < _; omega, h5, h6⟩
  | all n lo hi g fm f =>
    obtain ⟨_, i, s, _, h1, h2⟩ := h
    intro t ht
    rw [List.mem_singleton.mp ht]
    exact ⟨(gp h1).1, gi h2⟩
  | mat n lo hi g o c f =>
    obtain ⟨_, i, s, _, h1, h2⟩ := h
    exact two (q := fun s => s.1 < ls.length ∧ _) ⟨(gp h1).1, gi h2⟩ ⟨(gp h1).2.2.2.2.1, gi h2⟩
  | srt n lo hi f g =>
    obtain ⟨_, i, s, r, _, h1, h2, h3⟩ := h
    exact two (q := fun s => s.1 < ls.length ∧ _) ⟨(gp h1).1, gi h2⟩ ⟨(gp h1).1, gi h3⟩
  | bel n lo hi o a b f g =>
    obtain ⟨_, i, s, r, _, h1, h2, h3⟩ := h
    exact two (q := fun s => s.1 < ls.length ∧ _) ⟨(gp h1).1, gi h2⟩ ⟨(gp h1).2.2.2.1, gi h3⟩
theorem same_of_chg {S : List Addr} {H G J : Hp} (s : Same H G) (n : ∀ c, c ∈ S → H c = none) (g : Chg S G J) : Same H J := fun a o e => g a o (fun h => by
  rw [n a h] at e
  cases e) (s a o e)
theorem cx_start {nl : Nat} {ns : List Int} {th : Nat → Int → Int} {cs : List Ce} (cw : CsW nl ns th cs) : CX nl ns.length ns th cs := ⟨fun c hc => by
  obtain ⟨h1, ⟨h2, h3⟩, h4, h5, h6, h7⟩ := cw.1 c hc
  exact ⟨h1, h2, ⟨h3.1, by have := h3.2; omega⟩, h4, h7⟩, cw.2⟩
/-- what the cells hold, at the places of a split -/
theorem vs_true {nl n0 : Nat} {nv : List Int} {th : Nat → Int → Int} {m : Int} {cs cs2 : List Ce} {vs : List Fm} {m2 : Int} {ss : List (Nat × Fm)} (u : KeyU cs) (hl : ss.length ≤ 2) (hh : haves m cs ss = (m2, cs2, vs)) (cx : CX nl n0 nv th cs2) :
    (∀ (j : Nat) (s : Nat × Fm), ss[j]? = some s → wo nv (vs.getD j (0, 0)) = th s.1 (wo nv s.2)) ∧ fok nv.length (g0 vs) ∧ fok nv.length (g1 vs) := by
  have h := haves_ext m cs u ss.length ss rfl
  rw [hh] at h
  obtain ⟨_, _, _, _, h5, h6⟩ := h
  have h5 : vs.length = ss.length := h5
  have at_ : ∀ j : Nat, fok nv.length (vs.getD j (0, 0)) := fun j => by
    by_cases hj : j < ss.length
    · obtain ⟨c, h1, _, h3⟩ := h6 j _ (List.getElem?_eq_getElem hj)
      have h3 : vs[j]? = some c.v := h3
      rw [List.getD_eq_getElem?_getD, h3]
      exact (cx.s c h1).2.2.2.1
    · rw [List.getD_eq_getElem?_getD, List.getElem?_eq_none (by omega)]
      exact ⟨Int.le_refl _, by show (0 : Int) ≤ (nv.length : Nat); omega⟩
  refine ⟨fun j s hs => ?_, at_ 0, at_ 1⟩
  obtain ⟨c, h1, h2, h3⟩ := h6 j s hs
  have h3 : vs[j]? = some c.v := h3
  rw [List.getD_eq_getElem?_getD, h3]
  obtain ⟨_, _, _, _, h4⟩ := cx.s c h1
  rw [← h2]
  exact h4
end SW

namespace SW
open PySem PySem.Spec PyProof.Rows L2
abbrev s_law : Stmt := topS 51
theorem sc_law : FnScope ["script", "world", "fresh", "known", "values", "rules", "made", "indexes", "draws", "k", "splits", "at", "split", "many", "ways", "number", "index", "value", "kept", "way"] ["script"] (defScope s_law) := ⟨rfl, rfl, rfl, by decide +kernel, rfl, by decide +kernel, by decide +kernel⟩

section
variable {P : Program} {w : World} {K : PySem.W.Frag} {mg : PySem.Str → Option Value} {base : Heap} {C : Addr}
def spLaw (K : PySem.W.Frag) : Sp := fun vs H Q _ => ∃ (a : Addr) (ns : List Int), vs = [.ref a] ∧ SqL K H a (ns.map V.int) ∧ ns.length ≤ 63 ∧ ∀ H', Q (.bl true) H'
theorem keyU_at {a b : List Ce} (u : KeyU (a ++ b)) {q : Nat} {c : Ce} (h : b[q]? = some c) : ∀ d, d ∈ a ++ b.take q → ¬ (d.n, d.i) = (c.n, c.i) := by
  obtain ⟨hq, rfl⟩ := List.getElem?_eq_some_iff.mp h
  have e : a ++ b = (a ++ b.take q) ++ (b[q] :: b.drop (q + 1)) := by
    rw [List.append_assoc, List.getElem_cons_drop, List.take_append_drop]
  rw [e] at u
  have u : (((a ++ b.take q) ++ (b[q] :: b.drop (q + 1))).map fun c : Ce => (c.n, c.i)).Nodup := u
  rw [List.map_append] at u
  intro d hd
  exact (List.nodup_append.mp u).2.2 _ (List.mem_map.mpr ⟨d, hd, rfl⟩) _ (List.mem_map.mpr ⟨_, List.mem_cons_self, rfl⟩)
theorem cnt_snoc (nv : List Int) (l : List (List T3)) (w : List T3) : cntK nv (l ++ [w]) = cntK nv l + if w.all (kptB nv) = true then 1 else 0 := by
  unfold cntK
  rw [List.filter_append, List.length_append, List.filter_cons]
  split <;> rfl
theorem ok_law (T : TxS K w mg C) (c_Known : CkK K C) (c_new : CkM K C "new_number" "Known.new_number" s_new_number ["self"]) (c_length : CkM K C "length" "Known.length" s_length ["self", "number"]) (c_cell : CkM K C "cell" "Known.cell" s_cell ["self", "number", "index"]) (D_law : Df K mg "law" s_law ["script"]) (D_less : Df K mg "less" s_less ["f", "g"]) (D_at_most : Df K mg "at_most" s_at_most ["f", "g"]) (D_opposite : Df K mg "opposite" s_opposite ["difference"]) (D_equal : Df K mg "equal" s_equal ["f", "g"]) (D_ways_of : Df K mg "ways_of" s_ways_of ["sign", "f", "g"]) (D_tested : Df K mg "tested" s_tested ["tests", "ways"]) (D_outside_tests : Df K mg "outside_tests" s_outside_tests ["known", "number", "index"]) (D_split_ways : Df K mg "split_ways" s_split_ways ["known", "indexes", "split"]) (D_spots_of : Df K mg "spots_of" s_spots_of ["known", "indexes", "split"]) (D_is_split : Df K mg "_is_split" s_is_split ["known", "indexes", "split"]) (D_is_pair : Df K mg "_is_pair" s_is_pair ["cells", "m", "n"]) (D_fits : Df K mg "_fits" s_fits ["number", "things"]) (D_pair_ways : Df K mg "_pair_ways" s_pair_ways ["known", "indexes", "split", "values"]) (D_write_ways : Df K mg "_write_ways" s_write_ways ["known", "indexes", "split", "values"]) (D_either_ways : Df K mg "_either_ways" s_either_ways ["known", "indexes", "split", "values"]) (D_all_ways : Df K mg "_all_ways" s_all_ways ["known", "indexes", "split", "values"]) (D_match_ways : Df K mg "_match_ways" s_match_ways ["known", "indexes", "split", "values"]) (D_sorted_ways : Df K mg "_sorted_ways" s_sorted_ways ["known", "indexes", "split", "values"]) (D_below_ways : Df K mg "_below_ways" s_below_ways ["known", "indexes", "split", "values"]) (D_l_cell : Df K mg "_law_cell" s_l_cell ["script", "k"]) (D_l_draws : Df K mg "_law_draws" s_l_draws ["script", "place", "sizes"]) (D_l_at_most : Df K mg "_law_at_most" s_l_at_most ["f", "g"]) (D_l_of : Df K mg "_law_of" s_l_of ["form", "values"]) (D_l_length : Df K mg "_law_length" s_l_length ["lists", "number"]) (D_l_indexes : Df K mg "_law_indexes" s_l_indexes ["known", "fresh"]) (D_l_small : Df K mg "_law_small" s_l_small ["draw"]) (D_l_form_for : Df K mg "_law_form_for" s_l_form_for ["draw", "values", "target"]) (D_l_base : Df K mg "_law_base" s_l_base ["rule", "k"]) (D_l_there : Df K mg "_law_there" s_l_there ["world", "number", "k"]) (D_l_lists : Df K mg "_law_lists" s_l_lists ["script", "count", "values"]) (D_l_compared : Df K mg "_law_compared" s_l_compared ["sign", "left", "right"]) (D_l_range : Df K mg "_law_range" s_l_range ["world", "number", "lo", "hi"]) (D_l_true : Df K mg "_law_true" s_l_true ["world", "promise"]) (D_l_loose : Df K mg "_law_loose" s_l_loose ["draws", "values"]) (D_l_promise : Df K mg "_law_promise" s_l_promise ["script", "place", "world"]) (D_l_world : Df K mg "_law_world" s_l_world ["script", "most", "taken"]) (D_l_made : Df K mg "_law_made" s_l_made ["world", "fresh"]) (D_l_splits : Df K mg "_law_splits" s_l_splits ["known", "indexes", "draws"]) (D_l_kept : Df K mg "_law_kept" s_l_kept ["way", "values"]) (MK : MkS K w T.aMakers D_pair_ways.f D_write_ways.f D_either_ways.f D_all_ways.f D_match_ways.f D_sorted_ways.f D_below_ways.f) : FnOk P w K mg base CX0 6 D_law.f D_law.fd ["script"] (spLaw K) := by
  have m_length := c_length.M
  have G_length := ok_lengthM (P := P) (w := w) (base := base) c_length.F T.toTxK
  have b_length := c_length.b
  have G_new_number := ok_newB (P := P) (w := w) (base := base) c_new.F T.toTxK
  have G_cell := ok_cell (P := P) (w := w) (base := base) c_cell.F T.toTxK c_new.M G_new_number c_new.b
  have G_less := ok_less (P := P) (w := w) (K := K) (base := base) T.toTxB D_less
  have G_at_most := ok_at_most (P := P) (w := w) (K := K) (base := base) T.toTxB D_at_most
  have G_opposite := ok_opposite (P := P) (w := w) (K := K) (base := base) T.toTxB D_opposite
  have G_equal := ok_equal T.toTxB D_equal D_at_most G_at_most
  have G_ways_of := ok_ways_of T.toTxB D_ways_of D_less D_at_most D_equal G_less G_at_most G_equal
  have G_tested := ok_tested T.toTxB D_tested D_opposite G_opposite
  have G_outside_tests := ok_outside_tests T.toTxK m_length G_length b_length D_outside_tests D_less D_at_most G_less G_at_most
  have G_pair_ways := ok_pair_ways T.toTxK D_pair_ways D_less D_equal G_less G_equal
  have G_write_ways := ok_write_ways T.toTxK D_write_ways D_less D_equal G_less G_equal
  have G_either_ways := ok_either_ways (P := P) (w := w) (base := base) T.toTxK D_either_ways
  have G_all_ways := ok_all_ways T.toTxK D_all_ways D_less D_at_most D_outside_tests D_tested D_ways_of G_less G_at_most G_outside_tests G_tested G_ways_of
  have G_match_ways := ok_match_ways T.toTxK m_length G_length b_length D_match_ways D_less D_at_most D_outside_tests D_tested D_ways_of G_less G_at_most G_outside_tests G_tested G_ways_of
  have G_sorted_ways := ok_sorted_ways T.toTxK m_length G_length b_length D_sorted_ways D_less D_at_most D_tested G_less G_at_most G_tested
  have G_below_ways := ok_below_ways T.toTxK D_below_ways D_less D_at_most D_outside_tests D_tested G_less G_at_most G_outside_tests G_tested
  have G_fits := ok_fits (P := P) (w := w) (K := K) (base := base) T.toTxB D_fits
  have G_is_pair := ok_is_pair T.toTxB D_is_pair D_fits G_fits
  have G_is_split := ok_is_split (P := P) (base := base) T D_is_split D_fits D_is_pair G_fits G_is_pair
  have G_spots_of := ok_spots_of T D_spots_of D_is_split G_is_split
  have G_split_ways := ok_split_ways T c_cell.M G_cell c_cell.b D_split_ways D_spots_of D_pair_ways D_write_ways D_either_ways D_all_ways D_match_ways D_sorted_ways D_below_ways MK G_pair_ways G_write_ways G_either_ways G_all_ways G_match_ways G_sorted_ways G_below_ways G_spots_of
  have G_l_cell := ok_l_cell (P := P) (w := w) (K := K) (base := base) T.toTxB D_l_cell
  have G_l_draws := ok_l_draws T.toTxB D_l_draws D_l_cell G_l_cell
  have G_l_at_most := ok_l_at_most (P := P) (w := w) (K := K) (base := base) T.toTxB D_l_at_most
  have G_l_of := ok_l_of (P := P) (w := w) (K := K) (base := base) T.toTxB D_l_of
  have G_l_length := ok_l_length (P := P) (w := w) (K := K) (base := base) T.toTxB D_l_length
  have G_l_indexes := ok_l_indexes (P := P) (w := w) (K := K) (base := base) T.toTxB D_l_indexes
  have G_l_small := ok_l_small (P := P) (w := w) (K := K) (base := base) T.toTxB D_l_small
  have G_l_form_for := ok_l_form_for (P := P) (w := w) (K := K) (base := base) T.toTxB D_l_form_for
  have G_l_base := ok_l_baseE (P := P) (w := w) (K := K) (base := base) T.toTxB D_l_base
  have G_l_there := ok_l_there T.toTxB D_l_there D_l_of D_l_base G_l_of G_l_base
  have G_l_lists := ok_l_lists T.toTxB D_l_lists D_l_draws D_l_form_for D_l_at_most G_l_draws G_l_form_for G_l_at_most
  have G_l_compared := ok_l_comparedE (P := P) (w := w) (K := K) (base := base) T.toTxB D_l_compared
  have G_l_range := ok_l_range T.toTxB D_l_range D_l_of D_l_length G_l_of G_l_length
  have G_l_true := ok_l_true T.toTxB D_l_true D_l_of D_l_there D_l_range D_l_compared G_l_of G_l_there G_l_range G_l_compared
  have G_l_loose := ok_l_loose T.toTxB D_l_loose D_l_of G_l_of
  have G_l_promise := ok_l_promise T.toTxB D_l_promise D_l_draws D_l_loose D_l_form_for D_l_of D_l_length D_l_true G_l_draws G_l_loose G_l_form_for G_l_of G_l_length G_l_true
  have G_l_world := ok_l_world T.toTxB D_l_world D_l_draws D_l_small D_l_lists D_l_form_for D_l_there D_l_of D_l_promise G_l_draws G_l_small G_l_lists G_l_form_for G_l_there G_l_of G_l_promise
  have G_l_made := ok_l_made (P := P) (w := w) (base := base) T.toTxK c_Known D_l_made
  have G_l_splits := ok_l_splits (P := P) (w := w) (K := K) (base := base) T.toTxB D_l_splits
  have G_l_kept := ok_l_kept T.toTxB D_l_kept D_l_of G_l_of
  refine D_law.F.ok sc_law (fun vs H Q E h => ?_) (fun cdv A outer s H vs Q E hr h => ?_)
  · obtain ⟨a, ns, rfl, _⟩ := h
    rfl
  · obtain ⟨a, scr, rfl, hS, hnl, qend⟩ := h
    refine ⟨_, (pss_cons (ps_asg (pe_call G_l_world (hr.mono (by decide)) (by rfl) D_l_world.g D_l_world.F.kp D_l_world.b .nil pass0 (pa_cons (pv 0) (pa_cons pe_int (pa_cons pe_int pa_nil)))) (pg_tup (by rfl) (pgs_cons (pg_name (i := 1) sc_law.nd rfl (.inl rfl)) (pgs_cons (pg_name (i := 2) sc_law.nd rfl (.inl rfl)) pgs_nil))))
    (pss_cons (ps_asg (pv 1) (pg_tup (by rfl) (pgs_cons (pg_name (i := 3) sc_law.nd rfl (.inl rfl)) (pgs_cons (pg_name (i := 4) sc_law.nd rfl (.inr rfl)) (pgs_cons (pg_name (i := 5) sc_law.nd rfl (.inl rfl)) pgs_nil)))))
    (pss_cons (ps_set (i := 6) sc_law.nd rfl (.inl rfl) (pe_call G_l_made (hr.mono (by decide)) (by rfl) D_l_made.g D_l_made.F.kp D_l_made.b .nil pass0 (pa_cons (pv 1) (pa_cons (pv 2) pa_nil))))
    (pss_cons (ps_set (i := 7) sc_law.nd rfl (.inl rfl) (pe_call G_l_indexes (hr.mono (by decide)) (by rfl) D_l_indexes.g D_l_indexes.F.kp D_l_indexes.b .nil pass0 (pa_cons (pv 3) (pa_cons (pv 2) pa_nil))))
    (pss_cons (ps_set (i := 8) sc_law.nd rfl (.inl rfl) (pe_call G_l_draws (hr.mono (by decide)) (by rfl) D_l_draws.g D_l_draws.F.kp D_l_draws.b .nil pass0 (pa_cons (pv 0) (pa_cons pe_int (pa_cons (pe_lc (own := [("k", 9)]) (g := gName 9) (by rfl) sc_law.nd (pi_range1 (by rfl) T.n_range (pa_cons pe_int pa_nil)) (blkOk_by (own := [("k", 9)]) (N := ["script", "world", "fresh", "known", "values", "rules", "made", "indexes", "draws", "k", "splits", "at", "split", "many", "ways", "number", "index", "value", "kept", "way"]) (sc := defScope s_law) (by decide +kernel)) (fun _ _ _ _ _ => pg_name (i := 9) sc_law.nd rfl (Or.inl rfl)) (fun _ _ _ _ _ => pts_nil) (fun _ _ _ _ _ => pe_int)) pa_nil)))))
    (pss_cons (ps_set (i := 10) sc_law.nd rfl (.inl rfl) (pe_call G_l_splits (hr.mono (by decide)) (by rfl) D_l_splits.g D_l_splits.F.kp D_l_splits.b .nil pass0 (pa_cons (pv 3) (pa_cons (pv 7) (pa_cons (pv 8) pa_nil)))))
    (pss_cons (ps_set (i := 11) sc_law.nd rfl (.inl rfl) (pe_op op_mod (pe_callTy call_int1 (by rfl) T.n_int (by decide +kernel) (pa_cons (pe_ix ix_list (pv 8) pe_int (fun _ _ => rfl)) pa_nil)) (pe_callB (call_max2 rfl) (by rfl) T.n_max (by decide +kernel) (pa_cons pe_int (pa_cons (pe_callB call_len_seq (by rfl) T.n_len PySem.boot_len (pa_cons (pv 10) pa_nil)) pa_nil)))))
    (pss_cons (ps_set (i := 10) sc_law.nd rfl (.inl rfl) (pe_op op_cat (pe_slice sl_list (pv 10) (po_some (pv 11)) po_none) (pe_slice sl_list (pv 10) po_none (po_some (pv 11)))))
    (pss_cons (ps_set (i := 4) sc_law.nd rfl (.inr rfl) (pe_callTy call_list_of (by rfl) T.n_list (by decide +kernel) (pa_cons (pv 4) pa_nil)))
    (pss_cons (ps_for PassesOwn.never rfl (pi_list (pe_slice sl_list (pv 10) po_none (po_some pe_int))) (pg_name (i := 12) sc_law.nd rfl (.inl rfl))
    (pss_cons (ps_set (i := 13) sc_law.nd rfl (.inl rfl) (pe_callB call_len_seq (by rfl) T.n_len PySem.boot_len (pa_cons (pe_fld (pv 6) rfl) pa_nil)))
    (pss_cons (ps_set (i := 14) sc_law.nd rfl (.inl rfl) (pe_call G_split_ways (hr.mono (by decide)) (by rfl) D_split_ways.g D_split_ways.F.kp D_split_ways.b .nil pass0 (pa_cons (pv 6) (pa_cons (pe_callTy call_list_of (by rfl) T.n_list (by decide +kernel) (pa_cons (pv 7) pa_nil)) (pa_cons (pv 12) pa_nil)))))
    (pss_cons (ps_if (PW.pt (pw_or (pt_not (pt_val (pe_callB call_isi (by rfl) T.n_isinstance (by decide +kernel) (pa_cons (pv 14) (pa_cons (pe_bltn (v := .ty "list") (u := .type "list") (by rfl) T.n_list (by decide +kernel) rfl) pa_nil))))) (pw_or1 (pt_cmpR op_gt (pe_callB call_len_seq (by rfl) T.n_len PySem.boot_len (pa_cons (pe_fld (pv 6) rfl) pa_nil)) (pe_op op_add (pv 13) pe_int) (nomark _)))))
    (pss_one (ps_ret pe_bl))
    pss_nil)
    (pss_cons (ps_for PassesOwn.never rfl (pi_list (pe_slice sl_list (pe_fld (pv 6) rfl) (po_some (pv 13)) po_none)) (pg_tup (by rfl) (pgs_cons (pg_name (i := 15) sc_law.nd rfl (.inl rfl)) (pgs_cons (pg_name (i := 16) sc_law.nd rfl (.inl rfl)) (pgs_cons (pg_name (i := 17) sc_law.nd rfl (.inl rfl)) pgs_nil))))
    (pss_cons (ps_expr (pe_bm PySem.F.plainAttrs_list PySem.F.slot_list_append PySem.F.type_list_append mt_append (pv 4) (pa_cons (pe_call G_l_there (hr.mono (by decide)) (by rfl) D_l_there.g D_l_there.F.kp D_l_there.b .nil pass0 (pa_cons (pv 1) (pa_cons (pv 15) (pa_cons (pe_call G_l_of (hr.mono (by decide)) (by rfl) D_l_of.g D_l_of.F.kp D_l_of.b .nil pass0 (pa_cons (pv 16) (pa_cons (pv 4) pa_nil))) pa_nil)))) pa_nil)))
    (pss_one (ps_if (pt_cmpR (op_neD hr.units) (pv 17) (pe_tup (pa_cons (pe_callB call_len_seq (by rfl) T.n_len PySem.boot_len (pa_cons (pv 4) pa_nil)) (pa_cons pe_int pa_nil))) (nomark _))
    (pss_one (ps_ret pe_bl))
    pss_nil))))
    (pss_cons (ps_if (pt_cmpR op_ne (pe_fld (pv 6) rfl) (pe_callB call_len_seq (by rfl) T.n_len PySem.boot_len (pa_cons (pv 4) pa_nil)) (nomark _))
    (pss_one (ps_ret pe_bl))
    pss_nil)
    (pss_cons (ps_set (i := 18) sc_law.nd rfl (.inl rfl) (pe_callB call_len_seq (by rfl) T.n_len PySem.boot_len (pa_cons (pe_lc (own := [("way", 19)]) (g := gName 19) (by rfl) sc_law.nd (pi_list (pv 14)) (blkOk_by (own := [("way", 19)]) (N := ["script", "world", "fresh", "known", "values", "rules", "made", "indexes", "draws", "k", "splits", "at", "split", "many", "ways", "number", "index", "value", "kept", "way"]) (sc := defScope s_law) (by decide +kernel)) (fun _ _ _ _ _ => pg_name (i := 19) sc_law.nd rfl (Or.inl rfl)) (fun _ _ _ _ _ => pts_one (pt_val (pe_call G_l_kept (hr.mono (by decide)) (by rfl) D_l_kept.g D_l_kept.F.kp D_l_kept.b .nil pass0 (pa_cons (pv 19) (pa_cons (pv 4) pa_nil))))) (fun _ _ _ _ _ => (pv 19))) pa_nil)))
    (pss_one (ps_if (PW.pt (pw_or (pt_cmpR op_eq (pv 18) pe_int (nomark _)) (pw_or1 (PW.pt (pw_and (pt_cmpR op_gt (pv 18) pe_int (nomark _)) (pw_and1 (pt_cmpR op_ne (pe_ix ix_tup (pv 12) pe_int (fun _ _ => rfl)) pe_str (nomark _))))))))
    (pss_one (ps_ret pe_bl))
    pss_nil)))))))))
    (pss_one (ps_ret pe_bl)))))))))))), ?_⟩
    -- the world
    refine ⟨_, rfl, a, scr, rfl, hS, fun r wa af ns ls bs cs ps fs xf H1 s1 er wx gr n1 n2 n3 ef df hnone naf lok lsb l0 l1 nl vs cw cl bw bl pf pl ff fl => ?_⟩
    refine ⟨r, _, rfl, SqT.of er, rfl, _, _, rfl, _, _, rfl, rfl, ?_⟩
    refine ⟨_, rfl, wa.wt, _, rfl, wx.w, rfl, _, _, rfl, _, _, rfl, _, _, rfl, rfl, ?_⟩
    have S : SC ns bs ls ps fs := ⟨nl, vs, lok, lsb, l0, l1, bl, bw, pl, fun p hp => ⟨(pf p hp).1, (pf p hp).2.1⟩, fl, ff⟩
    let q0 : La := ⟨wa.kp, wa.ad, wa.al, wa.ac, wa.tk⟩
    have lk1 : LkW K H1 q0.kp q0.ad q0.al q0.ac q0.tk (ns.length : Nat) bs ls cs ps := ⟨wx.k, gr.d, wx.l, gr.c, gr.t⟩
    -- made
    refine ⟨_, rfl, _, rfl, q0, wa.wt, af, _, _, _, bs, ls, cs, ps, fs, xf, rfl, wx.w, lk1, ef, df, by omega, fun k0 H2 s2 nk kw2 knew => ?_⟩
    have s12 := s1.trans s2
    have ef2 := s2 _ _ ef
    have df2 := dpa_same s2 _ _ df
    clear hnone naf n1 n2 n3
    -- indexes
    refine ⟨_, rfl, _, rfl, q0.kp, q0.ad, q0.al, q0.ac, q0.tk, af, _, bs, ls, cs, ps, fs, xf, rfl, lk1.same s2, ef2, df2, by omega, by omega, by omega, by omega, fun u us H3 s3 nu eu du => ?_⟩
    have his := ix_in (cs := cs) S cw
    have lu := ix_lenN (cs := cs) S (by omega)
    generalize dd (ixs ls cs ps fs) = is at du his lu
    have s23 := s2.trans s3
    have s13 := s12.trans s3
    -- draws
    refine ⟨_, rfl, 18, rfl, by decide, by decide, fun Z nZ => ?_⟩
    refine lc_vals (walk_range (lo := 0) (n := 18)) nZ (fun _ => .int 1000) (by decide) (fun _ _ => trivial) (fun i x G G' Q' hi sG y q' => ?_) (fun H4 s4 eZ => ?_)
    · obtain ⟨rfl, rfl⟩ := y
      exact ⟨rfl, q' _ (Same.refl _)⟩
    refine ⟨a, Z, scr, List.replicate 18 1000, 6, rfl, (s13.trans s4).seq hS, by decide, by decide, SqL.of eZ, by decide, by decide, fun dl ds H5 hdl hb s5 ndl edl => ?_⟩
    have hdl : ds.length = 18 := hdl
    have s35 := s4.trans s5
    have s25 := s23.trans s35
    have hcn : ∀ c, c ∈ cs → c.n < ls.length := fun c hc => (cw.1 c hc).1
    have hul : us.length = is.length := by rw [dpa_len du, List.length_map]
    -- splits
    refine ⟨_, rfl, _, rfl, _, rfl, q0.kp, q0.ad, q0.al, q0.ac, q0.tk, u, dl, (ns.length : Nat), bs, ls, cs, ps, us, is, ds, rfl, lk1.same s25, hcn, cl, pl, s35 _ _ eu, hul, lu, edl, hdl, fun R xs ss H6 s6 nR eR dR hgood hss => ?_⟩
    have s36 := s35.trans s6
    have hxs : xs.length = ss.length := by rw [dpa_len dR, List.length_map]
    have a16 : ∃ d, atI (ds.map V.int) 16 = some (.int d) := ⟨_, ints_at (j := 16) (by omega)⟩
    obtain ⟨d16, a16⟩ := a16
    refine ⟨_, rfl, dl, _, _, _, rfl, rfl, SqL.of (s6 _ _ edl), a16, .inl ⟨_, rfl, ?_⟩⟩
    refine ⟨_, rfl, R, _, rfl, .inl (SqL.of eR), _, _, rfl, ?_⟩
    generalize hM : (if ((xs.length : Nat) : Int) > 1 then ((xs.length : Nat) : Int) else 1) = M
    have hM0 : 0 < M := by
      rw [← hM]
      split <;> omega
    have hM1 : M ≤ xs.length ∨ M = 1 := by
      rw [← hM]
      split
      · exact .inl (Int.le_refl _)
      · exact .inr rfl
    refine ⟨_, _, rfl, rfl, hM0, ?_⟩
    dsimp -proj only
    have m0 : 0 ≤ d16 % M := Int.emod_nonneg _ (by omega)
    generalize d16 % M = at0 at m0
    obtain ⟨n, rfl⟩ : ∃ n : Nat, at0 = n := ⟨at0.toNat, by omega⟩
    -- turned around
    refine ⟨_, rfl, _, rfl, _, rfl, R, _, rfl, SqL.of eR, fun p1 np1 => ?_⟩
    rw [cutv_from]
    generalize hG : upd H6 p1 _ = H7
    obtain ⟨s7, e7⟩ := new_of np1 hG
    refine ⟨_, rfl, _, rfl, _, rfl, R, _, rfl, SqL.of (s7 _ _ eR), fun p2 np2 => ?_⟩
    rw [cutv_first]
    generalize hG : upd H7 p2 _ = H8
    obtain ⟨s8, e8⟩ := new_of np2 hG
    refine ⟨p1, p2, _, _, rfl, rfl, s8 _ _ e7, e8, Nat.le_of_lt (small_sz5 (by rw [List.length_drop, List.length_take]; omega)), fun R2 nR2 => ?_⟩
    generalize hG : upd H8 R2 _ = H9
    obtain ⟨s9, e9⟩ := new_of nR2 hG
    have s79 := (s7.trans s8).trans s9
    have dR2 : DpAll K H9 (xs.drop n ++ xs.take n) ((ss.drop n ++ ss.take n).map spD) := by
      have d9 := dpa_same s79 _ _ dR
      rw [List.map_append, List.map_drop, List.map_take]
      exact dpa_app (dpa_drop _ d9) (dpa_take _ d9)
    have hg2 : ∀ s, s ∈ ss.drop n ++ ss.take n → Good ls cs ps is s := fun s hs => hgood s ((List.mem_append.mp hs).elim List.mem_of_mem_drop List.mem_of_mem_take)
    have hl2 : (xs.drop n ++ xs.take n).length = (ss.drop n ++ ss.take n).length := by rw [dpa_len dR2, List.length_map]
    generalize xs.drop n ++ xs.take n = ys at e9 dR2 hl2
    generalize ss.drop n ++ ss.take n = ts at dR2 hg2 hl2
    have s39 := s36.trans s79
    have s29 := s23.trans (s35.trans (s6.trans s79))
    have s19 := s29
    -- values
    refine ⟨_, rfl, wa.b, _, rfl, .inl (SqL.of (s19 _ _ wx.b)), fun VL nVL => ?_⟩
    generalize hG : upd H9 VL _ = H10
    obtain ⟨s10, eV⟩ := new_of nVL hG
    -- the splits, one by one
    refine ⟨_, rfl, _, rfl, R2, _, rfl, SqL.of (s10 _ _ e9), fun R3 nR3 => ?_⟩
    have hcut : cutV ys none (some 24) = ys.take 24 := cutv_first ys 24
    rw [hcut]
    generalize hG : upd H10 R3 _ = H11
    obtain ⟨s11, e11⟩ := new_of nR3 hG
    refine ⟨R3, rfl, ⟨_, SqL.of e11⟩, ?_⟩
    have t2 := ((s3.trans s39).trans s10).trans s11
    have t1 := s19.trans (s10.trans s11)
    have kw11 : KnW P w K C H11 k0 ((ns ++ ([] : List Int)).length : Nat) bs ls (cs ++ ([] : List Ce)) ps fs := by
      rw [List.append_nil, List.append_nil]
      exact kw2.same t2
    have eV11 : H11 VL = some (.lst ((ns ++ ([] : List Int)).map V.int)) := by
      rw [List.append_nil]
      exact s11 _ _ eV
    have cx11 : CX ls.length ns.length (ns ++ ([] : List Int)) (TH ls wa.rf ns) (cs ++ ([] : List Ce)) := by
      rw [List.append_nil, List.append_nil]
      exact cx_start cw
    have du11 := dpa_same ((s39.trans s10).trans s11) _ _ du
    have eu11 := s11 _ _ (s10 _ _ (s39 _ _ eu))
    have dR11 := dpa_take 24 (dpa_same (s10.trans s11) _ _ dR2)
    have kw10 := kw2.same ((s3.trans s39).trans s10)
    have kw9 := kw2.same (s3.trans s39)
    have nS1 : ∀ c, c ∈ VL :: kmut k0 → H1 c = none := fun c hc => by
      rcases List.mem_cons.mp hc with rfl | hc
      · exact s19.free nVL
      · exact knew c (kmut_foot hc)
    have ntS : ∀ c, c ∈ VL :: kmut k0 → NT H11 c := fun c hc => by
      rcases List.mem_cons.mp hc with rfl | hc
      · exact NT.lst eV11
      · exact kw11.nt c (kmut_foot hc)
    have nVk : VL ∉ k0.foot := fun h => by
      obtain ⟨o, ho, _⟩ := kw9.nt _ h
      rw [nVL] at ho
      cases ho
    have nuS : u ∉ VL :: kmut k0 := fun h => by
      rcases List.mem_cons.mp h with h | h
      · rw [← h, s39 _ _ eu] at nVL
        cases nVL
      · obtain ⟨o, ho, _⟩ := kw2.nt _ (kmut_foot h)
        rw [nu] at ho
        cases ho
    have nR3S : R3 ∉ VL :: kmut k0 := fun h => by
      rcases List.mem_cons.mp h with h | h
      · rw [h, eV] at nR3
        cases nR3
      · obtain ⟨o, ho, _⟩ := kw10.nt _ (kmut_foot h)
        rw [nR3] at ho
        cases ho
    clear kw2 kw9 kw10 e7 e8 e9 s7 s8 s9 s10 s11 s79 s29 s39 s36 eZ
    refine for_list (K := K) (a := R3) (xs := ys.take 24) (fun i σ G => ∃ (y12 y13 y14 y15 y16 y17 y18 : Option V) (zs : List Int) (r : List Ce), σ = [some (.ref a), some (.ref wa.wt), some (.ref af), some (.ref wa.kp), some (.ref VL), some (.ref wa.ru), some (.ref k0.p), some (.ref u), some (.ref dl), none, some (.ref R2), some (.int n), y12, y13, y14, y15, y16, y17, y18, none] ∧ Chg (VL :: kmut k0) H11 G ∧ KnW P w K C G k0 ((ns ++ zs).length : Nat) bs ls (cs ++ r) ps fs ∧ G VL = some (.lst ((ns ++ zs).map V.int)) ∧ CX ls.length ns.length (ns ++ zs) (TH ls wa.rf ns) (cs ++ r) ∧ zs.length ≤ 2 * i ∧ r.length ≤ 2 * i)
      ⟨_, _, _, _, _, _, _, [], [], rfl, Chg.refl _ _, kw11, eV11, cx11, Nat.zero_le _, Nat.zero_le _⟩ (fun i σ G hi hP => by
        obtain ⟨y12, y13, y14, y15, y16, y17, y18, zs, r, rfl, cg, _⟩ := hP
        exact SqL.of (cg _ _ nR3S e11)) (fun i v σ G hv hP => ?_) (fun σ G hP => qend G)
    obtain ⟨y12, y13, y14, y15, y16, y17, y18, zs, r, rfl, cg, kw, eVG, cx, hz, hr⟩ := hP
    have hi := (List.getElem?_eq_some_iff.mp hv).1
    rw [List.length_take] at hi
    have dRG : DpAll K G (ys.take 24) ((ts.take 24).map spD) := by
      rw [List.map_take]
      refine chg_dpa ntS cg _ _ ?_ dR11
      have := noLs_sp (ts.take 24)
      rw [List.map_take] at this
      exact this
    obtain ⟨v', g1, g2⟩ := dp_mem (j := i) dRG (by rw [List.length_take]; omega)
    rw [hv] at g1
    cases g1
    have hgs := hg2 _ (List.mem_of_mem_take (List.getElem_mem (l := ts.take 24) (n := i) (by rw [List.length_take]; omega)))
    generalize (ts.take 24)[i]'_ = sp at g2 hgs
    obtain ⟨wd, sz⟩ := sp
    obtain ⟨hwd, hszl, x, hx0⟩ := hgs
    obtain ⟨t, rfl, ht⟩ := sp_inv g2
    have hx : Fit ls (cs ++ r) ps is wd sz x := fit_ext ⟨r, rfl⟩ hx0
    have sG := same_of_chg t1 nS1 cg
    obtain ⟨_, _, xc, _, _, _, kn, _⟩ := kw.ex
    obtain ⟨dx, eo⟩ := kn.ob
    have hxc : xc.length = (cs ++ r).length := by rw [dpa_len kn.cx, List.length_map]
    refine ⟨_, rfl, k0.p, C, dx, _, _, rfl, eo, T.cl, T.nC, knF_c _ _ _ _ _ _ _, k0.ac, xc, rfl, .inl (SqL.of kn.c), ?_⟩
    refine ⟨_, rfl, _, rfl, u, us, rfl, .inl (SqL.of (cg _ _ nuS eu11)), fun IX nIX => ?_⟩
    generalize hG : upd G IX _ = J1
    obtain ⟨j1, eIX⟩ := new_of nIX hG
    have duJ := dpa_same j1 _ _ (chg_dpa ntS cg _ _ (noLs_f2s _) du11)
    have hcr : (cs ++ r).length ≤ 10 + 48 := by
      rw [List.length_append]
      omega
    refine ⟨_, rfl, k0, ((ns ++ zs).length : Nat), bs, ls, cs ++ r, ps, fs, ns.length, IX, t, wd, sz, us, is, rfl, kw.same j1, nk, lok, sc_lim S, fun c hc => (cx.s c hc).1, cx.u, by omega, sqt_same j1 ht, hwd, hszl, eIX, duJ, fun h => ?_, fun hno => absurd hx (hno x), fun x' hx' W wl J2 cg2 nW eW kw2 dW => ?_⟩
    · obtain ⟨o, ho, _⟩ := kw.nt _ (kmut_foot h)
      rw [nIX] at ho
      cases ho
    -- what comes of it
    have hsp := spots_ok S cx his hx'
    have hnew := haves_new ((ns ++ zs).length : Nat) (cs ++ r) (spotsF x').length (spotsF x') rfl
    have hu2 := (haves_ext ((ns ++ zs).length : Nat) (cs ++ r) cx.u (spotsF x').length (spotsF x') rfl).1
    have hsl := spots_len x'
    obtain ⟨⟨m2, cs2, vs2⟩, hh⟩ : ∃ y, haves ((ns ++ zs).length : Nat) (cs ++ r) (spotsF x') = y := ⟨_, rfl⟩
    rw [hh] at kw2 dW hnew hu2
    have kw2 : KnW P w K C J2 k0 m2 bs ls cs2 ps fs := kw2
    have dW : DpAll K J2 wl ((waysF ls vs2 x').map w3) := dW
    have hu2 : KeyU cs2 := hu2
    obtain ⟨r2, hc2, hm2, hr2, hr2v⟩ := hnew
    have hc2 : cs2 = cs ++ r ++ r2 := hc2
    have hm2 : m2 = ((ns ++ zs).length : Nat) + (r2.length : Nat) := hm2
    subst hc2
    subst hm2
    obtain ⟨_, _, xc2, _, _, _, kn2, _⟩ := kw2.ex
    obtain ⟨dx2, eo2⟩ := kn2.ob
    have hxc2 : xc2.length = xc.length + r2.length := by rw [dpa_len kn2.cx, List.length_map, List.length_append, hxc]
    refine ⟨_, rfl, _, _, _, _, true, rfl, .ty "list", .base (.lst eW), kit_list, true, rfl, iteF ?_⟩
    refine ⟨_, rfl, k0.p, C, dx2, _, _, rfl, eo2, T.cl, T.nC, knF_c _ _ _ _ _ _ _, k0.ac, xc2, rfl, .inl (SqL.of kn2.c), _, rfl, _, _, rfl, rfl, _, _, rfl, rfl, _, rfl, ite2 (fun e => absurd (of_decide_eq_true e) (by omega)) (fun _ => ?_)⟩
    refine ⟨_, rfl, k0.p, C, dx2, _, _, rfl, eo2, T.cl, T.nC, knF_c _ _ _ _ _ _ _, _, rfl, _, rfl, k0.ac, xc2, rfl, SqL.of kn2.c, fun L3 nL3 => ?_⟩
    rw [cutv_from]
    generalize hG : upd J2 L3 _ = J3
    obtain ⟨j3, eL3⟩ := new_of nL3 hG
    refine ⟨L3, rfl, ⟨_, SqL.of eL3⟩, ?_⟩
    have dL3 : DpAll K J3 (xc2.drop xc.length) (r2.map Ce.enc) := by
      have d := dpa_drop xc.length (dpa_same j3 _ _ kn2.cx)
      rw [hxc, ← List.map_drop, List.drop_left'  rfl, ← hxc] at d
      exact d
    have cg3 : Chg (VL :: kmut k0) H11 J3 := ((cg.same j1).trans (cg2.mono fun c hc => List.mem_cons_of_mem _ hc)).same j3
    have eV3 : J3 VL = some (.lst ((ns ++ zs).map V.int)) := j3 _ _ (cg2 _ _ (fun h => nVk (kmut_foot h)) (j1 _ _ eVG))
    have ntV : ∀ c, c ∈ ([VL] : List Addr) → NT J3 c := fun c hc => by
      rw [List.mem_singleton.mp hc]
      exact NT.lst eV3
    refine for_list (K := K) (a := L3) (xs := xc2.drop xc.length) (fun q σ F => ∃ (y15 y16 y17 : Option V) (ws : List Int), σ = [some (.ref a), some (.ref wa.wt), some (.ref af), some (.ref wa.kp), some (.ref VL), some (.ref wa.ru), some (.ref k0.p), some (.ref u), some (.ref dl), none, some (.ref R2), some (.int n), some (.ref t), some (.int (xc.length : Nat)), some (.ref W), y15, y16, y17, y18, none] ∧ Chg [VL] J3 F ∧ F VL = some (.lst ((ns ++ (zs ++ ws)).map V.int)) ∧ ws.length = q ∧ CX ls.length ns.length (ns ++ (zs ++ ws)) (TH ls wa.rf ns) (cs ++ r ++ r2.take q))
      ⟨_, _, _, [], rfl, Chg.refl _ _, by rw [List.append_nil]; exact eV3, rfl, by rw [List.append_nil, List.take_zero, List.append_nil]; exact cx⟩ (fun q σ F hq hP => by
        obtain ⟨y15, y16, y17, ws, rfl, cF, _⟩ := hP
        refine SqL.of (cF _ _ (fun h => ?_) eL3)
        rw [List.mem_singleton.mp h, cg2 _ _ (fun h => nVk (kmut_foot h)) (j1 _ _ eVG)] at nL3
        cases nL3) (fun q v σ F hv3 hP => ?_) (fun σ F hP => ?_)
    · obtain ⟨y15, y16, y17, ws, rfl, cF, eF, hws, cxF⟩ := hP
      have hq := (List.getElem?_eq_some_iff.mp hv3).1
      rw [List.length_drop] at hq
      have hq : q < r2.length := by omega
      obtain ⟨tc, v2, v3, g3, htc, d2, d3⟩ := cell_get (chg_dpa ntV cF _ _ (noLs_ce _) dL3) (List.getElem?_eq_getElem hq)
      rw [hv3] at g3
      cases g3
      obtain ⟨hcv, hcs⟩ := hr2v q _ (List.getElem?_eq_getElem hq)
      have hky := keyU_at hu2 (List.getElem?_eq_getElem hq)
      have htk : r2.take (q + 1) = r2.take q ++ [r2[q]] := List.take_succ_eq_append_getElem hq
      generalize r2[q] = c at htc d2 d3 hcv hcs hky htk
      obtain ⟨cn, ci, cv⟩ := c
      have hcv : cv = ((((ns ++ zs).length : Nat) : Int) + ((q : Nat) : Int) + 1, (0 : Int)) := hcv
      subst hcv
      obtain ⟨q1, q2, q3⟩ := hsp _ hcs
      have q1 : cn < ls.length := q1
      have q2 : fok ns.length ci := q2
      have q3 : -1000 ≤ wo (ns ++ (zs ++ ws)) ci ∧ wo (ns ++ (zs ++ ws)) ci ≤ 1001 := by
        rw [wo_ext q2] at q3 ⊢
        exact q3
      have hlen : (ns ++ (zs ++ ws)).length = (ns ++ zs).length + q := by
        rw [List.length_append, List.length_append, List.length_append]
        omega
      have hnl : ns.length ≤ (ns ++ (zs ++ ws)).length := by
        rw [List.length_append]
        omega
      have hbig : (ns ++ (zs ++ ws)).length ≤ 100 := by
        rw [hlen, List.length_append]
        omega
      have sF := same_of_chg t1 nS1 (cg3.trans (cF.mono fun c hc => by
        rw [List.mem_singleton.mp hc]
        exact List.mem_cons_self))
      have cxN := cxF.add hnl q1 q2 q3 hky
      refine ⟨tc, _, rfl, htc, rfl, _, _, rfl, _, _, rfl, _, _, rfl, rfl, ?_⟩
      refine ⟨_, rfl, .inl ⟨rfl, _, SqL.of eF⟩, _, rfl, _, rfl, _, rfl, _, rfl, v2, VL, ci, _, rfl, d2, SqL.of eF, ⟨q2.1, by have := q2.2; omega⟩, wa, cn, _, _, ls, ns, rfl, (wx.wd).same sF, lok, lsb, q1, by omega, q3.1, q3.2, fun b1 b2 => ⟨VL, _, _, rfl, rfl, eF, small_sz5 (by rw [List.length_map]; omega), ?_⟩⟩
      clear b1 b2
      generalize hz : TH ls wa.rf ns cn (wo (ns ++ (zs ++ ws)) ci) = z at cxN ⊢
      have ntF : ∀ c, c ∈ ([VL] : List Addr) → NT F c := fun c hc => by
        rw [List.mem_singleton.mp hc]
        exact NT.lst eF
      have eF2 : (upd F VL (.lst ((ns ++ (zs ++ ws)).map V.int ++ [.int z]))) VL = some (.lst ((ns ++ (zs ++ (ws ++ [z]))).map V.int)) := by
        rw [upd_same]
        simp only [List.map_append, List.append_assoc, List.map_cons, List.map_nil]
      have c1 : Chg [VL] F (upd F VL (.lst ((ns ++ (zs ++ ws)).map V.int ++ [.int z]))) := fun c o hc e => (upd_ne (fun h => hc (List.mem_singleton.mpr h))).trans e
      generalize upd F VL _ = F2 at eF2 c1 ⊢
      have hlz : ((((ns ++ (zs ++ (ws ++ [z]))).map V.int).length : Nat) : Int) = ((ns ++ zs).length : Nat) + (q : Nat) + 1 := by
        simp only [List.length_map, List.length_append, List.length_cons, List.length_nil] at hlen ⊢
        omega
      refine ⟨_, rfl, _, rfl, VL, _, rfl, .inl (SqL.of eF2), by show 2 ≤ sizeLine; decide, fun p np => ?_⟩
      rw [hlz]
      generalize hG : upd F2 p _ = F3
      obtain ⟨f3, ep⟩ := new_of np hG
      have dp3 : Dp K F3 (.ref p) (f2 ((((ns ++ zs).length : Nat) : Int) + ((q : Nat) : Int) + 1, (0 : Int))) := .tup (SqT.of ep) (.cons (.int _) (.cons (.int _) .nil))
      refine ⟨f2 _, f2 _, (chg_dp ntF c1 _ _ rfl d3).same f3, dp3, rfl, rfl, ?_⟩
      rw [(f2_eqv _ _).mpr rfl]
      refine ⟨_, rfl, iteF ?_⟩
      refine ⟨_, _, _, ws ++ [z], rfl, (cF.trans c1).same f3, f3 _ _ eF2, by rw [List.length_append, hws]; rfl, ?_⟩
      rw [htk, ← List.append_assoc (cs ++ r), ← List.append_assoc zs, ← List.append_assoc ns]
      rw [hlen] at cxN
      exact cxN
    obtain ⟨y15, y16, y17, ws, rfl, cF, eF, hws, cxF⟩ := hP
    rw [List.length_drop] at hws cxF
    rw [List.take_of_length_le (by omega)] at cxF
    have hws : ws.length = r2.length := by omega
    -- made.many
    have kwF := (kw2.same j3).chg ntV cF (fun c hc h => by
      rw [List.mem_singleton.mp h] at hc
      exact nVk hc)
    obtain ⟨_, _, _, _, _, _, kn3, _⟩ := kwF.ex
    obtain ⟨dx3, eo3⟩ := kn3.ob
    have em : (((ns ++ (zs ++ ws)).length : Nat) : Int) = ((ns ++ zs).length : Nat) + (r2.length : Nat) := by
      rw [List.length_append, List.length_append, List.length_append]
      omega
    have em2 : ((((ns ++ (zs ++ ws)).map V.int).length : Nat) : Int) = ((ns ++ zs).length : Nat) + (r2.length : Nat) := by
      rw [List.length_map]
      exact em
    refine ⟨_, rfl, k0.p, C, dx3, _, _, rfl, eo3, T.cl, T.nM, knF_m _ _ _ _ _ _ _, _, rfl, VL, _, rfl, .inl (SqL.of eF), ?_⟩
    rw [em2]
    refine ⟨rfl, _, rfl, ?_⟩
    rw [decide_eq_true rfl]
    refine iteF ?_
    -- what is true
    have hx2 : Fit ls (cs ++ r ++ r2) ps is wd sz x' := fit_ext ⟨r2, rfl⟩ hx'
    obtain ⟨vt, vo0, vo1⟩ := vs_true cx.u hsl hh cxF
    have hsx := sx_true lok cxF (fun p hp => ⟨(pf p hp).1, (pf p hp).2.2⟩) (fun f hf => (his f hf).1) hx2 vt
    have hin := sx_in lok cxF (fun p hp => ⟨(pf p hp).1, (pf p hp).2.1⟩) (fun f hf => (his f hf).1) hx2
    have hwb := ways_q (fq_in _) hin vo0 vo1
    have dWF := chg_dpa ntV cF _ _ (noLs_w3 _) (dpa_same j3 _ _ dW)
    have eWF : F W = some (.lst wl) := cF _ _ (fun h => by
      rw [List.mem_singleton.mp h, j1 _ _ eVG] at nW
      cases nW) (j3 _ _ eW)
    have hwl : wl.length = (waysF ls vs2 x').length := by rw [dpa_len dW, List.length_map]
    have ht3 := sqt_same j3 (chg_sqt (fun c hc => (kw.same j1).nt c (kmut_foot hc)) cg2 (sqt_same j1 ht))
    have htF := chg_sqt ntV cF ht3
    refine ⟨_, rfl, W, rfl, ⟨_, SqL.of eWF⟩, fun D nD => ?_⟩
    refine lc_list (K := K) (a := W) (xs := wl) (fun q J => Same F J ∧ ∃ vs : List V, J D = some (.lst vs) ∧ vs.length = cntK (ns ++ (zs ++ ws)) ((waysF ls vs2 x').take q)) ⟨same_new nD, [], upd_same, rfl⟩ (fun q J _ hP => SqL.of (hP.1 _ _ eWF)) (fun q v J hv4 hP => ?_) (fun J hP => ?_)
    · obtain ⟨sJ, vs, eD, hvs⟩ := hP
      have hq : q < (waysF ls vs2 x').length := by
        rw [← hwl]
        exact (List.getElem?_eq_some_iff.mp hv4).1
      obtain ⟨v', g5, d5⟩ := dp_mem (dpa_same sJ _ _ dWF) hq
      rw [hv4] at g5
      cases g5
      obtain ⟨hw1, hw2⟩ := hwb.2 _ (List.getElem_mem hq)
      have hvl : vs.length ≤ 30 := by
        rw [hvs]
        refine Nat.le_trans (List.length_filter_le _ _) ?_
        rw [List.length_take]
        have := hwb.1
        omega
      refine ⟨rfl, _, rfl, _, rfl, v, VL, _, _, rfl, d5, SqL.of (sJ _ _ eF), Nat.le_trans hw1 (by decide), hw2, fun J' sJ' => ⟨_, rfl, ite2 (fun e => ?_) (fun e => ?_)⟩⟩
      · refine ⟨_, rfl, vs, sJ' _ _ eD, small_sz5 (by omega), same_mut (sJ.trans sJ') nD, vs ++ [v], upd_same, ?_⟩
        rw [List.take_succ_eq_append_getElem hq, cnt_snoc, List.length_append, hvs, if_pos e]
        rfl
      · refine ⟨sJ.trans sJ', vs, sJ' _ _ eD, ?_⟩
        rw [List.take_succ_eq_append_getElem hq, cnt_snoc, hvs, if_neg e]
        rfl
    obtain ⟨sJ, vs, eD, hvs⟩ := hP
    rw [hwl, List.take_length] at hvs
    refine ⟨D, _, rfl, .inl (SqL.of eD), ?_⟩
    rw [hvs]
    have cgJ : Chg (VL :: kmut k0) H11 J := (cg3.trans (cF.mono fun c hc => by
      rw [List.mem_singleton.mp hc]
      exact List.mem_cons_self)).same sJ
    have kwJ : KnW P w K C J k0 ((ns ++ (zs ++ ws)).length : Nat) bs ls (cs ++ (r ++ r2)) ps fs := by
      rw [em, ← List.append_assoc]
      exact kwF.same sJ
    have eVJ := sJ _ _ eF
    have cxJ : CX ls.length ns.length (ns ++ (zs ++ ws)) (TH ls wa.rf ns) (cs ++ (r ++ r2)) := by
      rw [← List.append_assoc cs]
      exact cxF
    have hz2 : (zs ++ ws).length ≤ 2 * (i + 1) := by
      rw [List.length_append]
      omega
    have hr3 : (r ++ r2).length ≤ 2 * (i + 1) := by
      rw [List.length_append]
      omega
    by_cases he : ∃ wx, x' = .eit wx
    · obtain ⟨wx', rfl⟩ := he
      have hwd' : wd = "either" := hx'.1
      have hc : 0 < cntK (ns ++ (zs ++ ws)) (waysF ls vs2 (.eit wx')) := cnt_eit hsx
      generalize cntK (ns ++ (zs ++ ws)) (waysF ls vs2 (.eit wx')) = cnt at hc
      refine ⟨_, rfl, rfl, _, rfl, ?_⟩
      rw [decide_eq_false (fun h => by
        injection h with h
        omega)]
      refine iteF ⟨_, rfl, _, _, rfl, rfl, _, rfl, ite2 (fun _ => ?_) (fun _ => ⟨_, _, _, _, _, _, _, zs ++ ws, r ++ r2, rfl, cgJ, kwJ, eVJ, cxJ, hz2, hr3⟩)⟩
      refine ⟨_, rfl, t, _, _, _, rfl, rfl, sqt_same sJ htF, atI_nat (j := 0) rfl, rfl, _, rfl, ?_⟩
      rw [decide_eq_true (show V.str wd = V.str "either" by rw [hwd'])]
      exact iteF ⟨_, _, _, _, _, _, _, zs ++ ws, r ++ r2, rfl, cgJ, kwJ, eVJ, cxJ, hz2, hr3⟩
    · have hc : cntK (ns ++ (zs ++ ws)) (waysF ls vs2 x') = 1 := cnt_way hsx fun wx e => he ⟨wx, e⟩
      rw [hc]
      refine ⟨_, rfl, rfl, _, rfl, iteF ⟨_, rfl, _, _, rfl, rfl, _, rfl, iteF ?_⟩⟩
      exact ⟨_, _, _, _, _, _, _, zs ++ ws, r ++ r2, rfl, cgJ, kwJ, eVJ, cxJ, hz2, hr3⟩
end
end SW

namespace SW
open PySem PySem.Spec PyProof.Rows L2
theorem txk_mk {K : PySem.W.Frag} {h : Heap} {mg : PySem.Str → Option Value} {C : Addr} (X : K.In h) (G : h.Ns mainGlobals mg) (B : TxB mg) (aC : PySem.W.nsIn K mainGlobals "Known" = some (some (.ref C)))
    (pg : PySem.W.plainGet K C Str.empty = true) (hd : PySem.W.hasDictIn K C = true) (po : PySem.W.plainOver K C = true) (sa : PySem.W.findIn K (.ref C) "__setattr__" = some (some (.builtin "object.__setattr__")))
    (nM : PySem.W.findIn K (.ref C) "many" = some none) (nD : PySem.W.findIn K (.ref C) "differences" = some none) (nL : PySem.W.findIn K (.ref C) "lists" = some none) (nC : PySem.W.findIn K (.ref C) "cells" = some none) (nT : PySem.W.findIn K (.ref C) "taken" = some none) (nF : PySem.W.findIn K (.ref C) "fresh" = some none) (nO : PySem.W.findIn K (.ref C) "_found" = some none) : TxK K mg C :=
  ⟨B, ⟨pg, hd, po, sa⟩, nM, nD, nL, nC, nT, nF, nO, PySem.W.mg_of X G aC⟩
def ckk_mk {K : PySem.W.Frag} {C f : Addr} {oc : Value} {od an : Option Addr} {sl : Array (Option Value)} {kV doc pm cd ct : Value}
    (a : PySem.W.findIn K (.ref C) "__init__" = some (some (.ref f))) (i : PySem.W.isFn K (.ref f) = true) (l : K.lookup f = some ⟨oc, od, .func (PySem.W.fnOf "__init__" "Known.__init__" (defArgs s_Known) (defBody s_Known) (defScope s_Known) .none kV doc pm an cd ct), sl⟩) (c : PySem.W.codeIn K cd "Known.__init__" = true) (k : PySem.W.keepIn K (.ref f) = true)
    (mk : PySem.W.makesIn K C = true) (kc : PySem.W.keepIn K (.ref C) = true) : CkK K C :=
  ⟨f, _, fun_mk (st := s_Known) l c k, (fun_mk (st := s_Known) l c k).binds (ps := ["self", "many", "differences", "lists", "cells", "taken", "fresh"]) fun _ _ _ _ _ _ us hl => match us, hl with | [_, _, _, _, _, _, _], _ => rfl, ⟨mk, a, i, kc⟩⟩
def ckn_mk {K : PySem.W.Frag} {C f : Addr} {oc : Value} {od an : Option Addr} {sl : Array (Option Value)} {kV doc pm cd ct : Value}
    (a : PySem.W.findIn K (.ref C) "new_number" = some (some (.ref f))) (i : PySem.W.isFn K (.ref f) = true) (l : K.lookup f = some ⟨oc, od, .func (PySem.W.fnOf "new_number" "Known.new_number" (defArgs s_new_number) (defBody s_new_number) (defScope s_new_number) .none kV doc pm an cd ct), sl⟩) (c : PySem.W.codeIn K cd "Known.new_number" = true) (k : PySem.W.keepIn K (.ref f) = true) : CkM K C "new_number" "Known.new_number" s_new_number ["self"] :=
  ⟨f, _, fun_mk (st := s_new_number) l c k, (fun_mk (st := s_new_number) l c k).binds (ps := ["self"]) fun _ _ _ _ _ _ us hl => match us, hl with | [_], _ => rfl, ⟨a, i, k⟩⟩
def ckl_mk {K : PySem.W.Frag} {C f : Addr} {oc : Value} {od an : Option Addr} {sl : Array (Option Value)} {kV doc pm cd ct : Value}
    (a : PySem.W.findIn K (.ref C) "length" = some (some (.ref f))) (i : PySem.W.isFn K (.ref f) = true) (l : K.lookup f = some ⟨oc, od, .func (PySem.W.fnOf "length" "Known.length" (defArgs s_length) (defBody s_length) (defScope s_length) .none kV doc pm an cd ct), sl⟩) (c : PySem.W.codeIn K cd "Known.length" = true) (k : PySem.W.keepIn K (.ref f) = true) : CkM K C "length" "Known.length" s_length ["self", "number"] :=
  ⟨f, _, fun_mk (st := s_length) l c k, (fun_mk (st := s_length) l c k).binds (ps := ["self", "number"]) fun _ _ _ _ _ _ us hl => match us, hl with | [_, _], _ => rfl, ⟨a, i, k⟩⟩
def ckc_mk {K : PySem.W.Frag} {C f : Addr} {oc : Value} {od an : Option Addr} {sl : Array (Option Value)} {kV doc pm cd ct : Value}
    (a : PySem.W.findIn K (.ref C) "cell" = some (some (.ref f))) (i : PySem.W.isFn K (.ref f) = true) (l : K.lookup f = some ⟨oc, od, .func (PySem.W.fnOf "cell" "Known.cell" (defArgs s_cell) (defBody s_cell) (defScope s_cell) .none kV doc pm an cd ct), sl⟩) (c : PySem.W.codeIn K cd "Known.cell" = true) (k : PySem.W.keepIn K (.ref f) = true) : CkM K C "cell" "Known.cell" s_cell ["self", "number", "index"] :=
  ⟨f, _, fun_mk (st := s_cell) l c k, (fun_mk (st := s_cell) l c k).binds (ps := ["self", "number", "index"]) fun _ _ _ _ _ _ us hl => match us, hl with | [_, _, _], _ => rfl, ⟨a, i, k⟩⟩
def txs_mk {K : PySem.W.Frag} {w : World} {h : Heap} {mg : PySem.Str → Option Value} {C aS aM : Addr} {es : Array DictEntry} {en : Nat} {u0 : Value} {u1 : Value} {u2 : Value} {u3 : Value} {u4 : Value} {u5 : Value} {u6 : Value} (T : TxK K mg C) (X : K.In h) (G : h.Ns mainGlobals mg) (as : PySem.W.nsIn K mainGlobals "SIZES" = some (some (.ref aS))) (kl : K.lookup aS = some ⟨.type "dict", none, .dict es en, #[]⟩) (kk : PySem.W.KeysLit w.params es.toList) (lo : (aS == sysModules) = false)
    (e0 : PySem.W.nsIn K aS "pair" = some (some u0)) (r0 : RelV (V.int 3) u0)
    (e1 : PySem.W.nsIn K aS "write" = some (some u1)) (r1 : RelV (V.int 2) u1)
    (e2 : PySem.W.nsIn K aS "either" = some (some u2)) (r2 : RelV (V.int 2) u2)
    (e3 : PySem.W.nsIn K aS "all" = some (some u3)) (r3 : RelV (V.int 3) u3)
    (e4 : PySem.W.nsIn K aS "match" = some (some u4)) (r4 : RelV (V.int 3) u4)
    (e5 : PySem.W.nsIn K aS "sorted" = some (some u5)) (r5 : RelV (V.int 4) u5)
    (e6 : PySem.W.nsIn K aS "below" = some (some u6)) (r6 : RelV (V.int 4) u6)
    (o0 : PySem.W.nsIn K aS "pairs" = some none)
    (o1 : PySem.W.nsIn K aS "on" = some none)
    (o2 : PySem.W.nsIn K aS "dead" = some none)
    (o3 : PySem.W.nsIn K aS "" = some none)
    (o4 : PySem.W.nsIn K aS "new" = some none)
    (am : PySem.W.nsIn K mainGlobals "MAKERS" = some (some (.ref aM))) : {T : TxS K w mg C // T.aMakers = aM} :=
  ⟨⟨T, aS, es, en, PySem.W.mg_of X G as, ⟨kl, kk, lo⟩, fun z hz => by
    unfold wds at hz
    simp only [List.mem_cons, List.not_mem_nil, or_false] at hz
    rcases hz with rfl | rfl | rfl | rfl | rfl | rfl | rfl | rfl | rfl | rfl | rfl | rfl
    · exact ⟨_, e0, .inr ⟨3, u0, rfl, rfl, r0⟩⟩
    · exact ⟨_, e1, .inr ⟨2, u1, rfl, rfl, r1⟩⟩
    · exact ⟨_, e2, .inr ⟨2, u2, rfl, rfl, r2⟩⟩
    · exact ⟨_, e3, .inr ⟨3, u3, rfl, rfl, r3⟩⟩
    · exact ⟨_, e4, .inr ⟨3, u4, rfl, rfl, r4⟩⟩
    · exact ⟨_, e5, .inr ⟨4, u5, rfl, rfl, r5⟩⟩
    · exact ⟨_, e6, .inr ⟨4, u6, rfl, rfl, r6⟩⟩
    · exact ⟨_, o0, .inl ⟨rfl, rfl⟩⟩
    · exact ⟨_, o1, .inl ⟨rfl, rfl⟩⟩
    · exact ⟨_, o2, .inl ⟨rfl, rfl⟩⟩
    · exact ⟨_, o3, .inl ⟨rfl, rfl⟩⟩
    · exact ⟨_, o4, .inl ⟨rfl, rfl⟩⟩, aM, PySem.W.mg_of X G am⟩, rfl⟩
theorem mks_mk {K : PySem.W.Frag} {w : World} {aM fp fw fe fa fm fs fb : Addr} {es : Array DictEntry} {en : Nat} (kl : K.lookup aM = some ⟨.type "dict", none, .dict es en, #[]⟩) (kk : PySem.W.KeysLit w.params es.toList)
    (hp : PySem.W.nsIn K aM "pair" = some (some (.ref fp)))
    (hw : PySem.W.nsIn K aM "write" = some (some (.ref fw)))
    (he : PySem.W.nsIn K aM "either" = some (some (.ref fe)))
    (ha : PySem.W.nsIn K aM "all" = some (some (.ref fa)))
    (hm : PySem.W.nsIn K aM "match" = some (some (.ref fm)))
    (hs : PySem.W.nsIn K aM "sorted" = some (some (.ref fs)))
    (hb : PySem.W.nsIn K aM "below" = some (some (.ref fb))) : MkS K w aM fp fw fe fa fm fs fb :=
  ⟨⟨es, en, _, kl, kk, hp, rfl⟩, ⟨es, en, _, kl, kk, hw, rfl⟩, ⟨es, en, _, kl, kk, he, rfl⟩, ⟨es, en, _, kl, kk, ha, rfl⟩, ⟨es, en, _, kl, kk, hm, rfl⟩, ⟨es, en, _, kl, kk, hs, rfl⟩, ⟨es, en, _, kl, kk, hb, rfl⟩⟩
end SW

namespace SW
open PySem PySem.Spec PyProof.Rows L2
theorem all_mk {P : Program} {w : World} {K : PySem.W.Frag} {mg : PySem.Str → Option Value} {fa C aM : Addr} (hfa : mg "law" = some (.ref fa)) (T : {T : TxS K w mg C // T.aMakers = aM}) (c_Known : CkK K C) (c_new : CkM K C "new_number" "Known.new_number" s_new_number ["self"]) (c_length : CkM K C "length" "Known.length" s_length ["self", "number"]) (c_cell : CkM K C "cell" "Known.cell" s_cell ["self", "number", "index"])
  (D_law : Df K mg "law" s_law ["script"]) (hb : ∀ (s : Shared) (v : Value), BindsTo s D_law.fd ⟨[v], []⟩ [("script", v)]) (D_less : Df K mg "less" s_less ["f", "g"]) (D_at_most : Df K mg "at_most" s_at_most ["f", "g"]) (D_opposite : Df K mg "opposite" s_opposite ["difference"]) (D_equal : Df K mg "equal" s_equal ["f", "g"]) (D_ways_of : Df K mg "ways_of" s_ways_of ["sign", "f", "g"]) (D_tested : Df K mg "tested" s_tested ["tests", "ways"]) (D_outside_tests : Df K mg "outside_tests" s_outside_tests ["known", "number", "index"]) (D_split_ways : Df K mg "split_ways" s_split_ways ["known", "indexes", "split"]) (D_spots_of : Df K mg "spots_of" s_spots_of ["known", "indexes", "split"]) (D_is_split : Df K mg "_is_split" s_is_split ["known", "indexes", "split"]) (D_is_pair : Df K mg "_is_pair" s_is_pair ["cells", "m", "n"]) (D_fits : Df K mg "_fits" s_fits ["number", "things"]) (D_pair_ways : Df K mg "_pair_ways" s_pair_ways ["known", "indexes", "split", "values"]) (D_write_ways : Df K mg "_write_ways" s_write_ways ["known", "indexes", "split", "values"]) (D_either_ways : Df K mg "_either_ways" s_either_ways ["known", "indexes", "split", "values"]) (D_all_ways : Df K mg "_all_ways" s_all_ways ["known", "indexes", "split", "values"]) (D_match_ways : Df K mg "_match_ways" s_match_ways ["known", "indexes", "split", "values"]) (D_sorted_ways : Df K mg "_sorted_ways" s_sorted_ways ["known", "indexes", "split", "values"]) (D_below_ways : Df K mg "_below_ways" s_below_ways ["known", "indexes", "split", "values"]) (D_l_cell : Df K mg "_law_cell" s_l_cell ["script", "k"]) (D_l_draws : Df K mg "_law_draws" s_l_draws ["script", "place", "sizes"]) (D_l_at_most : Df K mg "_law_at_most" s_l_at_most ["f", "g"]) (D_l_of : Df K mg "_law_of" s_l_of ["form", "values"]) (D_l_length : Df K mg "_law_length" s_l_length ["lists", "number"]) (D_l_indexes : Df K mg "_law_indexes" s_l_indexes ["known", "fresh"]) (D_l_small : Df K mg "_law_small" s_l_small ["draw"]) (D_l_form_for : Df K mg "_law_form_for" s_l_form_for ["draw", "values", "target"]) (D_l_base : Df K mg "_law_base" s_l_base ["rule", "k"]) (D_l_there : Df K mg "_law_there" s_l_there ["world", "number", "k"]) (D_l_lists : Df K mg "_law_lists" s_l_lists ["script", "count", "values"]) (D_l_compared : Df K mg "_law_compared" s_l_compared ["sign", "left", "right"]) (D_l_range : Df K mg "_law_range" s_l_range ["world", "number", "lo", "hi"]) (D_l_true : Df K mg "_law_true" s_l_true ["world", "promise"]) (D_l_loose : Df K mg "_law_loose" s_l_loose ["draws", "values"]) (D_l_promise : Df K mg "_law_promise" s_l_promise ["script", "place", "world"]) (D_l_world : Df K mg "_law_world" s_l_world ["script", "most", "taken"]) (D_l_made : Df K mg "_law_made" s_l_made ["world", "fresh"]) (D_l_splits : Df K mg "_law_splits" s_l_splits ["known", "indexes", "draws"]) (D_l_kept : Df K mg "_law_kept" s_l_kept ["way", "values"]) (MK : MkS K w aM D_pair_ways.f D_write_ways.f D_either_ways.f D_all_ways.f D_match_ways.f D_sorted_ways.f D_below_ways.f) :
    ∃ fd : FuncData, (∀ (s : Shared) (v : Value), BindsTo s fd ⟨[v], []⟩ [("script", v)]) ∧ ∀ base : Heap, K.In base → base.Ns mainGlobals mg → FnOk P w K mg base CX0 6 fa fd ["script"] (spLaw K) := by
  have e := hfa.symm.trans D_law.g
  cases e
  exact ⟨D_law.fd, hb, fun base _ _ => (ok_law T.1 c_Known c_new c_length c_cell D_law D_less D_at_most D_opposite D_equal D_ways_of D_tested D_outside_tests D_split_ways D_spots_of D_is_split D_is_pair D_fits D_pair_ways D_write_ways D_either_ways D_all_ways D_match_ways D_sorted_ways D_below_ways D_l_cell D_l_draws D_l_at_most D_l_of D_l_length D_l_indexes D_l_small D_l_form_for D_l_base D_l_there D_l_lists D_l_compared D_l_range D_l_true D_l_loose D_l_promise D_l_world D_l_made D_l_splits D_l_kept (by rw [T.2]; exact MK)).mono (by decide)⟩
end SW

open PySem PySem.W PyProof.Rows
set_option maxHeartbeats 0 in
theorem PySem.Challenge.cw_swornrun_k17_ways_cover_holds : PySem.Challenge.rw_swornrun_k17_ways_cover.Holds := by
  w_on; o_law; k_head; (case hw => w_witness2)
  k_fill
  refine L2.walk_of (l := PySem.Challenge.rw_swornrun_k17_ways_cover) (n := 63) (k := 6) (x := "script") (CX := fun _ => L2.CX0) (sp := fun w => SW.spLaw _) rfl (by decide) rfl ⟨rfl, by decide, by decide⟩ (fun w h Y => PySem.W.kIn_of Y) ?F (fun _ _ a ns hl _ hS => ⟨a, ns, rfl, hS, hl, fun _ => rfl⟩) (fun _ _ _ _ _ h => h)
  case F =>
    intro w mg fa h KX G hmg
    refine' SW.all_mk hmg (SW.txs_mk (SW.txk_mk KX G ⟨PySem.W.mg_none_of KX G ?n_len, PySem.W.mg_none_of KX G ?n_range, PySem.W.mg_none_of KX G ?n_int, PySem.W.mg_none_of KX G ?n_abs, PySem.W.mg_none_of KX G ?n_isinstance, PySem.W.mg_none_of KX G ?n_list, PySem.W.mg_none_of KX G ?n_str, PySem.W.mg_none_of KX G ?n_bool, PySem.W.mg_none_of KX G ?n_tuple, PySem.W.mg_none_of KX G ?n_min, PySem.W.mg_none_of KX G ?n_max, PySem.W.mg_none_of KX G ?n_sum, PySem.W.mg_none_of KX G ?n_sorted, PySem.W.mg_none_of KX G ?n_any, PySem.W.mg_none_of KX G ?n_all, PySem.W.mg_none_of KX G ?n_zip, PySem.W.mg_none_of KX G ?n_enumerate, PySem.W.mg_none_of KX G ?n_reversed, PySem.W.mg_none_of KX G ?n_dict, PySem.W.mg_none_of KX G ?n_set, PySem.W.mg_none_of KX G ?n_repr, PySem.W.mg_none_of KX G ?n_ord⟩ ?zaC ?zpg ?zhd ?zpo ?zsa ?znM ?znD ?znL ?znC ?znT ?znF ?znO) KX G ?zas ?zkl ?zkk ?zlo ?ze0 ?zr0 ?ze1 ?zr1 ?ze2 ?zr2 ?ze3 ?zr3 ?ze4 ?zr4 ?ze5 ?zr5 ?ze6 ?zr6 ?zo0 ?zo1 ?zo2 ?zo3 ?zo4 ?zam) (SW.ckk_mk ?kya ?kyi ?kyl ?kyc ?kyk ?zmk ?zkc) (SW.ckn_mk ?nya ?nyi ?nyl ?nyc ?nyk) (SW.ckl_mk ?lya ?lyi ?lyl ?lyc ?lyk) (SW.ckc_mk ?cya ?cyi ?cyl ?cyc ?cyk) (SW.df_mk KX G ?a0 ?l0 ?c0 ?k0 (fun _ _ _ _ _ _ us hl => match us, hl with | [_], _ => rfl)) (fun s v => .of_eq rfl) (SW.df_mk KX G ?a1 ?l1 ?c1 ?k1 (fun _ _ _ _ _ _ us hl => match us, hl with | [_, _], _ => rfl)) (SW.df_mk KX G ?a2 ?l2 ?c2 ?k2 (fun _ _ _ _ _ _ us hl => match us, hl with | [_, _], _ => rfl)) (SW.df_mk KX G ?a3 ?l3 ?c3 ?k3 (fun _ _ _ _ _ _ us hl => match us, hl with | [_], _ => rfl)) (SW.df_mk KX G ?a4 ?l4 ?c4 ?k4 (fun _ _ _ _ _ _ us hl => match us, hl with | [_, _], _ => rfl)) (SW.df_mk KX G ?a5 ?l5 ?c5 ?k5 (fun _ _ _ _ _ _ us hl => match us, hl with | [_, _, _], _ => rfl)) (SW.df_mk KX G ?a6 ?l6 ?c6 ?k6 (fun _ _ _ _ _ _ us hl => match us, hl with | [_, _], _ => rfl)) (SW.df_mk KX G ?a7 ?l7 ?c7 ?k7 (fun _ _ _ _ _ _ us hl => match us, hl with | [_, _, _], _ => rfl)) (SW.df_mk KX G ?a8 ?l8 ?c8 ?k8 (fun _ _ _ _ _ _ us hl => match us, hl with | [_, _, _], _ => rfl)) (SW.df_mk KX G ?a9 ?l9 ?c9 ?k9 (fun _ _ _ _ _ _ us hl => match us, hl with | [_, _, _], _ => rfl)) (SW.df_mk KX G ?a10 ?l10 ?c10 ?k10 (fun _ _ _ _ _ _ us hl => match us, hl with | [_, _, _], _ => rfl)) (SW.df_mk KX G ?a11 ?l11 ?c11 ?k11 (fun _ _ _ _ _ _ us hl => match us, hl with | [_, _, _], _ => rfl)) (SW.df_mk KX G ?a12 ?l12 ?c12 ?k12 (fun _ _ _ _ _ _ us hl => match us, hl with | [_, _], _ => rfl)) (SW.df_mk KX G ?a13 ?l13 ?c13 ?k13 (fun _ _ _ _ _ _ us hl => match us, hl with | [_, _, _, _], _ => rfl)) (SW.df_mk KX G ?a14 ?l14 ?c14 ?k14 (fun _ _ _ _ _ _ us hl => match us, hl with | [_, _, _, _], _ => rfl)) (SW.df_mk KX G ?a15 ?l15 ?c15 ?k15 (fun _ _ _ _ _ _ us hl => match us, hl with | [_, _, _, _], _ => rfl)) (SW.df_mk KX G ?a16 ?l16 ?c16 ?k16 (fun _ _ _ _ _ _ us hl => match us, hl with | [_, _, _, _], _ => rfl)) (SW.df_mk KX G ?a17 ?l17 ?c17 ?k17 (fun _ _ _ _ _ _ us hl => match us, hl with | [_, _, _, _], _ => rfl)) (SW.df_mk KX G ?a18 ?l18 ?c18 ?k18 (fun _ _ _ _ _ _ us hl => match us, hl with | [_, _, _, _], _ => rfl)) (SW.df_mk KX G ?a19 ?l19 ?c19 ?k19 (fun _ _ _ _ _ _ us hl => match us, hl with | [_, _, _, _], _ => rfl)) (SW.df_mk KX G ?a20 ?l20 ?c20 ?k20 (fun _ _ _ _ _ _ us hl => match us, hl with | [_, _], _ => rfl)) (SW.df_mk KX G ?a21 ?l21 ?c21 ?k21 (fun _ _ _ _ _ _ us hl => match us, hl with | [_, _, _], _ => rfl)) (SW.df_mk KX G ?a22 ?l22 ?c22 ?k22 (fun _ _ _ _ _ _ us hl => match us, hl with | [_, _], _ => rfl)) (SW.df_mk KX G ?a23 ?l23 ?c23 ?k23 (fun _ _ _ _ _ _ us hl => match us, hl with | [_, _], _ => rfl)) (SW.df_mk KX G ?a24 ?l24 ?c24 ?k24 (fun _ _ _ _ _ _ us hl => match us, hl with | [_, _], _ => rfl)) (SW.df_mk KX G ?a25 ?l25 ?c25 ?k25 (fun _ _ _ _ _ _ us hl => match us, hl with | [_, _], _ => rfl)) (SW.df_mk KX G ?a26 ?l26 ?c26 ?k26 (fun _ _ _ _ _ _ us hl => match us, hl with | [_], _ => rfl)) (SW.df_mk KX G ?a27 ?l27 ?c27 ?k27 (fun _ _ _ _ _ _ us hl => match us, hl with | [_, _, _], _ => rfl)) (SW.df_mk KX G ?a28 ?l28 ?c28 ?k28 (fun _ _ _ _ _ _ us hl => match us, hl with | [_, _], _ => rfl)) (SW.df_mk KX G ?a29 ?l29 ?c29 ?k29 (fun _ _ _ _ _ _ us hl => match us, hl with | [_, _, _], _ => rfl)) (SW.df_mk KX G ?a30 ?l30 ?c30 ?k30 (fun _ _ _ _ _ _ us hl => match us, hl with | [_, _, _], _ => rfl)) (SW.df_mk KX G ?a31 ?l31 ?c31 ?k31 (fun _ _ _ _ _ _ us hl => match us, hl with | [_, _, _], _ => rfl)) (SW.df_mk KX G ?a32 ?l32 ?c32 ?k32 (fun _ _ _ _ _ _ us hl => match us, hl with | [_, _, _, _], _ => rfl)) (SW.df_mk KX G ?a33 ?l33 ?c33 ?k33 (fun _ _ _ _ _ _ us hl => match us, hl with | [_, _], _ => rfl)) (SW.df_mk KX G ?a34 ?l34 ?c34 ?k34 (fun _ _ _ _ _ _ us hl => match us, hl with | [_, _], _ => rfl)) (SW.df_mk KX G ?a35 ?l35 ?c35 ?k35 (fun _ _ _ _ _ _ us hl => match us, hl with | [_, _, _], _ => rfl)) (SW.df_mk KX G ?a36 ?l36 ?c36 ?k36 (fun _ _ _ _ _ _ us hl => match us, hl with | [_, _, _], _ => rfl)) (SW.df_mk KX G ?a37 ?l37 ?c37 ?k37 (fun _ _ _ _ _ _ us hl => match us, hl with | [_, _], _ => rfl)) (SW.df_mk KX G ?a38 ?l38 ?c38 ?k38 (fun _ _ _ _ _ _ us hl => match us, hl with | [_, _, _], _ => rfl)) (SW.df_mk KX G ?a39 ?l39 ?c39 ?k39 (fun _ _ _ _ _ _ us hl => match us, hl with | [_, _], _ => rfl)) (SW.mks_mk ?zml ?zmm ?zfp ?zfw ?zfe ?zfa ?zfm ?zfs ?zfb)
    (case a0 => k_is)
    (case l0 => k_is)
    (case c0 => k_is)
    (case k0 => k_is)
    (case a1 => k_is)
    (case l1 => k_is)
    (case c1 => k_is)
    (case k1 => k_is)
    (case a2 => k_is)
    (case l2 => k_is)
    (case c2 => k_is)
    (case k2 => k_is)
    (case a3 => k_is)
    (case l3 => k_is)
    (case c3 => k_is)
    (case k3 => k_is)
    (case a4 => k_is)
    (case l4 => k_is)
    (case c4 => k_is)
    (case k4 => k_is)
    (case a5 => k_is)
    (case l5 => k_is)
    (case c5 => k_is)
    (case k5 => k_is)
    (case a6 => k_is)
    (case l6 => k_is)
    (case c6 => k_is)
    (case k6 => k_is)
    (case a7 => k_is)
    (case l7 => k_is)
    (case c7 => k_is)
    (case k7 => k_is)
    (case a8 => k_is)
    (case l8 => k_is)
    (case c8 => k_is)
    (case k8 => k_is)
    (case a9 => k_is)
    (case l9 => k_is)
    (case c9 => k_is)
    (case k9 => k_is)
    (case a10 => k_is)
    (case l10 => k_is)
    (case c10 => k_is)
    (case k10 => k_is)
    (case a11 => k_is)
    (case l11 => k_is)
    (case c11 => k_is)
    (case k11 => k_is)
    (case a12 => k_is)
    (case l12 => k_is)
    (case c12 => k_is)
    (case k12 => k_is)
    (case a13 => k_is)
    (case l13 => k_is)
    (case c13 => k_is)
    (case k13 => k_is)
    (case a14 => k_is)
    (case l14 => k_is)
    (case c14 => k_is)
    (case k14 => k_is)
    (case a15 => k_is)
    (case l15 => k_is)
    (case c15 => k_is)
    (case k15 => k_is)
    (case a16 => k_is)
    (case l16 => k_is)
    (case c16 => k_is)
    (case k16 => k_is)
    (case a17 => k_is)
    (case l17 => k_is)
    (case c17 => k_is)
    (case k17 => k_is)
    (case a18 => k_is)
    (case l18 => k_is)
    (case c18 => k_is)
    (case k18 => k_is)
    (case a19 => k_is)
    (case l19 => k_is)
    (case c19 => k_is)
    (case k19 => k_is)
    (case a20 => k_is)
    (case l20 => k_is)
    (case c20 => k_is)
    (case k20 => k_is)
    (case a21 => k_is)
    (case l21 => k_is)
    (case c21 => k_is)
    (case k21 => k_is)
    (case a22 => k_is)
    (case l22 => k_is)
    (case c22 => k_is)
    (case k22 => k_is)
    (case a23 => k_is)
    (case l23 => k_is)
    (case c23 => k_is)
    (case k23 => k_is)
    (case a24 => k_is)
    (case l24 => k_is)
    (case c24 => k_is)
    (case k24 => k_is)
    (case a25 => k_is)
    (case l25 => k_is)
    (case c25 => k_is)
    (case k25 => k_is)
    (case a26 => k_is)
    (case l26 => k_is)
    (case c26 => k_is)
    (case k26 => k_is)
    (case a27 => k_is)
    (case l27 => k_is)
    (case c27 => k_is)
    (case k27 => k_is)
    (case a28 => k_is)
    (case l28 => k_is)
    (case c28 => k_is)
    (case k28 => k_is)
    (case a29 => k_is)
    (case l29 => k_is)
    (case c29 => k_is)
    (case k29 => k_is)
    (case a30 => k_is)
    (case l30 => k_is)
    (case c30 => k_is)
    (case k30 => k_is)
    (case a31 => k_is)
    (case l31 => k_is)
    (case c31 => k_is)
    (case k31 => k_is)
    (case a32 => k_is)
    (case l32 => k_is)
    (case c32 => k_is)
    (case k32 => k_is)
    (case a33 => k_is)
    (case l33 => k_is)
    (case c33 => k_is)
    (case k33 => k_is)
    (case a34 => k_is)
    (case l34 => k_is)
    (case c34 => k_is)
    (case k34 => k_is)
    (case a35 => k_is)
    (case l35 => k_is)
    (case c35 => k_is)
    (case k35 => k_is)
    (case a36 => k_is)
    (case l36 => k_is)
    (case c36 => k_is)
    (case k36 => k_is)
    (case a37 => k_is)
    (case l37 => k_is)
    (case c37 => k_is)
    (case k37 => k_is)
    (case a38 => k_is)
    (case l38 => k_is)
    (case c38 => k_is)
    (case k38 => k_is)
    (case a39 => k_is)
    (case l39 => k_is)
    (case c39 => k_is)
    (case k39 => k_is)
    (case n_len => k_is)
    (case n_range => k_is)
    (case n_int => k_is)
    (case n_abs => k_is)
    (case n_isinstance => k_is)
    (case n_list => k_is)
    (case n_str => k_is)
    (case n_bool => k_is)
    (case n_tuple => k_is)
    (case n_min => k_is)
    (case n_max => k_is)
    (case n_sum => k_is)
    (case n_sorted => k_is)
    (case n_any => k_is)
    (case n_all => k_is)
    (case n_zip => k_is)
    (case n_enumerate => k_is)
    (case n_reversed => k_is)
    (case n_dict => k_is)
    (case n_set => k_is)
    (case n_repr => k_is)
    (case n_ord => k_is)
    (case zaC => k_is)
    (case zpg => k_is)
    (case zhd => k_is)
    (case zpo => k_is)
    (case zsa => k_is)
    (case znM => k_is)
    (case znD => k_is)
    (case znL => k_is)
    (case znC => k_is)
    (case znT => k_is)
    (case znF => k_is)
    (case znO => k_is)
    (case zas => k_is)
    (case zkl => k_is)
    (case zkk => k_keys)
    (case zlo => decide)
    (case ze0 => k_is)
    (case ze1 => k_is)
    (case ze2 => k_is)
    (case ze3 => k_is)
    (case ze4 => k_is)
    (case ze5 => k_is)
    (case ze6 => k_is)
    (case zr0 => exact ⟨_, rfl⟩)
    (case zr1 => exact ⟨_, rfl⟩)
    (case zr2 => exact ⟨_, rfl⟩)
    (case zr3 => exact ⟨_, rfl⟩)
    (case zr4 => exact ⟨_, rfl⟩)
    (case zr5 => exact ⟨_, rfl⟩)
    (case zr6 => exact ⟨_, rfl⟩)
    (case zo0 => k_is)
    (case zo1 => k_is)
    (case zo2 => k_is)
    (case zo3 => k_is)
    (case zo4 => k_is)
    (case zam => k_is)
    (case zml => k_is)
    (case zmm => k_keys)
    (case zfp => k_is)
    (case zfw => k_is)
    (case zfe => k_is)
    (case zfa => k_is)
    (case zfm => k_is)
    (case zfs => k_is)
    (case zfb => k_is)
    (case kya => k_is)
    (case kyi => k_is)
    (case kyl => k_is)
    (case kyc => k_is)
    (case kyk => k_is)
    (case nya => k_is)
    (case nyi => k_is)
    (case nyl => k_is)
    (case nyc => k_is)
    (case nyk => k_is)
    (case lya => k_is)
    (case lyi => k_is)
    (case lyl => k_is)
    (case lyc => k_is)
    (case lyk => k_is)
    (case cya => k_is)
    (case cyi => k_is)
    (case cyl => k_is)
    (case cyc => k_is)
    (case cyk => k_is)
    (case zmk => k_is)
    (case zkc => k_is)
