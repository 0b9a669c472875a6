import PyProof.Rows.All
import Wide.All
import OpenK.AllK
import Wide.FinOn
import HandS.ForMost
import HandS.IsInst
import HandS.Evl
import HandS.SetIn
import HandS.Walk
import HandS.Star
import HandS.Zip
import HandS.Style
import HandS.Wide
import HandS.Dict
import HandS.DictComp
import PyProof.LongRange
import HandS.TupAny
import HandS.Flow
import HandS.TryOnly
import PySem.Challenge.RW_swornrun_k09_truths_and_values
set_option Elab.async false
set_option linter.all false
set_option maxRecDepth 100000
set_option maxHeartbeats 4000000
namespace SW
open PySem PySem.Spec PyProof.Rows L2
def topS (i : Nat) : Stmt := PySem.Challenge.pw_swornrun_k09_truths_and_values.main.body.getD i (.Pass ⟨0, 0, 0, 0⟩)
/-- the built-in names stand for what they are -/
structure TxB (mg : PySem.Str → Option Value) : Prop where
  n_len : mg "len" = none
  n_range : mg "range" = none
  n_int : mg "int" = none
  n_abs : mg "abs" = none
  n_isinstance : mg "isinstance" = none
  n_list : mg "list" = none
  n_str : mg "str" = none
  n_bool : mg "bool" = none
  n_tuple : mg "tuple" = none
  n_min : mg "min" = none
  n_max : mg "max" = none
  n_sum : mg "sum" = none
  n_sorted : mg "sorted" = none
  n_any : mg "any" = none
  n_all : mg "all" = none
  n_zip : mg "zip" = none
  n_enumerate : mg "enumerate" = none
  n_reversed : mg "reversed" = none
  n_dict : mg "dict" = none
  n_set : mg "set" = none
  n_repr : mg "repr" = none
  n_ord : mg "ord" = none
/-- a def of the text -/
structure Df (K : PySem.W.Frag) (mg : PySem.Str → Option Value) (x : PySem.Str) (st : Stmt) (ps : List PySem.Str) where
  f : Addr
  fd : FuncData
  F : Fun K x x st f fd
  rb : ∀ us : List Value, us.length = ps.length → bindArgs fd ⟨us, []⟩ = pure (ps.zip us)
  g : mg x = some (.ref f)
theorem Df.b {K : PySem.W.Frag} {mg : PySem.Str → Option Value} {x : PySem.Str} {st : Stmt} {ps : List PySem.Str} (D : Df K mg x st ps) : Binds K D.fd ps [] := .all D.rb
/-- .. of what the head tells -/
def df_mk {x : PySem.Str} {st : Stmt} {ps : List PySem.Str} {K : PySem.W.Frag} {h : Heap} {mg : PySem.Str → Option Value} (X : K.In h) (G : h.Ns mainGlobals mg) {f : Addr} {oc : Value} {od an : Option Addr} {sl : Array (Option Value)} {kV doc pm cd ct : Value}
    (a : PySem.W.nsIn K mainGlobals x = some (some (.ref f))) (l : K.lookup f = some ⟨oc, od, .func (PySem.W.fnOf x x (defArgs st) (defBody st) (defScope st) .none kV doc pm an cd ct), sl⟩) (c : PySem.W.codeIn K cd x = true) (k : PySem.W.keepIn K (.ref f) = true)
    (hb : ∀ (kV doc pm : Value) (an : Option Addr) (cd ct : Value) (us : List Value), us.length = ps.length → bindArgs (PySem.W.fnOf x x (defArgs st) (defBody st) (defScope st) .none kV doc pm an cd ct) ⟨us, []⟩ = pure (ps.zip us)) : Df K mg x st ps :=
  ⟨f, _, fun_mk l c k, hb kV doc pm an cd ct, PySem.W.mg_of X G a⟩
theorem m_of {K : PySem.W.Frag} {h : Heap} {mg : PySem.Str → Option Value} {x : PySem.Str} {v u : Value} (X : K.In h) (G : h.Ns mainGlobals mg) (e : PySem.W.nsIn K mainGlobals x = some (some v)) (q : v = u) : mg x = some u := by
  rw [← q]
  exact PySem.W.mg_of X G e
theorem sqt_mk {K : PySem.W.Frag} {aT : Addr} {od : Option Addr} {its : Array Value} {n : Nat} {sl : Array (Option Value)} {xs : List V} (l : K.lookup aT = some ⟨.type "tuple", od, .seq its n, sl⟩) (hs : its.size ≤ sizeLine) (r : Vals xs its.toList) : ∀ H, SqT K H aT xs :=
  fun H => .inr ⟨_, its, n, l, rfl, rfl, hs, r⟩
theorem same_new {H : Hp} {p : Addr} {o : HO} (h : H p = none) : Same H (upd H p o) := fun b x e => by
  rw [upd_ne (ne_of_none e h)]
  exact e
/-- an object that H does not know has changed -/
theorem same_mut {H H' : Hp} {p : Addr} {o : HO} (s : Same H H') (h : H p = none) : Same H (upd H' p o) := fun b x e => by
  rw [upd_ne (ne_of_none e h)]
  exact s _ _ e
theorem new_of {H H1 : Hp} {p : Addr} {o : HO} (n : H p = none) (h : upd H p o = H1) : Same H H1 ∧ H1 p = some o := by
  subst h
  exact ⟨same_new n, upd_same⟩
/-- all that was tracked is as it was, but what stands at h -/
def But (h : Addr) (H H' : Hp) : Prop := ∀ b o, b ≠ h → H b = some o → H' b = some o
theorem But.refl (h : Addr) (H : Hp) : But h H H := fun _ _ _ e => e
theorem But.trans {h : Addr} {H H1 H2 : Hp} (a : But h H H1) (b : But h H1 H2) : But h H H2 := fun c o n e => b c o n (a c o n e)
theorem Same.but {h : Addr} {H H' : Hp} (a : Same H H') : But h H H' := fun c o _ e => a c o e
/-- the hand at h: the list of draws at d, and a place in it -/
structure Hand (H : Hp) (h d : Addr) (ds : List Int) : Prop where
  at_ : ∃ i : Nat, H h = some (.lst [.ref d, .int (i : Nat)])
  ds_ : H d = some (.lst (ds.map V.int))
  ne : d ≠ h
theorem Hand.same {H H' : Hp} {h d : Addr} {ds : List Int} (a : Hand H h d ds) (s : Same H H') : Hand H' h d ds := by
  obtain ⟨⟨i, h1⟩, h2, h3⟩ := a
  exact ⟨⟨i, s _ _ h1⟩, s _ _ h2, h3⟩
theorem small_sz {n : Nat} (h : n ≤ 1000) : n < sizeLine := Nat.lt_of_le_of_lt h (by decide)
theorem small_sz5 {n : Nat} (h : n ≤ 100000) : n < sizeLine := Nat.lt_of_le_of_lt h (by decide)
theorem ixN_nat {n j : Nat} (h : j < n) : ixN n (j : Int) = some j := by
  unfold ixN
  rw [if_pos (by omega), if_pos (by omega)]
  rfl
theorem hand_ne {H : Hp} {h d p : Addr} {ds : List Int} (hd : Hand H h d ds) (n : H p = none) : p ≠ h := by
  obtain ⟨⟨i, e⟩, _, _⟩ := hd
  exact (ne_of_none e n).symm
theorem hand_ne2 {H : Hp} {h d p : Addr} {ds : List Int} (hd : Hand H h d ds) (n : H p = none) : p ≠ d := (ne_of_none hd.ds_ n).symm
/-- something else than the hand and its draws has changed -/
theorem Hand.upd {H : Hp} {h d p : Addr} {o : HO} {ds : List Int} (a : Hand H h d ds) (h1 : p ≠ h) (h2 : p ≠ d) : Hand (L2.upd H p o) h d ds := by
  obtain ⟨⟨i, e1⟩, e2, e3⟩ := a
  exact ⟨⟨i, (upd_ne h1.symm).trans e1⟩, (upd_ne h2.symm).trans e2, e3⟩
theorem But.new {a : Addr} {H H' : Hp} {p : Addr} {o : HO} (b : But a H H') (n : H p = none) : But a H (L2.upd H' p o) := fun c u hc e => (upd_ne (ne_of_none e n)).trans (b c u hc e)
theorem But.free {a : Addr} {H H' : Hp} {p : Addr} (b : But a H H') (hp : p ≠ a) (n : H' p = none) : H p = none := by
  cases e : H p with
  | none => rfl
  | some u =>
    rw [b p u hp e] at n
    cases n
/-! ### written texts in a row; a text n times -/
def tStrs (ws : List PySem.Str) : TA := fun _ H Q => Q (ws.map V.str) H
theorem pa_strs {X : Cx} {es : List Expr} {ws : List PySem.Str} (h : StrEs es ws) : PA X es (tStrs ws) := by
  induction h with
  | nil => exact pa_nil
  | cons x j p _ ih => exact pa_cons pe_str ih
def rMulS : R2 := fun x y H Q => ∃ (z : PySem.Str) (n : Int), x = .str z ∧ y = .int n ∧ 0 ≤ n ∧ n ≤ 1000 ∧ z.length ≤ 1000 ∧ Q (.str (Txt.mul z n)) H
theorem op_mul_str {X : Cx} : OpR X (binaryOp .Mult) rMulS := by
  intro pins s σ H x y v u Q I rx ry h
  obtain ⟨z, n, rfl, rfl, h0, h1, hz, q⟩ := h
  obtain ⟨t, rfl⟩ := rx
  obtain ⟨t', rfl⟩ := ry
  refine SB.mul ⟨?_, ?_, ?_⟩ fun t' k => ⟨.str _, H, I.tok k, ⟨t', rfl⟩, q⟩
  · rw [Bool.or_eq_false_iff]
    exact ⟨decide_eq_false (by omega), decide_eq_false (by omega)⟩
  · intro hn _ hc
    have hd : (2 ^ 63 - 1 : Int) / 1000 ≤ (2 ^ 63 - 1) / n := by
      have : n * 9223372036854775 ≤ 2 ^ 63 - 1 := by omega
      have h2 : (9223372036854775 : Int) ≤ (2 ^ 63 - 1) / n := Int.le_ediv_of_mul_le (by omega) (by rw [Int.mul_comm]; exact this)
      have h3 : (2 ^ 63 - 1 : Int) / 1000 = 9223372036854775 := by decide
      omega
    have h3 : (2 ^ 63 - 1 : Int) / 1000 = 9223372036854775 := by decide
    omega
  · intro _ _
    have hb : z.length * n.toNat ≤ 1000 * 1000 := Nat.mul_le_mul hz (by omega)
    unfold Builtin.Str.tooLong
    refine decide_eq_false ?_
    have : (1000 * 1000 : Nat) ≤ sizeLine := by decide
    omega
theorem foldl_app {c : Nat} : ∀ (n : Nat) (a : Array Nat), ((List.replicate n #[c]).foldl (· ++ ·) a).toList = a.toList ++ List.replicate n c
  | 0, a => by simp
  | n + 1, a => by
    rw [List.replicate_succ, List.foldl_cons, foldl_app n]
    simp [List.replicate_succ]
theorem mul_one_sign (c : Nat) (n : Int) : (Txt.mul ⟨#[c]⟩ n).cps.toList = List.replicate n.toNat c := by
  unfold Txt.mul
  by_cases h1 : n < 1
  · rw [if_pos h1, show n.toNat = 0 by omega]
    rfl
  · rw [if_neg h1]
    by_cases h2 : (n == 1 || (⟨#[c]⟩ : PySem.Str).length == 0) = true
    · rw [if_pos h2]
      have h3 : n = 1 := by
        rcases Bool.or_eq_true_iff.mp h2 with h | h
        · exact eq_of_beq h
        · exact absurd (eq_of_beq h) (by show ¬ (1 : Nat) = 0; decide)
      subst h3
      rfl
    · rw [if_neg h2]
      show ((List.replicate n.toNat #[c]).foldl (· ++ ·) #[]).toList = _
      rw [foldl_app]
      rfl
theorem join_len1 : ∀ (ys : List PySem.Str), (Str.join "" ys).length = (ys.map (·.length)).sum
  | [] => rfl
  | [x] => by
    show x.length = (x.length :: []).sum
    rw [List.sum_cons]
    rfl
  | x :: y :: r => by
    show (x ++ "" ++ Str.join "" (y :: r)).length = _
    have h := join_len1 (y :: r)
    rw [TL.len_tl] at h ⊢
    rw [TL.tl_append, TL.tl_append, List.length_append, List.length_append, h, List.map_cons, List.sum_cons, TL.len_tl]
    rfl
theorem join_len (ys : List PySem.Str) : (Txt.join "" ys).length = (ys.map (·.length)).sum := by
  rw [TL.join_eq, join_len1]
theorem sum_const {ys : List PySem.Str} {b : Nat} (h : ∀ y ∈ ys, y.length ≤ b) : (ys.map (·.length)).sum ≤ ys.length * b := by
  induction ys with
  | nil => exact Nat.zero_le _
  | cons a r ih =>
    have h1 := h a List.mem_cons_self
    have h2 := ih fun y hy => h y (List.mem_cons_of_mem _ hy)
    rw [List.map_cons, List.sum_cons, List.length_cons, Nat.add_mul]
    omega
theorem str_at {z : PySem.Str} {r : Int} (h0 : 0 ≤ r) (h1 : r < z.length) : ∃ c, atI z.cps.toList r = some c := by
  obtain ⟨j, rfl⟩ : ∃ j : Nat, r = j := ⟨r.toNat, by omega⟩
  have hl : z.cps.toList.length = z.length := rfl
  have hj : j < z.cps.toList.length := by omega
  exact ⟨_, atI_nat (List.getElem?_eq_getElem hj)⟩
theorem strs_at {ws : List PySem.Str} {r : Int} (h0 : 0 ≤ r) (h1 : r < ws.length) : ∃ z, z ∈ ws ∧ atI (ws.map V.str) r = some (.str z) := by
  obtain ⟨j, rfl⟩ : ∃ j : Nat, r = j := ⟨r.toNat, by omega⟩
  have hj : j < ws.length := by omega
  refine ⟨ws[j], List.getElem_mem hj, atI_nat ?_⟩
  rw [List.getElem?_map, List.getElem?_eq_getElem hj]
  rfl
/-- a loop over a text's signs -/
theorem for_str {x : PySem.Str} {g : TG} {tb : TS} {D : Ends} {σ : L2.St} {H : Hp} (Pv : Nat → L2.St → Hp → Prop) (h0 : Pv 0 σ H)
    (hs : ∀ i c σ H, x.cps.toList[i]? = some c → Pv i σ H → g (.str ⟨#[c]⟩) σ H fun σ2 H2 => tb { D with nx := Pv (i + 1), ct := Pv (i + 1), bk := D.nx } σ2 H2) (hd : ∀ σ H, Pv x.cps.toList.length σ H → D.nx σ H) :
    ∃ W : Nat → Nat → L2.St → Hp → Prop, (∃ m, W 0 m σ H) ∧ ∀ i m σ H, W i m σ H →
      ((Its x).stop i H ∧ D.nx σ H) ∨ ((Its x).go i H ∧ ∃ N : L2.St → Hp → Prop, (∀ σ' H', N σ' H' → ∃ m', m' < m ∧ W (i + 1) m' σ' H') ∧ ∀ v H', (Its x).yld i H v H' → g v σ H' fun σ2 H2 => tb { D with nx := N, ct := N, bk := D.nx } σ2 H2) := by
  refine ⟨fun i m σ H => m = x.cps.toList.length - i ∧ i ≤ x.cps.toList.length ∧ Pv i σ H, ⟨x.cps.toList.length, by simp, Nat.zero_le _, h0⟩, ?_⟩
  rintro i m σ H ⟨rfl, hi, p⟩
  by_cases hlt : i < x.cps.toList.length
  · refine .inr ⟨hlt, Pv (i + 1), fun σ' H' p' => ⟨x.cps.toList.length - (i + 1), by omega, rfl, hlt, p'⟩, fun v H' y => ?_⟩
    obtain ⟨e, c, hc, hv⟩ := y
    subst e hv
    exact hs i c σ _ (by rw [Array.getElem?_toList]; exact hc) p
  · have e : i = x.cps.toList.length := by omega
    subst e
    exact .inl ⟨Nat.le_refl _, hd σ H p⟩
abbrev mk (l : List Nat) : PySem.Str := ⟨l.toArray⟩
theorem mk_cp (z : PySem.Str) : mk z.cps.toList = z := rfl
theorem cp_mk (l : List Nat) : (mk l).cps.toList = l := rfl
theorem flat_strs (ws : List PySem.Str) : (ws.map V.str).all flatV = true := by
  induction ws with
  | nil => rfl
  | cons a r ih =>
    rw [List.map_cons, List.all_cons, ih]
    rfl
theorem inV_strs (a : PySem.Str) (ws : List PySem.Str) : inV (.str a) (ws.map V.str) = decide (a ∈ ws) := by
  induction ws with
  | nil => rfl
  | cons b r ih =>
    show ((b == a) || inV (.str a) (r.map V.str)) = _
    rw [ih]
    by_cases e : b = a
    · subst e
      simp
    · rw [beq_eq_false_iff_ne.mpr e]
      by_cases m : a ∈ r
      · simp [m]
      · simp [m, Ne.symm e]
theorem cut2 (z : PySem.Str) (i : Nat) (h : i < z.length) : cutS z (some (i : Int)) (some ((i : Int) + 2)) = mk ((z.cps.toList.drop i).take 2) := by
  have e1 : HT.sIx z.length 0 (some (i : Int)) = i := by
    rw [HT.sIx_nat]
    omega
  have e2 : HT.sIx z.length z.length (some ((i : Int) + 2)) = min (i + 2) z.length := by
    rw [show ((i : Int) + 2) = ((i + 2 : Nat) : Int) by omega, HT.sIx_nat]
  unfold cutS
  rw [e1, e2]
  show mk _ = mk _
  congr 1
  have hl : (z.cps.toList.drop i).length = z.length - i := by
    rw [List.length_drop]
    rfl
  by_cases h2 : i + 2 ≤ z.length
  · rw [show min (i + 2) z.length - i = 2 by omega]
  · rw [Nat.min_eq_right (by omega), List.take_of_length_le (by omega), List.take_of_length_le (by omega)]
theorem cut_nat (z : PySem.Str) (i n : Nat) (h : i + n ≤ z.length) : cutS z (some (i : Int)) (some ((i + n : Nat) : Int)) = mk ((z.cps.toList.drop i).take n) := by
  have e1 : HT.sIx z.length 0 (some (i : Int)) = i := by
    rw [HT.sIx_nat]
    omega
  have e2 : HT.sIx z.length z.length (some ((i + n : Nat) : Int)) = i + n := by
    rw [HT.sIx_nat]
    omega
  unfold cutS
  rw [e1, e2, show i + n - i = n by omega]
theorem str_ne (z : PySem.Str) : (!decide (V.str z = V.str "")) = decide (z.cps.toList ≠ []) := by
  by_cases h : z.cps.toList = []
  · have e : z = "" := by
      rw [← mk_cp z, h]
      rfl
    subst e
    rfl
  · have e : ¬ V.str z = V.str "" := fun e => h (by
      injection e with e
      rw [e]
      rfl)
    rw [decide_eq_false e, decide_eq_true h]
    rfl
theorem le_dec (n m : Nat) : decide ((n : Int) ≤ (m : Int)) = decide (n ≤ m) := decide_eq_decide.mpr Int.ofNat_le
theorem str_dec (x y : PySem.Str) : decide (V.str x = V.str y) = decide (x = y) := decide_eq_decide.mpr ⟨fun h => by injection h, fun h => by rw [h]⟩
theorem sz5 {n : Nat} (h : n ≤ 100000) : n ≤ sizeLine := Nat.le_trans h (by decide)
theorem sz5' {n : Nat} (h : n ≤ 100000) : n < sizeLine := Nat.lt_of_le_of_lt h (by decide)
theorem at_nat {xs : List V} {z : Int} {j : Nat} {v : V} (e : z = (j : Int)) (h : xs[j]? = some v) : atI xs z = some v := at_of e h
end SW

namespace SW
open PySem PySem.Spec PyProof.Rows L2
theorem app_len (x y : PySem.Str) : (x ++ y).length = x.length + y.length := by
  rw [TL.len_tl, TL.tl_append, List.length_append, ← TL.len_tl, ← TL.len_tl]
theorem mul_len (n : Int) : (Txt.mul " " n).length = n.toNat := by
  rw [TL.len_tl]
  show (Txt.mul ⟨#[32]⟩ n).cps.toList.length = _
  rw [mul_one_sign, List.length_replicate]
/-! ### data: what is read stays -/
mutual
theorem dp_same {K : PySem.W.Frag} {H H' : Hp} (s : Same H H') : ∀ (d : PyData) (v : V), Dp K H v d → Dp K H' v d
  | .none, _, h => by
    cases h
    exact .non
  | .bool b, _, h => by
    cases h
    exact .bl b
  | .int i, _, h => by
    cases h
    exact .int i
  | .str x, _, h => by
    cases h
    exact .str x
  | .list ds, _, h => by
    cases h with
    | lst hs ha => exact .lst (s.seq hs) (dpa_same s ds _ ha)
  | .tuple ds, _, h => by
    cases h with
    | tup hs ha =>
      refine .tup ?_ (dpa_same s ds _ ha)
      rcases hs with (hs | ⟨o, hs⟩) | hs
      · exact .inl (.inl (s _ _ hs))
      · exact .inl (.inr ⟨o, s _ _ hs⟩)
      · exact .inr hs
  | .dict _, _, h => by cases h
theorem dpa_same {K : PySem.W.Frag} {H H' : Hp} (s : Same H H') : ∀ (ds : List PyData) (vs : List V), DpAll K H vs ds → DpAll K H' vs ds
  | [], _, h => by
    cases h
    exact .nil
  | d :: ds, _, h => by
    cases h with
    | cons h1 h2 => exact .cons (dp_same s d _ h1) (dpa_same s ds _ h2)
end
theorem sqt_same {K : PySem.W.Frag} {H H' : Hp} (s : Same H H') {a : Addr} {xs : List V} (hs : SqT K H a xs) : SqT K H' a xs := by
  rcases hs with (hs | ⟨o, hs⟩) | hs
  · exact .inl (.inl (s _ _ hs))
  · exact .inl (.inr ⟨o, s _ _ hs⟩)
  · exact .inr hs
theorem _root_.L2.Dp.same {K : PySem.W.Frag} {H H' : Hp} {d : PyData} {v : V} (h : Dp K H v d) (s : Same H H') : Dp K H' v d := dp_same s d v h
mutual
/-- no list within -/
def noL : PyData → Bool
  | .tuple ds => noLs ds
  | .list _ => false
  | .dict _ => false
  | _ => true
def noLs : List PyData → Bool
  | [] => true
  | d :: ds => noL d && noLs ds
end
mutual
theorem dp_but {K : PySem.W.Frag} {H H' : Hp} {h : Addr} {ys : List V} (hl : H h = some (.lst ys)) (s : But h H H') : ∀ (d : PyData) (v : V), noL d = true → Dp K H v d → Dp K H' v d
  | .none, _, _, e => by
    cases e
    exact .non
  | .bool b, _, _, e => by
    cases e
    exact .bl b
  | .int i, _, _, e => by
    cases e
    exact .int i
  | .str x, _, _, e => by
    cases e
    exact .str x
  | .list ds, _, n, _ => by
    unfold noL at n
    cases n
  | .tuple ds, _, n, e => by
    cases e with
    | tup hs ha =>
      refine .tup ?_ (dpa_but hl s ds _ (by unfold noL at n; exact n) ha)
      rcases hs with (hs | ⟨o, hs⟩) | hs
      · refine .inl (.inl (s _ _ (fun e => ?_) hs))
        rw [e, hl] at hs
        cases hs
      · refine .inl (.inr ⟨o, s _ _ (fun e => ?_) hs⟩)
        rw [e, hl] at hs
        cases hs
      · exact .inr hs
  | .dict _, _, _, e => by cases e
theorem dpa_but {K : PySem.W.Frag} {H H' : Hp} {h : Addr} {ys : List V} (hl : H h = some (.lst ys)) (s : But h H H') : ∀ (ds : List PyData) (vs : List V), noLs ds = true → DpAll K H vs ds → DpAll K H' vs ds
  | [], _, _, e => by
    cases e
    exact .nil
  | d :: ds, _, n, e => by
    unfold noLs at n
    rw [Bool.and_eq_true] at n
    cases e with
    | cons h1 h2 => exact .cons (dp_but hl s d _ n.1 h1) (dpa_but hl s ds _ n.2 h2)
end
theorem Hand.dp {K : PySem.W.Frag} {H H' : Hp} {h d0 : Addr} {ds : List Int} (a : Hand H h d0 ds) (s : But h H H') {d : PyData} {v : V} (n : noL d = true) (e : Dp K H v d) : Dp K H' v d := by
  obtain ⟨⟨i, hl⟩, _, _⟩ := a
  exact dp_but hl s d v n e
def isN : PyData → Bool
  | .none => true
  | _ => false
theorem dp_isN {K : PySem.W.Frag} {H : Hp} {d : PyData} {v : V} (h : Dp K H v d) : decide (v = V.non) = isN d := by
  cases h <;> rfl
theorem dp_tup2 {K : PySem.W.Frag} {H : Hp} {t : Addr} {v1 v2 : V} {d1 d2 : PyData} (h : H t = some (.tup [v1, v2])) (h1 : Dp K H v1 d1) (h2 : Dp K H v2 d2) : Dp K H (.ref t) (.tuple [d1, d2]) :=
  .tup (SqT.of h) (.cons h1 (.cons h2 .nil))
theorem dp_tup3 {K : PySem.W.Frag} {H : Hp} {t : Addr} {v1 v2 v3 : V} {d1 d2 d3 : PyData} (h : H t = some (.tup [v1, v2, v3])) (h1 : Dp K H v1 d1) (h2 : Dp K H v2 d2) (h3 : Dp K H v3 d3) : Dp K H (.ref t) (.tuple [d1, d2, d3]) :=
  .tup (SqT.of h) (.cons h1 (.cons h2 (.cons h3 .nil)))
theorem dp_tup4 {K : PySem.W.Frag} {H : Hp} {t : Addr} {v1 v2 v3 v4 : V} {d1 d2 d3 d4 : PyData} (h : H t = some (.tup [v1, v2, v3, v4])) (h1 : Dp K H v1 d1) (h2 : Dp K H v2 d2) (h3 : Dp K H v3 d3) (h4 : Dp K H v4 d4) : Dp K H (.ref t) (.tuple [d1, d2, d3, d4]) :=
  .tup (SqT.of h) (.cons h1 (.cons h2 (.cons h3 (.cons h4 .nil))))
/-! ### lists of texts, compared -/
theorem dpa_strs {K : PySem.W.Frag} {H : Hp} : ∀ ws : List PySem.Str, DpAll K H (ws.map V.str) (ws.map PyData.str)
  | [] => .nil
  | x :: r => .cons (.str x) (dpa_strs r)
theorem dp_strs {K : PySem.W.Frag} {H : Hp} {a : Addr} {ws : List PySem.Str} (h : SqL K H a (ws.map V.str)) : Dp K H (.ref a) (.list (ws.map PyData.str)) := .lst h (dpa_strs ws)
theorem vals_strs : ∀ {ws : List PySem.Str} {us : List Value} {j : Nat} {x : PySem.Str}, Vals (ws.map V.str) us → ws[j]? = some x → ∃ t, us[j]? = some (.str x t)
  | _, _, _, _, r, h => by
    obtain ⟨u, h1, h2⟩ := r.get (x := V.str _) (by rw [List.getElem?_map, h]; rfl)
    obtain ⟨t, rfl⟩ := h2
    exact ⟨t, h1⟩
/-- == of two lists of texts -/
def rEqS (K : PySem.W.Frag) : R2 := fun x y H Q => ∃ (a b : Addr) (ws vs : List PySem.Str), x = .ref a ∧ y = .ref b ∧ SqL K H a (ws.map V.str) ∧ SqL K H b (vs.map V.str) ∧ Q (.bl (decide (ws = vs))) H
theorem all_eq {ws vs : List PySem.Str} (hl : ws.length = vs.length) : ((List.range ws.length).all fun j => decide (ws[j]? = vs[j]?)) = decide (ws = vs) := by
  by_cases h : ws = vs
  · subst h
    rw [decide_eq_true rfl, List.all_eq_true]
    exact fun j _ => decide_eq_true rfl
  · rw [decide_eq_false h]
    refine Bool.eq_false_iff.mpr fun e => h ?_
    rw [List.all_eq_true] at e
    refine List.ext_getElem? fun j => ?_
    by_cases hj : j < ws.length
    · exact of_decide_eq_true (e j (List.mem_range.mpr hj))
    · rw [List.getElem?_eq_none (by omega), List.getElem?_eq_none (by omega)]
theorem op_eqS {X : Cx} (hu : X.A.units < cLine) : OpR X (compareOp .Eq) (rEqS X.K) := by
  intro pins s σ H x y v u Q I rx ry h
  obtain ⟨a, b, ws, vs, rfl, rfl, ha, hb, q⟩ := h
  cases rx
  cases ry
  obtain ⟨its, r1, p1, _⟩ := I.list ha
  obtain ⟨jts, r2, p2, _⟩ := I.list hb
  have l1 := r1.length
  have l2 := r2.length
  rw [List.length_map] at l1 l2
  by_cases hl : ws.length = vs.length
  · refine SeqAt.eq_listAt (e := fun j => decide (ws[j]? = vs[j]?)) p1.isList p2.isList (by simp only [List.size_toArray]; omega) hu (fun j h1 h2 => ?_) ?_
    · simp only [List.size_toArray] at h1 h2
      obtain ⟨t1, e1⟩ := vals_strs (x := ws[j]) r1 (List.getElem?_eq_getElem (by omega))
      obtain ⟨t2, e2⟩ := vals_strs (x := vs[j]) r2 (List.getElem?_eq_getElem (by omega))
      have f1 : its.toArray[j] = .str ws[j] t1 := by
        rw [List.getElem?_eq_getElem h1] at e1
        injection e1 with e1
      have f2 : jts.toArray[j] = .str vs[j] t2 := by
        rw [List.getElem?_eq_getElem h2] at e2
        injection e2 with e2
      rw [f1, f2]
      have e3 : decide (ws[j]? = vs[j]?) = (ws[j] == vs[j]) := by
        rw [List.getElem?_eq_getElem (by omega), List.getElem?_eq_getElem (by omega)]
        by_cases h : ws[j] = vs[j]
        · rw [h]
          simp
        · rw [decide_eq_false (fun e => h (Option.some.inj e)), beq_eq_false_iff_ne.mpr h]
      rw [e3]
      exact SeqAt.EqAt.str_str _ _ _ _
    · have e4 : ((List.range its.toArray.size).all fun j => decide (ws[j]? = vs[j]?)) = decide (ws = vs) := by
        rw [List.size_toArray, ← l1]
        exact all_eq hl
      rw [e4]
      exact ⟨.bl _, H, I, rfl, q⟩
  · refine SeqAt.eq_list_lengthsAt p1.isList p2.isList (by simp only [List.size_toArray]; exact bne_iff_ne.mpr (by omega)) hu ?_
    rw [decide_eq_false (fun e => hl (by rw [e]))] at q
    exact ⟨.bl _, H, I, rfl, q⟩
end SW

namespace SW
open PySem PySem.Spec PyProof.Rows L2
/-! ### a def that is called where no object is being shown -/
structure FnOkG (P : Program) (w : World) (K : PySem.W.Frag) (mg : PySem.Str → Option Value) (base : Heap) (CX : CXT) (k : Nat) (f : Addr) (fd : FuncData) (ps : List PySem.Str) (sp : Sp) : Prop where
  run : ∀ (A : Around) (outer : List Env) (s : Shared) (H : Hp) (args : Args) (us : List Value) (vs : List V) (Q : VK) (E : XK),
    A.guards = some [] → Room k A → Env0 P w K mg base A outer s H → BindsTo s fd args (ps.zip us) → Vals vs us → sp vs H Q E →
    codeAny (model P w) A (.call (.ref f) args) (CR CX outer P w H s Q E) s
theorem Fun.okG {P : Program} {w : World} {K : PySem.W.Frag} {mg : PySem.Str → Option Value} {base : Heap} {x qual : PySem.Str} {st : Stmt} {f : Addr} {fd : FuncData} {N ps : List PySem.Str} {k : Nat} {sp : Sp}
    (F : Fun K x qual st f fd) (S : FnScope N ps (defScope st)) (len : ∀ vs H Q E, sp vs H Q E → vs.length = ps.length)
    (hbody : ∀ (cdv : Value) (A : Around) (outer : List Env) (s : Shared) (H : Hp) (vs : List V) (Q : VK) (E : XK),
      (A.deeper (envOfC qual (defScope st) s.heap.objs.size f cdv)).guards = some [] → Room k (A.deeper (envOfC qual (defScope st) s.heap.objs.size f cdv)) → sp vs H Q E →
      ∃ t, PSs (cxOf CX0 P w K mg base N qual (defScope st) f cdv A outer s H E).nox (defBody st) t ∧ t { nx := fun _ H' => Q .non H', rt := Q } (L2.start N vs) H) :
    FnOkG P w K mg base CX0 (k + 1) f fd ps sp := by
  obtain ⟨oc, od, kV, doc, pm, an, cdv, ct, osl, rfl, lk, hcd⟩ := F.ex
  refine ⟨fun A outer s H args us vs Q E hg hr e0 hb r hsp => ?_⟩
  have hl := len vs H Q E hsp
  have KX := PySem.W.Frag.In.keeps e0.mod.kin fun b o e => (e0.bs b o e).1
  have lim := Heap.NoLimit.keeps e0.mod.nolimit fun b o e => (e0.bs b o e).1
  refine codeAny_call_function hr.depth (KX f _ lk) rfl S.co S.gen rfl (PySem.W.codeRec_of KX hcd) (hb _ _ _ _ (wpAny_newFunctionEnv_cells S.kind (fun y hy => ?_) fun env he s1 i => ?_))
  · obtain ⟨n, v⟩ := y
    rcases S.par n (List.of_mem_zip hy).1 with q | q
    · exact .inl q
    · exact .inr ⟨q, PySem.W.cellsFrom_some _ _ [] (.inl q)⟩
  · subst he
    refine ⟨lim.keeps i.toInCall.keep, codeAny_func ?_⟩
    obtain ⟨t, ht, hq⟩ := hbody cdv A outer s H vs Q E hg (hr.deeper _) hsp
    have I : L2.Inv (cxOf CX0 P w K mg base N qual (defScope st) f cdv A outer s H E) [] (L2.start N vs) H s1 := inv_start S hr.hd e0 hl r i
    refine wpAny_mono ((PSs.nox ht).run [] s1 (L2.start N vs) H _ I hq) (fun fl s' hs => ?_) fun e s' hs => hs
    have fin : ∀ {σ' : L2.St} {H' : Hp} {v : V} {u : Value}, L2.Inv (cxOf CX0 P w K mg base N qual (defScope st) f cdv A outer s H E) [] σ' H' s' → RelV v u → Q v H' → CE outer P w H s Q u s' :=
      fun J rv q => ⟨_, _, J.os, J.bare, J.base, J.hok, rv, q⟩
    cases fl with
    | next =>
      obtain ⟨σ', H', J, q⟩ := hs
      exact fin (v := .non) (u := .none) J rfl q
    | brk =>
      obtain ⟨_, _, _, q⟩ := hs
      exact q.elim
    | cont =>
      obtain ⟨_, _, _, q⟩ := hs
      exact q.elim
    | ret u =>
      obtain ⟨v, σ', H', J, rv, q⟩ := hs
      exact fin J rv q
/-- the law's own call -/
theorem law_callG {P : Program} {w : World} {K : PySem.W.Frag} {mg mb : PySem.Str → Option Value} {k : Nat} {fa a : Addr} {fd : FuncData} {x : PySem.Str} {sp : Sp} {s₁ : Shared} {vs : List Value} {ns : List Int}
    (KX : K.In s₁.heap) (hns : s₁.heap.Ns mainGlobals mg) (hb : s₁.heap.Ns builtinsNs mb) (hbb : ∀ x : PySem.Str, x ≠ Str.ofString "__name__" → mb x = bootBuiltins x) (hlim : s₁.heap.NoLimit) (hg : s₁.gens = #[])
    (ha : s₁.heap.get? a = some { cls := .type "list", data := .seq vs.toArray }) (hi : IntsAre vs ns) (hl : ns.length ≤ sizeLine) (hr : Room k callerA)
    (F : ∀ base : Heap, K.In base → base.Ns mainGlobals mg → FnOkG P w K mg base CX0 k fa fd [x] sp) (hbind : ∀ (s : Shared) (u : Value), BindsTo s fd ⟨[u], []⟩ [(x, u)])
    (hsp : ∀ H, Only H → SqL K H a (ns.map V.int) → sp [.ref a] H (fun v _ => v = .bl true) fun _ _ _ => False) :
    codeAny (model P w) callerA (.call (.ref fa) ⟨[.ref a], []⟩) (fun r s' => r = .ok (.ret (.bool true)) ∧ OldK s₁.heap s'.heap ∧ s'.os = s₁.os ∧ AllBare s'.gens) s₁ := by
  have rv := vals_ints hi
  have lenV := IntsAre.length hi
  have core : ∀ H : Hp, Only H → SqL K H a (ns.map V.int) → HOk P w H s₁.heap → (∀ b, H b ≠ none → b = a) → (H a ≠ none → List.lookup a K = none) →
      codeAny (model P w) callerA (.call (.ref fa) ⟨[.ref a], []⟩) (fun r s' => r = .ok (.ret (.bool true)) ∧ OldK s₁.heap s'.heap ∧ s'.os = s₁.os ∧ AllBare s'.gens) s₁ := by
    intro H hO hS hok hA hK
    have noA : ∀ {b : Addr} {o : Obj}, s₁.heap.get? b = some o → (∀ vs n, o.data ≠ .seq vs n) → H b = none := by
      intro b o e d
      cases hb' : H b with
      | none => rfl
      | some u =>
        have := hA b (by rw [hb']; exact fun z => nomatch z)
        subst this
        rw [ha] at e
        cases e
        exact absurd rfl (d _ _)
    have base_of : ∀ {b : Addr} {o : Obj}, s₁.heap.get? b = some o → H b = none → (hidT s₁.heap H).get? b = some o := fun e n => hidT_get e n
    have nsK : ∀ {b : Addr} {m : PySem.Str → Option Value}, s₁.heap.Ns b m → (hidT s₁.heap H).Ns b m := by
      rintro b m ⟨o, es, ep, e, d, r⟩
      exact ⟨o, es, ep, base_of e (noA e (by intro vs n; rw [d]; exact fun z => nomatch z)), d, r⟩
    have hKb : K.In (hidT s₁.heap H) := by
      intro b o e
      refine base_of (KX b o e) ?_
      cases hb' : H b with
      | none => rfl
      | some u =>
        have := hA b (by rw [hb']; exact fun z => nomatch z)
        subst this
        rw [hK (by rw [hb']; exact fun z => nomatch z)] at e
        cases e
    have hM : Mod K mg (hidT s₁.heap H) := by
      obtain ⟨mc, h1, h2⟩ := hlim
      exact ⟨hKb, nsK hns, ⟨mb, nsK hb, hbb⟩, ⟨mc, nsK h1, h2⟩⟩
    have e0 : Env0 P w K mg (hidT s₁.heap H) callerA [] s₁ H :=
      { frames := rfl, mod := hM, bs := fun b o e => of_hidT e, bsz := Nat.le_of_eq (hidT_size s₁.heap H), funs := trivial, frf := fun b hb => (List.not_mem_nil hb).elim, hok := hok, bare := AllBare.of_eq hg }
    refine codeAny_mono ((F _ hKb (nsK hns)).run callerA [] s₁ H ⟨[.ref a], []⟩ [.ref a] [.ref a] (fun v _ => v = .bl true) (fun _ _ _ => False) rfl hr e0 (hbind s₁ _) (.cons rfl .nil) (hsp H hO hS)) fun r s' h => ?_
    cases r with
    | error e => exact h.elim
    | ok fl =>
      cases fl with
      | next => exact h.elim
      | brk => exact h.elim
      | cont => exact h.elim
      | ret u =>
        obtain ⟨v, H', os, bare, un, hok', r', q⟩ := h
        subst q
        cases r'
        refine ⟨rfl, OldK.of_keep fun b o e => ?_, os, bare⟩
        cases hb' : H b with
        | none => exact un.keep b o e hb' (fun z => List.not_mem_nil z) (fun z => List.not_mem_nil z)
        | some u =>
          rcases hO b with z | ⟨ob, xs, z⟩
          · rw [hb'] at z
            cases z
          · have h1 := un.frzs b _ _ z
            have h2 := hok b _ z
            have h3 := hok' b _ h1
            have h4 := h2.1
            have h5 := h3.1
            rw [e] at h4
            cases h4
            exact h5
  cases hk : List.lookup a K with
  | none =>
    refine core (fun b => if b = a then some (.frz { cls := .type "list", data := .seq vs.toArray } (.lst (ns.map V.int))) else none) (fun b => ?_) (.inl (.inr ⟨_, if_pos rfl⟩)) (fun b u z => ?_) (fun b z => ?_) fun _ => hk
    · by_cases hb : b = a
      · exact .inr ⟨_, _, if_pos hb⟩
      · exact .inl (if_neg hb)
    · by_cases hb : b = a
      · have z' := (if_pos hb).symm.trans z
        cases z'
        subst hb
        exact ⟨ha, by rw [List.length_map]; exact hl, vs, 0, rv, ha⟩
      · have z' := (if_neg hb).symm.trans z
        cases z'
    · by_cases hb : b = a
      · exact hb
      · exact absurd (if_neg hb) z
  | some o =>
    have e := KX a o hk
    rw [ha] at e
    cases e
    refine core (fun _ => none) (fun _ => .inl rfl) (.inr ⟨_, vs.toArray, 0, hk, rfl, rfl, rfl, by rw [List.size_toArray, lenV]; exact hl, rv⟩) (fun b u z => nomatch z) (fun b z => absurd rfl z) fun z => absurd rfl z
theorem walk_ofG {l : PySem.W.OpenLaw} {n k : Nat} {q : Program} {loose : List PySem.Str} {XP : (PySem.Str → Option Value) → Heap → Prop} {YP : World → Heap → Prop} {d : DefRec} {K : Params → PySem.W.Frag} {sp : World → Sp} {x : PySem.Str}
    (hn : l.most = some n) (hn2 : n ≤ sizeLine) (hdf : d.params.defaults = []) (hr : Room k callerA) (hY : ∀ (w : World) (h : Heap), YP w h → (K w.params).In h)
    (F : ∀ (w : World) (mg : PySem.Str → Option Value) (fa : Addr) (h : Heap), (K w.params).In h → h.Ns mainGlobals mg → mg d.name = some (.ref fa) →
      ∃ fd, (∀ (s : Shared) (u : Value), BindsTo s fd ⟨[u], []⟩ [(x, u)]) ∧ ∀ base : Heap, (K w.params).In base → base.Ns mainGlobals mg → FnOkG l.prog w (K w.params) mg base CX0 k fa fd [x] (sp w))
    (hsp : ∀ (w : World) (H : Hp) (a : Addr) (ns : List Int), ns.length ≤ n → Only H → SqL (K w.params) H a (ns.map V.int) → sp w [.ref a] H (fun v _ => v = .bl true) fun _ _ _ => False) :
    PySem.W.WalkO q loose XP YP l.row.toRowW d [] fun f vs => call f vs :=
  Att.attach_call hn hdf fun w s₀ s₁ mg mb fa o pm cd doc a vs ns G Y ho hd hcd hmg hobj hints hlen hg => by
    have KX := hY w s₁.heap Y
    obtain ⟨fd, hb, hF⟩ := F w mg fa s₁.heap KX G.T.g hmg
    exact law_callG KX G.T.g G.T.b G.T.builtins G.T.nolimit hg hobj hints (Nat.le_trans hlen hn2) hr hF hb fun H hO hS => hsp w H a ns hlen hO hS
end SW

namespace SW
open PySem PySem.Spec PyProof.Rows L2
def rLenK (K : PySem.W.Frag) : List V → Hp → VK → Prop := fun xs H Q => ∃ p ys, xs = [.ref p] ∧ (SqL K H p ys ∨ SqT K H p ys) ∧ Q (.int (ys.length : Nat)) H
/-! ### data in lists -/
theorem dpa_snoc {K : PySem.W.Frag} {H : Hp} : ∀ {vs : List V} {ds : List PyData} {v : V} {d : PyData}, DpAll K H vs ds → Dp K H v d → DpAll K H (vs ++ [v]) (ds ++ [d])
  | _, _, _, _, .nil, h => .cons h .nil
  | _, _, _, _, .cons h1 h2, h => .cons h1 (dpa_snoc h2 h)
theorem dpa_len {K : PySem.W.Frag} {H : Hp} : ∀ {vs : List V} {ds : List PyData}, DpAll K H vs ds → vs.length = ds.length
  | _, _, .nil => rfl
  | _, _, .cons _ h => congrArg (· + 1) (dpa_len h)
theorem dpa_get {K : PySem.W.Frag} {H : Hp} : ∀ {vs : List V} {ds : List PyData} {j : Nat} {v : V}, DpAll K H vs ds → vs[j]? = some v → ∃ d, ds[j]? = some d ∧ Dp K H v d
  | _, _, 0, _, .cons h _, e => by
    cases e
    exact ⟨_, rfl, h⟩
  | _, _, j + 1, _, .cons _ h, e => dpa_get (j := j) h e
theorem dpa_get' {K : PySem.W.Frag} {H : Hp} : ∀ {vs : List V} {ds : List PyData} {j : Nat} {d : PyData}, DpAll K H vs ds → ds[j]? = some d → ∃ v, vs[j]? = some v ∧ Dp K H v d
  | _, _, 0, _, .cons h _, e => by
    cases e
    exact ⟨_, rfl, h⟩
  | _, _, j + 1, _, .cons _ h, e => dpa_get' (j := j) h e
theorem dpa_set {K : PySem.W.Frag} {H : Hp} : ∀ {vs : List V} {ds : List PyData} {j : Nat} {v : V} {d : PyData}, DpAll K H vs ds → Dp K H v d → DpAll K H (vs.set j v) (ds.set j d)
  | _, _, _, _, _, .nil, _ => .nil
  | _, _, 0, _, _, .cons _ h, e => .cons e h
  | _, _, j + 1, _, _, .cons h1 h, e => .cons h1 (dpa_set (j := j) h e)
theorem dpa_app {K : PySem.W.Frag} {H : Hp} : ∀ {vs us : List V} {ds es : List PyData}, DpAll K H vs ds → DpAll K H us es → DpAll K H (vs ++ us) (ds ++ es)
  | _, _, _, _, .nil, h => h
  | _, _, _, _, .cons h1 h2, h => .cons h1 (dpa_app h2 h)
theorem dpa_drop {K : PySem.W.Frag} {H : Hp} : ∀ {vs : List V} {ds : List PyData} (n : Nat), DpAll K H vs ds → DpAll K H (vs.drop n) (ds.drop n)
  | _, _, 0, h => h
  | _, _, _ + 1, .nil => .nil
  | _, _, n + 1, .cons _ h => dpa_drop n h
theorem dpa_take {K : PySem.W.Frag} {H : Hp} : ∀ {vs : List V} {ds : List PyData} (n : Nat), DpAll K H vs ds → DpAll K H (vs.take n) (ds.take n)
  | _, _, 0, _ => .nil
  | _, _, _ + 1, .nil => .nil
  | _, _, n + 1, .cons h1 h => .cons h1 (dpa_take n h)
theorem dpa_rev {K : PySem.W.Frag} {H : Hp} : ∀ {vs : List V} {ds : List PyData}, DpAll K H vs ds → DpAll K H vs.reverse ds.reverse
  | _, _, .nil => .nil
  | _, _, .cons h1 h => by
    rw [List.reverse_cons, List.reverse_cons]
    exact dpa_snoc (dpa_rev h) h1
theorem dpa_ints {K : PySem.W.Frag} {H : Hp} : ∀ ns : List Int, DpAll K H (ns.map V.int) (ns.map PyData.int)
  | [] => .nil
  | x :: r => .cons (.int x) (dpa_ints r)
theorem dpa_ints' {K : PySem.W.Frag} {H : Hp} : ∀ {vs : List V} {ns : List Int}, DpAll K H vs (ns.map PyData.int) → vs = ns.map V.int
  | _, [], .nil => rfl
  | _, _ :: _, .cons (.int x) h => congrArg (V.int x :: ·) (dpa_ints' h)
theorem dpa_bls' {K : PySem.W.Frag} {H : Hp} : ∀ {vs : List V} {ns : List Bool}, DpAll K H vs (ns.map PyData.bool) → vs = ns.map V.bl
  | _, [], .nil => rfl
  | _, _ :: _, .cons (.bl x) h => congrArg (V.bl x :: ·) (dpa_bls' h)
theorem int_dec (x y : Int) : decide (V.int x = V.int y) = decide (x = y) := decide_eq_decide.mpr ⟨fun h => by injection h, fun h => by rw [h]⟩
/-! ### parts of lists -/
theorem cutv_from (xs : List V) (n : Nat) : cutV xs (some (n : Int)) none = xs.drop n := by
  unfold cutV
  rw [HT.sIx_nat, HT.sIx_none]
  by_cases h : n ≤ xs.length
  · rw [Nat.min_eq_left h]
    exact List.take_of_length_le (by rw [List.length_drop]; exact Nat.le_refl _)
  · rw [Nat.min_eq_right (by omega), List.drop_eq_nil_of_le (Nat.le_refl _), List.drop_eq_nil_of_le (by omega)]
    exact List.take_nil
theorem cutv_first (xs : List V) (n : Nat) : cutV xs none (some (n : Int)) = xs.take n := by
  unfold cutV
  rw [HT.sIx_nat, HT.sIx_none, List.drop_zero, Nat.sub_zero]
  by_cases h : n ≤ xs.length
  · rw [Nat.min_eq_left h]
  · rw [Nat.min_eq_right (by omega), List.take_of_length_le (Nat.le_refl _), List.take_of_length_le (by omega)]
theorem cutv_part (xs : List V) (n m : Nat) (h : n ≤ m) : cutV xs (some (n : Int)) (some (m : Int)) = (xs.drop n).take (m - n) := by
  unfold cutV
  rw [HT.sIx_nat, HT.sIx_nat]
  by_cases h1 : n ≤ xs.length
  · rw [Nat.min_eq_left h1]
    by_cases h2 : m ≤ xs.length
    · rw [Nat.min_eq_left h2]
    · rw [Nat.min_eq_right (by omega), List.take_of_length_le (by rw [List.length_drop]; exact Nat.le_refl _), List.take_of_length_le (by rw [List.length_drop]; omega)]
  · rw [List.drop_eq_nil_of_le (show xs.length ≤ min n xs.length by omega), List.drop_eq_nil_of_le (show xs.length ≤ n by omega), List.take_nil, List.take_nil]
theorem at_neg1 {xs : List V} {v : V} (h : xs[xs.length - 1]? = some v) : atI xs (-1) = some v := by
  have hl : xs ≠ [] := fun e => by
    rw [e] at h
    cases h
  have e := List.dropLast_concat_getLast hl
  rw [← List.getLast?_eq_getElem?, List.getLast?_eq_getLast hl] at h
  cases h
  conv => lhs; rw [← e]
  exact atI_last _ _
/-! ### a comprehension over any walk, whose items are data without lists -/
theorem lc_data {K : PySem.W.Frag} {J : It} {n : Nat} {G : Hp → Prop} {Y : Nat → Hp → V → Hp → Prop} (w : Walk J n G Y) {g : TG} {te : TE} {vs : List Nat} {σ : L2.St} {H1 : Hp} {D : Addr} {Qd : Hp → Prop} (hD : H1 D = none) (f : Nat → PyData) (hn : n ≤ 100000)
    (hf : ∀ i, i < n → noL (f i) = true) (hG : ∀ H, Same H1 H → G H)
    (hs : ∀ (i : Nat) (x : V) (H H' : Hp) (Q : V → Hp → Prop), i < n → Same H1 H → Y i H x H' → (∀ y H4, Same H H4 → Dp K H4 y (f i) → Q y H4) → g x (wipe σ vs) H' fun σ2 H2 => wipe σ2 vs = wipe σ vs ∧ te σ2 H2 Q)
    (hd : ∀ H ys, Same H1 H → H D = some (.lst ys) → DpAll K H ys ((List.range n).map f) → Qd H) :
    ∃ W : Nat → Nat → Hp → Prop, (∃ m, W 0 m (upd H1 D (.lst []))) ∧ ∀ i m H, W i m H → (J.stop i H ∧ Qd H) ∨ (J.go i H ∧ ∃ Nx : Hp → Prop, (∀ H', Nx H' → ∃ m', m' < m ∧ W (i + 1) m' H') ∧
      ∀ x H', J.yld i H x H' → g x (wipe σ vs) H' fun σ2 H2 => wipe σ2 vs = wipe σ vs ∧ tYes σ2 H2 fun b H3 => if b = true then te σ2 H3 fun y H4 => ∃ acc, H4 D = some (.lst acc) ∧ acc.length < sizeLine ∧ Nx (upd H4 D (.lst (acc ++ [y]))) else Nx H3) := by
  let Pv : Nat → Hp → Prop := fun i H => Same H1 H ∧ ∃ ys, H D = some (.lst ys) ∧ DpAll K H ys ((List.range i).map f)
  refine ⟨fun i m H => m = n - i ∧ i ≤ n ∧ Pv i H, ⟨n, rfl, Nat.zero_le _, same_new hD, [], upd_same, .nil⟩, ?_⟩
  rintro i m H ⟨rfl, hi, s1, ys, e, ha⟩
  by_cases hlt : i < n
  · refine .inr ⟨w.goes i H hlt (hG H s1), Pv (i + 1), fun H' p => ⟨n - (i + 1), by omega, rfl, hlt, p⟩, fun x H' y => ?_⟩
    refine hs i x H H' _ hlt s1 (w.yields i H x H' hlt (hG H s1) y) fun y H4 s4 h4 => ?_
    have e4 : H4 D = some (.lst ys) := s4 _ _ e
    refine ⟨ys, e4, ?_, same_mut (s1.trans s4) hD, ys ++ [y], upd_same, ?_⟩
    · rw [dpa_len ha, List.length_map, List.length_range]
      exact small_sz5 (by omega)
    · rw [List.range_succ, List.map_append]
      have b4 : But D H4 (upd H4 D (.lst (ys ++ [y]))) := fun c o hc eo => (upd_ne hc).trans eo
      refine dpa_snoc (dpa_but e4 b4 _ _ ?_ (dpa_same s4 _ _ ha)) (dp_but e4 b4 _ _ (hf i hlt) h4)
      clear h4 e4 s4 ha
      generalize hr : List.range i = l
      have : ∀ j, j ∈ l → j < n := fun j hj => by
        rw [← hr] at hj
        have := List.mem_range.mp hj
        omega
      clear hr
      induction l with
      | nil => rfl
      | cons a r ih =>
        show (noL (f a) && noLs (r.map f)) = true
        rw [hf a (this a List.mem_cons_self), ih fun j hj => this j (List.mem_cons_of_mem _ hj)]
        rfl
  · have : i = n := by omega
    subst this
    exact .inl ⟨w.stops H (hG H s1), hd H ys s1 e ha⟩
theorem range_map {α β : Type} (xs : List α) (g : α → β) (f : Nat → β) (h : ∀ i x, xs[i]? = some x → f i = g x) : (List.range xs.length).map f = xs.map g := by
  refine List.ext_getElem? fun i => ?_
  rw [List.getElem?_map, List.getElem?_map]
  by_cases hi : i < xs.length
  · rw [List.getElem?_range hi, List.getElem?_eq_getElem hi]
    exact congrArg some (h i _ (List.getElem?_eq_getElem hi))
  · rw [List.getElem?_eq_none (by rw [List.length_range]; omega), List.getElem?_eq_none (by omega)]
    rfl
theorem ints_get {ns : List Int} {j : Nat} {n : Int} (h : ns[j]? = some n) : (ns.map V.int)[j]? = some (.int n) := by
  rw [List.getElem?_map, h]
  rfl
theorem ints_at {ns : List Int} {j : Nat} (h : j < ns.length) : atI (ns.map V.int) (j : Int) = some (.int ns[j]) := atI_nat (ints_get (List.getElem?_eq_getElem h))
end SW

namespace SW
open PySem PySem.Spec PyProof.Rows L2
/-! This text stands for SwTw and SwTg in laws whose program reads no texts (the same names: never both). -/
/-! ### a promise that nobody calls for -/
theorem fn_never {P : Program} {w : World} {K : PySem.W.Frag} {mg : PySem.Str → Option Value} {base : Heap} {k : Nat} {f : Addr} {fd : FuncData} {ps : List PySem.Str} : FnOk P w K mg base CX0 k f fd ps (fun _ _ _ _ => False) :=
  ⟨fun _ _ _ _ h => h.elim, fun _ _ _ _ _ _ _ _ _ _ _ _ _ h => h.elim⟩
theorem fn_or {P : Program} {w : World} {K : PySem.W.Frag} {mg : PySem.Str → Option Value} {base : Heap} {CX : CXT} {k : Nat} {f : Addr} {fd : FuncData} {ps : List PySem.Str} {sp1 sp2 : Sp} (F : FnOk P w K mg base CX k f fd ps sp1) (G : FnOk P w K mg base CX k f fd ps sp2) :
    FnOk P w K mg base CX k f fd ps (fun vs H Q E => sp1 vs H Q E ∨ sp2 vs H Q E) :=
  ⟨fun vs H Q E h => h.elim (F.len vs H Q E) (G.len vs H Q E), fun A outer s H args us vs Q E hr he hb hv h => h.elim (F.run A outer s H args us vs Q E hr he hb hv) (G.run A outer s H args us vs Q E hr he hb hv)⟩
/-! ### data opened -/
theorem dp_str_inv {K : PySem.W.Frag} {H : Hp} {v : V} {x : PySem.Str} (h : Dp K H v (.str x)) : v = .str x := by
  cases h
  rfl
theorem dp_int_inv {K : PySem.W.Frag} {H : Hp} {v : V} {i : Int} (h : Dp K H v (.int i)) : v = .int i := by
  cases h
  rfl
theorem dp_bl_inv {K : PySem.W.Frag} {H : Hp} {v : V} {b : Bool} (h : Dp K H v (.bool b)) : v = .bl b := by
  cases h
  rfl
theorem dp_tup_inv {K : PySem.W.Frag} {H : Hp} {v : V} {ds : List PyData} (h : Dp K H v (.tuple ds)) : ∃ a xs, v = .ref a ∧ SqT K H a xs ∧ DpAll K H xs ds := by
  cases h with
  | tup hs ha => exact ⟨_, _, rfl, hs, ha⟩
theorem dp_inv2 {K : PySem.W.Frag} {H : Hp} {v : V} {d1 d2 : PyData} (h : Dp K H v (.tuple [d1, d2])) : ∃ a v1 v2, v = .ref a ∧ SqT K H a [v1, v2] ∧ Dp K H v1 d1 ∧ Dp K H v2 d2 := by
  obtain ⟨a, xs, e, hs, ha⟩ := dp_tup_inv h
  cases ha with
  | cons h1 ha =>
    cases ha with
    | cons h2 ha =>
      cases ha
      exact ⟨a, _, _, e, hs, h1, h2⟩
theorem dp_inv3 {K : PySem.W.Frag} {H : Hp} {v : V} {d1 d2 d3 : PyData} (h : Dp K H v (.tuple [d1, d2, d3])) : ∃ a v1 v2 v3, v = .ref a ∧ SqT K H a [v1, v2, v3] ∧ Dp K H v1 d1 ∧ Dp K H v2 d2 ∧ Dp K H v3 d3 := by
  obtain ⟨a, xs, e, hs, ha⟩ := dp_tup_inv h
  cases ha with
  | cons h1 ha =>
    cases ha with
    | cons h2 ha =>
      cases ha with
      | cons h3 ha =>
        cases ha
        exact ⟨a, _, _, _, e, hs, h1, h2, h3⟩
theorem dp_inv4 {K : PySem.W.Frag} {H : Hp} {v : V} {d1 d2 d3 d4 : PyData} (h : Dp K H v (.tuple [d1, d2, d3, d4])) : ∃ a v1 v2 v3 v4, v = .ref a ∧ SqT K H a [v1, v2, v3, v4] ∧ Dp K H v1 d1 ∧ Dp K H v2 d2 ∧ Dp K H v3 d3 ∧ Dp K H v4 d4 := by
  obtain ⟨a, xs, e, hs, ha⟩ := dp_tup_inv h
  cases ha with
  | cons h1 ha =>
    cases ha with
    | cons h2 ha =>
      cases ha with
      | cons h3 ha =>
        cases ha with
        | cons h4 ha =>
          cases ha
          exact ⟨a, _, _, _, _, e, hs, h1, h2, h3, h4⟩
theorem int_at {ns : List Int} {r : Int} (h0 : 0 ≤ r) (h1 : r < ns.length) : ∃ z, z ∈ ns ∧ atI (ns.map V.int) r = some (.int z) := by
  obtain ⟨j, rfl⟩ : ∃ j : Nat, r = j := ⟨r.toNat, by omega⟩
  have hj : j < ns.length := by omega
  refine ⟨ns[j], List.getElem_mem hj, atI_nat ?_⟩
  rw [List.getElem?_map, List.getElem?_eq_getElem hj]
  rfl
theorem But.same {h : Addr} {H H1 H2 : Hp} (a : But h H H1) (b : Same H1 H2) : But h H H2 := a.trans (Same.but b)
theorem tup_at {K : PySem.W.Frag} {H : Hp} {xs : List V} {ds : List PyData} {j : Nat} {d : PyData} (ha : DpAll K H xs ds) (e : ds[j]? = some d) : ∃ v, atI xs (j : Int) = some v ∧ Dp K H v d := by
  obtain ⟨v, h1, h2⟩ := dpa_get' ha e
  exact ⟨v, atI_nat h1, h2⟩
end SW

namespace SW
open PySem PySem.Spec PyProof.Rows L2
/-! ### comprehensions by their values -/
theorem lc_vals {J : It} {n : Nat} {G : Hp → Prop} {Y : Nat → Hp → V → Hp → Prop} (w : Walk J n G Y) {g : TG} {te : TE} {vs : List Nat} {σ : L2.St} {H1 : Hp} {D : Addr} {Qd : Hp → Prop} (hD : H1 D = none) (f : Nat → V) (hn : n ≤ 100000) (hG : ∀ H, Same H1 H → G H)
    (hs : ∀ (i : Nat) (x : V) (H H' : Hp) (Q : V → Hp → Prop), i < n → Same H1 H → Y i H x H' → (∀ H4, Same H H4 → Q (f i) H4) → g x (wipe σ vs) H' fun σ2 H2 => wipe σ2 vs = wipe σ vs ∧ te σ2 H2 Q)
    (hd : ∀ H, Same H1 H → H D = some (.lst ((List.range n).map f)) → Qd H) :
    ∃ W : Nat → Nat → Hp → Prop, (∃ m, W 0 m (upd H1 D (.lst []))) ∧ ∀ i m H, W i m H → (J.stop i H ∧ Qd H) ∨ (J.go i H ∧ ∃ Nx : Hp → Prop, (∀ H', Nx H' → ∃ m', m' < m ∧ W (i + 1) m' H') ∧
      ∀ x H', J.yld i H x H' → g x (wipe σ vs) H' fun σ2 H2 => wipe σ2 vs = wipe σ vs ∧ tYes σ2 H2 fun b H3 => if b = true then te σ2 H3 fun y H4 => ∃ acc, H4 D = some (.lst acc) ∧ acc.length < sizeLine ∧ Nx (upd H4 D (.lst (acc ++ [y]))) else Nx H3) := by
  let Pv : Nat → Hp → Prop := fun i H => Same H1 H ∧ H D = some (.lst ((List.range i).map f))
  refine ⟨fun i m H => m = n - i ∧ i ≤ n ∧ Pv i H, ⟨n, rfl, Nat.zero_le _, same_new hD, upd_same⟩, ?_⟩
  rintro i m H ⟨rfl, hi, s1, e⟩
  by_cases hlt : i < n
  · refine .inr ⟨w.goes i H hlt (hG H s1), Pv (i + 1), fun H' p => ⟨n - (i + 1), by omega, rfl, hlt, p⟩, fun x H' y => ?_⟩
    refine hs i x H H' _ hlt s1 (w.yields i H x H' hlt (hG H s1) y) fun H4 s4 => ?_
    refine ⟨_, s4 _ _ e, ?_, same_mut (s1.trans s4) hD, ?_⟩
    · rw [List.length_map, List.length_range]
      exact small_sz5 (by omega)
    · rw [List.range_succ, List.map_append, upd_same]
      rfl
  · have : i = n := by omega
    subst this
    exact .inl ⟨w.stops H (hG H s1), hd H s1 e⟩
/-- over a range, each item drawn from the hand -/
theorem lc_drawn {α : Type} {K : PySem.W.Frag} {lo : Int} {n : Nat} {h d : Addr} {ds : List Int} {g : TG} {te : TE} {vs : List Nat} {σ : L2.St} {H1 : Hp} {D : Addr} {Qd : Hp → Prop} (enc : α → PyData) (R : α → Prop) (hE : ∀ e, R e → noL (enc e) = true) (hn : n ≤ 1000) (hH : Hand H1 h d ds) (hD : H1 D = none)
    (hs : ∀ (i : Nat) (x : V) (H : Hp) (Q : V → Hp → Prop), i < n → But h H1 H → Hand H h d ds → x = .int (lo + i) → (∀ y e H4, But h H H4 → Hand H4 h d ds → R e → Dp K H4 y (enc e) → Q y H4) → g x (wipe σ vs) H fun σ2 H2 => wipe σ2 vs = wipe σ vs ∧ te σ2 H2 Q)
    (hd : ∀ H ys (es : List α), But h H1 H → Hand H h d ds → H D = some (.lst ys) → D ≠ h → D ≠ d → DpAll K H ys (es.map enc) → es.length = n → (∀ e, e ∈ es → R e) → Qd H) :
    ∃ W : Nat → Nat → Hp → Prop, (∃ m, W 0 m (upd H1 D (.lst []))) ∧ ∀ i m H, W i m H → ((Itr lo n).stop i H ∧ Qd H) ∨ ((Itr lo n).go i H ∧ ∃ Nx : Hp → Prop, (∀ H', Nx H' → ∃ m', m' < m ∧ W (i + 1) m' H') ∧
      ∀ x H', (Itr lo n).yld i H x H' → g x (wipe σ vs) H' fun σ2 H2 => wipe σ2 vs = wipe σ vs ∧ tYes σ2 H2 fun b H3 => if b = true then te σ2 H3 fun y H4 => ∃ acc, H4 D = some (.lst acc) ∧ acc.length < sizeLine ∧ Nx (upd H4 D (.lst (acc ++ [y]))) else Nx H3) := by
  have w : Walk (Itr lo n) n (fun _ => True) (YFn fun i => .int (lo + i)) := walk_range
  have hDh := hand_ne hH hD
  have hDd := hand_ne2 hH hD
  let Pv : Nat → Hp → Prop := fun i H => But h H1 H ∧ Hand H h d ds ∧ ∃ (ys : List V) (es : List α), H D = some (.lst ys) ∧ DpAll K H ys (es.map enc) ∧ es.length = i ∧ ∀ e, e ∈ es → R e
  refine ⟨fun i m H => m = n - i ∧ i ≤ n ∧ Pv i H, ⟨n, rfl, Nat.zero_le _, (But.refl h H1).new hD, hH.upd hDh hDd, [], [], upd_same, .nil, rfl, fun _ h => nomatch h⟩, ?_⟩
  rintro i m H ⟨rfl, hi, b1, hh, ys, es, e, ha, hl, hR⟩
  by_cases hlt : i < n
  · refine .inr ⟨w.goes i H hlt trivial, Pv (i + 1), fun H' p => ⟨n - (i + 1), by omega, rfl, hlt, p⟩, fun x H' y => ?_⟩
    obtain ⟨rfl, hx⟩ := w.yields i H x H' hlt trivial y
    refine hs i x _ _ hlt b1 hh hx fun y e4 H4 b4 hh4 hr4 h4 => ?_
    have e5 := b4 _ _ hDh e
    obtain ⟨k, hk⟩ := hh.at_
    have all : ∀ es : List α, (∀ e, e ∈ es → R e) → noLs (es.map enc) = true := fun es => by
      induction es with
      | nil => exact fun _ => rfl
      | cons a r ih =>
        intro hr
        show (noL (enc a) && noLs (r.map enc)) = true
        rw [hE a (hr a List.mem_cons_self), ih fun e he => hr e (List.mem_cons_of_mem _ he)]
        rfl
    have hbut : But D H4 (upd H4 D (.lst (ys ++ [y]))) := fun b o hne e => (upd_ne hne).trans e
    refine ⟨ys, e5, ?_, (b1.trans b4).new hD, hh4.upd hDh hDd, ys ++ [y], es ++ [e4], upd_same, ?_, by rw [List.length_append, hl]; rfl, fun e he => ?_⟩
    · rw [dpa_len ha, List.length_map]
      exact small_sz5 (by omega)
    · rw [List.map_append]
      exact dpa_snoc (dpa_but e5 hbut _ _ (all es hR) (dpa_but hk b4 _ _ (all es hR) ha)) (dp_but e5 hbut _ _ (hE _ hr4) h4)
    · rcases List.mem_append.mp he with he | he
      · exact hR e he
      · rw [List.mem_singleton.mp he]
        exact hr4
  · have : i = n := by omega
    subst this
    exact .inl ⟨w.stops H trivial, hd H ys es b1 hh e hDh hDd ha hl hR⟩
theorem dp_mem {K : PySem.W.Frag} {H : Hp} {xs : List V} {α : Type} {es : List α} {enc : α → PyData} {j : Nat} (ha : DpAll K H xs (es.map enc)) (hj : j < es.length) : ∃ v, xs[j]? = some v ∧ Dp K H v (enc es[j]) :=
  dpa_get' (j := j) ha (by rw [List.getElem?_map, List.getElem?_eq_getElem hj]; rfl)
theorem range_fn {α β : Type} (xs : List α) (g : α → β) : (List.range xs.length).map (fun i => if h : i < xs.length then some (g xs[i]) else none) = xs.map fun x => some (g x) :=
  range_map xs (fun x => some (g x)) _ fun i x h => by
    obtain ⟨h1, h2⟩ := List.getElem?_eq_some_iff.mp h
    rw [dif_pos h1, h2]
end SW

namespace SW
open PySem PySem.Spec PyProof.Rows L2
abbrev s_l_draws : Stmt := topS 13
theorem sc_l_draws : FnScope ["script", "many", "rests", "cell", "draws", "k", "at", "mixed"] ["script", "many"] (defScope s_l_draws) := ⟨rfl, rfl, rfl, by decide +kernel, rfl, by decide +kernel, by decide +kernel⟩

abbrev s_l_take : Stmt := topS 14
theorem sc_l_take : FnScope ["hand", "many", "at", "draws"] ["hand", "many"] (defScope s_l_take) := ⟨rfl, rfl, rfl, by decide +kernel, rfl, by decide +kernel, by decide +kernel⟩

section
variable {P : Program} {w : World} {K : PySem.W.Frag} {mg : PySem.Str → Option Value} {base : Heap}
def spTake : Sp := fun vs H Q _ => ∃ (h d : Addr) (ds : List Int) (m : Int), vs = [.ref h, .int m] ∧ 0 < m ∧ Hand H h d ds ∧ ∀ r H', 0 ≤ r → r < m → But h H H' → Hand H' h d ds → (∀ b, H b = none → H' b = none) → Q (.int r) H'
theorem ok_l_take (T : TxB mg) (D_l_take : Df K mg "_law_take" s_l_take ["hand", "many"]) : FnOk P w K mg base CX0 1 D_l_take.f D_l_take.fd ["hand", "many"] spTake := by
  refine D_l_take.F.ok sc_l_take (fun vs H Q E h => ?_) (fun cdv A outer s H vs Q E hr h => ?_)
  · obtain ⟨a, d, ds, m, rfl, _⟩ := h
    rfl
  · obtain ⟨a, d, ds, m, rfl, hm, ⟨⟨i, e1⟩, e2, e3⟩, q⟩ := h
    refine ⟨_, (pss_cons (ps_set (i := 2) sc_l_take.nd rfl (.inl rfl) (pe_ix ix_list (pv 0) pe_int (fun _ _ => rfl)))
    (pss_cons (ps_asg (pe_op op_add (pv 2) pe_int) (pg_sub (pv 0) pe_int set_list))
    (pss_cons (ps_set (i := 3) sc_l_take.nd rfl (.inl rfl) (pe_ix ix_list (pv 0) pe_int (fun _ _ => rfl)))
    (pss_cons (ps_if (pt_cmpR op_ge (pv 2) (pe_callB call_len_seq (by rfl) T.n_len PySem.boot_len (pa_cons (pv 3) pa_nil)) (nomark _))
    (pss_one (ps_ret pe_int))
    pss_nil)
    (pss_one (ps_ret (pe_op op_mod (pe_op op_fdiv (pe_callTy call_int1 (by rfl) T.n_int (by decide +kernel) (pa_cons (pe_ix ix_list (pv 3) (pv 2) (fun _ _ => rfl)) pa_nil)) pe_int) (pv 1)))))))), ?_⟩
    -- at = hand[1]
    refine ⟨_, rfl, a, _, _, _, rfl, rfl, SqL.of e1, atI_nat (j := 1) rfl, ?_⟩
    -- hand[1] = at + 1
    refine ⟨_, rfl, _, _, rfl, rfl, _, rfl, a, _, 1, 1, rfl, rfl, e1, rfl, ?_⟩
    have b1 : But a H (upd H a (.lst [.ref d, .int ((i + 1 : Nat) : Int)])) := fun b o n e => by
      rw [upd_ne n]
      exact e
    have e1' : upd H a (.lst [.ref d, .int ((i + 1 : Nat) : Int)]) a = some (.lst [.ref d, .int ((i + 1 : Nat) : Int)]) := upd_same
    have e2' : upd H a (.lst [.ref d, .int ((i + 1 : Nat) : Int)]) d = some (.lst (ds.map V.int)) := b1 _ _ e3 e2
    have fin : ∀ r, 0 ≤ r → r < m → Q (.int r) (upd H a (.lst [.ref d, .int ((i + 1 : Nat) : Int)])) := fun r h1 h2 => q r _ h1 h2 b1 ⟨⟨i + 1, e1'⟩, e2', e3⟩ fun b hb => by
      rw [upd_ne (fun e => by rw [e, e1] at hb; cases hb)]
      exact hb
    refine ⟨_, rfl, a, _, _, _, rfl, rfl, SqL.of e1', atI_nat (j := 0) rfl, ?_⟩
    refine ⟨_, rfl, _, rfl, d, _, rfl, .inl (SqL.of e2'), _, _, rfl, rfl, _, rfl, ite2 (fun e => ?_) (fun e => ?_)⟩
    · exact fin 0 (Int.le_refl 0) hm
    · have e4 := of_decide_eq_false (Bool.eq_false_iff.mpr e)
      rw [List.length_map] at e4
      have hi : i < ds.length := by omega
      have g : (ds.map V.int)[i]? = some (.int ds[i]) := by
        rw [List.getElem?_map, List.getElem?_eq_getElem hi]
        rfl
      refine ⟨_, rfl, _, rfl, d, _, _, _, rfl, rfl, SqL.of e2', atI_nat g, .inl ⟨_, rfl, _, _, rfl, rfl, ⟨by decide, by decide⟩, _, rfl, _, _, rfl, rfl, hm, ?_⟩⟩
      exact fin _ (Int.emod_nonneg _ (by omega)) (Int.emod_lt_of_pos _ hm)
def spDraws (K : PySem.W.Frag) : Sp := fun vs H Q _ => ∃ (a : Addr) (ns : List Int) (m : Nat), vs = [.ref a, .int m] ∧ SqL K H a (ns.map V.int) ∧ ns.length ≤ 1000 ∧ m ≤ 5000 ∧ ∀ p (ds : List Int) H', Same H H' → H p = none → H' p = some (.lst (ds.map V.int)) → Q (.ref p) H'
theorem ok_l_draws (T : TxB mg) (D_l_draws : Df K mg "_law_draws" s_l_draws ["script", "many"]) : FnOk P w K mg base CX0 1 D_l_draws.f D_l_draws.fd ["script", "many"] (spDraws K) := by
  refine D_l_draws.F.ok sc_l_draws (fun vs H Q E h => ?_) (fun cdv A outer s H vs Q E hr h => ?_)
  · obtain ⟨a, ns, m, rfl, _⟩ := h
    rfl
  · obtain ⟨a, ns, m, rfl, hS, hn, hm, q⟩ := h
    refine ⟨_, (pss_cons (ps_setLc (i := 2) (own := [("cell", 3)]) (g := gName 3) (by rfl) sc_l_draws.nd rfl rfl (sw_true rfl rfl rfl (by decide +kernel)) (pi_list (pv 0)) (blkOk_by (own := [("cell", 3)]) (N := ["script", "many", "rests", "cell", "draws", "k", "at", "mixed"]) (sc := defScope s_l_draws) (by decide +kernel)) (fun _ _ _ _ _ => pg_name (i := 3) sc_l_draws.nd rfl (Or.inl rfl)) (fun _ _ _ _ _ => pts_nil) (fun _ _ _ _ _ => (pe_callB call_abs (by rfl) T.n_abs (by decide +kernel) (pa_cons (pe_callTy call_int1 (by rfl) T.n_int (by decide +kernel) (pa_cons (pv 3) pa_nil)) pa_nil))))
    (pss_cons (ps_set (i := 4) sc_l_draws.nd rfl (.inl rfl) (pe_lst pa_nil))
    (pss_cons (ps_for PassesOwn.never rfl (pi_range1 (by rfl) T.n_range (pa_cons (pv 1) pa_nil)) (pg_name (i := 5) sc_l_draws.nd rfl (.inl rfl))
    (pss_cons (ps_set (i := 3) sc_l_draws.nd rfl (.inl rfl) (pv 5))
    (Evl.pss_cut (ps_if (pt_cmpR op_gt (pe_callB call_len_seq (by rfl) T.n_len PySem.boot_len (pa_cons (pv 0) pa_nil)) pe_int (nomark _))
    (pss_cons (ps_set (i := 6) sc_l_draws.nd rfl (.inl rfl) (pe_op op_mod (pv 5) (pe_callB call_len_seq (by rfl) T.n_len PySem.boot_len (pa_cons (pv 0) pa_nil))))
    (pss_cons (ps_set (i := 3) sc_l_draws.nd rfl (.inl rfl) (pe_callTy call_int1 (by rfl) T.n_int (by decide +kernel) (pa_cons (pe_ix ix_list (pv 0) (pv 6) (fun _ _ => rfl)) pa_nil)))
    (pss_one (ps_if (PW.pt (pw_and (pt_cmpR op_ge (pv 3) (pe_op op_pow pe_int pe_int) (nomark _)) (pw_and1 (pt_cmpR op_gt (pe_ix ix_list (pv 2) (pv 6) (fun _ _ => rfl)) pe_int (nomark _)))))
    (pss_cons (ps_expr (pe_bm PySem.F.plainAttrs_list PySem.F.slot_list_append PySem.F.type_list_append mt_append (pv 4) (pa_cons (pe_op op_mod (pe_callTy call_int1 (by rfl) T.n_int (by decide +kernel) (pa_cons (pe_ix ix_list (pv 2) (pv 6) (fun _ _ => rfl)) pa_nil)) pe_int) pa_nil)))
    (pss_cons (ps_asg (pe_op op_fdiv (pe_callTy call_int1 (by rfl) T.n_int (by decide +kernel) (pa_cons (pe_ix ix_list (pv 2) (pv 6) (fun _ _ => rfl)) pa_nil)) pe_int) (pg_sub (pv 2) (pv 6) set_list))
    (pss_one ps_continue)))
    pss_nil))))
    pss_nil)
    (pss_cons (ps_set (i := 7) sc_l_draws.nd rfl (.inl rfl) (pe_op op_mod (pe_callTy call_int1 (by rfl) T.n_int (by decide +kernel) (pa_cons (pe_op op_add (pe_op op_add (pe_op op_mul (pv 3) pe_int) (pe_op op_mul (pv 5) pe_int)) pe_int) pa_nil)) pe_int))
    (pss_cons (ps_set (i := 7) sc_l_draws.nd rfl (.inl rfl) (pe_op op_mod (pe_callTy call_int1 (by rfl) T.n_int (by decide +kernel) (pa_cons (pe_op op_add (pe_op op_fdiv (pe_op op_mul (pv 7) (pv 7)) pe_int) (pv 7)) pa_nil)) pe_int))
    (pss_one (ps_expr (pe_bm PySem.F.plainAttrs_list PySem.F.slot_list_append PySem.F.type_list_append mt_append (pv 4) (pa_cons (pe_op op_mod (pe_callTy call_int1 (by rfl) T.n_int (by decide +kernel) (pa_cons (pe_op op_add (pe_op op_fdiv (pe_op op_mul (pv 7) (pv 7)) pe_int) (pe_op op_mul (pv 5) pe_int)) pa_nil)) pe_int) pa_nil)))))))))
    (pss_one (ps_ret (pv 4)))))), ?_⟩
    -- rests = [..]
    refine ⟨.ref a, rfl, a, rfl, ⟨_, hS⟩, fun D hD => ?_⟩
    refine lc_list (K := K) (a := a) (xs := ns.map V.int) (fun i H1 => Same H H1 ∧ ∃ rs : List Int, rs.length = i ∧ H1 D = some (.lst (rs.map V.int))) ⟨same_new hD, [], rfl, upd_same⟩ (fun i H1 _ h => h.1.seq hS) (fun i x H1 hx hP => ?_) (fun H1 hP => ?_)
    · obtain ⟨s1, rs, hl, e1⟩ := hP
      rw [List.getElem?_map] at hx
      cases hni : ns[i]? with
      | none =>
        rw [hni] at hx
        cases hx
      | some n =>
        rw [hni] at hx
        cases hx
        have hlt : i < ns.length := by
          obtain ⟨h1, _⟩ := List.getElem?_eq_some_iff.mp hni
          exact h1
        refine ⟨rfl, ?_⟩
        refine ⟨_, rfl, .inl ⟨n, rfl, n, rfl, _, e1, ?_, same_mut s1 hD, rs ++ [if n < 0 then -n else n], ?_, ?_⟩⟩
        · rw [List.length_map, hl]
          exact small_sz5 (by omega)
        · rw [List.length_append, hl]
          rfl
        · rw [upd_same, List.map_append]
          rfl
    obtain ⟨s1, rs, hl, e1⟩ := hP
    rw [List.length_map] at hl
    -- draws = []
    refine ⟨Nat.zero_le _, fun p np => ?_⟩
    have npH : H p = none := s1.free np
    have npD : D ≠ p := ne_of_none e1 np
    refine ⟨_, rfl, m, rfl, by omega, by omega, ?_⟩
    refine for_range (lo := 0) (n := (m : Int).toNat) (fun i σ H2 => ∃ (y3 y5 y6 y7 : Option V) (rs ds : List Int), σ = [some (.ref a), some (.int m), some (.ref D), y3, some (.ref p), y5, y6, y7] ∧ rs.length = ns.length ∧ ds.length = i ∧ Same H H2 ∧ H2 D = some (.lst (rs.map V.int)) ∧ H2 p = some (.lst (ds.map V.int)))
      ⟨_, _, _, _, rs, [], rfl, hl, rfl, s1.trans (same_new np), (same_new np) _ _ e1, upd_same⟩ (fun i σ H2 hi hP => ?_) (fun σ H2 hP => ?_)
    · obtain ⟨y3, y5, y6, y7, rs, ds, rfl, hl, hd, s2, e2, e3⟩ := hP
      have hA : SqL K H2 a (ns.map V.int) := s2.seq hS
      -- cell = k
      refine ⟨_, rfl, ?_⟩
      refine ⟨fun σ' H' => ∃ (c : Int) (y6 : Option V), σ' = [some (.ref a), some (.int m), some (.ref D), some (.int c), some (.ref p), some (.int (0 + i)), y6, y7] ∧ H' = H2, ?_, ?_⟩
      · refine ⟨_, rfl, a, _, rfl, .inl hA, _, _, rfl, rfl, _, rfl, ite2 (fun e => ?_) (fun e => ?_)⟩
        · have e4 := of_decide_eq_true e
          rw [List.length_map] at e4
          have hpos : 0 < ns.length := by omega
          refine ⟨_, rfl, _, rfl, a, _, rfl, .inl hA, _, _, rfl, rfl, by rw [List.length_map]; omega, ?_⟩
          rw [List.length_map]
          have hk0 : 0 ≤ ((0 : Int) + i) % (ns.length : Int) := Int.emod_nonneg _ (by omega)
          have hk1 : ((0 : Int) + i) % (ns.length : Int) < ns.length := Int.emod_lt_of_pos _ (by omega)
          dsimp only
          generalize ((0 : Int) + i) % (ns.length : Int) = k at hk0 hk1
          obtain ⟨j, rfl⟩ : ∃ j : Nat, k = j := ⟨k.toNat, by omega⟩
          have hj : j < ns.length := by omega
          have g : (ns.map V.int)[j]? = some (.int ns[j]) := by
            rw [List.getElem?_map, List.getElem?_eq_getElem hj]
            rfl
          have hj2 : j < rs.length := by omega
          have g2 : (rs.map V.int)[j]? = some (.int rs[j]) := by
            rw [List.getElem?_map, List.getElem?_eq_getElem hj2]
            rfl
          refine ⟨_, rfl, _, rfl, a, _, _, _, rfl, rfl, hA, atI_nat g, .inl ⟨_, rfl, ?_⟩⟩
          refine ⟨_, rfl, _, _, rfl, rfl, ⟨by decide, by decide, by decide⟩, _, _, rfl, rfl, _, rfl, ite2 (fun e => ?_) (fun e => ?_)⟩
          · refine ⟨_, rfl, _, rfl, D, _, _, _, rfl, rfl, SqL.of e2, atI_nat g2, _, _, rfl, rfl, _, rfl, ite2 (fun e => ?_) (fun e => ?_)⟩
            · -- draws.append(rests[at] % ..)
              refine ⟨_, rfl, .inl ⟨rfl, _, SqL.of e3⟩, _, rfl, _, rfl, D, _, _, _, rfl, rfl, SqL.of e2, atI_nat g2, .inl ⟨_, rfl, _, _, rfl, rfl, (by show (0 : Int) < _; decide), p, _, _, rfl, rfl, e3, ?_, ?_⟩⟩
              · rw [List.length_map]
                exact small_sz5 (by omega)
              have e2' : (upd H2 p (.lst (ds.map V.int ++ [.int (rs[j] % 1000003)]))) D = some (.lst (rs.map V.int)) := by
                rw [upd_ne npD]
                exact e2
              refine ⟨_, rfl, _, rfl, D, _, _, _, rfl, rfl, SqL.of e2', atI_nat g2, .inl ⟨_, rfl, _, _, rfl, rfl, ⟨by decide, by decide⟩, _, rfl, _, rfl, D, _, _, j, rfl, rfl, e2', ?_, ?_⟩⟩
              · rw [List.length_map]
                exact ixN_nat (by omega)
              refine ⟨_, _, _, _, rs.set j (rs[j] / 1000003), ds ++ [rs[j] % 1000003], rfl, by rw [List.length_set, hl], by rw [List.length_append, hd]; rfl, same_mut (same_mut s2 npH) hD, ?_, ?_⟩
              · rw [upd_same, List.map_set]
              · rw [upd_ne npD.symm, upd_same, List.map_append]
                rfl
            · exact ⟨_, _, rfl, rfl⟩
          · exact iteF ⟨_, _, rfl, rfl⟩
        · exact ⟨_, _, rfl, rfl⟩
      · intro σ' H' hN
        obtain ⟨c, y6, rfl, rfl⟩ := hN
        refine ⟨_, rfl, _, _, rfl, rfl, .inr ⟨by decide, by decide⟩, _, rfl, _, _, rfl, rfl, .inr ⟨by decide, by decide⟩, _, _, rfl, rfl, _, _, rfl, rfl, .inl ⟨_, rfl, _, _, rfl, rfl, (by show (0 : Int) < _; decide), ?_⟩⟩
        have m0 : 0 ≤ (c * 48271 + (0 + (i : Int)) * 69621 + 11) % 2147483647 := Int.emod_nonneg _ (by decide)
        have m1 : (c * 48271 + (0 + (i : Int)) * 69621 + 11) % 2147483647 < 2147483647 := Int.emod_lt_of_pos _ (by decide)
        dsimp only
        generalize (c * 48271 + (0 + (i : Int)) * 69621 + 11) % 2147483647 = x at m0 m1
        refine ⟨_, rfl, _, rfl, _, _, rfl, rfl, .inl ⟨by omega, by omega⟩, _, _, rfl, rfl, ⟨by decide, by decide⟩, _, rfl, _, _, rfl, rfl, .inl ⟨_, rfl, _, _, rfl, rfl, (by show (0 : Int) < _; decide), ?_⟩⟩
        have m2 : 0 ≤ (x * x / 4096 + x) % 2147483629 := Int.emod_nonneg _ (by decide)
        have m3 : (x * x / 4096 + x) % 2147483629 < 2147483629 := Int.emod_lt_of_pos _ (by decide)
        dsimp only
        generalize (x * x / 4096 + x) % 2147483629 = y at m2 m3
        refine ⟨_, rfl, .inl ⟨rfl, _, SqL.of e3⟩, _, rfl, _, rfl, _, _, rfl, rfl, .inl ⟨by omega, by omega⟩, _, _, rfl, rfl, ⟨by decide, by decide⟩, _, rfl, _, _, rfl, rfl, .inr ⟨by decide, by decide⟩, _, _, rfl, rfl, .inl ⟨_, rfl, _, _, rfl, rfl, (by show (0 : Int) < _; decide), p, _, _, rfl, rfl, e3, ?_, ?_⟩⟩
        · rw [List.length_map]
          exact small_sz5 (by omega)
        refine ⟨_, _, _, _, rs, ds ++ [(y * y / 4096 + (0 + (i : Int)) * 7919) % 2147483629], rfl, hl, by rw [List.length_append, hd]; rfl, same_mut s2 npH, ?_, ?_⟩
        · rw [upd_ne npD]
          exact e2
        · rw [upd_same, List.map_append]
          rfl
    · obtain ⟨y3, y5, y6, y7, rs, ds, rfl, hl, hd, s2, e2, e3⟩ := hP
      exact ⟨_, rfl, q p ds H2 s2 npH e3⟩
end
end SW

namespace SW
open PySem PySem.Spec PyProof.Rows L2
/-! ### terms and what they are worth -/
inductive Pl where
  | num (n : Int) | var (x : PySem.Str) (p : Int) | len (x : PySem.Str) (p : Int)
inductive Tm where
  | pl (p : Pl) | cell (x : PySem.Str) (b : Bool) (i : Pl) (p : Int)
def pWh (x : PySem.Str) (b : Bool) : PyData := .tuple [.str x, .bool b]
def Pl.enc : Pl → PyData
  | .num n => .tuple [.str "num", .int n]
  | .var x p => .tuple [.str "var", .str x, .int p]
  | .len x p => .tuple [.str "len", .str x, .int p]
def Tm.enc : Tm → PyData
  | .pl p => p.enc
  | .cell x b i p => .tuple [.str "cell", pWh x b, i.enc, .int p]
theorem noL_pl (p : Pl) : noL p.enc = true := by
  cases p <;> rfl
theorem noL_tm (t : Tm) : noL t.enc = true := by
  cases t with
  | pl p => exact noL_pl p
  | cell x b i p =>
    show (true && (noL (pWh x b) && (noL i.enc && (true && true)))) = true
    rw [noL_pl]
    rfl
/-- numbers by name; lists, and old lists (true), by name -/
structure Ev where
  num : PySem.Str → Int
  lst : Bool → PySem.Str → List Int
def Pl.val (E : Ev) : Pl → Int
  | .num n => n
  | .var x p => E.num x + p
  | .len x p => ((E.lst false x).length : Nat) + p
def cellAt (l : List Int) (k : Int) : Option Int := if 0 ≤ k ∧ k < l.length then some (l.getD k.toNat 0) else none
def Tm.val (E : Ev) : Tm → Option Int
  | .pl p => some (p.val E)
  | .cell x b i p => (cellAt (E.lst b x) (i.val E)).map (· + p)
def optI : Option Int → V
  | none => .non
  | some z => .int z
def Pl.ok (nn ln : List PySem.Str) : Pl → Prop
  | .num _ => True
  | .var x _ => x ∈ nn
  | .len x _ => x ∈ ln
def Tm.ok (nn ln : List PySem.Str) : Tm → Prop
  | .pl p => p.ok nn ln
  | .cell x _ i _ => x ∈ ln ∧ i.ok nn ln
/-- the three dicts of a state -/
structure EvAt (H : Hp) (dn dl dO : Addr) (E : Ev) (nn ln : List PySem.Str) : Prop where
  n : ∃ kvs : List (Key × V), H dn = some (.dK kvs) ∧ ∀ x, x ∈ nn → valV kvs (.inr x) = some (.int (E.num x))
  l : ∃ kvs : List (Key × V), H dl = some (.dK kvs) ∧ ∀ x, x ∈ ln → ∃ a, valV kvs (.inr x) = some (.ref a) ∧ H a = some (.lst ((E.lst false x).map V.int))
  o : ∃ kvs : List (Key × V), H dO = some (.dK kvs) ∧ ∀ x, x ∈ ln → ∃ a, valV kvs (.inr x) = some (.ref a) ∧ H a = some (.lst ((E.lst true x).map V.int))
  sz : ∀ b x, x ∈ ln → (E.lst b x).length ≤ 100
theorem EvAt.same {H H' : Hp} {dn dl dO : Addr} {E : Ev} {nn ln : List PySem.Str} (a : EvAt H dn dl dO E nn ln) (s : Same H H') : EvAt H' dn dl dO E nn ln := by
  obtain ⟨⟨k1, e1, f1⟩, ⟨k2, e2, f2⟩, ⟨k3, e3, f3⟩, sz⟩ := a
  refine ⟨⟨k1, s _ _ e1, f1⟩, ⟨k2, s _ _ e2, fun x hx => ?_⟩, ⟨k3, s _ _ e3, fun x hx => ?_⟩, sz⟩
  · obtain ⟨a, h1, h2⟩ := f2 x hx
    exact ⟨a, h1, s _ _ h2⟩
  · obtain ⟨a, h1, h2⟩ := f3 x hx
    exact ⟨a, h1, s _ _ h2⟩
/-- what the class is -/
structure TxS (K : PySem.W.Frag) (mg : PySem.Str → Option Value) (C : Addr) : Prop extends TxB mg where
  cl : Cls K C
  nN : NoAttr K C "numbers"
  nL : NoAttr K C "lists"
  nO : NoAttr K C "old"
  mg_State : mg "State" = some (.ref C)
/-- a state of the program at p -/
def StAt (C : Addr) (H : Hp) (p : Addr) (E : Ev) (nn ln : List PySem.Str) : Prop := ∃ (dn dl dO dx : Addr) (fs : List (PySem.Str × V)), H p = some (.ins C dx fs) ∧ fs.lookup ("numbers" : PySem.Str) = some (.ref dn) ∧ fs.lookup ("lists" : PySem.Str) = some (.ref dl) ∧ fs.lookup ("old" : PySem.Str) = some (.ref dO) ∧ EvAt H dn dl dO E nn ln
theorem StAt.same {C : Addr} {H H' : Hp} {p : Addr} {E : Ev} {nn ln : List PySem.Str} (a : StAt C H p E nn ln) (s : Same H H') : StAt C H' p E nn ln := by
  obtain ⟨dn, dl, dO, dx, fs, e, h1, h2, h3, h4⟩ := a
  exact ⟨dn, dl, dO, dx, fs, s _ _ e, h1, h2, h3, h4.same s⟩
theorem StAt.sz {C : Addr} {H : Hp} {p : Addr} {E : Ev} {nn ln : List PySem.Str} (a : StAt C H p E nn ln) (b : Bool) (x : PySem.Str) (hx : x ∈ ln) : (E.lst b x).length ≤ 100 := by
  obtain ⟨dn, dl, dO, dx, fs, e, h1, h2, h3, h4⟩ := a
  exact h4.sz b x hx
end SW

namespace SW
open PySem PySem.Spec PyProof.Rows L2
abbrev s_cells_of : Stmt := topS 5
theorem sc_cells_of : FnScope ["which", "state", "name", "old"] ["which", "state"] (defScope s_cells_of) := ⟨rfl, rfl, rfl, by decide +kernel, rfl, by decide +kernel, by decide +kernel⟩

abbrev s_value_of : Stmt := topS 2
theorem sc_value_of : FnScope ["term", "state", "kind", "cells", "index"] ["term", "state"] (defScope s_value_of) := ⟨rfl, rfl, rfl, by decide +kernel, rfl, by decide +kernel, by decide +kernel⟩

abbrev s_compares : Stmt := topS 3
theorem sc_compares : FnScope ["sign", "left", "right"] ["sign", "left", "right"] (defScope s_compares) := ⟨rfl, rfl, rfl, by decide +kernel, rfl, by decide +kernel, by decide +kernel⟩

abbrev s_comparison_holds : Stmt := topS 6
theorem sc_comparison_holds : FnScope ["comparison", "state", "left", "right"] ["comparison", "state"] (defScope s_comparison_holds) := ⟨rfl, rfl, rfl, by decide +kernel, rfl, by decide +kernel, by decide +kernel⟩

section
variable {P : Program} {w : World} {K : PySem.W.Frag} {mg : PySem.Str → Option Value} {base : Heap} {C : Addr}
def spCells (K : PySem.W.Frag) (C : Addr) : Sp := fun vs H Q _ => ∃ (v : V) (p : Addr) (x : PySem.Str) (b : Bool) (E : Ev) (nn ln : List PySem.Str), vs = [v, .ref p] ∧ Dp K H v (pWh x b) ∧ StAt C H p E nn ln ∧ x ∈ ln ∧ ∀ a, H a = some (.lst ((E.lst b x).map V.int)) → Q (.ref a) H
theorem ok_cells_of (T : TxS K mg C) (D_cells_of : Df K mg "_cells_of" s_cells_of ["which", "state"]) : FnOk P w K mg base CX0 1 D_cells_of.f D_cells_of.fd ["which", "state"] (spCells K C) := by
  refine D_cells_of.F.ok sc_cells_of (fun vs H Q E h => ?_) (fun cdv A outer s H vs Q E hr h => ?_)
  · obtain ⟨v, p, x, b, E, nn, ln, rfl, _⟩ := h
    rfl
  · obtain ⟨v, p, x, b, E, nn, ln, rfl, hv, ⟨dn, dl, dO, dx, fs, e, l1, l2, l3, st⟩, hx, q⟩ := h
    refine ⟨_, (pss_cons (ps_asg (pv 0) (pg_tup (by rfl) (pgs_cons (pg_name (i := 2) sc_cells_of.nd rfl (.inl rfl)) (pgs_cons (pg_name (i := 3) sc_cells_of.nd rfl (.inl rfl)) pgs_nil))))
    (pss_one (ps_ret (pe_ifExp (pt_val (pv 3)) (pe_dget (hu_of hr) (pe_fld (pv 1) rfl) (pv 2) (fun _ _ => rfl)) (pe_dget (hu_of hr) (pe_fld (pv 1) rfl) (pv 2) (fun _ _ => rfl)))))), ?_⟩
    obtain ⟨t, v1, v2, rfl, ht, h1, h2⟩ := dp_inv2 hv
    cases dp_str_inv h1
    cases dp_bl_inv h2
    refine ⟨_, rfl, t, _, rfl, ht, rfl, _, _, rfl, _, _, rfl, rfl, ?_⟩
    obtain ⟨k2, e2, f2⟩ := st.l
    obtain ⟨k3, e3, f3⟩ := st.o
    cases b with
    | true =>
      obtain ⟨a, g1, g2⟩ := f3 x hx
      exact ⟨_, rfl, _, rfl, iteT ⟨_, rfl, p, C, dx, _, _, rfl, e, T.cl, T.nO, l3, _, rfl, dO, _, rfl, .inl ⟨k3, .inr x, .inl e3, rfl, g1.symm⟩, q _ g2⟩⟩
    | false =>
      obtain ⟨a, g1, g2⟩ := f2 x hx
      exact ⟨_, rfl, _, rfl, iteF ⟨_, rfl, p, C, dx, _, _, rfl, e, T.cl, T.nL, l2, _, rfl, dl, _, rfl, .inl ⟨k2, .inr x, .inl e2, rfl, g1.symm⟩, q _ g2⟩⟩
def spVal0 (K : PySem.W.Frag) (C : Addr) : Sp := fun vs H Q _ => ∃ (v : V) (p : Addr) (t : Pl) (E : Ev) (nn ln : List PySem.Str), vs = [v, .ref p] ∧ Dp K H v t.enc ∧ StAt C H p E nn ln ∧ t.ok nn ln ∧ Q (.int (t.val E)) H
def spVal (K : PySem.W.Frag) (C : Addr) : Sp := fun vs H Q _ => ∃ (v : V) (p : Addr) (t : Tm) (E : Ev) (nn ln : List PySem.Str), vs = [v, .ref p] ∧ Dp K H v t.enc ∧ StAt C H p E nn ln ∧ t.ok nn ln ∧ Q (optI (t.val E)) H
theorem ok_value_pl (T : TxS K mg C) (D_value_of : Df K mg "value_of" s_value_of ["term", "state"]) (D_cells_of : Df K mg "_cells_of" s_cells_of ["which", "state"]) (G_cells_of : FnOk P w K mg base CX0 1 D_cells_of.f D_cells_of.fd ["which", "state"] (spCells K C)) : FnOk P w K mg base CX0 2 D_value_of.f D_value_of.fd ["term", "state"] (spVal0 K C) := by
  have G_value_of : FnOk P w K mg base CX0 1 D_value_of.f D_value_of.fd ["term", "state"] (fun _ _ _ _ => False) := fn_never
  refine D_value_of.F.ok sc_value_of (fun vs H Q E h => ?_) (fun cdv A outer s H vs Q E hr h => ?_)
  · obtain ⟨v, p, t, E, nn, ln, rfl, _⟩ := h
    rfl
  · obtain ⟨v, p, t, E, nn, ln, rfl, hv, ⟨dn, dl, dO, dx, fs, e, l1, l2, l3, st⟩, hx, q⟩ := h
    refine ⟨_, (pss_cons (ps_set (i := 2) sc_value_of.nd rfl (.inl rfl) (pe_ix ix_tup (pv 0) pe_int (fun _ _ => rfl)))
    (pss_cons (ps_if (pt_cmpR op_eq (pv 2) pe_str (nomark _))
    (pss_one (ps_ret (pe_ix ix_tup (pv 0) pe_int (fun _ _ => rfl))))
    pss_nil)
    (pss_cons (ps_if (pt_cmpR op_eq (pv 2) pe_str (nomark _))
    (pss_one (ps_ret (pe_op op_add (pe_dget (hu_of hr) (pe_fld (pv 1) rfl) (pe_ix ix_tup (pv 0) pe_int (fun _ _ => rfl)) (fun _ _ => rfl)) (pe_ix ix_tup (pv 0) pe_int (fun _ _ => rfl)))))
    pss_nil)
    (pss_cons (ps_if (pt_cmpR op_eq (pv 2) pe_str (nomark _))
    (pss_one (ps_ret (pe_op op_add (pe_callB call_len_seq (by rfl) T.n_len PySem.boot_len (pa_cons (pe_dget (hu_of hr) (pe_fld (pv 1) rfl) (pe_ix ix_tup (pv 0) pe_int (fun _ _ => rfl)) (fun _ _ => rfl)) pa_nil)) (pe_ix ix_tup (pv 0) pe_int (fun _ _ => rfl)))))
    pss_nil)
    (pss_cons (ps_set (i := 3) sc_value_of.nd rfl (.inl rfl) (pe_call G_cells_of (hr.mono (by decide)) (by rfl) D_cells_of.g D_cells_of.F.kp D_cells_of.b .nil pass0 (pa_cons (pe_ix ix_tup (pv 0) pe_int (fun _ _ => rfl)) (pa_cons (pv 1) pa_nil))))
    (pss_cons (ps_set (i := 4) sc_value_of.nd rfl (.inl rfl) (pe_call G_value_of (hr.mono (by decide)) (by rfl) D_value_of.g D_value_of.F.kp D_value_of.b .nil pass0 (pa_cons (pe_ix ix_tup (pv 0) pe_int (fun _ _ => rfl)) (pa_cons (pv 1) pa_nil))))
    (pss_one (ps_ret (pe_ifExp (pt_chain op_le op_lt pe_int (pv 4) (pe_callB call_len_seq (by rfl) T.n_len PySem.boot_len (pa_cons (pv 3) pa_nil))) (pe_op op_add (pe_ix ix_list (pv 3) (pv 4) (fun _ _ => rfl)) (pe_ix ix_tup (pv 0) pe_int (fun _ _ => rfl))) pe_non))))))))), ?_⟩
    cases t with
    | num n =>
      obtain ⟨t, v1, v2, rfl, ht, h1, h2⟩ := dp_inv2 hv
      cases dp_str_inv h1
      cases dp_int_inv h2
      exact ⟨_, rfl, t, _, _, _, rfl, rfl, ht, atI_nat (j := 0) rfl, _, rfl, rfl, _, rfl, iteT ⟨_, rfl, t, _, _, _, rfl, rfl, ht, atI_nat (j := 1) rfl, q⟩⟩
    | var x z =>
      obtain ⟨t, v1, v2, v3, rfl, ht, h1, h2, h3⟩ := dp_inv3 hv
      cases dp_str_inv h1
      cases dp_str_inv h2
      cases dp_int_inv h3
      obtain ⟨k1, e1, f1⟩ := st.n
      exact ⟨_, rfl, t, _, _, _, rfl, rfl, ht, atI_nat (j := 0) rfl, _, rfl, rfl, _, rfl, iteF ⟨_, rfl, rfl, _, rfl, iteT ⟨_, rfl, p, C, dx, _, _, rfl, e, T.cl, T.nN, l1, _, rfl, t, _, _, _, rfl, rfl, ht, atI_nat (j := 1) rfl, dn, _, rfl, .inl ⟨k1, .inr x, .inl e1, rfl, (f1 x hx).symm⟩, _, rfl, t, _, _, _, rfl, rfl, ht, atI_nat (j := 2) rfl, _, _, rfl, rfl, q⟩⟩⟩
    | len x z =>
      obtain ⟨t, v1, v2, v3, rfl, ht, h1, h2, h3⟩ := dp_inv3 hv
      cases dp_str_inv h1
      cases dp_str_inv h2
      cases dp_int_inv h3
      obtain ⟨k1, e1, f1⟩ := st.l
      obtain ⟨a, g1, g2⟩ := f1 x hx
      refine ⟨_, rfl, t, _, _, _, rfl, rfl, ht, atI_nat (j := 0) rfl, _, rfl, rfl, _, rfl, iteF ⟨_, rfl, rfl, _, rfl, iteF ⟨_, rfl, rfl, _, rfl, iteT ⟨_, rfl, p, C, dx, _, _, rfl, e, T.cl, T.nL, l2, _, rfl, t, _, _, _, rfl, rfl, ht, atI_nat (j := 1) rfl, dl, _, rfl, .inl ⟨k1, .inr x, .inl e1, rfl, g1.symm⟩, a, _, rfl, .inl (SqL.of g2), _, rfl, t, _, _, _, rfl, rfl, ht, atI_nat (j := 2) rfl, _, _, rfl, rfl, ?_⟩⟩⟩⟩
      rw [List.length_map]
      exact q
def spValC (K : PySem.W.Frag) (C : Addr) : Sp := fun vs H Q _ => ∃ (v : V) (p : Addr) (x : PySem.Str) (b : Bool) (i : Pl) (z : Int) (E : Ev) (nn ln : List PySem.Str), vs = [v, .ref p] ∧ Dp K H v (Tm.cell x b i z).enc ∧ StAt C H p E nn ln ∧ x ∈ ln ∧ i.ok nn ln ∧ Q (optI ((Tm.cell x b i z).val E)) H
theorem ok_value_cell (T : TxS K mg C) (D_value_of : Df K mg "value_of" s_value_of ["term", "state"]) (D_cells_of : Df K mg "_cells_of" s_cells_of ["which", "state"]) (G_cells_of : FnOk P w K mg base CX0 1 D_cells_of.f D_cells_of.fd ["which", "state"] (spCells K C)) : FnOk P w K mg base CX0 3 D_value_of.f D_value_of.fd ["term", "state"] (spValC K C) := by
  have G_value_of := ok_value_pl (P := P) (w := w) (base := base) T D_value_of D_cells_of G_cells_of
  refine D_value_of.F.ok sc_value_of (fun vs H Q E h => ?_) (fun cdv A outer s H vs Q E hr h => ?_)
  · obtain ⟨v, p, x, b, i, z, E, nn, ln, rfl, _⟩ := h
    rfl
  · obtain ⟨v, p, x, b, i, z, E, nn, ln, rfl, hv, st, hx, hi, q⟩ := h
    refine ⟨_, (pss_cons (ps_set (i := 2) sc_value_of.nd rfl (.inl rfl) (pe_ix ix_tup (pv 0) pe_int (fun _ _ => rfl)))
    (pss_cons (ps_if (pt_cmpR op_eq (pv 2) pe_str (nomark _))
    (pss_one (ps_ret (pe_ix ix_tup (pv 0) pe_int (fun _ _ => rfl))))
    pss_nil)
    (pss_cons (ps_if (pt_cmpR op_eq (pv 2) pe_str (nomark _))
    (pss_one (ps_ret (pe_op op_add (pe_dget (hu_of hr) (pe_fld (pv 1) rfl) (pe_ix ix_tup (pv 0) pe_int (fun _ _ => rfl)) (fun _ _ => rfl)) (pe_ix ix_tup (pv 0) pe_int (fun _ _ => rfl)))))
    pss_nil)
    (pss_cons (ps_if (pt_cmpR op_eq (pv 2) pe_str (nomark _))
    (pss_one (ps_ret (pe_op op_add (pe_callB call_len_seq (by rfl) T.n_len PySem.boot_len (pa_cons (pe_dget (hu_of hr) (pe_fld (pv 1) rfl) (pe_ix ix_tup (pv 0) pe_int (fun _ _ => rfl)) (fun _ _ => rfl)) pa_nil)) (pe_ix ix_tup (pv 0) pe_int (fun _ _ => rfl)))))
    pss_nil)
    (pss_cons (ps_set (i := 3) sc_value_of.nd rfl (.inl rfl) (pe_call G_cells_of (hr.mono (by decide)) (by rfl) D_cells_of.g D_cells_of.F.kp D_cells_of.b .nil pass0 (pa_cons (pe_ix ix_tup (pv 0) pe_int (fun _ _ => rfl)) (pa_cons (pv 1) pa_nil))))
    (pss_cons (ps_set (i := 4) sc_value_of.nd rfl (.inl rfl) (pe_call G_value_of (hr.mono (by decide)) (by rfl) D_value_of.g D_value_of.F.kp D_value_of.b .nil pass0 (pa_cons (pe_ix ix_tup (pv 0) pe_int (fun _ _ => rfl)) (pa_cons (pv 1) pa_nil))))
    (pss_one (ps_ret (pe_ifExp (pt_chain op_le op_lt pe_int (pv 4) (pe_callB call_len_seq (by rfl) T.n_len PySem.boot_len (pa_cons (pv 3) pa_nil))) (pe_op op_add (pe_ix ix_list (pv 3) (pv 4) (fun _ _ => rfl)) (pe_ix ix_tup (pv 0) pe_int (fun _ _ => rfl))) pe_non))))))))), ?_⟩
    obtain ⟨t, v1, v2, v3, v4, rfl, ht, h1, h2, h3, h4⟩ := dp_inv4 hv
    cases dp_str_inv h1
    cases dp_int_inv h4
    refine ⟨_, rfl, t, _, _, _, rfl, rfl, ht, atI_nat (j := 0) rfl, _, rfl, rfl, _, rfl, iteF ⟨_, rfl, rfl, _, rfl, iteF ⟨_, rfl, rfl, _, rfl, iteF ?_⟩⟩⟩
    refine ⟨_, rfl, t, _, _, _, rfl, rfl, ht, atI_nat (j := 1) rfl, _, rfl, v2, p, x, b, E, nn, ln, rfl, h2, st, hx, fun a ea => ?_⟩
    refine ⟨_, rfl, t, _, _, _, rfl, rfl, ht, atI_nat (j := 2) rfl, _, rfl, v3, p, i, E, nn, ln, rfl, h3, st, hi, ?_⟩
    have hval : (Tm.cell x b i z).val E = (cellAt (E.lst b x) (i.val E)).map (· + z) := rfl
    rw [hval] at q
    generalize i.val E = k at q
    generalize E.lst b x = cs at q ea
    unfold cellAt at q
    refine ⟨_, rfl, _, _, rfl, rfl, _, rfl, ite2 (fun e => ?_) (fun e => ?_)⟩
    · have e := of_decide_eq_true e
      refine ⟨_, rfl, a, _, rfl, .inl (SqL.of ea), _, _, rfl, rfl, _, rfl, ite2 (fun e2 => ?_) (fun e2 => ?_)⟩
      · have e2 := of_decide_eq_true e2
        rw [List.length_map] at e2
        obtain ⟨j, rfl⟩ : ∃ j : Nat, k = j := ⟨k.toNat, by omega⟩
        have hj : j < cs.length := by omega
        rw [if_pos ⟨e, e2⟩] at q
        refine ⟨_, rfl, _, rfl, a, _, _, _, rfl, rfl, SqL.of ea, ints_at hj, _, rfl, t, _, _, _, rfl, rfl, ht, atI_nat (j := 3) rfl, _, _, rfl, rfl, ?_⟩
        rw [Int.toNat_natCast, List.getD_eq_getElem?_getD, List.getElem?_eq_getElem hj] at q
        exact q
      · have e2 : ¬ k < cs.length := fun h => e2 (by rw [List.length_map]; exact decide_eq_true h)
        rw [if_neg fun h => e2 h.2] at q
        exact q
    · have e : ¬ 0 ≤ k := fun h => e (decide_eq_true h)
      rw [if_neg fun h => e h.1] at q
      exact ⟨_, rfl, iteF q⟩
theorem ok_value_of (T : TxS K mg C) (D_value_of : Df K mg "value_of" s_value_of ["term", "state"]) (D_cells_of : Df K mg "_cells_of" s_cells_of ["which", "state"]) (G_cells_of : FnOk P w K mg base CX0 1 D_cells_of.f D_cells_of.fd ["which", "state"] (spCells K C)) : FnOk P w K mg base CX0 3 D_value_of.f D_value_of.fd ["term", "state"] (spVal K C) := by
  refine (fn_or ((ok_value_pl T D_value_of D_cells_of G_cells_of).mono (by decide)) (ok_value_cell T D_value_of D_cells_of G_cells_of)).imp fun vs H Q E h => ?_
  obtain ⟨v, p, t, E, nn, ln, rfl, hv, st, ok, q⟩ := h
  cases t with
  | pl t => exact .inl ⟨v, p, t, E, nn, ln, rfl, hv, st, ok, q⟩
  | cell x b i z => exact .inr ⟨v, p, x, b, i, z, E, nn, ln, rfl, hv, st, ok.1, ok.2, q⟩
/-! ### comparisons -/
def sgs : List PySem.Str := ["<", "<=", ">", ">=", "==", "!="]
def cmpI (z : PySem.Str) (a b : Int) : Bool :=
  if z = "<" then decide (a < b) else if z = "<=" then decide (a ≤ b) else if z = ">" then decide (b < a) else if z = ">=" then decide (b ≤ a) else if z = "==" then decide (a = b) else !decide (a = b)
def spCompares : Sp := fun vs H Q _ => ∃ (z : PySem.Str) (a b : Int), vs = [.str z, .int a, .int b] ∧ Q (.bl (cmpI z a b)) H
theorem ok_compares (T : TxS K mg C) (D_compares : Df K mg "compares" s_compares ["sign", "left", "right"]) : FnOk P w K mg base CX0 1 D_compares.f D_compares.fd ["sign", "left", "right"] spCompares := by
  refine D_compares.F.ok sc_compares (fun vs H Q E h => ?_) (fun cdv A outer s H vs Q E hr h => ?_)
  · obtain ⟨z, a, b, rfl, _⟩ := h
    rfl
  · obtain ⟨z, a, b, rfl, q⟩ := h
    refine ⟨_, (pss_cons (ps_if (pt_cmpR op_eq (pv 0) pe_str (nomark _))
    (pss_one (ps_ret (pe_cmpR op_lt (pv 1) (pv 2) (nomark _))))
    pss_nil)
    (pss_cons (ps_if (pt_cmpR op_eq (pv 0) pe_str (nomark _))
    (pss_one (ps_ret (pe_cmpR op_le (pv 1) (pv 2) (nomark _))))
    pss_nil)
    (pss_cons (ps_if (pt_cmpR op_eq (pv 0) pe_str (nomark _))
    (pss_one (ps_ret (pe_cmpR op_gt (pv 1) (pv 2) (nomark _))))
    pss_nil)
    (pss_cons (ps_if (pt_cmpR op_eq (pv 0) pe_str (nomark _))
    (pss_one (ps_ret (pe_cmpR op_ge (pv 1) (pv 2) (nomark _))))
    pss_nil)
    (pss_cons (ps_if (pt_cmpR op_eq (pv 0) pe_str (nomark _))
    (pss_one (ps_ret (pe_cmpR op_eq (pv 1) (pv 2) (nomark _))))
    pss_nil)
    (pss_one (ps_ret (pe_cmpR op_ne (pv 1) (pv 2) (nomark _))))))))), ?_⟩
    unfold cmpI at q
    refine ⟨_, rfl, rfl, _, rfl, ite2 (fun e => ?_) (fun e => ?_)⟩ <;> rw [str_dec] at e
    · rw [if_pos (of_decide_eq_true e)] at q
      exact ⟨_, rfl, _, rfl, _, _, rfl, rfl, q⟩
    rw [if_neg fun h => e (decide_eq_true h)] at q
    refine ⟨_, rfl, rfl, _, rfl, ite2 (fun e => ?_) (fun e => ?_)⟩ <;> rw [str_dec] at e
    · rw [if_pos (of_decide_eq_true e)] at q
      exact ⟨_, rfl, _, rfl, _, _, rfl, rfl, q⟩
    rw [if_neg fun h => e (decide_eq_true h)] at q
    refine ⟨_, rfl, rfl, _, rfl, ite2 (fun e => ?_) (fun e => ?_)⟩ <;> rw [str_dec] at e
    · rw [if_pos (of_decide_eq_true e)] at q
      exact ⟨_, rfl, _, rfl, _, _, rfl, rfl, q⟩
    rw [if_neg fun h => e (decide_eq_true h)] at q
    refine ⟨_, rfl, rfl, _, rfl, ite2 (fun e => ?_) (fun e => ?_)⟩ <;> rw [str_dec] at e
    · rw [if_pos (of_decide_eq_true e)] at q
      exact ⟨_, rfl, _, rfl, _, _, rfl, rfl, q⟩
    rw [if_neg fun h => e (decide_eq_true h)] at q
    refine ⟨_, rfl, rfl, _, rfl, ite2 (fun e => ?_) (fun e => ?_)⟩ <;> rw [str_dec] at e
    · rw [if_pos (of_decide_eq_true e)] at q
      refine ⟨_, rfl, _, rfl, rfl, ?_⟩
      rw [int_dec]
      exact q
    rw [if_neg fun h => e (decide_eq_true h)] at q
    refine ⟨_, rfl, _, rfl, rfl, ?_⟩
    rw [int_dec]
    exact q
/-- a comparison: its sign, its two terms -/
structure Cm where
  z : PySem.Str
  l : Tm
  r : Tm
def Cm.enc (c : Cm) : PyData := .tuple [.str "cmp", .str c.z, c.l.enc, c.r.enc]
def cmpO (z : PySem.Str) : Option Int → Option Int → Bool
  | some a, some b => cmpI z a b
  | _, _ => false
def Cm.tr (E : Ev) (c : Cm) : Bool := cmpO c.z (c.l.val E) (c.r.val E)
def Cm.ok (nn ln : List PySem.Str) (c : Cm) : Prop := c.l.ok nn ln ∧ c.r.ok nn ln ∧ c.z ∈ sgs
def spHolds (K : PySem.W.Frag) (C : Addr) : Sp := fun vs H Q _ => ∃ (v : V) (p : Addr) (c : Cm) (E : Ev) (nn ln : List PySem.Str), vs = [v, .ref p] ∧ Dp K H v c.enc ∧ StAt C H p E nn ln ∧ c.ok nn ln ∧ Q (.bl (c.tr E)) H
theorem ok_comparison_holds (T : TxS K mg C) (D_comparison_holds : Df K mg "_comparison_holds" s_comparison_holds ["comparison", "state"]) (D_value_of : Df K mg "value_of" s_value_of ["term", "state"]) (D_compares : Df K mg "compares" s_compares ["sign", "left", "right"]) (G_value_of : FnOk P w K mg base CX0 3 D_value_of.f D_value_of.fd ["term", "state"] (spVal K C)) (G_compares : FnOk P w K mg base CX0 1 D_compares.f D_compares.fd ["sign", "left", "right"] spCompares) : FnOk P w K mg base CX0 4 D_comparison_holds.f D_comparison_holds.fd ["comparison", "state"] (spHolds K C) := by
  refine D_comparison_holds.F.ok sc_comparison_holds (fun vs H Q E h => ?_) (fun cdv A outer s H vs Q E hr h => ?_)
  · obtain ⟨v, p, c, E, nn, ln, rfl, _⟩ := h
    rfl
  · obtain ⟨v, p, ⟨z, l, r⟩, E, nn, ln, rfl, hv, st, ⟨ok1, ok2, ok3⟩, q⟩ := h
    refine ⟨_, (pss_cons (ps_set (i := 2) sc_comparison_holds.nd rfl (.inl rfl) (pe_call G_value_of (hr.mono (by decide)) (by rfl) D_value_of.g D_value_of.F.kp D_value_of.b .nil pass0 (pa_cons (pe_ix ix_tup (pv 0) pe_int (fun _ _ => rfl)) (pa_cons (pv 1) pa_nil))))
    (pss_cons (ps_set (i := 3) sc_comparison_holds.nd rfl (.inl rfl) (pe_call G_value_of (hr.mono (by decide)) (by rfl) D_value_of.g D_value_of.F.kp D_value_of.b .nil pass0 (pa_cons (pe_ix ix_tup (pv 0) pe_int (fun _ _ => rfl)) (pa_cons (pv 1) pa_nil))))
    (pss_one (ps_ret (pe_and (pe_cmpR op_notN (pv 2) pe_non (nomark _)) (pe_and (pe_cmpR op_notN (pv 3) pe_non (nomark _)) (pe_one (pe_call G_compares (hr.mono (by decide)) (by rfl) D_compares.g D_compares.F.kp D_compares.b .nil pass0 (pa_cons (pe_ix ix_tup (pv 0) pe_int (fun _ _ => rfl)) (pa_cons (pv 2) (pa_cons (pv 3) pa_nil))))))))))), ?_⟩
    obtain ⟨t, v1, v2, v3, v4, rfl, ht, h1, h2, h3, h4⟩ := dp_inv4 hv
    cases dp_str_inv h2
    refine ⟨_, rfl, t, _, _, _, rfl, rfl, ht, atI_nat (j := 2) rfl, _, rfl, v3, p, l, E, nn, ln, rfl, h3, st, ok1, ?_⟩
    refine ⟨_, rfl, t, _, _, _, rfl, rfl, ht, atI_nat (j := 3) rfl, _, rfl, v4, p, r, E, nn, ln, rfl, h4, st, ok2, ?_⟩
    unfold Cm.tr at q
    dsimp only at q
    cases hl : l.val E with
    | none =>
      rw [hl] at q
      exact ⟨_, rfl, rfl, _, rfl, iteF q⟩
    | some a =>
      rw [hl] at q
      cases hr : r.val E with
      | none =>
        rw [hr] at q
        exact ⟨_, rfl, rfl, _, rfl, iteT ⟨_, rfl, rfl, _, rfl, iteF q⟩⟩
      | some b =>
        rw [hr] at q
        exact ⟨_, rfl, rfl, _, rfl, iteT ⟨_, rfl, rfl, _, rfl, iteT ⟨_, rfl, t, _, _, _, rfl, rfl, ht, atI_nat (j := 1) rfl, _, rfl, _, rfl, _, _, _, rfl, q⟩⟩⟩
end
end SW

namespace SW
open PySem PySem.Spec PyProof.Rows L2
/-! ### a range whose ends are numbers of any size -/
theorem turn_long {P : Program} {w : World} {K : PySem.W.Frag} {tg : Expr} (it : Addr) (lo : Int) (n : Nat) : Turn P w K tg (Itr lo n) [it] it (fun i h => IsLongIter h it (lo + (i : Nat) * 1) ((n : Int) - (i : Nat)) 1) where
  mem := by simp
  obj := fun i h st b hb => by
    have e : b = it := by simpa using hb
    subst e
    exact ⟨_, st, fun v z => by
      have z' : Data.fields _ = Data.cell v := z
      cases z'⟩
  keep := fun i h h' st k => k it (by simp) _ st
  item := by
    intro X hP hw hK hc i pins s σ H E I hf st hg
    subst hP hw hK
    obtain ⟨f0, f1, f2, f3, f4, f5⟩ := hf it (by simp)
    have W := Walks.longrange (prog := X.prog) (w := X.w) (I.ok.hd hc) it lo 1 n
    refine W.item i s _ _ hg st fun v h' tk hv st' kk => ?_
    obtain ⟨t, rfl⟩ := hv
    have I1 : Inv X pins σ H { s with heap := h', toks := tk } := I.turned (fun b o hb e => kk b o (by simpa using hb) e) f0 f1 f3 f4 f5
    refine ⟨_, rfl, go_of (s := { s with heap := h', toks := tk }) (n := "longrange_iterator") st' rfl rfl (by decide) ⟨.int (lo + i), H, I1, ⟨t, ?_⟩, ⟨rfl, rfl⟩, st', fun b hb => (hf b hb).1⟩⟩
    rw [Int.mul_one]
  done := by
    intro X hP hw hK hc i pins s σ H E I hf st hg
    subst hP hw hK
    obtain ⟨f0, f1, f2, f3, f4, f5⟩ := hf it (by simp)
    exact wpAny_pyNext_long_end (I.ok.hd hc) st (by have : n ≤ i := hg; omega) fun h' eb => ⟨rfl, I.turned (t' := s.toks) (fun b o hb e => eb b o hb e) f0 f1 f3 f4 f5⟩
  self := fun _ _ _ _ _ st h => wpAny_pyIter_longiter st h
section
variable {X : Cx} {tg : Expr}
theorem range_itL {pins : List (Addr × Obj)} {σ : L2.St} {H : Hp} {s : Shared} {R : It → Hp → Prop} {E : Value → Shared → Prop} {lo hi : Int} {t u v : Tok} {tk : Nat} (I : Inv X pins σ H s)
    (q : R (Itr lo (hi - lo).toNat) H) : wpAny (model X.prog X.w) X.A (pyIter (.ref s.heap.objs.size)) (PIE X pins σ tg R) E { s with heap := s.heap.push { cls := .type "range", data := .fields #[.int lo t, .int hi u, .int 1 v] }, toks := tk } := by
  have I1 : Inv X pins σ H { s with heap := s.heap.push { cls := .type "range", data := .fields #[.int lo t, .int hi u, .int 1 v] }, toks := tk } := I.kept fun b o e => Heap.get?_push_of_some _ e
  have e1 : lo + ((0 : Nat) : Int) * 1 = lo := by simp
  have e2 : (((hi - lo).toNat : Nat) : Int) - ((0 : Nat) : Int) = Builtin.Range.rangeSize lo hi 1 := by rw [rangeSize_one]; split <;> omega
  by_cases hs : Builtin.Range.small lo hi 1 = true
  · refine wpAny_pyIter_range (IsRange.new ..) hs ?_
    refine ⟨(s.heap.push { cls := .type "range", data := .fields #[.int lo t, .int hi u, .int 1 v] }).objs.size, [(s.heap.push { cls := .type "range", data := .fields #[.int lo t, .int hi u, .int 1 v] }).objs.size], _, _, H, rfl,
      I1.kept (t' := tk) fun b o e => Heap.get?_push_of_some _ e, turn_range _ lo (hi - lo).toNat, ?_, fun b hb => ?_, q⟩
    · show IsRangeIter _ _ (lo + ((0 : Nat) : Int) * 1) ((((hi - lo).toNat : Nat) : Int) - ((0 : Nat) : Int)) 1
      rw [e1, e2]
      exact Heap.get?_push_size _ rfl
    · have e : b = (s.heap.push { cls := .type "range", data := .fields #[.int lo t, .int hi u, .int 1 v] }).objs.size := by simpa using hb
      subst e
      exact I1.fpOk (Nat.le_refl _) (I1.hok.fresh (Nat.le_refl _))
  · refine wpAny_pyIter_longrange (IsRange.new ..) (Bool.eq_false_iff.mpr hs) ?_
    refine ⟨(s.heap.push { cls := .type "range", data := .fields #[.int lo t, .int hi u, .int 1 v] }).objs.size, [(s.heap.push { cls := .type "range", data := .fields #[.int lo t, .int hi u, .int 1 v] }).objs.size], _, _, H, rfl,
      I1.kept (t' := tk) fun b o e => Heap.get?_push_of_some _ e, turn_long _ lo (hi - lo).toNat, ?_, fun b hb => ?_, q⟩
    · show IsLongIter _ _ (lo + ((0 : Nat) : Int) * 1) ((((hi - lo).toNat : Nat) : Int) - ((0 : Nat) : Int)) 1
      rw [e1, e2]
      exact Heap.get?_push_size _ rfl
    · have e : b = (s.heap.push { cls := .type "range", data := .fields #[.int lo t, .int hi u, .int 1 v] }).objs.size := by simpa using hb
      subst e
      exact I1.fpOk (Nat.le_refl _) (I1.hok.fresh (Nat.le_refl _))
def iRngL (ta : TA) : TI := fun σ H R => ta σ H fun vs H1 => ∃ i j : Int, vs = [.int i, .int j] ∧ R (Itr i (j - i).toNat) H1
theorem pi_rangeL {a b : Expr} {ta : TA} {p pos : Pos} (hg : Gl X "range") (hm : X.mg "range" = none) (ha : PA X [a, b] ta) (hs : starEach [a, b] X.env = [(false, eval a X.env), (false, eval b X.env)] := by rfl) (hs2 : starEach [b] X.env = [(false, eval b X.env)] := by rfl) :
    PI X tg (.Call (.Name "range" p) [a, b] [] pos) (iRngL ta) := by
  refine ⟨fun pins s σ H R I h => ?_⟩
  refine Call_ (ld_blt I hg hm boot_range (PyProof.Rows.callWith_type1 (thn (ha.run pos pins s σ H _ I h) fun us s1 ⟨vs, H1, I1, r1, q1⟩ => ?_) (by rw [hs, hs2]) (by rw [hs2]; rfl)))
  obtain ⟨i, j, e, q⟩ := q1
  subst e
  cases r1 with
  | cons r rr =>
    cases rr with
    | cons r' rr =>
      cases rr
      obtain ⟨t, rfl⟩ := r
      obtain ⟨t', rfl⟩ := r'
      exact call_range_2 (range_itL I1 q)
end
end SW

namespace SW
open PySem PySem.Spec PyProof.Rows L2
abbrev s_places : Stmt := topS 7
theorem sc_places : FnScope ["lo", "hi", "cells", "state", "first"] ["lo", "hi", "cells", "state"] (defScope s_places) := ⟨rfl, rfl, rfl, by decide +kernel, rfl, by decide +kernel, by decide +kernel⟩

abbrev s_stretch_of : Stmt := topS 8
theorem sc_stretch_of : FnScope ["stretch", "state", "which", "lo", "hi", "cells", "first", "end"] ["stretch", "state"] (defScope s_stretch_of) := ⟨rfl, rfl, rfl, by decide +kernel, rfl, by decide +kernel, by decide +kernel⟩

abbrev s_is_sorted : Stmt := topS 9
theorem sc_is_sorted : FnScope ["cells", "left", "right"] ["cells"] (defScope s_is_sorted) := ⟨rfl, rfl, rfl, by decide +kernel, rfl, by decide +kernel, by decide +kernel⟩

abbrev s_is_below : Stmt := topS 10
theorem sc_is_below : FnScope ["cells", "others"] ["cells", "others"] (defScope s_is_below) := ⟨rfl, rfl, rfl, by decide +kernel, rfl, by decide +kernel, by decide +kernel⟩

abbrev s_all_hold : Stmt := topS 11
theorem sc_all_hold : FnScope ["promise", "state", "_", "which", "lo", "hi", "sign", "right", "cells", "first", "end", "others", "other", "left", "worth"] ["promise", "state"] (defScope s_all_hold) := ⟨rfl, rfl, rfl, by decide +kernel, rfl, by decide +kernel, by decide +kernel⟩

/-! ### stretches of lists -/
def cutI (l : List Int) (a e : Nat) : List Int := (l.drop a).take (e - a)
def frm (E : Ev) (lo : Pl) : Nat := (lo.val E).toNat
def til (E : Ev) (lo hi : Pl) (n : Nat) : Nat := max (frm E lo) (min (hi.val E) (n : Int)).toNat
theorem frm_eq (z : Int) : (if (0 : Int) > z then (0 : Int) else z) = ((z.toNat : Nat) : Int) := by
  split <;> omega
theorem til_eq (a : Nat) (z : Int) (n : Nat) : (if (if (n : Int) < z then (n : Int) else z) > (a : Int) then (if (n : Int) < z then (n : Int) else z) else (a : Int)) = ((max a (min z (n : Int)).toNat : Nat) : Int) := by
  split <;> split <;> omega
theorem frm_le (E : Ev) (lo hi : Pl) (n : Nat) : frm E lo ≤ til E lo hi n := Nat.le_max_left _ _
theorem cutI_map (l : List Int) (a e : Nat) (h : a ≤ e) : cutV (l.map V.int) (some (a : Int)) (some (e : Int)) = (cutI l a e).map V.int := by
  rw [cutv_part _ _ _ h]
  unfold cutI
  rw [List.map_take, List.map_drop]
theorem cutI_len (l : List Int) (a e : Nat) : (cutI l a e).length ≤ l.length := by
  unfold cutI
  rw [List.length_take, List.length_drop]
  omega
theorem cutV_one (l : List V) : cutV l (some 1) none = l.drop 1 := cutv_from l 1
def srtI (l : List Int) : Bool := (List.range (l.length - 1)).all fun i => decide (l.getD i 0 ≤ l.getD (i + 1) 0)
def blwI (l m : List Int) : Bool := l.all fun a => m.all fun b => decide (a ≤ b)
def zipI (z : PySem.Str) (p : Int) (l m : List Int) : Bool := (List.range (min l.length m.length)).all fun i => cmpI z (l.getD i 0) (m.getD i 0 + p)
theorem getD_int {l : List Int} {i : Nat} (h : i < l.length) : (l.map V.int)[i]? = some (.int (l.getD i 0)) := by
  rw [List.getElem?_map, List.getD_eq_getElem?_getD, List.getElem?_eq_getElem h]
  rfl
theorem all_mapB (n : Nat) (f : Nat → Bool) : ((List.range n).map f).all id = (List.range n).all f := by
  rw [List.all_map]
  rfl
theorem bl_map (n : Nat) (f : Nat → Bool) : (List.range n).map (fun i => V.bl (f i)) = ((List.range n).map f).map V.bl := by
  rw [List.map_map]
  rfl
theorem all_getD (l : List Int) (f : Int → Bool) : (List.range l.length).all (fun i => f (l.getD i 0)) = l.all f := by
  rw [← all_mapB, range_map l f _ fun i x h => ?_, List.all_map]
  · rfl
  · rw [List.getD_eq_getElem?_getD, h]
    rfl
theorem blw_nilL (m : List Int) : blwI [] m = true := rfl
theorem blw_nilR (l : List Int) : blwI l [] = true := by
  unfold blwI
  rw [List.all_eq_true]
  exact fun _ _ => rfl
theorem blw_mm {l m : List Int} {a b : Int} (ha : a ∈ l) (ha2 : ∀ y, y ∈ l → y ≤ a) (hb : b ∈ m) (hb2 : ∀ y, y ∈ m → b ≤ y) : decide (a ≤ b) = blwI l m := by
  unfold blwI
  by_cases h : a ≤ b
  · rw [decide_eq_true h]
    refine (List.all_eq_true.mpr fun x hx => List.all_eq_true.mpr fun y hy => decide_eq_true ?_).symm
    have h1 := ha2 x hx
    have h2 := hb2 y hy
    omega
  · rw [decide_eq_false h]
    refine (Bool.eq_false_iff.mpr fun e => h ?_).symm
    exact of_decide_eq_true (List.all_eq_true.mp (List.all_eq_true.mp e a ha) b hb)
section
variable {P : Program} {w : World} {K : PySem.W.Frag} {mg : PySem.Str → Option Value} {base : Heap} {C : Addr}
def spPlaces (K : PySem.W.Frag) (C : Addr) : Sp := fun vs H Q _ => ∃ (v1 v2 : V) (a p : Addr) (lo hi : Pl) (xs : List V) (E : Ev) (nn ln : List PySem.Str), vs = [v1, v2, .ref a, .ref p] ∧ Dp K H v1 lo.enc ∧ Dp K H v2 hi.enc ∧ SqL K H a xs ∧ StAt C H p E nn ln ∧ lo.ok nn ln ∧ hi.ok nn ln ∧ ∀ t H', Same H H' → H' t = some (.tup [.int (frm E lo : Nat), .int (til E lo hi xs.length : Nat)]) → Q (.ref t) H'
theorem ok_places (T : TxS K mg C) (D_places : Df K mg "_places" s_places ["lo", "hi", "cells", "state"]) (D_value_of : Df K mg "value_of" s_value_of ["term", "state"]) (G_value_of : FnOk P w K mg base CX0 3 D_value_of.f D_value_of.fd ["term", "state"] (spVal K C)) : FnOk P w K mg base CX0 4 D_places.f D_places.fd ["lo", "hi", "cells", "state"] (spPlaces K C) := by
  refine D_places.F.ok sc_places (fun vs H Q E h => ?_) (fun cdv A outer s H vs Q E hr h => ?_)
  · obtain ⟨v1, v2, a, p, lo, hi, xs, E, nn, ln, rfl, _⟩ := h
    rfl
  · obtain ⟨v1, v2, a, p, lo, hi, xs, E, nn, ln, rfl, h1, h2, ha, st, o1, o2, q⟩ := h
    refine ⟨_, (pss_cons (ps_set (i := 4) sc_places.nd rfl (.inl rfl) (pe_callB (call_max2 rfl) (by rfl) T.n_max (by decide +kernel) (pa_cons (pe_call G_value_of (hr.mono (by decide)) (by rfl) D_value_of.g D_value_of.F.kp D_value_of.b .nil pass0 (pa_cons (pv 0) (pa_cons (pv 3) pa_nil))) (pa_cons pe_int pa_nil))))
    (pss_one (ps_ret (pe_tup (pa_cons (pv 4) (pa_cons (pe_callB (call_max2 rfl) (by rfl) T.n_max (by decide +kernel) (pa_cons (pv 4) (pa_cons (pe_callB (call_min2 rfl) (by rfl) T.n_min (by decide +kernel) (pa_cons (pe_call G_value_of (hr.mono (by decide)) (by rfl) D_value_of.g D_value_of.F.kp D_value_of.b .nil pass0 (pa_cons (pv 1) (pa_cons (pv 3) pa_nil))) (pa_cons (pe_callB call_len_seq (by rfl) T.n_len PySem.boot_len (pa_cons (pv 2) pa_nil)) pa_nil))) pa_nil))) pa_nil)))))), ?_⟩
    refine ⟨_, rfl, _, rfl, v1, p, .pl lo, E, nn, ln, rfl, h1, st, o1, lo.val E, 0, rfl, ?_⟩
    rw [frm_eq]
    refine ⟨_, rfl, _, rfl, _, rfl, _, rfl, v2, p, .pl hi, E, nn, ln, rfl, h2, st, o2, _, rfl, a, xs, rfl, .inl ha, hi.val E, xs.length, rfl, _, _, rfl, by show (2 : Nat) ≤ sizeLine; decide, fun t nt => ?_⟩
    have e : (upd H t (.tup [.int ((lo.val E).toNat : Nat), .int (if (if ((xs.length : Nat) : Int) < hi.val E then ((xs.length : Nat) : Int) else hi.val E) > (((lo.val E).toNat : Nat) : Int) then (if ((xs.length : Nat) : Int) < hi.val E then ((xs.length : Nat) : Int) else hi.val E) else (((lo.val E).toNat : Nat) : Int))])) t = some (.tup [.int (frm E lo : Nat), .int (til E lo hi xs.length : Nat)]) := by
      rw [upd_same, til_eq]
      rfl
    exact q t _ (same_new nt) e
def pSt (x : PySem.Str) (b : Bool) (lo hi : Pl) : PyData := .tuple [pWh x b, lo.enc, hi.enc]
def stI (E : Ev) (x : PySem.Str) (b : Bool) (lo hi : Pl) : List Int := cutI (E.lst b x) (frm E lo) (til E lo hi (E.lst b x).length)
def spStretch (K : PySem.W.Frag) (C : Addr) : Sp := fun vs H Q _ => ∃ (v : V) (p : Addr) (x : PySem.Str) (b : Bool) (lo hi : Pl) (E : Ev) (nn ln : List PySem.Str), vs = [v, .ref p] ∧ Dp K H v (pSt x b lo hi) ∧ StAt C H p E nn ln ∧ x ∈ ln ∧ lo.ok nn ln ∧ hi.ok nn ln ∧ ∀ a H', Same H H' → H' a = some (.lst ((stI E x b lo hi).map V.int)) → Q (.ref a) H'
theorem ok_stretch_of (T : TxS K mg C) (D_stretch_of : Df K mg "_stretch_of" s_stretch_of ["stretch", "state"]) (D_cells_of : Df K mg "_cells_of" s_cells_of ["which", "state"]) (D_places : Df K mg "_places" s_places ["lo", "hi", "cells", "state"]) (G_cells_of : FnOk P w K mg base CX0 1 D_cells_of.f D_cells_of.fd ["which", "state"] (spCells K C)) (G_places : FnOk P w K mg base CX0 4 D_places.f D_places.fd ["lo", "hi", "cells", "state"] (spPlaces K C)) : FnOk P w K mg base CX0 5 D_stretch_of.f D_stretch_of.fd ["stretch", "state"] (spStretch K C) := by
  refine D_stretch_of.F.ok sc_stretch_of (fun vs H Q E h => ?_) (fun cdv A outer s H vs Q E hr h => ?_)
  · obtain ⟨v, p, x, b, lo, hi, E, nn, ln, rfl, _⟩ := h
    rfl
  · obtain ⟨v, p, x, b, lo, hi, E, nn, ln, rfl, hv, st, hx, o1, o2, q⟩ := h
    refine ⟨_, (pss_cons (ps_asg (pv 0) (pg_tup (by rfl) (pgs_cons (pg_name (i := 2) sc_stretch_of.nd rfl (.inl rfl)) (pgs_cons (pg_name (i := 3) sc_stretch_of.nd rfl (.inl rfl)) (pgs_cons (pg_name (i := 4) sc_stretch_of.nd rfl (.inl rfl)) pgs_nil)))))
    (pss_cons (ps_set (i := 5) sc_stretch_of.nd rfl (.inl rfl) (pe_call G_cells_of (hr.mono (by decide)) (by rfl) D_cells_of.g D_cells_of.F.kp D_cells_of.b .nil pass0 (pa_cons (pv 2) (pa_cons (pv 1) pa_nil))))
    (pss_cons (ps_asg (pe_call G_places (hr.mono (by decide)) (by rfl) D_places.g D_places.F.kp D_places.b .nil pass0 (pa_cons (pv 3) (pa_cons (pv 4) (pa_cons (pv 5) (pa_cons (pv 1) pa_nil))))) (pg_tup (by rfl) (pgs_cons (pg_name (i := 6) sc_stretch_of.nd rfl (.inl rfl)) (pgs_cons (pg_name (i := 7) sc_stretch_of.nd rfl (.inl rfl)) pgs_nil))))
    (pss_one (ps_ret (pe_slice sl_list (pv 5) (po_some (pv 6)) (po_some (pv 7)))))))), ?_⟩
    obtain ⟨t, v1, v2, v3, rfl, ht, h1, h2, h3⟩ := dp_inv3 hv
    refine ⟨_, rfl, t, _, rfl, ht, rfl, _, _, rfl, _, _, rfl, _, _, rfl, rfl, ?_⟩
    refine ⟨_, rfl, _, rfl, v1, p, x, b, E, nn, ln, rfl, h1, st, hx, fun a ea => ?_⟩
    refine ⟨_, rfl, _, rfl, _, rfl, _, rfl, v2, v3, a, p, lo, hi, _, E, nn, ln, rfl, h2, h3, SqL.of ea, st, o1, o2, fun t2 H2 s2 e2 => ?_⟩
    rw [List.length_map] at e2
    refine ⟨t2, _, rfl, SqT.of e2, rfl, _, _, rfl, _, _, rfl, rfl, ?_⟩
    refine ⟨_, rfl, _, rfl, _, rfl, _, rfl, _, rfl, a, _, rfl, SqL.of (s2 _ _ ea), fun p3 n3 => ?_⟩
    have e3 : (upd H2 p3 (.lst (cutV ((E.lst b x).map V.int) (some (frm E lo : Nat)) (some (til E lo hi (E.lst b x).length : Nat))))) p3 = some (.lst ((stI E x b lo hi).map V.int)) := by
      rw [upd_same, cutI_map _ _ _ (frm_le _ _ _ _)]
      rfl
    exact q p3 _ (s2.trans (same_new n3)) e3
def spSorted (K : PySem.W.Frag) : Sp := fun vs H Q _ => ∃ (a : Addr) (l : List Int), vs = [.ref a] ∧ H a = some (.lst (l.map V.int)) ∧ l.length ≤ 100 ∧ ∀ H', Same H H' → Q (.bl (srtI l)) H'
theorem ok_is_sorted (T : TxS K mg C) (D_is_sorted : Df K mg "_is_sorted" s_is_sorted ["cells"]) : FnOk P w K mg base CX0 1 D_is_sorted.f D_is_sorted.fd ["cells"] (spSorted K) := by
  refine D_is_sorted.F.ok sc_is_sorted (fun vs H Q E h => ?_) (fun cdv A outer s H vs Q E hr h => ?_)
  · obtain ⟨a, l, rfl, _⟩ := h
    rfl
  · obtain ⟨a, l, rfl, ha, hl, q⟩ := h
    refine ⟨_, (pss_one (ps_ret (pe_callB (cr_all rfl) (by rfl) T.n_all (by decide +kernel) (pa_cons (pe_lc (own := [("left", 1), ("right", 2)]) (g := gTup K 2 (gCons (gName 1) (gCons (gName 2) gNil))) (by rfl) sc_is_sorted.nd (pi_zip (by rfl) T.n_zip (pa_cons (pv 0) (pa_cons (pe_slice sl_list (pv 0) (po_some pe_int) po_none) pa_nil))) (blkOk_by (own := [("left", 1), ("right", 2)]) (N := ["cells", "left", "right"]) (sc := defScope s_is_sorted) (by decide +kernel)) (fun _ _ _ _ _ => pg_tup rfl (pgs_cons (pg_name (i := 1) sc_is_sorted.nd rfl (Or.inl rfl)) (pgs_cons (pg_name (i := 2) sc_is_sorted.nd rfl (Or.inl rfl)) pgs_nil))) (fun _ _ _ _ _ => pts_nil) (fun _ _ _ _ _ => (pe_cmpR op_le (pv 1) (pv 2) (nomark _)))) pa_nil)))), ?_⟩
    refine ⟨_, rfl, _, rfl, 1, rfl, a, _, rfl, SqL.of ha, fun p np => ?_⟩
    rw [cutV_one]
    generalize hg : upd H p _ = H1
    obtain ⟨s1, e1⟩ := new_of np hg
    refine ⟨a, p, _, _, rfl, SqL.of (s1 _ _ ha), SqL.of e1, fun D hD => ?_⟩
    have hlen : l.length - 1 = min (l.map V.int).length ((l.map V.int).drop 1).length := by
      rw [List.length_drop, List.length_map]
      omega
    refine lc_vals (walk_zip (K := K) (a := a) (b := p) (xs := l.map V.int) (ys := (l.map V.int).drop 1) hlen) hD (fun i => .bl (decide (l.getD i 0 ≤ l.getD (i + 1) 0))) (by omega) (fun H s => ⟨SqL.of (s _ _ (s1 _ _ ha)), SqL.of (s _ _ e1)⟩) (fun i x H2 H3 Q' hi s2 y q' => ?_) (fun H2 s2 e2 => ?_)
    · obtain ⟨t, x1, x2, rfl, nt, rfl, g1, g2⟩ := y
      dsimp only at g1 g2
      rw [getD_int (by omega)] at g1
      rw [List.getElem?_drop, Nat.add_comm, getD_int (by omega)] at g2
      cases g1
      cases g2
      refine ⟨t, _, rfl, SqT.of upd_same, rfl, _, _, rfl, _, _, rfl, rfl, rfl, _, rfl, _, rfl, _, _, rfl, rfl, q' _ (same_new nt)⟩
    · rw [bl_map] at e2
      refine ⟨D, _, rfl, SqL.of e2, ?_⟩
      rw [all_mapB]
      exact q _ (s1.trans s2)
def spBelow (K : PySem.W.Frag) : Sp := fun vs H Q _ => ∃ (a b : Addr) (l m : List Int), vs = [.ref a, .ref b] ∧ H a = some (.lst (l.map V.int)) ∧ H b = some (.lst (m.map V.int)) ∧ Q (.bl (blwI l m)) H
theorem ok_is_below (T : TxS K mg C) (D_is_below : Df K mg "_is_below" s_is_below ["cells", "others"]) : FnOk P w K mg base CX0 1 D_is_below.f D_is_below.fd ["cells", "others"] (spBelow K) := by
  refine D_is_below.F.ok sc_is_below (fun vs H Q E h => ?_) (fun cdv A outer s H vs Q E hr h => ?_)
  · obtain ⟨a, b, l, m, rfl, _⟩ := h
    rfl
  · obtain ⟨a, b, l, m, rfl, ha, hb, q⟩ := h
    refine ⟨_, (pss_one (ps_ret (pe_or (pe_notT (pv 0)) (pe_or (pe_notT (pv 1)) (pe_one (pe_cmpR op_le (pe_callB (cr_max rfl) (by rfl) T.n_max (by decide +kernel) (pa_cons (pv 0) pa_nil)) (pe_callB (cr_min rfl) (by rfl) T.n_min (by decide +kernel) (pa_cons (pv 1) pa_nil)) (nomark _))))))), ?_⟩
    refine ⟨_, rfl, _, .inl ⟨_, SqL.of ha, rfl⟩, _, rfl, ?_⟩
    cases l with
    | nil => exact iteT q
    | cons x0 l =>
      refine iteF ?_
      refine ⟨_, rfl, _, .inl ⟨_, SqL.of hb, rfl⟩, _, rfl, ?_⟩
      cases m with
      | nil =>
        rw [blw_nilR] at q
        exact iteT q
      | cons y0 m =>
        refine iteF ?_
        refine ⟨_, rfl, a, _, rfl, SqL.of ha, by simp, fun g g1 g2 => ⟨_, rfl, b, _, rfl, SqL.of hb, by simp, fun k k1 k2 => ⟨_, _, rfl, rfl, ?_⟩⟩⟩
        rw [← blw_mm g1 g2 k1 k2] at q
        exact q
end
end SW

namespace SW
open PySem PySem.Spec PyProof.Rows L2
abbrev s_truth_of : Stmt := topS 4
theorem sc_truth_of : FnScope ["promise", "state", "kind", "part"] ["promise", "state"] (defScope s_truth_of) := ⟨rfl, rfl, rfl, by decide +kernel, rfl, by decide +kernel, by decide +kernel⟩

/-! ### promises and conditions -/
inductive Pr where
  | cmp (c : Cm)
  | either (a b : Cm)
  | all (x : PySem.Str) (b : Bool) (lo hi : Pl) (z : PySem.Str) (r : Pl)
  | mtch (x : PySem.Str) (b : Bool) (lo hi : Pl) (z : PySem.Str) (y : PySem.Str) (d : Bool) (p : Int)
  | srt (x : PySem.Str) (b : Bool) (lo hi : Pl)
  | blw (x : PySem.Str) (b : Bool) (lo hi : Pl) (y : PySem.Str) (d : Bool) (lo2 hi2 : Pl)
def Pr.enc : Pr → PyData
  | .cmp c => c.enc
  | .either a b => .tuple [.str "either", a.enc, b.enc]
  | .all x b lo hi z r => .tuple [.str "all", pWh x b, lo.enc, hi.enc, .str z, r.enc]
  | .mtch x b lo hi z y d p => .tuple [.str "match", pWh x b, lo.enc, hi.enc, .str z, pWh y d, .int p]
  | .srt x b lo hi => .tuple [.str "sorted", pWh x b, lo.enc, hi.enc]
  | .blw x b lo hi y d lo2 hi2 => .tuple [.str "below", pWh x b, lo.enc, hi.enc, pWh y d, lo2.enc, hi2.enc]
def Pr.ok (nn ln : List PySem.Str) : Pr → Prop
  | .cmp c => c.ok nn ln
  | .either a b => a.ok nn ln ∧ b.ok nn ln
  | .all x _ lo hi z r => x ∈ ln ∧ lo.ok nn ln ∧ hi.ok nn ln ∧ z ∈ sgs ∧ r.ok nn ln
  | .mtch x _ lo hi z y _ _ => x ∈ ln ∧ lo.ok nn ln ∧ hi.ok nn ln ∧ z ∈ sgs ∧ y ∈ ln
  | .srt x _ lo hi => x ∈ ln ∧ lo.ok nn ln ∧ hi.ok nn ln
  | .blw x _ lo hi y _ lo2 hi2 => x ∈ ln ∧ lo.ok nn ln ∧ hi.ok nn ln ∧ y ∈ ln ∧ lo2.ok nn ln ∧ hi2.ok nn ln
/-- the other list of a match -/
def mtI (E : Ev) (x : PySem.Str) (b : Bool) (lo hi : Pl) (y : PySem.Str) (d : Bool) : List Int := cutI (E.lst d y) (frm E lo) (til E lo hi (E.lst b x).length)
def Pr.tr (E : Ev) : Pr → Bool
  | .cmp c => c.tr E
  | .either a b => a.tr E || b.tr E
  | .all x b lo hi z r => (stI E x b lo hi).all fun v => cmpI z v (r.val E)
  | .mtch x b lo hi z y d p => zipI z p (stI E x b lo hi) (mtI E x b lo hi y d)
  | .srt x b lo hi => srtI (stI E x b lo hi)
  | .blw x b lo hi y d lo2 hi2 => blwI (stI E x b lo hi) (stI E y d lo2 hi2)
def Pr.isA : Pr → Bool
  | .all .. => true
  | .mtch .. => true
  | _ => false
theorem dp_inv6 {K : PySem.W.Frag} {H : Hp} {v : V} {d1 d2 d3 d4 d5 d6 : PyData} (h : Dp K H v (.tuple [d1, d2, d3, d4, d5, d6])) : ∃ a v1 v2 v3 v4 v5 v6, v = .ref a ∧ SqT K H a [v1, v2, v3, v4, v5, v6] ∧ Dp K H v1 d1 ∧ Dp K H v2 d2 ∧ Dp K H v3 d3 ∧ Dp K H v4 d4 ∧ Dp K H v5 d5 ∧ Dp K H v6 d6 := by
  obtain ⟨a, xs, e, hs, ha⟩ := dp_tup_inv h
  cases ha with
  | cons h1 ha =>
    cases ha with
    | cons h2 ha =>
      cases ha with
      | cons h3 ha =>
        cases ha with
        | cons h4 ha =>
          cases ha with
          | cons h5 ha =>
            cases ha with
            | cons h6 ha =>
              cases ha
              exact ⟨a, _, _, _, _, _, _, e, hs, h1, h2, h3, h4, h5, h6⟩
theorem dp_inv7 {K : PySem.W.Frag} {H : Hp} {v : V} {d1 d2 d3 d4 d5 d6 d7 : PyData} (h : Dp K H v (.tuple [d1, d2, d3, d4, d5, d6, d7])) : ∃ a v1 v2 v3 v4 v5 v6 v7, v = .ref a ∧ SqT K H a [v1, v2, v3, v4, v5, v6, v7] ∧ Dp K H v1 d1 ∧ Dp K H v2 d2 ∧ Dp K H v3 d3 ∧ Dp K H v4 d4 ∧ Dp K H v5 d5 ∧ Dp K H v6 d6 ∧ Dp K H v7 d7 := by
  obtain ⟨a, xs, e, hs, ha⟩ := dp_tup_inv h
  cases ha with
  | cons h1 ha =>
    cases ha with
    | cons h2 ha =>
      cases ha with
      | cons h3 ha =>
        cases ha with
        | cons h4 ha =>
          cases ha with
          | cons h5 ha =>
            cases ha with
            | cons h6 ha =>
              cases ha with
              | cons h7 ha =>
                cases ha
                exact ⟨a, _, _, _, _, _, _, _, e, hs, h1, h2, h3, h4, h5, h6, h7⟩
section
variable {P : Program} {w : World} {K : PySem.W.Frag} {mg : PySem.Str → Option Value} {base : Heap} {C : Addr}
/-- the two parts of _all_hold, which have the words and the list's place in common -/
def spAllHold (K : PySem.W.Frag) (C : Addr) : Sp := fun vs H Q _ => ∃ (v : V) (p : Addr) (c : Pr) (E : Ev) (nn ln : List PySem.Str), vs = [v, .ref p] ∧ Dp K H v c.enc ∧ StAt C H p E nn ln ∧ c.ok nn ln ∧ c.isA = true ∧ ∀ H', Same H H' → Q (.bl (c.tr E)) H'
theorem ok_all_hold (T : TxS K mg C) (D_all_hold : Df K mg "_all_hold" s_all_hold ["promise", "state"]) (D_cells_of : Df K mg "_cells_of" s_cells_of ["which", "state"]) (D_places : Df K mg "_places" s_places ["lo", "hi", "cells", "state"]) (D_value_of : Df K mg "value_of" s_value_of ["term", "state"]) (D_compares : Df K mg "compares" s_compares ["sign", "left", "right"]) (G_cells_of : FnOk P w K mg base CX0 1 D_cells_of.f D_cells_of.fd ["which", "state"] (spCells K C)) (G_places : FnOk P w K mg base CX0 4 D_places.f D_places.fd ["lo", "hi", "cells", "state"] (spPlaces K C)) (G_value_of : FnOk P w K mg base CX0 3 D_value_of.f D_value_of.fd ["term", "state"] (spVal K C)) (G_compares : FnOk P w K mg base CX0 1 D_compares.f D_compares.fd ["sign", "left", "right"] spCompares) : FnOk P w K mg base CX0 5 D_all_hold.f D_all_hold.fd ["promise", "state"] (spAllHold K C) := by
  refine D_all_hold.F.ok sc_all_hold (fun vs H Q E h => ?_) (fun cdv A outer s H vs Q E hr h => ?_)
  · obtain ⟨v, p, c, E, nn, ln, rfl, _⟩ := h
    rfl
  · obtain ⟨v, p, c, E, nn, ln, rfl, hv, st, ok, isA, q⟩ := h
    refine ⟨_, (Evl.pss_cut (ps_asg (pe_slice sl_tupA (pv 0) po_none (po_some pe_int)) (pg_tup (by rfl) (pgs_cons (pg_name (i := 2) sc_all_hold.nd rfl (.inl rfl)) (pgs_cons (pg_name (i := 3) sc_all_hold.nd rfl (.inl rfl)) (pgs_cons (pg_name (i := 4) sc_all_hold.nd rfl (.inl rfl)) (pgs_cons (pg_name (i := 5) sc_all_hold.nd rfl (.inl rfl)) (pgs_cons (pg_name (i := 6) sc_all_hold.nd rfl (.inr rfl)) (pgs_cons (pg_name (i := 7) sc_all_hold.nd rfl (.inl rfl)) pgs_nil))))))))
    (pss_cons (ps_set (i := 8) sc_all_hold.nd rfl (.inl rfl) (pe_call G_cells_of (hr.mono (by decide)) (by rfl) D_cells_of.g D_cells_of.F.kp D_cells_of.b .nil pass0 (pa_cons (pv 3) (pa_cons (pv 1) pa_nil))))
    (pss_cons (ps_asg (pe_call G_places (hr.mono (by decide)) (by rfl) D_places.g D_places.F.kp D_places.b .nil pass0 (pa_cons (pv 4) (pa_cons (pv 5) (pa_cons (pv 8) (pa_cons (pv 1) pa_nil))))) (pg_tup (by rfl) (pgs_cons (pg_name (i := 9) sc_all_hold.nd rfl (.inl rfl)) (pgs_cons (pg_name (i := 10) sc_all_hold.nd rfl (.inl rfl)) pgs_nil))))
    (pss_cons (ps_if (pt_cmpR op_eq (pe_ix ix_tup (pv 0) pe_int (fun _ _ => rfl)) pe_str (nomark _))
    (pss_cons (ps_setLc (i := 11) (own := [("other", 12)]) (g := gName 12) (by rfl) sc_all_hold.nd rfl rfl (sw_true rfl rfl rfl (by decide +kernel)) (pi_list (pe_slice sl_list (pe_call G_cells_of (hr.mono (by decide)) (by rfl) D_cells_of.g D_cells_of.F.kp D_cells_of.b .nil pass0 (pa_cons (pv 7) (pa_cons (pv 1) pa_nil))) (po_some (pv 9)) (po_some (pv 10)))) (blkOk_by (own := [("other", 12)]) (N := ["promise", "state", "_", "which", "lo", "hi", "sign", "right", "cells", "first", "end", "others", "other", "left", "worth"]) (sc := defScope s_all_hold) (by decide +kernel)) (fun _ _ _ _ _ => pg_name (i := 12) sc_all_hold.nd rfl (Or.inl rfl)) (fun _ _ _ _ _ => pts_nil) (fun _ _ _ _ _ => (pe_op op_add (pv 12) (pe_ix (show IxR _ (rIxT K) from ix_tup) (pv 0) pe_int (fun _ _ => rfl)))))
    (pss_one (ps_ret (pe_callB (cr_all rfl) (by rfl) T.n_all (by decide +kernel) (pa_cons (pe_lc (own := [("left", 13), ("other", 12)]) (g := gTup K 2 (gCons (gName 13) (gCons (gName 12) gNil))) (by rfl) sc_all_hold.nd (pi_zip (by rfl) T.n_zip (pa_cons (pe_slice sl_list (pv 8) (po_some (pv 9)) (po_some (pv 10))) (pa_cons (pv 11) pa_nil))) (blkOk_by (own := [("left", 13), ("other", 12)]) (N := ["promise", "state", "_", "which", "lo", "hi", "sign", "right", "cells", "first", "end", "others", "other", "left", "worth"]) (sc := defScope s_all_hold) (by decide +kernel)) (fun _ _ _ _ _ => pg_tup rfl (pgs_cons (pg_name (i := 13) sc_all_hold.nd rfl (Or.inl rfl)) (pgs_cons (pg_name (i := 12) sc_all_hold.nd rfl (Or.inl rfl)) pgs_nil))) (fun _ _ _ _ _ => pts_nil) (fun _ _ _ _ _ => (pe_call G_compares (hr.mono (by decide)) (by rfl) D_compares.g D_compares.F.kp D_compares.b .nil pass0 (pa_cons (pv 6) (pa_cons (pv 13) (pa_cons (pv 12) pa_nil)))))) pa_nil)))))
    pss_nil)
    (pss_cons (ps_set (i := 14) sc_all_hold.nd rfl (.inr rfl) (pe_call G_value_of (hr.mono (by decide)) (by rfl) D_value_of.g D_value_of.F.kp D_value_of.b .nil pass0 (pa_cons (pv 7) (pa_cons (pv 1) pa_nil))))
    (pss_one (ps_ret (pe_callB (cr_all rfl) (by rfl) T.n_all (by decide +kernel) (pa_cons (pe_lc (own := [("left", 13)]) (g := gName 13) (by rfl) sc_all_hold.nd (pi_list (pe_slice sl_list (pv 8) (po_some (pv 9)) (po_some (pv 10)))) (blkOk_by (own := [("left", 13)]) (N := ["promise", "state", "_", "which", "lo", "hi", "sign", "right", "cells", "first", "end", "others", "other", "left", "worth"]) (sc := defScope s_all_hold) (by decide +kernel)) (fun _ _ _ _ _ => pg_name (i := 13) sc_all_hold.nd rfl (Or.inl rfl)) (fun _ _ _ _ _ => pts_nil) (fun _ _ _ _ _ => (pe_call G_compares (hr.mono (by decide)) (by rfl) D_compares.g D_compares.F.kp D_compares.b .nil pass0 (pa_cons (pv 6) (pa_cons (pv 13) (pa_cons (pv 14) pa_nil)))))) pa_nil))))))))), ?_⟩
    cases c with
    | cmp c => cases isA
    | either a b => cases isA
    | srt x b lo hi => cases isA
    | blw x b lo hi y d lo2 hi2 => cases isA
    | all x b lo hi z r =>
      obtain ⟨t, v1, v2, v3, v4, v5, v6, rfl, ht, h1, h2, h3, h4, h5, h6⟩ := dp_inv6 hv
      obtain ⟨o1, o2, o3, o4, o5⟩ := ok
      cases dp_str_inv h1
      cases dp_str_inv h5
      refine ⟨fun σ' H' => σ' = [some (.ref t), some (.ref p), some (.str "all"), some v2, some v3, some v4, some (.str z), some v6, none, none, none, none, none, none, none] ∧ Same H H', ?_, ?_⟩
      · refine ⟨_, rfl, 6, rfl, t, _, rfl, ht, fun _ => ⟨t, _, rfl, ht, rfl, _, _, rfl, _, _, rfl, _, _, rfl, _, _, rfl, _, _, rfl, _, _, rfl, rfl, rfl, Same.refl H⟩, fun hno => absurd ⟨rfl, rfl⟩ hno⟩
      intro σ' H1 hN
      obtain ⟨rfl, s1⟩ := hN
      have st1 := st.same s1
      refine ⟨_, rfl, _, rfl, v2, p, x, b, E, nn, ln, rfl, h2.same s1, st1, o1, fun a ea => ?_⟩
      refine ⟨_, rfl, _, rfl, _, rfl, _, rfl, v3, v4, a, p, lo, hi, _, E, nn, ln, rfl, h3.same s1, h4.same s1, SqL.of ea, st1, o2, o3, fun t2 H2 s2 e2 => ?_⟩
      rw [List.length_map] at e2
      have S2 := s1.trans s2
      refine ⟨t2, _, rfl, SqT.of e2, rfl, _, _, rfl, _, _, rfl, rfl, ?_⟩
      refine ⟨_, rfl, t, _, _, _, rfl, rfl, sqt_same S2 ht, atI_nat (j := 0) rfl, rfl, _, rfl, iteF ?_⟩
      refine ⟨_, rfl, _, rfl, v6, p, .pl r, E, nn, ln, rfl, h6.same S2, st.same S2, o5, ?_⟩
      refine ⟨_, rfl, _, rfl, _, rfl, _, rfl, _, rfl, a, _, rfl, SqL.of (s2 _ _ ea), fun p3 n3 => ?_⟩
      rw [cutI_map _ _ _ (frm_le _ _ _ _)]
      generalize hg : upd H2 p3 _ = H3
      obtain ⟨s3, e3⟩ := new_of n3 hg
      refine ⟨p3, rfl, ⟨_, SqL.of e3⟩, fun D hD => ?_⟩
      refine lc_vals (walk_list (K := K) (a := p3) (xs := (stI E x b lo hi).map V.int)) hD (fun i => .bl (cmpI z ((stI E x b lo hi).getD i 0) (r.val E))) ?_ (fun H s => SqL.of (s _ _ e3)) (fun i x4 H4 H5 Q' hi4 s4 y q' => ?_) (fun H4 s4 e4 => ?_)
      · rw [List.length_map]
        have := cutI_len (E.lst b x) (frm E lo) (til E lo hi (E.lst b x).length)
        have := st.sz b x o1
        show (cutI _ _ _).length ≤ _
        omega
      · obtain ⟨rfl, g1⟩ := y
        rw [getD_int (by rw [List.length_map] at hi4; exact hi4)] at g1
        cases g1
        exact ⟨rfl, _, rfl, _, rfl, _, rfl, z, _, _, rfl, q' _ (Same.refl _)⟩
      · rw [bl_map, List.length_map] at e4
        refine ⟨D, _, rfl, SqL.of e4, ?_⟩
        rw [all_mapB, all_getD (stI E x b lo hi) fun v => cmpI z v (r.val E)]
        exact q _ ((S2.trans s3).trans s4)
    | mtch x b lo hi z y d pp =>
      obtain ⟨t, v1, v2, v3, v4, v5, v6, v7, rfl, ht, h1, h2, h3, h4, h5, h6, h7⟩ := dp_inv7 hv
      obtain ⟨o1, o2, o3, o4, o5⟩ := ok
      cases dp_str_inv h1
      cases dp_str_inv h5
      cases dp_int_inv h7
      refine ⟨fun σ' H' => σ' = [some (.ref t), some (.ref p), some (.str "match"), some v2, some v3, some v4, some (.str z), some v6, none, none, none, none, none, none, none] ∧ Same H H', ?_, ?_⟩
      · refine ⟨_, rfl, 6, rfl, t, _, rfl, ht, fun hw => absurd hw.2 (by show ¬ HT.sIx 7 7 (some 6) = 7; decide), fun _ p0 n0 => ⟨p0, _, rfl, SqT.of upd_same, rfl, _, _, rfl, _, _, rfl, _, _, rfl, _, _, rfl, _, _, rfl, _, _, rfl, rfl, rfl, same_new n0⟩⟩
      intro σ' H1 hN
      obtain ⟨rfl, s1⟩ := hN
      have st1 := st.same s1
      refine ⟨_, rfl, _, rfl, v2, p, x, b, E, nn, ln, rfl, h2.same s1, st1, o1, fun a ea => ?_⟩
      refine ⟨_, rfl, _, rfl, _, rfl, _, rfl, v3, v4, a, p, lo, hi, _, E, nn, ln, rfl, h3.same s1, h4.same s1, SqL.of ea, st1, o2, o3, fun t2 H2 s2 e2 => ?_⟩
      rw [List.length_map] at e2
      have S2 := s1.trans s2
      refine ⟨t2, _, rfl, SqT.of e2, rfl, _, _, rfl, _, _, rfl, rfl, ?_⟩
      refine ⟨_, rfl, t, _, _, _, rfl, rfl, sqt_same S2 ht, atI_nat (j := 0) rfl, rfl, _, rfl, iteT ?_⟩
      refine ⟨_, rfl, _, rfl, v6, p, y, d, E, nn, ln, rfl, h6.same S2, st.same S2, o5, fun b2 eb => ?_⟩
      refine ⟨_, rfl, _, rfl, _, rfl, _, rfl, b2, _, rfl, SqL.of eb, fun p3 n3 => ?_⟩
      rw [cutI_map _ _ _ (frm_le _ _ _ _)]
      generalize hg : upd H2 p3 _ = H3
      obtain ⟨s3, e3⟩ := new_of n3 hg
      have S3 := S2.trans s3
      refine ⟨p3, rfl, ⟨_, SqL.of e3⟩, fun D hD => ?_⟩
      have sz1 : (stI E x b lo hi).length ≤ 100 := Nat.le_trans (cutI_len _ _ _) (st.sz b x o1)
      have sz2 : (mtI E x b lo hi y d).length ≤ 100 := Nat.le_trans (cutI_len _ _ _) (st.sz d y o5)
      refine lc_vals (walk_list (K := K) (a := p3) (xs := (mtI E x b lo hi y d).map V.int)) hD (fun i => .int ((mtI E x b lo hi y d).getD i 0 + pp)) ?_ (fun H s => SqL.of (s _ _ e3)) (fun i x4 H4 H5 Q' hi4 s4 y4 q' => ?_) (fun H4 s4 e4 => ?_)
      · rw [List.length_map]
        omega
      · obtain ⟨rfl, g1⟩ := y4
        rw [getD_int (by rw [List.length_map] at hi4; exact hi4)] at g1
        cases g1
        exact ⟨rfl, _, rfl, _, rfl, t, _, _, _, rfl, rfl, sqt_same (S3.trans s4) ht, atI_nat (j := 6) rfl, _, _, rfl, rfl, q' _ (Same.refl _)⟩
      rw [List.length_map] at e4
      have S4 := S3.trans s4
      refine ⟨_, rfl, _, rfl, _, rfl, _, rfl, _, rfl, a, _, rfl, SqL.of (s4 _ _ (s3 _ _ (s2 _ _ ea))), fun p5 n5 => ?_⟩
      rw [cutI_map _ _ _ (frm_le _ _ _ _)]
      generalize hg : upd H4 p5 _ = H5
      obtain ⟨s5, e5⟩ := new_of n5 hg
      refine ⟨_, rfl, p5, D, _, _, rfl, SqL.of e5, SqL.of (s5 _ _ e4), fun D2 hD2 => ?_⟩
      have hlen : min (stI E x b lo hi).length (mtI E x b lo hi y d).length = min ((stI E x b lo hi).map V.int).length ((List.range (mtI E x b lo hi y d).length).map fun i => V.int ((mtI E x b lo hi y d).getD i 0 + pp)).length := by
        rw [List.length_map, List.length_map, List.length_range]
      refine lc_vals (walk_zip (K := K) (a := p5) (b := D) hlen) hD2 (fun i => .bl (cmpI z ((stI E x b lo hi).getD i 0) ((mtI E x b lo hi y d).getD i 0 + pp))) (by omega) (fun H s => ⟨SqL.of (s _ _ e5), SqL.of (s _ _ (s5 _ _ e4))⟩) (fun i x6 H6 H7 Q' hi6 s6 y6 q' => ?_) (fun H6 s6 e6 => ?_)
      · obtain ⟨t6, x1, x2, rfl, nt, rfl, g1, g2⟩ := y6
        dsimp only at g1 g2
        rw [getD_int (by omega)] at g1
        rw [List.getElem?_map, List.getElem?_range (by omega)] at g2
        cases g1
        cases g2
        exact ⟨t6, _, rfl, SqT.of upd_same, rfl, _, _, rfl, _, _, rfl, rfl, rfl, _, rfl, _, rfl, _, rfl, z, _, _, rfl, q' _ (same_new nt)⟩
      · rw [bl_map] at e6
        refine ⟨D2, _, rfl, SqL.of e6, ?_⟩
        rw [all_mapB]
        exact q _ ((S4.trans s5).trans s6)
end
end SW

namespace SW
open PySem PySem.Spec PyProof.Rows L2
inductive Cd where
  | pr (p : Pr)
  | not (c : Cd)
  | join (o : Bool) (cs : List Cd)
def kdOf (o : Bool) : PySem.Str := if o = true then "or" else "and"
mutual
def Cd.enc : Cd → PyData
  | .pr p => p.enc
  | .not c => .tuple [.str "not", c.enc]
  | .join o cs => .tuple [.str (kdOf o), .tuple (encs cs)]
def encs : List Cd → List PyData
  | [] => []
  | c :: r => c.enc :: encs r
end
mutual
def Cd.tr (E : Ev) : Cd → Bool
  | .pr p => p.tr E
  | .not c => !c.tr E
  | .join o cs => if o = true then (trs E cs).any id else (trs E cs).all id
def trs (E : Ev) : List Cd → List Bool
  | [] => []
  | c :: r => c.tr E :: trs E r
end
theorem encs_map (cs : List Cd) : encs cs = cs.map Cd.enc := by
  induction cs with
  | nil => rfl
  | cons c r ih =>
    show c.enc :: encs r = _
    rw [ih]
    rfl
theorem trs_map (E : Ev) (cs : List Cd) : trs E cs = cs.map (Cd.tr E) := by
  induction cs with
  | nil => rfl
  | cons c r ih =>
    show c.tr E :: trs E r = _
    rw [ih]
    rfl
def Pr.isE : Pr → Bool
  | .either _ _ => true
  | _ => false
def Cd.ok (nn ln : List PySem.Str) : Nat → Cd → Prop
  | 0, _ => False
  | n + 1, .pr p => p.ok nn ln ∧ (p.isE = true → n ≠ 0)
  | n + 1, .not c => Cd.ok nn ln n c
  | n + 1, .join _ cs => cs.length ≤ 100 ∧ ∀ c, c ∈ cs → Cd.ok nn ln n c
theorem trs_getD (E : Ev) (cs : List Cd) {i : Nat} {c : Cd} (h : cs[i]? = some c) : (trs E cs).getD i false = c.tr E := by
  rw [trs_map, List.getD_eq_getElem?_getD, List.getElem?_map, h]
  rfl
theorem trs_range (E : Ev) (cs : List Cd) : (List.range cs.length).map (fun i => (trs E cs).getD i false) = trs E cs := by
  rw [range_map cs (Cd.tr E) _ fun i c h => trs_getD E cs h, trs_map]
section
variable {P : Program} {w : World} {K : PySem.W.Frag} {mg : PySem.Str → Option Value} {base : Heap} {C : Addr}
def spTruth (K : PySem.W.Frag) (C : Addr) (n : Nat) : Sp := fun vs H Q _ => ∃ (v : V) (p : Addr) (c : Cd) (E : Ev) (nn ln : List PySem.Str), vs = [v, .ref p] ∧ Dp K H v c.enc ∧ StAt C H p E nn ln ∧ c.ok nn ln n ∧ ∀ H', Same H H' → Q (.bl (c.tr E)) H'
theorem ok_truth_of (T : TxS K mg C) (D_truth_of : Df K mg "truth_of" s_truth_of ["promise", "state"]) (D_comparison_holds : Df K mg "_comparison_holds" s_comparison_holds ["comparison", "state"]) (D_is_sorted : Df K mg "_is_sorted" s_is_sorted ["cells"]) (D_stretch_of : Df K mg "_stretch_of" s_stretch_of ["stretch", "state"]) (D_is_below : Df K mg "_is_below" s_is_below ["cells", "others"]) (D_all_hold : Df K mg "_all_hold" s_all_hold ["promise", "state"]) (G_comparison_holds : FnOk P w K mg base CX0 4 D_comparison_holds.f D_comparison_holds.fd ["comparison", "state"] (spHolds K C)) (G_is_sorted : FnOk P w K mg base CX0 1 D_is_sorted.f D_is_sorted.fd ["cells"] (spSorted K)) (G_stretch_of : FnOk P w K mg base CX0 5 D_stretch_of.f D_stretch_of.fd ["stretch", "state"] (spStretch K C)) (G_is_below : FnOk P w K mg base CX0 1 D_is_below.f D_is_below.fd ["cells", "others"] (spBelow K)) (G_all_hold : FnOk P w K mg base CX0 5 D_all_hold.f D_all_hold.fd ["promise", "state"] (spAllHold K C)) : ∀ n, FnOk P w K mg base CX0 (n + 6) D_truth_of.f D_truth_of.fd ["promise", "state"] (spTruth K C n)
  | 0 => fn_never.imp fun _ _ _ _ h => by
    obtain ⟨_, _, _, _, _, _, _, _, _, h, _⟩ := h
    exact h
  | n + 1 => by
    have G_truth_of := ok_truth_of T D_truth_of D_comparison_holds D_is_sorted D_stretch_of D_is_below D_all_hold G_comparison_holds G_is_sorted G_stretch_of G_is_below G_all_hold n
    refine D_truth_of.F.ok sc_truth_of (fun vs H Q E h => ?_) (fun cdv A outer s H vs Q E hr h => ?_)
    · obtain ⟨v, p, c, E, nn, ln, rfl, _⟩ := h
      rfl
    · obtain ⟨v, p, c, E, nn, ln, rfl, hv, st, ok, q⟩ := h
      refine ⟨_, (pss_cons (ps_set (i := 2) sc_truth_of.nd rfl (.inl rfl) (pe_ix ix_tup (pv 0) pe_int (fun _ _ => rfl)))
    (pss_cons (ps_if (pt_cmpR op_eq (pv 2) pe_str (nomark _))
    (pss_one (ps_ret (pe_call G_comparison_holds (hr.mono (by omega)) (by rfl) D_comparison_holds.g D_comparison_holds.F.kp D_comparison_holds.b .nil pass0 (pa_cons (pv 0) (pa_cons (pv 1) pa_nil)))))
    pss_nil)
    (pss_cons (ps_if (pt_cmpR op_eq (pv 2) pe_str (nomark _))
    (pss_one (ps_ret (pe_not (pe_call G_truth_of (hr.mono (by omega)) (by rfl) D_truth_of.g D_truth_of.F.kp D_truth_of.b .nil pass0 (pa_cons (pe_ix ix_tup (pv 0) pe_int (fun _ _ => rfl)) (pa_cons (pv 1) pa_nil))))))
    pss_nil)
    (pss_cons (ps_if (pt_cmpR op_eq (pv 2) pe_str (nomark _))
    (pss_one (ps_ret (pe_callB (cr_all rfl) (by rfl) T.n_all (by decide +kernel) (pa_cons (pe_lc (own := [("part", 3)]) (g := gName 3) (by rfl) sc_truth_of.nd (pi_tup (pe_ix ix_tup (pv 0) pe_int (fun _ _ => rfl))) (blkOk_by (own := [("part", 3)]) (N := ["promise", "state", "kind", "part"]) (sc := defScope s_truth_of) (by decide +kernel)) (fun _ _ _ _ _ => pg_name (i := 3) sc_truth_of.nd rfl (Or.inl rfl)) (fun _ _ _ _ _ => pts_nil) (fun _ _ _ _ _ => (pe_call G_truth_of (hr.mono (by omega)) (by rfl) D_truth_of.g D_truth_of.F.kp D_truth_of.b .nil pass0 (pa_cons (pv 3) (pa_cons (pv 1) pa_nil))))) pa_nil))))
    pss_nil)
    (pss_cons (ps_if (pt_cmpR op_eq (pv 2) pe_str (nomark _))
    (pss_one (ps_ret (pe_callB (cr_any rfl) (by rfl) T.n_any (by decide +kernel) (pa_cons (pe_lc (own := [("part", 3)]) (g := gName 3) (by rfl) sc_truth_of.nd (pi_tup (pe_ix ix_tup (pv 0) pe_int (fun _ _ => rfl))) (blkOk_by (own := [("part", 3)]) (N := ["promise", "state", "kind", "part"]) (sc := defScope s_truth_of) (by decide +kernel)) (fun _ _ _ _ _ => pg_name (i := 3) sc_truth_of.nd rfl (Or.inl rfl)) (fun _ _ _ _ _ => pts_nil) (fun _ _ _ _ _ => (pe_call G_truth_of (hr.mono (by omega)) (by rfl) D_truth_of.g D_truth_of.F.kp D_truth_of.b .nil pass0 (pa_cons (pv 3) (pa_cons (pv 1) pa_nil))))) pa_nil))))
    pss_nil)
    (pss_cons (ps_if (pt_cmpR op_eq (pv 2) pe_str (nomark _))
    (pss_one (ps_ret (pe_or (pe_call G_truth_of (hr.mono (by omega)) (by rfl) D_truth_of.g D_truth_of.F.kp D_truth_of.b .nil pass0 (pa_cons (pe_ix ix_tup (pv 0) pe_int (fun _ _ => rfl)) (pa_cons (pv 1) pa_nil))) (pe_one (pe_call G_truth_of (hr.mono (by omega)) (by rfl) D_truth_of.g D_truth_of.F.kp D_truth_of.b .nil pass0 (pa_cons (pe_ix ix_tup (pv 0) pe_int (fun _ _ => rfl)) (pa_cons (pv 1) pa_nil)))))))
    pss_nil)
    (pss_cons (ps_if (pt_cmpR op_eq (pv 2) pe_str (nomark _))
    (pss_one (ps_ret (pe_call G_is_sorted (hr.mono (by omega)) (by rfl) D_is_sorted.g D_is_sorted.F.kp D_is_sorted.b .nil pass0 (pa_cons (pe_call G_stretch_of (hr.mono (by omega)) (by rfl) D_stretch_of.g D_stretch_of.F.kp D_stretch_of.b .nil pass0 (pa_cons (pe_slice sl_tup (pv 0) (po_some pe_int) (po_some pe_int)) (pa_cons (pv 1) pa_nil))) pa_nil))))
    pss_nil)
    (pss_cons (ps_if (pt_cmpR op_eq (pv 2) pe_str (nomark _))
    (pss_one (ps_ret (pe_call G_is_below (hr.mono (by omega)) (by rfl) D_is_below.g D_is_below.F.kp D_is_below.b .nil pass0 (pa_cons (pe_call G_stretch_of (hr.mono (by omega)) (by rfl) D_stretch_of.g D_stretch_of.F.kp D_stretch_of.b .nil pass0 (pa_cons (pe_slice sl_tup (pv 0) (po_some pe_int) (po_some pe_int)) (pa_cons (pv 1) pa_nil))) (pa_cons (pe_call G_stretch_of (hr.mono (by omega)) (by rfl) D_stretch_of.g D_stretch_of.F.kp D_stretch_of.b .nil pass0 (pa_cons (pe_slice sl_tup (pv 0) (po_some pe_int) (po_some pe_int)) (pa_cons (pv 1) pa_nil))) pa_nil)))))
    pss_nil)
    (pss_one (ps_ret (pe_call G_all_hold (hr.mono (by omega)) (by rfl) D_all_hold.g D_all_hold.F.kp D_all_hold.b .nil pass0 (pa_cons (pv 0) (pa_cons (pv 1) pa_nil))))))))))))), ?_⟩
      cases c with
      | not c =>
        obtain ⟨t, v1, v2, rfl, ht, h1, h2⟩ := dp_inv2 hv
        cases dp_str_inv h1
        refine ⟨_, rfl, t, _, _, _, rfl, rfl, ht, atI_nat (j := 0) rfl, ?_⟩
        refine ⟨_, rfl, rfl, _, rfl, iteF ⟨_, rfl, rfl, _, rfl, iteT ?_⟩⟩
        exact ⟨_, rfl, t, _, _, _, rfl, rfl, ht, atI_nat (j := 1) rfl, _, rfl, v2, p, c, E, nn, ln, rfl, h2, st, ok, fun H1 s1 => ⟨_, rfl, q H1 s1⟩⟩
      | join o cs =>
        obtain ⟨t, v1, v2, rfl, ht, h1, h2⟩ := dp_inv2 hv
        cases dp_str_inv h1
        obtain ⟨t2, xs, rfl, ht2, hxs⟩ := dp_tup_inv h2
        obtain ⟨hlen, okc⟩ := ok
        have hxl : xs.length = cs.length := by rw [dpa_len hxs, encs_map, List.length_map]
        have PART : ∀ (i : Nat) (x : V), xs[i]? = some x → ∃ c, cs[i]? = some c ∧ Dp K H x c.enc ∧ c.ok nn ln n := fun i x hx => by
          obtain ⟨d, hd, hdx⟩ := dpa_get hxs hx
          rw [encs_map, List.getElem?_map] at hd
          obtain ⟨c, hc, rfl⟩ := Option.map_eq_some_iff.mp hd
          exact ⟨c, hc, hdx, okc c (List.mem_of_getElem? hc)⟩
        refine ⟨_, rfl, t, _, _, _, rfl, rfl, ht, atI_nat (j := 0) rfl, ?_⟩
        cases o with
        | false =>
          refine ⟨_, rfl, rfl, _, rfl, iteF ⟨_, rfl, rfl, _, rfl, iteF ⟨_, rfl, rfl, _, rfl, iteT ?_⟩⟩⟩
          refine ⟨_, rfl, t, _, _, _, rfl, rfl, ht, atI_nat (j := 1) rfl, t2, rfl, ⟨_, ht2⟩, fun D hD => ?_⟩
          refine lc_vals (walk_tup (K := K) (a := t2) (xs := xs)) hD (fun i => .bl ((trs E cs).getD i false)) (by omega) (fun H s => sqt_same s ht2) (fun i x H1 H2 Q' hi s1 y q' => ?_) (fun H1 s1 e1 => ?_)
          · obtain ⟨rfl, hx⟩ := y
            obtain ⟨c, hc, hcx, hok⟩ := PART i x hx
            rw [trs_getD E cs hc] at q'
            exact ⟨rfl, _, rfl, _, rfl, x, p, c, E, nn, ln, rfl, hcx.same s1, st.same s1, hok, fun H3 s3 => q' H3 s3⟩
          · rw [bl_map, hxl, trs_range] at e1
            exact ⟨D, _, rfl, SqL.of e1, q _ s1⟩
        | true =>
          refine ⟨_, rfl, rfl, _, rfl, iteF ⟨_, rfl, rfl, _, rfl, iteF ⟨_, rfl, rfl, _, rfl, iteF ⟨_, rfl, rfl, _, rfl, iteT ?_⟩⟩⟩⟩
          refine ⟨_, rfl, t, _, _, _, rfl, rfl, ht, atI_nat (j := 1) rfl, t2, rfl, ⟨_, ht2⟩, fun D hD => ?_⟩
          refine lc_vals (walk_tup (K := K) (a := t2) (xs := xs)) hD (fun i => .bl ((trs E cs).getD i false)) (by omega) (fun H s => sqt_same s ht2) (fun i x H1 H2 Q' hi s1 y q' => ?_) (fun H1 s1 e1 => ?_)
          · obtain ⟨rfl, hx⟩ := y
            obtain ⟨c, hc, hcx, hok⟩ := PART i x hx
            rw [trs_getD E cs hc] at q'
            exact ⟨rfl, _, rfl, _, rfl, x, p, c, E, nn, ln, rfl, hcx.same s1, st.same s1, hok, fun H3 s3 => q' H3 s3⟩
          · rw [bl_map, hxl, trs_range] at e1
            exact ⟨D, _, rfl, SqL.of e1, q _ s1⟩
      | pr c =>
        obtain ⟨ok, okE⟩ := ok
        cases c with
        | cmp c =>
          have hv' := hv
          obtain ⟨t, v1, v2, v3, v4, rfl, ht, h1, _⟩ := dp_inv4 hv'
          cases dp_str_inv h1
          refine ⟨_, rfl, t, _, _, _, rfl, rfl, ht, atI_nat (j := 0) rfl, ?_⟩
          exact ⟨_, rfl, rfl, _, rfl, iteT ⟨_, rfl, _, rfl, _, p, c, E, nn, ln, rfl, hv, st, ok, q _ (Same.refl _)⟩⟩
        | either a b =>
          obtain ⟨t, v1, v2, v3, rfl, ht, h1, h2, h3⟩ := dp_inv3 hv
          cases dp_str_inv h1
          obtain ⟨m, rfl⟩ : ∃ m, n = m + 1 := ⟨n - 1, by have := okE rfl; omega⟩
          refine ⟨_, rfl, t, _, _, _, rfl, rfl, ht, atI_nat (j := 0) rfl, ?_⟩
          refine ⟨_, rfl, rfl, _, rfl, iteF ⟨_, rfl, rfl, _, rfl, iteF ⟨_, rfl, rfl, _, rfl, iteF ⟨_, rfl, rfl, _, rfl, iteF ⟨_, rfl, rfl, _, rfl, iteT ?_⟩⟩⟩⟩⟩
          refine ⟨_, rfl, t, _, _, _, rfl, rfl, ht, atI_nat (j := 1) rfl, _, rfl, v2, p, .pr (.cmp a), E, nn, ln, rfl, h2, st, ⟨ok.1, fun h => nomatch h⟩, fun H1 s1 => ⟨_, rfl, ?_⟩⟩
          have q1 : ∀ H', Same H H' → Q (.bl (a.tr E || b.tr E)) H' := q
          have ha : (Cd.pr (.cmp a)).tr E = a.tr E := rfl
          rw [ha]
          cases h : a.tr E with
          | true =>
            rw [h] at q1
            exact iteT (q1 H1 s1)
          | false =>
            rw [h, Bool.false_or] at q1
            exact iteF ⟨_, rfl, t, _, _, _, rfl, rfl, sqt_same s1 ht, atI_nat (j := 2) rfl, _, rfl, v3, p, .pr (.cmp b), E, nn, ln, rfl, h3.same s1, st.same s1, ⟨ok.2, fun h => nomatch h⟩, fun H2 s2 => q1 H2 (s1.trans s2)⟩
        | srt x b lo hi =>
          obtain ⟨t, v1, v2, v3, v4, rfl, ht, h1, h2, h3, h4⟩ := dp_inv4 hv
          cases dp_str_inv h1
          obtain ⟨o1, o2, o3⟩ := ok
          refine ⟨_, rfl, t, _, _, _, rfl, rfl, ht, atI_nat (j := 0) rfl, ?_⟩
          refine ⟨_, rfl, rfl, _, rfl, iteF ⟨_, rfl, rfl, _, rfl, iteF ⟨_, rfl, rfl, _, rfl, iteF ⟨_, rfl, rfl, _, rfl, iteF ⟨_, rfl, rfl, _, rfl, iteF ⟨_, rfl, rfl, _, rfl, iteT ?_⟩⟩⟩⟩⟩⟩
          refine ⟨_, rfl, 1, rfl, 4, rfl, t, _, rfl, ht, fun hw => absurd hw.1 (by show ¬ HT.sIx 4 0 (some 1) = 0; decide), fun p0 n0 => ?_⟩
          have e0 : cutV [V.str "sorted", v2, v3, v4] (some 1) (some 4) = [v2, v3, v4] := rfl
          rw [e0]
          have s0 := same_new (o := .tup [v2, v3, v4]) n0
          refine ⟨_, rfl, _, p, x, b, lo, hi, E, nn, ln, rfl, dp_tup3 upd_same (h2.same s0) (h3.same s0) (h4.same s0), st.same s0, o1, o2, o3, fun a H1 s1 e1 => ?_⟩
          exact ⟨a, _, rfl, e1, Nat.le_trans (cutI_len _ _ _) (st.sz b x o1), fun H2 s2 => q _ ((s0.trans s1).trans s2)⟩
        | blw x b lo hi y d lo2 hi2 =>
          obtain ⟨t, v1, v2, v3, v4, v5, v6, v7, rfl, ht, h1, h2, h3, h4, h5, h6, h7⟩ := dp_inv7 hv
          cases dp_str_inv h1
          obtain ⟨o1, o2, o3, o4, o5, o6⟩ := ok
          refine ⟨_, rfl, t, _, _, _, rfl, rfl, ht, atI_nat (j := 0) rfl, ?_⟩
          refine ⟨_, rfl, rfl, _, rfl, iteF ⟨_, rfl, rfl, _, rfl, iteF ⟨_, rfl, rfl, _, rfl, iteF ⟨_, rfl, rfl, _, rfl, iteF ⟨_, rfl, rfl, _, rfl, iteF ⟨_, rfl, rfl, _, rfl, iteF ⟨_, rfl, rfl, _, rfl, iteT ?_⟩⟩⟩⟩⟩⟩⟩
          refine ⟨_, rfl, 1, rfl, 4, rfl, t, _, rfl, ht, fun hw => absurd hw.1 (by show ¬ HT.sIx 7 0 (some 1) = 0; decide), fun p0 n0 => ?_⟩
          have e0 : cutV [V.str "below", v2, v3, v4, v5, v6, v7] (some 1) (some 4) = [v2, v3, v4] := rfl
          rw [e0]
          have s0 := same_new (o := .tup [v2, v3, v4]) n0
          refine ⟨_, rfl, _, p, x, b, lo, hi, E, nn, ln, rfl, dp_tup3 upd_same (h2.same s0) (h3.same s0) (h4.same s0), st.same s0, o1, o2, o3, fun a H1 s1 e1 => ?_⟩
          have S1 := s0.trans s1
          refine ⟨_, rfl, 4, rfl, 7, rfl, t, _, rfl, sqt_same S1 ht, fun hw => absurd hw.1 (by show ¬ HT.sIx 7 0 (some 4) = 0; decide), fun p2 n2 => ?_⟩
          have e2 : cutV [V.str "below", v2, v3, v4, v5, v6, v7] (some 4) (some 7) = [v5, v6, v7] := rfl
          rw [e2]
          have s2 := same_new (o := .tup [v5, v6, v7]) n2
          have S2 := S1.trans s2
          refine ⟨_, rfl, _, p, y, d, lo2, hi2, E, nn, ln, rfl, dp_tup3 upd_same (h5.same S2) (h6.same S2) (h7.same S2), st.same S2, o4, o5, o6, fun a3 H3 s3 e3 => ?_⟩
          exact ⟨a, a3, _, _, rfl, s3 _ _ (s2 _ _ e1), e3, q _ (S2.trans s3)⟩
        | all x b lo hi z r =>
          have hv' := hv
          obtain ⟨t, v1, v2, v3, v4, v5, v6, rfl, ht, h1, _⟩ := dp_inv6 hv'
          cases dp_str_inv h1
          refine ⟨_, rfl, t, _, _, _, rfl, rfl, ht, atI_nat (j := 0) rfl, ?_⟩
          refine ⟨_, rfl, rfl, _, rfl, iteF ⟨_, rfl, rfl, _, rfl, iteF ⟨_, rfl, rfl, _, rfl, iteF ⟨_, rfl, rfl, _, rfl, iteF ⟨_, rfl, rfl, _, rfl, iteF ⟨_, rfl, rfl, _, rfl, iteF ⟨_, rfl, rfl, _, rfl, iteF ?_⟩⟩⟩⟩⟩⟩⟩
          exact ⟨_, rfl, _, rfl, _, p, .all x b lo hi z r, E, nn, ln, rfl, hv, st, ok, rfl, q⟩
        | mtch x b lo hi z y d pp =>
          have hv' := hv
          obtain ⟨t, v1, v2, v3, v4, v5, v6, v7, rfl, ht, h1, _⟩ := dp_inv7 hv'
          cases dp_str_inv h1
          refine ⟨_, rfl, t, _, _, _, rfl, rfl, ht, atI_nat (j := 0) rfl, ?_⟩
          refine ⟨_, rfl, rfl, _, rfl, iteF ⟨_, rfl, rfl, _, rfl, iteF ⟨_, rfl, rfl, _, rfl, iteF ⟨_, rfl, rfl, _, rfl, iteF ⟨_, rfl, rfl, _, rfl, iteF ⟨_, rfl, rfl, _, rfl, iteF ⟨_, rfl, rfl, _, rfl, iteF ?_⟩⟩⟩⟩⟩⟩⟩
          exact ⟨_, rfl, _, rfl, _, p, .mtch x b lo hi z y d pp, E, nn, ln, rfl, hv, st, ok, rfl, q⟩
end
end SW

namespace SW
open PySem PySem.Spec PyProof.Rows L2
abbrev s_l_compared : Stmt := topS 16
theorem sc_l_compared : FnScope ["sign", "left", "right", "truths"] ["sign", "left", "right"] (defScope s_l_compared) := ⟨rfl, rfl, rfl, by decide +kernel, rfl, by decide +kernel, by decide +kernel⟩

abbrev s_l_value : Stmt := topS 17
theorem sc_l_value : FnScope ["term", "numbers", "lists", "old", "cells", "k"] ["term", "numbers", "lists", "old"] (defScope s_l_value) := ⟨rfl, rfl, rfl, by decide +kernel, rfl, by decide +kernel, by decide +kernel⟩

abbrev s_l_holds : Stmt := topS 18
theorem sc_l_holds : FnScope ["comparison", "numbers", "lists", "old", "left", "right"] ["comparison", "numbers", "lists", "old"] (defScope s_l_holds) := ⟨rfl, rfl, rfl, by decide +kernel, rfl, by decide +kernel, by decide +kernel⟩

abbrev s_l_part : Stmt := topS 19
theorem sc_l_part : FnScope ["reference", "lo", "hi", "numbers", "lists", "old", "cells", "first"] ["reference", "lo", "hi", "numbers", "lists", "old"] (defScope s_l_part) := ⟨rfl, rfl, rfl, by decide +kernel, rfl, by decide +kernel, by decide +kernel⟩

section
variable {P : Program} {w : World} {K : PySem.W.Frag} {mg : PySem.Str → Option Value} {base : Heap} {C : Addr}
def spLCompared : Sp := fun vs H Q _ => ∃ (z : PySem.Str) (a b : Int), vs = [.str z, .int a, .int b] ∧ z ∈ sgs ∧ ∀ H', Same H H' → Q (.bl (cmpI z a b)) H'
theorem sgs_ix {z : PySem.Str} (h : z ∈ sgs) (a b : Int) : ∃ j : Nat, (sgs.map V.str)[j]? = some (.str z) ∧ (∀ (m : Nat) (z' : V), m < j → (sgs.map V.str)[m]? = some z' → eqV z' (.str z) = false) ∧
    ([V.bl (decide (a < b)), V.bl (decide (a ≤ b)), V.bl (decide (b < a)), V.bl (decide (b ≤ a)), V.bl (decide (V.int a = V.int b)), V.bl (!decide (V.int a = V.int b))] : List V)[j]? = some (.bl (cmpI z a b)) := by
  have no : ∀ (j : Nat) (z : PySem.Str), (∀ m, m < j → ∀ x, sgs[m]? = some x → (x == z) = false) → ∀ (m : Nat) (z' : V), m < j → (sgs.map V.str)[m]? = some z' → eqV z' (.str z) = false := fun j z h m z' hm e => by
    rw [List.getElem?_map] at e
    obtain ⟨x, hx, rfl⟩ := Option.map_eq_some_iff.mp e
    exact h m hm x hx
  simp only [sgs, List.mem_cons, List.not_mem_nil, or_false] at h
  rcases h with rfl | rfl | rfl | rfl | rfl | rfl
  · exact ⟨0, rfl, no 0 _ (by decide), rfl⟩
  · refine ⟨1, rfl, no 1 _ ?_, rfl⟩
    intro m hm x hx
    match m, hm, hx with
    | 0, _, hx => cases hx; decide +kernel
  · refine ⟨2, rfl, no 2 _ ?_, rfl⟩
    intro m hm x hx
    match m, hm, hx with
    | 0, _, hx => cases hx; decide +kernel
    | 1, _, hx => cases hx; decide +kernel
  · refine ⟨3, rfl, no 3 _ ?_, rfl⟩
    intro m hm x hx
    match m, hm, hx with
    | 0, _, hx => cases hx; decide +kernel
    | 1, _, hx => cases hx; decide +kernel
    | 2, _, hx => cases hx; decide +kernel
  · refine ⟨4, rfl, no 4 _ ?_, ?_⟩
    · intro m hm x hx
      match m, hm, hx with
      | 0, _, hx => cases hx; decide +kernel
      | 1, _, hx => cases hx; decide +kernel
      | 2, _, hx => cases hx; decide +kernel
      | 3, _, hx => cases hx; decide +kernel
    · rw [int_dec]
      rfl
  · refine ⟨5, rfl, no 5 _ ?_, ?_⟩
    · intro m hm x hx
      match m, hm, hx with
      | 0, _, hx => cases hx; decide +kernel
      | 1, _, hx => cases hx; decide +kernel
      | 2, _, hx => cases hx; decide +kernel
      | 3, _, hx => cases hx; decide +kernel
      | 4, _, hx => cases hx; decide +kernel
    · rw [int_dec]
      rfl
theorem ok_l_compared (T : TxS K mg C) (D_l_compared : Df K mg "_law_compared" s_l_compared ["sign", "left", "right"]) : FnOk P w K mg base CX0 1 D_l_compared.f D_l_compared.fd ["sign", "left", "right"] spLCompared := by
  refine D_l_compared.F.ok sc_l_compared (fun vs H Q E h => ?_) (fun cdv A outer s H vs Q E hr h => ?_)
  · obtain ⟨z, a, b, rfl, _⟩ := h
    rfl
  · obtain ⟨z, a, b, rfl, hz, q⟩ := h
    refine ⟨_, (pss_cons (ps_set (i := 3) sc_l_compared.nd rfl (.inl rfl) (pe_lst (pa_cons (pe_cmpR op_lt (pv 1) (pv 2) (nomark _)) (pa_cons (pe_cmpR op_le (pv 1) (pv 2) (nomark _)) (pa_cons (pe_cmpR op_gt (pv 1) (pv 2) (nomark _)) (pa_cons (pe_cmpR op_ge (pv 1) (pv 2) (nomark _)) (pa_cons (pe_cmpR op_eq (pv 1) (pv 2) (nomark _)) (pa_cons (pe_cmpR op_ne (pv 1) (pv 2) (nomark _)) pa_nil))))))))
    (pss_one (ps_ret (pe_ix ix_list (pv 3) (pe_bm PySem.F.plainAttrs_list PySem.F.slot_list_index PySem.F.type_list_index mt_index (pe_lst (pa_strs (.cons _ _ _ (.cons _ _ _ (.cons _ _ _ (.cons _ _ _ (.cons _ _ _ (.cons _ _ _ .nil)))))))) (pa_cons (pv 0) pa_nil)) (fun _ _ => rfl))))), ?_⟩
    obtain ⟨j, g1, g2, g3⟩ := sgs_ix hz a b
    refine ⟨_, rfl, _, rfl, _, _, rfl, rfl, _, rfl, _, rfl, _, _, rfl, rfl, _, rfl, _, rfl, _, _, rfl, rfl, _, rfl, _, rfl, _, _, rfl, rfl, _, rfl, _, rfl, rfl, _, rfl, _, rfl, rfl, by show (6 : Nat) ≤ sizeLine; decide, fun l nl => ?_⟩
    generalize hg : upd H l _ = H1
    obtain ⟨s1, e1⟩ := new_of nl hg
    refine ⟨_, rfl, by show (6 : Nat) ≤ sizeLine; decide, fun l2 n2 => ?_⟩
    generalize hg : upd H1 l2 _ = H2
    obtain ⟨s2, e2⟩ := new_of n2 hg
    refine ⟨.inl ⟨rfl, _, SqL.of e2⟩, _, rfl, l2, _, _, j, _, rfl, rfl, SqL.of e2, rfl, flat_strs sgs, g1, by show (z == z) = true; exact beq_self_eq_true z, g2, l, _, _, _, rfl, rfl, SqL.of (s2 _ _ e1), atI_nat g3, q _ (s1.trans s2)⟩
/-- the law's reader: three dicts -/
def spLV0 (K : PySem.W.Frag) : Sp := fun vs H Q _ => ∃ (v : V) (dn dl dO : Addr) (t : Pl) (E : Ev) (nn ln : List PySem.Str), vs = [v, .ref dn, .ref dl, .ref dO] ∧ Dp K H v t.enc ∧ EvAt H dn dl dO E nn ln ∧ t.ok nn ln ∧ Q (.int (t.val E)) H
def spLV (K : PySem.W.Frag) : Sp := fun vs H Q _ => ∃ (v : V) (dn dl dO : Addr) (t : Tm) (E : Ev) (nn ln : List PySem.Str), vs = [v, .ref dn, .ref dl, .ref dO] ∧ Dp K H v t.enc ∧ EvAt H dn dl dO E nn ln ∧ t.ok nn ln ∧ Q (optI (t.val E)) H
theorem ok_lv_pl (T : TxS K mg C) (D_l_value : Df K mg "_law_value" s_l_value ["term", "numbers", "lists", "old"]) : FnOk P w K mg base CX0 2 D_l_value.f D_l_value.fd ["term", "numbers", "lists", "old"] (spLV0 K) := by
  have G_l_value : FnOk P w K mg base CX0 1 D_l_value.f D_l_value.fd ["term", "numbers", "lists", "old"] (fun _ _ _ _ => False) := fn_never
  refine D_l_value.F.ok sc_l_value (fun vs H Q E h => ?_) (fun cdv A outer s H vs Q E hr h => ?_)
  · obtain ⟨v, dn, dl, dO, t, E, nn, ln, rfl, _⟩ := h
    rfl
  · obtain ⟨v, dn, dl, dO, t, E, nn, ln, rfl, hv, st, hx, q⟩ := h
    refine ⟨_, (pss_cons (ps_if (pt_cmpR op_eq (pe_ix ix_tup (pv 0) pe_int (fun _ _ => rfl)) pe_str (nomark _))
    (pss_one (ps_ret (pe_ix ix_tup (pv 0) pe_int (fun _ _ => rfl))))
    pss_nil)
    (pss_cons (ps_if (pt_cmpR op_eq (pe_ix ix_tup (pv 0) pe_int (fun _ _ => rfl)) pe_str (nomark _))
    (pss_one (ps_ret (pe_op op_add (pe_dget (hu_of hr) (pv 1) (pe_ix ix_tup (pv 0) pe_int (fun _ _ => rfl)) (fun _ _ => rfl)) (pe_ix ix_tup (pv 0) pe_int (fun _ _ => rfl)))))
    pss_nil)
    (pss_cons (ps_if (pt_cmpR op_eq (pe_ix ix_tup (pv 0) pe_int (fun _ _ => rfl)) pe_str (nomark _))
    (pss_one (ps_ret (pe_op op_add (pe_callB call_len_seq (by rfl) T.n_len PySem.boot_len (pa_cons (pe_dget (hu_of hr) (pv 2) (pe_ix ix_tup (pv 0) pe_int (fun _ _ => rfl)) (fun _ _ => rfl)) pa_nil)) (pe_ix ix_tup (pv 0) pe_int (fun _ _ => rfl)))))
    pss_nil)
    (pss_cons (ps_set (i := 4) sc_l_value.nd rfl (.inl rfl) (pe_dget (hu_of hr) (pv 2) (pe_ix ix_tup (pe_ix ix_tup (pv 0) pe_int (fun _ _ => rfl)) pe_int (fun _ _ => rfl)) (fun _ _ => rfl)))
    (Evl.pss_cut (ps_if (pt_val (pe_ix ix_tup (pe_ix ix_tup (pv 0) pe_int (fun _ _ => rfl)) pe_int (fun _ _ => rfl)))
    (pss_one (ps_set (i := 4) sc_l_value.nd rfl (.inl rfl) (pe_dget (hu_of hr) (pv 3) (pe_ix ix_tup (pe_ix ix_tup (pv 0) pe_int (fun _ _ => rfl)) pe_int (fun _ _ => rfl)) (fun _ _ => rfl))))
    pss_nil)
    (pss_cons (ps_set (i := 5) sc_l_value.nd rfl (.inl rfl) (pe_call G_l_value (hr.mono (by decide)) (by rfl) D_l_value.g D_l_value.F.kp D_l_value.b .nil pass0 (pa_cons (pe_ix ix_tup (pv 0) pe_int (fun _ _ => rfl)) (pa_cons (pv 1) (pa_cons (pv 2) (pa_cons (pv 3) pa_nil))))))
    (pss_cons (ps_if (PW.pt (pw_or (pt_cmpR op_lt (pv 5) pe_int (nomark _)) (pw_or1 (pt_cmpR op_ge (pv 5) (pe_callB call_len_seq (by rfl) T.n_len PySem.boot_len (pa_cons (pv 4) pa_nil)) (nomark _)))))
    (pss_one (ps_ret pe_non))
    pss_nil)
    (pss_one (ps_ret (pe_op op_add (pe_ix ix_list (pv 4) (pv 5) (fun _ _ => rfl)) (pe_ix ix_tup (pv 0) pe_int (fun _ _ => rfl)))))))))))), ?_⟩
    cases t with
    | num n =>
      obtain ⟨t, v1, v2, rfl, ht, h1, h2⟩ := dp_inv2 hv
      cases dp_str_inv h1
      cases dp_int_inv h2
      exact ⟨_, rfl, t, _, _, _, rfl, rfl, ht, atI_nat (j := 0) rfl, rfl, _, rfl, iteT ⟨_, rfl, t, _, _, _, rfl, rfl, ht, atI_nat (j := 1) rfl, q⟩⟩
    | var x z =>
      obtain ⟨t, v1, v2, v3, rfl, ht, h1, h2, h3⟩ := dp_inv3 hv
      cases dp_str_inv h1
      cases dp_str_inv h2
      cases dp_int_inv h3
      obtain ⟨k1, e1, f1⟩ := st.n
      exact ⟨_, rfl, t, _, _, _, rfl, rfl, ht, atI_nat (j := 0) rfl, rfl, _, rfl, iteF ⟨_, rfl, t, _, _, _, rfl, rfl, ht, atI_nat (j := 0) rfl, rfl, _, rfl, iteT ⟨_, rfl, _, rfl, t, _, _, _, rfl, rfl, ht, atI_nat (j := 1) rfl, dn, _, rfl, .inl ⟨k1, .inr x, .inl e1, rfl, (f1 x hx).symm⟩, _, rfl, t, _, _, _, rfl, rfl, ht, atI_nat (j := 2) rfl, _, _, rfl, rfl, q⟩⟩⟩
    | len x z =>
      obtain ⟨t, v1, v2, v3, rfl, ht, h1, h2, h3⟩ := dp_inv3 hv
      cases dp_str_inv h1
      cases dp_str_inv h2
      cases dp_int_inv h3
      obtain ⟨k1, e1, f1⟩ := st.l
      obtain ⟨a, g1, g2⟩ := f1 x hx
      refine ⟨_, rfl, t, _, _, _, rfl, rfl, ht, atI_nat (j := 0) rfl, rfl, _, rfl, iteF ⟨_, rfl, t, _, _, _, rfl, rfl, ht, atI_nat (j := 0) rfl, rfl, _, rfl, iteF ⟨_, rfl, t, _, _, _, rfl, rfl, ht, atI_nat (j := 0) rfl, rfl, _, rfl, iteT ⟨_, rfl, _, rfl, t, _, _, _, rfl, rfl, ht, atI_nat (j := 1) rfl, dl, _, rfl, .inl ⟨k1, .inr x, .inl e1, rfl, g1.symm⟩, a, _, rfl, .inl (SqL.of g2), _, rfl, t, _, _, _, rfl, rfl, ht, atI_nat (j := 2) rfl, _, _, rfl, rfl, ?_⟩⟩⟩⟩
      rw [List.length_map]
      exact q
def spLVC (K : PySem.W.Frag) : Sp := fun vs H Q _ => ∃ (v : V) (dn dl dO : Addr) (x : PySem.Str) (b : Bool) (i : Pl) (z : Int) (E : Ev) (nn ln : List PySem.Str), vs = [v, .ref dn, .ref dl, .ref dO] ∧ Dp K H v (Tm.cell x b i z).enc ∧ EvAt H dn dl dO E nn ln ∧ x ∈ ln ∧ i.ok nn ln ∧ Q (optI ((Tm.cell x b i z).val E)) H
theorem ok_lv_cell (T : TxS K mg C) (D_l_value : Df K mg "_law_value" s_l_value ["term", "numbers", "lists", "old"]) : FnOk P w K mg base CX0 3 D_l_value.f D_l_value.fd ["term", "numbers", "lists", "old"] (spLVC K) := by
  have G_l_value := ok_lv_pl (P := P) (w := w) (base := base) T D_l_value
  refine D_l_value.F.ok sc_l_value (fun vs H Q E h => ?_) (fun cdv A outer s H vs Q E hr h => ?_)
  · obtain ⟨v, dn, dl, dO, x, b, i, z, E, nn, ln, rfl, _⟩ := h
    rfl
  · obtain ⟨v, dn, dl, dO, x, b, i, z, E, nn, ln, rfl, hv, st, hx, hi, q⟩ := h
    refine ⟨_, (pss_cons (ps_if (pt_cmpR op_eq (pe_ix ix_tup (pv 0) pe_int (fun _ _ => rfl)) pe_str (nomark _))
    (pss_one (ps_ret (pe_ix ix_tup (pv 0) pe_int (fun _ _ => rfl))))
    pss_nil)
    (pss_cons (ps_if (pt_cmpR op_eq (pe_ix ix_tup (pv 0) pe_int (fun _ _ => rfl)) pe_str (nomark _))
    (pss_one (ps_ret (pe_op op_add (pe_dget (hu_of hr) (pv 1) (pe_ix ix_tup (pv 0) pe_int (fun _ _ => rfl)) (fun _ _ => rfl)) (pe_ix ix_tup (pv 0) pe_int (fun _ _ => rfl)))))
    pss_nil)
    (pss_cons (ps_if (pt_cmpR op_eq (pe_ix ix_tup (pv 0) pe_int (fun _ _ => rfl)) pe_str (nomark _))
    (pss_one (ps_ret (pe_op op_add (pe_callB call_len_seq (by rfl) T.n_len PySem.boot_len (pa_cons (pe_dget (hu_of hr) (pv 2) (pe_ix ix_tup (pv 0) pe_int (fun _ _ => rfl)) (fun _ _ => rfl)) pa_nil)) (pe_ix ix_tup (pv 0) pe_int (fun _ _ => rfl)))))
    pss_nil)
    (pss_cons (ps_set (i := 4) sc_l_value.nd rfl (.inl rfl) (pe_dget (hu_of hr) (pv 2) (pe_ix ix_tup (pe_ix ix_tup (pv 0) pe_int (fun _ _ => rfl)) pe_int (fun _ _ => rfl)) (fun _ _ => rfl)))
    (Evl.pss_cut (ps_if (pt_val (pe_ix ix_tup (pe_ix ix_tup (pv 0) pe_int (fun _ _ => rfl)) pe_int (fun _ _ => rfl)))
    (pss_one (ps_set (i := 4) sc_l_value.nd rfl (.inl rfl) (pe_dget (hu_of hr) (pv 3) (pe_ix ix_tup (pe_ix ix_tup (pv 0) pe_int (fun _ _ => rfl)) pe_int (fun _ _ => rfl)) (fun _ _ => rfl))))
    pss_nil)
    (pss_cons (ps_set (i := 5) sc_l_value.nd rfl (.inl rfl) (pe_call G_l_value (hr.mono (by decide)) (by rfl) D_l_value.g D_l_value.F.kp D_l_value.b .nil pass0 (pa_cons (pe_ix ix_tup (pv 0) pe_int (fun _ _ => rfl)) (pa_cons (pv 1) (pa_cons (pv 2) (pa_cons (pv 3) pa_nil))))))
    (pss_cons (ps_if (PW.pt (pw_or (pt_cmpR op_lt (pv 5) pe_int (nomark _)) (pw_or1 (pt_cmpR op_ge (pv 5) (pe_callB call_len_seq (by rfl) T.n_len PySem.boot_len (pa_cons (pv 4) pa_nil)) (nomark _)))))
    (pss_one (ps_ret pe_non))
    pss_nil)
    (pss_one (ps_ret (pe_op op_add (pe_ix ix_list (pv 4) (pv 5) (fun _ _ => rfl)) (pe_ix ix_tup (pv 0) pe_int (fun _ _ => rfl)))))))))))), ?_⟩
    obtain ⟨t, v1, v2, v3, v4, rfl, ht, h1, h2, h3, h4⟩ := dp_inv4 hv
    obtain ⟨t2, w1, w2, rfl, ht2, g1, g2⟩ := dp_inv2 h2
    cases dp_str_inv h1
    cases dp_int_inv h4
    cases dp_str_inv g1
    cases dp_bl_inv g2
    obtain ⟨k2, e2, f2⟩ := st.l
    obtain ⟨k3, e3, f3⟩ := st.o
    obtain ⟨a2, a3, a4⟩ := f2 x hx
    refine ⟨_, rfl, t, _, _, _, rfl, rfl, ht, atI_nat (j := 0) rfl, rfl, _, rfl, iteF ⟨_, rfl, t, _, _, _, rfl, rfl, ht, atI_nat (j := 0) rfl, rfl, _, rfl, iteF ⟨_, rfl, t, _, _, _, rfl, rfl, ht, atI_nat (j := 0) rfl, rfl, _, rfl, iteF ?_⟩⟩⟩
    refine ⟨_, rfl, _, rfl, t, _, _, _, rfl, rfl, ht, atI_nat (j := 1) rfl, t2, _, _, _, rfl, rfl, ht2, atI_nat (j := 0) rfl, dl, _, rfl, .inl ⟨k2, .inr x, .inl e2, rfl, a3.symm⟩, ?_⟩
    refine ⟨fun σ' H' => ∃ a, σ' = [some (.ref t), some (.ref dn), some (.ref dl), some (.ref dO), some (.ref a), none] ∧ H' = H ∧ H a = some (.lst ((E.lst b x).map V.int)), ?_, ?_⟩
    · refine ⟨_, rfl, t, _, _, _, rfl, rfl, ht, atI_nat (j := 1) rfl, t2, _, _, _, rfl, rfl, ht2, atI_nat (j := 1) rfl, _, rfl, ?_⟩
      cases b with
      | false => exact iteF ⟨a2, rfl, rfl, a4⟩
      | true =>
        obtain ⟨b2, b3, b4⟩ := f3 x hx
        exact iteT ⟨_, rfl, _, rfl, t, _, _, _, rfl, rfl, ht, atI_nat (j := 1) rfl, t2, _, _, _, rfl, rfl, ht2, atI_nat (j := 0) rfl, dO, _, rfl, .inl ⟨k3, .inr x, .inl e3, rfl, b3.symm⟩, b2, rfl, rfl, b4⟩
    intro σ' H' hN
    obtain ⟨a, rfl, rfl, ea⟩ := hN
    refine ⟨_, rfl, t, _, _, _, rfl, rfl, ht, atI_nat (j := 2) rfl, _, rfl, _, rfl, _, rfl, v3, dn, dl, dO, i, E, nn, ln, rfl, h3, st, hi, ?_⟩
    have hval : (Tm.cell x b i z).val E = (cellAt (E.lst b x) (i.val E)).map (· + z) := rfl
    rw [hval] at q
    generalize i.val E = k at q
    generalize E.lst b x = cs at q ea
    unfold cellAt at q
    refine ⟨_, rfl, _, _, rfl, rfl, _, rfl, ite2 (fun e => ?_) (fun e => ?_)⟩
    · have e := of_decide_eq_true e
      rw [if_neg fun h => by omega] at q
      exact iteT q
    · have e : ¬ k < 0 := fun h => e (decide_eq_true h)
      refine ⟨_, rfl, _, rfl, a, _, rfl, .inl (SqL.of ea), _, _, rfl, rfl, _, rfl, ite2 (fun e2 => ?_) (fun e2 => ?_)⟩
      · have e2 := of_decide_eq_true e2
        rw [List.length_map] at e2
        rw [if_neg fun h => by omega] at q
        exact q
      · have e2 : ¬ (cs.length : Int) ≤ k := fun h => e2 (by rw [List.length_map]; exact decide_eq_true h)
        obtain ⟨j, rfl⟩ : ∃ j : Nat, k = j := ⟨k.toNat, by omega⟩
        have hj : j < cs.length := by omega
        rw [if_pos ⟨by omega, by omega⟩] at q
        refine ⟨_, rfl, _, rfl, a, _, _, _, rfl, rfl, SqL.of ea, ints_at hj, _, rfl, t, _, _, _, rfl, rfl, ht, atI_nat (j := 3) rfl, _, _, rfl, rfl, ?_⟩
        rw [Int.toNat_natCast, List.getD_eq_getElem?_getD, List.getElem?_eq_getElem hj] at q
        exact q
theorem ok_l_value (T : TxS K mg C) (D_l_value : Df K mg "_law_value" s_l_value ["term", "numbers", "lists", "old"]) : FnOk P w K mg base CX0 3 D_l_value.f D_l_value.fd ["term", "numbers", "lists", "old"] (spLV K) := by
  refine (fn_or ((ok_lv_pl T D_l_value).mono (by decide)) (ok_lv_cell T D_l_value)).imp fun vs H Q E h => ?_
  obtain ⟨v, dn, dl, dO, t, E, nn, ln, rfl, hv, st, ok, q⟩ := h
  cases t with
  | pl t => exact .inl ⟨v, dn, dl, dO, t, E, nn, ln, rfl, hv, st, ok, q⟩
  | cell x b i z => exact .inr ⟨v, dn, dl, dO, x, b, i, z, E, nn, ln, rfl, hv, st, ok.1, ok.2, q⟩
def spLHolds (K : PySem.W.Frag) : Sp := fun vs H Q _ => ∃ (v : V) (dn dl dO : Addr) (c : Cm) (E : Ev) (nn ln : List PySem.Str), vs = [v, .ref dn, .ref dl, .ref dO] ∧ Dp K H v c.enc ∧ EvAt H dn dl dO E nn ln ∧ c.ok nn ln ∧ ∀ H', Same H H' → Q (.bl (c.tr E)) H'
theorem ok_l_holds (T : TxS K mg C) (D_l_holds : Df K mg "_law_holds" s_l_holds ["comparison", "numbers", "lists", "old"]) (D_l_value : Df K mg "_law_value" s_l_value ["term", "numbers", "lists", "old"]) (D_l_compared : Df K mg "_law_compared" s_l_compared ["sign", "left", "right"]) (G_l_value : FnOk P w K mg base CX0 3 D_l_value.f D_l_value.fd ["term", "numbers", "lists", "old"] (spLV K)) (G_l_compared : FnOk P w K mg base CX0 1 D_l_compared.f D_l_compared.fd ["sign", "left", "right"] spLCompared) : FnOk P w K mg base CX0 4 D_l_holds.f D_l_holds.fd ["comparison", "numbers", "lists", "old"] (spLHolds K) := by
  refine D_l_holds.F.ok sc_l_holds (fun vs H Q E h => ?_) (fun cdv A outer s H vs Q E hr h => ?_)
  · obtain ⟨v, dn, dl, dO, c, E, nn, ln, rfl, _⟩ := h
    rfl
  · obtain ⟨v, dn, dl, dO, ⟨z, l, r⟩, E, nn, ln, rfl, hv, st, ⟨ok1, ok2, ok3⟩, q⟩ := h
    refine ⟨_, (pss_cons (ps_set (i := 4) sc_l_holds.nd rfl (.inl rfl) (pe_call G_l_value (hr.mono (by decide)) (by rfl) D_l_value.g D_l_value.F.kp D_l_value.b .nil pass0 (pa_cons (pe_ix ix_tup (pv 0) pe_int (fun _ _ => rfl)) (pa_cons (pv 1) (pa_cons (pv 2) (pa_cons (pv 3) pa_nil))))))
    (pss_cons (ps_set (i := 5) sc_l_holds.nd rfl (.inl rfl) (pe_call G_l_value (hr.mono (by decide)) (by rfl) D_l_value.g D_l_value.F.kp D_l_value.b .nil pass0 (pa_cons (pe_ix ix_tup (pv 0) pe_int (fun _ _ => rfl)) (pa_cons (pv 1) (pa_cons (pv 2) (pa_cons (pv 3) pa_nil))))))
    (pss_cons (ps_if (PW.pt (pw_or (pt_cmpR op_isN (pv 4) pe_non (nomark _)) (pw_or1 (pt_cmpR op_isN (pv 5) pe_non (nomark _)))))
    (pss_one (ps_ret pe_bl))
    pss_nil)
    (pss_one (ps_ret (pe_call G_l_compared (hr.mono (by decide)) (by rfl) D_l_compared.g D_l_compared.F.kp D_l_compared.b .nil pass0 (pa_cons (pe_ix ix_tup (pv 0) pe_int (fun _ _ => rfl)) (pa_cons (pv 4) (pa_cons (pv 5) pa_nil))))))))), ?_⟩
    obtain ⟨t, v1, v2, v3, v4, rfl, ht, h1, h2, h3, h4⟩ := dp_inv4 hv
    cases dp_str_inv h2
    refine ⟨_, rfl, t, _, _, _, rfl, rfl, ht, atI_nat (j := 2) rfl, _, rfl, _, rfl, _, rfl, v3, dn, dl, dO, l, E, nn, ln, rfl, h3, st, ok1, ?_⟩
    refine ⟨_, rfl, t, _, _, _, rfl, rfl, ht, atI_nat (j := 3) rfl, _, rfl, _, rfl, _, rfl, v4, dn, dl, dO, r, E, nn, ln, rfl, h4, st, ok2, ?_⟩
    unfold Cm.tr at q
    dsimp only at q
    cases hl : l.val E with
    | none =>
      rw [hl] at q
      exact ⟨_, rfl, rfl, _, rfl, iteT (iteT (q _ (Same.refl _)))⟩
    | some a =>
      rw [hl] at q
      cases hr : r.val E with
      | none =>
        rw [hr] at q
        exact ⟨_, rfl, rfl, _, rfl, iteF ⟨_, rfl, rfl, _, rfl, iteT (q _ (Same.refl _))⟩⟩
      | some b =>
        rw [hr] at q
        exact ⟨_, rfl, rfl, _, rfl, iteF ⟨_, rfl, rfl, _, rfl, iteF ⟨_, rfl, t, _, _, _, rfl, rfl, ht, atI_nat (j := 1) rfl, _, rfl, _, rfl, z, a, b, rfl, ok3, q⟩⟩⟩
def endI (E : Ev) (hi : Pl) (n : Nat) : Int := if hi.val E < (n : Int) then hi.val E else (n : Int)
def spLPart (K : PySem.W.Frag) : Sp := fun vs H Q _ => ∃ (v v1 v2 : V) (dn dl dO : Addr) (x : PySem.Str) (b : Bool) (lo hi : Pl) (E : Ev) (nn ln : List PySem.Str), vs = [v, v1, v2, .ref dn, .ref dl, .ref dO] ∧ Dp K H v (pWh x b) ∧ Dp K H v1 lo.enc ∧ Dp K H v2 hi.enc ∧ EvAt H dn dl dO E nn ln ∧ x ∈ ln ∧ lo.ok nn ln ∧ hi.ok nn ln ∧
  ∀ t a H', Same H H' → H' t = some (.tup [.ref a, .int (frm E lo : Nat), .int (endI E hi (E.lst b x).length)]) → H' a = some (.lst ((E.lst b x).map V.int)) → Q (.ref t) H'
theorem max0_eq (z : Int) : (if z > (0 : Int) then z else (0 : Int)) = ((z.toNat : Nat) : Int) := by
  split <;> omega
theorem ok_l_part (T : TxS K mg C) (D_l_part : Df K mg "_law_part" s_l_part ["reference", "lo", "hi", "numbers", "lists", "old"]) (D_l_value : Df K mg "_law_value" s_l_value ["term", "numbers", "lists", "old"]) (G_l_value : FnOk P w K mg base CX0 3 D_l_value.f D_l_value.fd ["term", "numbers", "lists", "old"] (spLV K)) : FnOk P w K mg base CX0 4 D_l_part.f D_l_part.fd ["reference", "lo", "hi", "numbers", "lists", "old"] (spLPart K) := by
  refine D_l_part.F.ok sc_l_part (fun vs H Q E h => ?_) (fun cdv A outer s H vs Q E hr h => ?_)
  · obtain ⟨v, v1, v2, dn, dl, dO, x, b, lo, hi, E, nn, ln, rfl, _⟩ := h
    rfl
  · obtain ⟨v, v1, v2, dn, dl, dO, x, b, lo, hi, E, nn, ln, rfl, hv, h1, h2, st, hx, o1, o2, q⟩ := h
    refine ⟨_, (pss_cons (ps_set (i := 6) sc_l_part.nd rfl (.inl rfl) (pe_dget (hu_of hr) (pv 4) (pe_ix ix_tup (pv 0) pe_int (fun _ _ => rfl)) (fun _ _ => rfl)))
    (Evl.pss_cut (ps_if (pt_val (pe_ix ix_tup (pv 0) pe_int (fun _ _ => rfl)))
    (pss_one (ps_set (i := 6) sc_l_part.nd rfl (.inl rfl) (pe_dget (hu_of hr) (pv 5) (pe_ix ix_tup (pv 0) pe_int (fun _ _ => rfl)) (fun _ _ => rfl))))
    pss_nil)
    (pss_cons (ps_set (i := 7) sc_l_part.nd rfl (.inl rfl) (pe_callB (call_max2 rfl) (by rfl) T.n_max (by decide +kernel) (pa_cons pe_int (pa_cons (pe_call G_l_value (hr.mono (by decide)) (by rfl) D_l_value.g D_l_value.F.kp D_l_value.b .nil pass0 (pa_cons (pv 1) (pa_cons (pv 3) (pa_cons (pv 4) (pa_cons (pv 5) pa_nil))))) pa_nil))))
    (pss_one (ps_ret (pe_tup (pa_cons (pv 6) (pa_cons (pv 7) (pa_cons (pe_callB (call_min2 rfl) (by rfl) T.n_min (by decide +kernel) (pa_cons (pe_callB call_len_seq (by rfl) T.n_len PySem.boot_len (pa_cons (pv 6) pa_nil)) (pa_cons (pe_call G_l_value (hr.mono (by decide)) (by rfl) D_l_value.g D_l_value.F.kp D_l_value.b .nil pass0 (pa_cons (pv 2) (pa_cons (pv 3) (pa_cons (pv 4) (pa_cons (pv 5) pa_nil))))) pa_nil))) pa_nil))))))))), ?_⟩
    obtain ⟨t2, w1, w2, rfl, ht2, g1, g2⟩ := dp_inv2 hv
    cases dp_str_inv g1
    cases dp_bl_inv g2
    obtain ⟨k2, e2, f2⟩ := st.l
    obtain ⟨k3, e3, f3⟩ := st.o
    obtain ⟨a2, a3, a4⟩ := f2 x hx
    refine ⟨_, rfl, _, rfl, t2, _, _, _, rfl, rfl, ht2, atI_nat (j := 0) rfl, dl, _, rfl, .inl ⟨k2, .inr x, .inl e2, rfl, a3.symm⟩, ?_⟩
    refine ⟨fun σ' H' => ∃ a, σ' = [some (.ref t2), some v1, some v2, some (.ref dn), some (.ref dl), some (.ref dO), some (.ref a), none] ∧ H' = H ∧ H a = some (.lst ((E.lst b x).map V.int)), ?_, ?_⟩
    · refine ⟨_, rfl, t2, _, _, _, rfl, rfl, ht2, atI_nat (j := 1) rfl, _, rfl, ?_⟩
      cases b with
      | false => exact iteF ⟨a2, rfl, rfl, a4⟩
      | true =>
        obtain ⟨b2, b3, b4⟩ := f3 x hx
        exact iteT ⟨_, rfl, _, rfl, t2, _, _, _, rfl, rfl, ht2, atI_nat (j := 0) rfl, dO, _, rfl, .inl ⟨k3, .inr x, .inl e3, rfl, b3.symm⟩, b2, rfl, rfl, b4⟩
    intro σ' H' hN
    obtain ⟨a, rfl, rfl, ea⟩ := hN
    refine ⟨_, rfl, _, rfl, _, rfl, _, rfl, v1, dn, dl, dO, .pl lo, E, nn, ln, rfl, h1, st, o1, 0, lo.val E, rfl, ?_⟩
    rw [max0_eq]
    refine ⟨_, rfl, _, rfl, _, rfl, a, _, rfl, .inl (SqL.of ea), _, rfl, _, rfl, _, rfl, _, rfl, v2, dn, dl, dO, .pl hi, E, nn, ln, rfl, h2, st, o2, _, hi.val E, rfl, by show (3 : Nat) ≤ sizeLine; decide, fun t nt => ?_⟩
    have s1 := same_new (o := .tup [.ref a, .int ((lo.val E).toNat : Nat), .int (endI E hi (E.lst b x).length)]) nt
    have e1 : (if hi.val E < ((((E.lst b x).map V.int).length : Nat) : Int) then hi.val E else ((((E.lst b x).map V.int).length : Nat) : Int)) = endI E hi (E.lst b x).length := by
      rw [List.length_map]
      rfl
    rw [e1]
    exact q t a _ s1 upd_same (s1 _ _ ea)
end
end SW

namespace SW
open PySem PySem.Spec PyProof.Rows L2
abbrev s_l_true : Stmt := topS 20
theorem sc_l_true : FnScope ["promise", "numbers", "lists", "old", "kind", "cells", "first", "end", "right", "k", "other", "low", "high", "i", "j"] ["promise", "numbers", "lists", "old"] (defScope s_l_true) := ⟨rfl, rfl, rfl, by decide +kernel, rfl, by decide +kernel, by decide +kernel⟩

abbrev s_l_pairs_true : Stmt := topS 21
theorem sc_l_pairs_true : FnScope ["promise", "numbers", "lists", "old", "cells", "first", "end", "i", "j"] ["promise", "numbers", "lists", "old"] (defScope s_l_pairs_true) := ⟨rfl, rfl, rfl, by decide +kernel, rfl, by decide +kernel, by decide +kernel⟩

abbrev s_l_truth : Stmt := topS 22
theorem sc_l_truth : FnScope ["condition", "numbers", "lists", "old", "part"] ["condition", "numbers", "lists", "old"] (defScope s_l_truth) := ⟨rfl, rfl, rfl, by decide +kernel, rfl, by decide +kernel, by decide +kernel⟩

theorem cutI_len2 (l : List Int) (a e : Nat) : (cutI l a e).length = min (e - a) (l.length - a) := by
  unfold cutI
  rw [List.length_take, List.length_drop]
theorem cutI_getD (l : List Int) (a e i : Nat) (h : i < e - a) : (cutI l a e).getD i 0 = l.getD (a + i) 0 := by
  unfold cutI
  rw [List.getD_eq_getElem?_getD, List.getD_eq_getElem?_getD, List.getElem?_take_of_lt h, List.getElem?_drop]
theorem stI_len (E : Ev) (x : PySem.Str) (b : Bool) (lo hi : Pl) : (endI E hi (E.lst b x).length - ((frm E lo : Nat) : Int)).toNat = (stI E x b lo hi).length := by
  unfold stI
  rw [cutI_len2]
  unfold endI til
  split <;> omega
theorem cut_at {l : List Int} {a e i : Nat} (h : i < (cutI l a e).length) : atI (l.map V.int) ((a : Int) + (i : Nat)) = some (.int ((cutI l a e).getD i 0)) := by
  rw [cutI_len2] at h
  rw [cutI_getD _ _ _ _ (by omega), show ((a : Int) + (i : Nat)) = ((a + i : Nat) : Int) by omega, ints_at (by omega), List.getD_eq_getElem?_getD, List.getElem?_eq_getElem (by omega)]
  rfl
theorem st_at {E : Ev} {x : PySem.Str} {b : Bool} {lo hi : Pl} {i : Nat} (h : i < (stI E x b lo hi).length) : atI ((E.lst b x).map V.int) (((frm E lo : Nat) : Int) + (i : Nat)) = some (.int ((stI E x b lo hi).getD i 0)) := cut_at h
theorem mt_at {E : Ev} {x y : PySem.Str} {b d : Bool} {lo hi : Pl} {i : Nat} (h : i < (mtI E x b lo hi y d).length) : atI ((E.lst d y).map V.int) (((frm E lo : Nat) : Int) + (i : Nat)) = some (.int ((mtI E x b lo hi y d).getD i 0)) := cut_at h
theorem mt_len (E : Ev) (x y : PySem.Str) (b d : Bool) (lo hi : Pl) : ((if endI E hi (E.lst d y).length < endI E hi (E.lst b x).length then endI E hi (E.lst d y).length else endI E hi (E.lst b x).length) - ((frm E lo : Nat) : Int)).toNat = min (stI E x b lo hi).length (mtI E x b lo hi y d).length := by
  unfold stI mtI
  rw [cutI_len2, cutI_len2]
  unfold endI til
  (repeat' split) <;> omega
theorem blw_true {l m : List Int} (h : ∀ i, i < l.length → ∀ j, j < m.length → l.getD i 0 ≤ m.getD j 0) : blwI l m = true := by
  unfold blwI
  rw [List.all_eq_true]
  intro a ha
  rw [List.all_eq_true]
  intro b hb
  obtain ⟨i, hi, rfl⟩ := List.getElem_of_mem ha
  obtain ⟨j, hj, rfl⟩ := List.getElem_of_mem hb
  have := h i hi j hj
  rw [List.getD_eq_getElem?_getD, List.getD_eq_getElem?_getD, List.getElem?_eq_getElem hi, List.getElem?_eq_getElem hj] at this
  exact decide_eq_true this
theorem blw_false {l m : List Int} {i j : Nat} (hi : i < l.length) (hj : j < m.length) (h : l.getD i 0 > m.getD j 0) : blwI l m = false := by
  unfold blwI
  refine Bool.eq_false_iff.mpr fun e => ?_
  have := of_decide_eq_true (List.all_eq_true.mp (List.all_eq_true.mp e _ (List.getElem_mem hi)) _ (List.getElem_mem hj))
  rw [List.getD_eq_getElem?_getD, List.getD_eq_getElem?_getD, List.getElem?_eq_getElem hi, List.getElem?_eq_getElem hj] at h
  have h : l[i] > m[j] := h
  omega
theorem srt_true {l : List Int} (h : ∀ i j, i ≤ j → j < l.length → l.getD i 0 ≤ l.getD j 0) : srtI l = true := by
  unfold srtI
  rw [List.all_eq_true]
  intro i hi
  have := List.mem_range.mp hi
  exact decide_eq_true (h i (i + 1) (by omega) (by omega))
theorem srt_mono {l : List Int} (h : srtI l = true) (i : Nat) : ∀ k, i + k < l.length → l.getD i 0 ≤ l.getD (i + k) 0
  | 0, _ => Int.le_refl _
  | k + 1, hk => by
    have h1 := srt_mono h i k (by omega)
    unfold srtI at h
    have h2 := of_decide_eq_true (List.all_eq_true.mp h (i + k) (List.mem_range.mpr (by omega)))
    rw [show i + (k + 1) = i + k + 1 by omega]
    omega
theorem srt_false {l : List Int} {i j : Nat} (hij : i ≤ j) (hj : j < l.length) (h : l.getD i 0 > l.getD j 0) : srtI l = false := by
  refine Bool.eq_false_iff.mpr fun e => ?_
  obtain ⟨k, rfl⟩ : ∃ k, j = i + k := ⟨j - i, by omega⟩
  have := srt_mono e i k hj
  omega
def Pr.isS : Pr → Bool
  | .srt .. => true
  | _ => false
section
variable {P : Program} {w : World} {K : PySem.W.Frag} {mg : PySem.Str → Option Value} {base : Heap} {C : Addr}
def spLTrue (K : PySem.W.Frag) : Sp := fun vs H Q _ => ∃ (v : V) (dn dl dO : Addr) (c : Pr) (E : Ev) (nn ln : List PySem.Str), vs = [v, .ref dn, .ref dl, .ref dO] ∧ Dp K H v c.enc ∧ EvAt H dn dl dO E nn ln ∧ c.ok nn ln ∧ c.isS = false ∧ ∀ H', Same H H' → Q (.bl (c.tr E)) H'
theorem ok_l_true (T : TxS K mg C) (D_l_true : Df K mg "_law_true" s_l_true ["promise", "numbers", "lists", "old"]) (D_l_holds : Df K mg "_law_holds" s_l_holds ["comparison", "numbers", "lists", "old"]) (D_l_part : Df K mg "_law_part" s_l_part ["reference", "lo", "hi", "numbers", "lists", "old"]) (D_l_value : Df K mg "_law_value" s_l_value ["term", "numbers", "lists", "old"]) (D_l_compared : Df K mg "_law_compared" s_l_compared ["sign", "left", "right"]) (G_l_holds : FnOk P w K mg base CX0 4 D_l_holds.f D_l_holds.fd ["comparison", "numbers", "lists", "old"] (spLHolds K)) (G_l_part : FnOk P w K mg base CX0 4 D_l_part.f D_l_part.fd ["reference", "lo", "hi", "numbers", "lists", "old"] (spLPart K)) (G_l_value : FnOk P w K mg base CX0 3 D_l_value.f D_l_value.fd ["term", "numbers", "lists", "old"] (spLV K)) (G_l_compared : FnOk P w K mg base CX0 1 D_l_compared.f D_l_compared.fd ["sign", "left", "right"] spLCompared) : FnOk P w K mg base CX0 5 D_l_true.f D_l_true.fd ["promise", "numbers", "lists", "old"] (spLTrue K) := by
  refine D_l_true.F.ok sc_l_true (fun vs H Q E h => ?_) (fun cdv A outer s H vs Q E hr h => ?_)
  · obtain ⟨v, dn, dl, dO, c, E, nn, ln, rfl, _⟩ := h
    rfl
  · obtain ⟨v, dn, dl, dO, c, E, nn, ln, rfl, hv, st, ok, nS, q⟩ := h
    cases c with
    | srt x b lo hi => cases nS
    | cmp c =>
      refine ⟨_, (pss_cons (ps_set (i := 4) sc_l_true.nd rfl (.inl rfl) (pe_ix ix_tup (pv 0) pe_int (fun _ _ => rfl)))
    (pss_cons (ps_if (pt_cmpR op_eq (pv 4) pe_str (nomark _))
    (pss_one (ps_ret (pe_call G_l_holds (hr.mono (by decide)) (by rfl) D_l_holds.g D_l_holds.F.kp D_l_holds.b .nil pass0 (pa_cons (pv 0) (pa_cons (pv 1) (pa_cons (pv 2) (pa_cons (pv 3) pa_nil)))))))
    pss_nil)
    (pss_cons (ps_if (pt_cmpR op_eq (pv 4) pe_str (nomark _))
    (pss_one (ps_ret (pe_or (pe_call G_l_holds (hr.mono (by decide)) (by rfl) D_l_holds.g D_l_holds.F.kp D_l_holds.b .nil pass0 (pa_cons (pe_ix ix_tup (pv 0) pe_int (fun _ _ => rfl)) (pa_cons (pv 1) (pa_cons (pv 2) (pa_cons (pv 3) pa_nil))))) (pe_one (pe_call G_l_holds (hr.mono (by decide)) (by rfl) D_l_holds.g D_l_holds.F.kp D_l_holds.b .nil pass0 (pa_cons (pe_ix ix_tup (pv 0) pe_int (fun _ _ => rfl)) (pa_cons (pv 1) (pa_cons (pv 2) (pa_cons (pv 3) pa_nil)))))))))
    pss_nil)
    (pss_cons (ps_asg (pe_call G_l_part (hr.mono (by decide)) (by rfl) D_l_part.g D_l_part.F.kp D_l_part.b .nil pass0 (pa_cons (pe_ix ix_tup (pv 0) pe_int (fun _ _ => rfl)) (pa_cons (pe_ix ix_tup (pv 0) pe_int (fun _ _ => rfl)) (pa_cons (pe_ix ix_tup (pv 0) pe_int (fun _ _ => rfl)) (pa_cons (pv 1) (pa_cons (pv 2) (pa_cons (pv 3) pa_nil))))))) (pg_tup (by rfl) (pgs_cons (pg_name (i := 5) sc_l_true.nd rfl (.inr rfl)) (pgs_cons (pg_name (i := 6) sc_l_true.nd rfl (.inl rfl)) (pgs_cons (pg_name (i := 7) sc_l_true.nd rfl (.inl rfl)) pgs_nil)))))
    (pss_cons (ps_if (pt_cmpR op_eq (pv 4) pe_str (nomark _))
    (pss_cons (ps_set (i := 8) sc_l_true.nd rfl (.inr rfl) (pe_call G_l_value (hr.mono (by decide)) (by rfl) D_l_value.g D_l_value.F.kp D_l_value.b .nil pass0 (pa_cons (pe_ix ix_tup (pv 0) pe_int (fun _ _ => rfl)) (pa_cons (pv 1) (pa_cons (pv 2) (pa_cons (pv 3) pa_nil))))))
    (pss_one (ps_ret (pe_callB (cr_all rfl) (by rfl) T.n_all (by decide +kernel) (pa_cons (pe_lc (own := [("k", 9)]) (g := gName 9) (by rfl) sc_l_true.nd (pi_rangeL (by rfl) T.n_range (pa_cons (pv 6) (pa_cons (pv 7) pa_nil))) (blkOk_by (own := [("k", 9)]) (N := ["promise", "numbers", "lists", "old", "kind", "cells", "first", "end", "right", "k", "other", "low", "high", "i", "j"]) (sc := defScope s_l_true) (by decide +kernel)) (fun _ _ _ _ _ => pg_name (i := 9) sc_l_true.nd rfl (Or.inl rfl)) (fun _ _ _ _ _ => pts_nil) (fun _ _ _ _ _ => (pe_call G_l_compared (hr.mono (by decide)) (by rfl) D_l_compared.g D_l_compared.F.kp D_l_compared.b .nil pass0 (pa_cons (pe_ix (show IxR _ (rIxT K) from ix_tup) (pv 0) pe_int (fun _ _ => rfl)) (pa_cons (pe_ix (show IxR _ (rIxL K) from ix_list) (pv 5) (pv 9) (fun _ _ => rfl)) (pa_cons (pv 8) pa_nil)))))) pa_nil)))))
    pss_nil)
    (pss_cons (ps_if (pt_cmpR op_eq (pv 4) pe_str (nomark _))
    (pss_cons (ps_set (i := 10) sc_l_true.nd rfl (.inr rfl) (pe_call G_l_part (hr.mono (by decide)) (by rfl) D_l_part.g D_l_part.F.kp D_l_part.b .nil pass0 (pa_cons (pe_ix ix_tup (pv 0) pe_int (fun _ _ => rfl)) (pa_cons (pe_ix ix_tup (pv 0) pe_int (fun _ _ => rfl)) (pa_cons (pe_ix ix_tup (pv 0) pe_int (fun _ _ => rfl)) (pa_cons (pv 1) (pa_cons (pv 2) (pa_cons (pv 3) pa_nil))))))))
    (pss_cons (ps_set (i := 7) sc_l_true.nd rfl (.inl rfl) (pe_callB (call_min2 rfl) (by rfl) T.n_min (by decide +kernel) (pa_cons (pv 7) (pa_cons (pe_ix ix_tup (pv 10) pe_int (fun _ _ => rfl)) pa_nil))))
    (pss_one (ps_ret (pe_callB (cr_all rfl) (by rfl) T.n_all (by decide +kernel) (pa_cons (pe_lc (own := [("k", 9)]) (g := gName 9) (by rfl) sc_l_true.nd (pi_rangeL (by rfl) T.n_range (pa_cons (pv 6) (pa_cons (pv 7) pa_nil))) (blkOk_by (own := [("k", 9)]) (N := ["promise", "numbers", "lists", "old", "kind", "cells", "first", "end", "right", "k", "other", "low", "high", "i", "j"]) (sc := defScope s_l_true) (by decide +kernel)) (fun _ _ _ _ _ => pg_name (i := 9) sc_l_true.nd rfl (Or.inl rfl)) (fun _ _ _ _ _ => pts_nil) (fun _ _ _ _ _ => (pe_call G_l_compared (hr.mono (by decide)) (by rfl) D_l_compared.g D_l_compared.F.kp D_l_compared.b .nil pass0 (pa_cons (pe_ix (show IxR _ (rIxT K) from ix_tup) (pv 0) pe_int (fun _ _ => rfl)) (pa_cons (pe_ix (show IxR _ (rIxL K) from ix_list) (pv 5) (pv 9) (fun _ _ => rfl)) (pa_cons (pe_op op_add (pe_ix (show IxR _ (rIxL K) from ix_list) (pe_ix (show IxR _ (rIxT K) from ix_tup) (pv 10) pe_int (fun _ _ => rfl)) (pv 9) (fun _ _ => rfl)) (pe_ix (show IxR _ (rIxT K) from ix_tup) (pv 0) pe_int (fun _ _ => rfl))) pa_nil)))))) pa_nil))))))
    pss_nil)
    (pss_cons (ps_if (pt_cmpR op_eq (pv 4) pe_str (nomark _))
    (pss_one (ps_ret (pe_callB (cr_all rfl) (by rfl) T.n_all (by decide +kernel) (pa_cons (pe_lc (own := [("k", 9)]) (g := gName 9) (by rfl) sc_l_true.nd (pi_rangeL (by rfl) T.n_range (pa_cons (pv 6) (pa_cons (pe_op op_sub (pv 7) pe_int) pa_nil))) (blkOk_by (own := [("k", 9)]) (N := ["promise", "numbers", "lists", "old", "kind", "cells", "first", "end", "right", "k", "other", "low", "high", "i", "j"]) (sc := defScope s_l_true) (by decide +kernel)) (fun _ _ _ _ _ => pg_name (i := 9) sc_l_true.nd rfl (Or.inl rfl)) (fun _ _ _ _ _ => pts_nil) (fun _ _ _ _ _ => (pe_cmpR op_le (pe_ix (show IxR _ (rIxL K) from ix_list) (pv 5) (pv 9) (fun _ _ => rfl)) (pe_ix (show IxR _ (rIxL K) from ix_list) (pv 5) (pe_op op_add (pv 9) pe_int) (fun _ _ => rfl)) (nomark _)))) pa_nil))))
    pss_nil)
    (pss_cons (ps_asg (pe_call G_l_part (hr.mono (by decide)) (by rfl) D_l_part.g D_l_part.F.kp D_l_part.b .nil pass0 (pa_cons (pe_ix ix_tup (pv 0) pe_int (fun _ _ => rfl)) (pa_cons (pe_ix ix_tup (pv 0) pe_int (fun _ _ => rfl)) (pa_cons (pe_ix ix_tup (pv 0) pe_int (fun _ _ => rfl)) (pa_cons (pv 1) (pa_cons (pv 2) (pa_cons (pv 3) pa_nil))))))) (pg_tup (by rfl) (pgs_cons (pg_name (i := 10) sc_l_true.nd rfl (.inr rfl)) (pgs_cons (pg_name (i := 11) sc_l_true.nd rfl (.inl rfl)) (pgs_cons (pg_name (i := 12) sc_l_true.nd rfl (.inl rfl)) pgs_nil)))))
    (pss_cons (ps_for PassesOwn.never rfl (pi_rangeL (by rfl) T.n_range (pa_cons (pv 6) (pa_cons (pv 7) pa_nil))) (pg_name (i := 13) sc_l_true.nd rfl (.inl rfl))
    (pss_one (ps_for PassesOwn.never rfl (pi_rangeL (by rfl) T.n_range (pa_cons (pv 11) (pa_cons (pv 12) pa_nil))) (pg_name (i := 14) sc_l_true.nd rfl (.inl rfl))
    (pss_one (ps_if (pt_cmpR op_gt (pe_ix ix_list (pv 5) (pv 13) (fun _ _ => rfl)) (pe_ix ix_tup (pv 10) (pv 14) (fun _ _ => rfl)) (nomark _))
    (pss_one (ps_ret pe_bl))
    pss_nil)))))
    (pss_one (ps_ret pe_bl))))))))))), ?_⟩
      have hv' := hv
      obtain ⟨t, v1, v2, v3, v4, rfl, ht, h1, _⟩ := dp_inv4 hv'
      cases dp_str_inv h1
      refine ⟨_, rfl, t, _, _, _, rfl, rfl, ht, atI_nat (j := 0) rfl, ?_⟩
      exact ⟨_, rfl, rfl, _, rfl, iteT ⟨_, rfl, _, rfl, _, rfl, _, rfl, _, dn, dl, dO, c, E, nn, ln, rfl, hv, st, ok, q⟩⟩
    | either a b =>
      refine ⟨_, (pss_cons (ps_set (i := 4) sc_l_true.nd rfl (.inl rfl) (pe_ix ix_tup (pv 0) pe_int (fun _ _ => rfl)))
    (pss_cons (ps_if (pt_cmpR op_eq (pv 4) pe_str (nomark _))
    (pss_one (ps_ret (pe_call G_l_holds (hr.mono (by decide)) (by rfl) D_l_holds.g D_l_holds.F.kp D_l_holds.b .nil pass0 (pa_cons (pv 0) (pa_cons (pv 1) (pa_cons (pv 2) (pa_cons (pv 3) pa_nil)))))))
    pss_nil)
    (pss_cons (ps_if (pt_cmpR op_eq (pv 4) pe_str (nomark _))
    (pss_one (ps_ret (pe_or (pe_call G_l_holds (hr.mono (by decide)) (by rfl) D_l_holds.g D_l_holds.F.kp D_l_holds.b .nil pass0 (pa_cons (pe_ix ix_tup (pv 0) pe_int (fun _ _ => rfl)) (pa_cons (pv 1) (pa_cons (pv 2) (pa_cons (pv 3) pa_nil))))) (pe_one (pe_call G_l_holds (hr.mono (by decide)) (by rfl) D_l_holds.g D_l_holds.F.kp D_l_holds.b .nil pass0 (pa_cons (pe_ix ix_tup (pv 0) pe_int (fun _ _ => rfl)) (pa_cons (pv 1) (pa_cons (pv 2) (pa_cons (pv 3) pa_nil)))))))))
    pss_nil)
    (pss_cons (ps_asg (pe_call G_l_part (hr.mono (by decide)) (by rfl) D_l_part.g D_l_part.F.kp D_l_part.b .nil pass0 (pa_cons (pe_ix ix_tup (pv 0) pe_int (fun _ _ => rfl)) (pa_cons (pe_ix ix_tup (pv 0) pe_int (fun _ _ => rfl)) (pa_cons (pe_ix ix_tup (pv 0) pe_int (fun _ _ => rfl)) (pa_cons (pv 1) (pa_cons (pv 2) (pa_cons (pv 3) pa_nil))))))) (pg_tup (by rfl) (pgs_cons (pg_name (i := 5) sc_l_true.nd rfl (.inr rfl)) (pgs_cons (pg_name (i := 6) sc_l_true.nd rfl (.inl rfl)) (pgs_cons (pg_name (i := 7) sc_l_true.nd rfl (.inl rfl)) pgs_nil)))))
    (pss_cons (ps_if (pt_cmpR op_eq (pv 4) pe_str (nomark _))
    (pss_cons (ps_set (i := 8) sc_l_true.nd rfl (.inr rfl) (pe_call G_l_value (hr.mono (by decide)) (by rfl) D_l_value.g D_l_value.F.kp D_l_value.b .nil pass0 (pa_cons (pe_ix ix_tup (pv 0) pe_int (fun _ _ => rfl)) (pa_cons (pv 1) (pa_cons (pv 2) (pa_cons (pv 3) pa_nil))))))
    (pss_one (ps_ret (pe_callB (cr_all rfl) (by rfl) T.n_all (by decide +kernel) (pa_cons (pe_lc (own := [("k", 9)]) (g := gName 9) (by rfl) sc_l_true.nd (pi_rangeL (by rfl) T.n_range (pa_cons (pv 6) (pa_cons (pv 7) pa_nil))) (blkOk_by (own := [("k", 9)]) (N := ["promise", "numbers", "lists", "old", "kind", "cells", "first", "end", "right", "k", "other", "low", "high", "i", "j"]) (sc := defScope s_l_true) (by decide +kernel)) (fun _ _ _ _ _ => pg_name (i := 9) sc_l_true.nd rfl (Or.inl rfl)) (fun _ _ _ _ _ => pts_nil) (fun _ _ _ _ _ => (pe_call G_l_compared (hr.mono (by decide)) (by rfl) D_l_compared.g D_l_compared.F.kp D_l_compared.b .nil pass0 (pa_cons (pe_ix (show IxR _ (rIxT K) from ix_tup) (pv 0) pe_int (fun _ _ => rfl)) (pa_cons (pe_ix (show IxR _ (rIxL K) from ix_list) (pv 5) (pv 9) (fun _ _ => rfl)) (pa_cons (pv 8) pa_nil)))))) pa_nil)))))
    pss_nil)
    (pss_cons (ps_if (pt_cmpR op_eq (pv 4) pe_str (nomark _))
    (pss_cons (ps_set (i := 10) sc_l_true.nd rfl (.inr rfl) (pe_call G_l_part (hr.mono (by decide)) (by rfl) D_l_part.g D_l_part.F.kp D_l_part.b .nil pass0 (pa_cons (pe_ix ix_tup (pv 0) pe_int (fun _ _ => rfl)) (pa_cons (pe_ix ix_tup (pv 0) pe_int (fun _ _ => rfl)) (pa_cons (pe_ix ix_tup (pv 0) pe_int (fun _ _ => rfl)) (pa_cons (pv 1) (pa_cons (pv 2) (pa_cons (pv 3) pa_nil))))))))
    (pss_cons (ps_set (i := 7) sc_l_true.nd rfl (.inl rfl) (pe_callB (call_min2 rfl) (by rfl) T.n_min (by decide +kernel) (pa_cons (pv 7) (pa_cons (pe_ix ix_tup (pv 10) pe_int (fun _ _ => rfl)) pa_nil))))
    (pss_one (ps_ret (pe_callB (cr_all rfl) (by rfl) T.n_all (by decide +kernel) (pa_cons (pe_lc (own := [("k", 9)]) (g := gName 9) (by rfl) sc_l_true.nd (pi_rangeL (by rfl) T.n_range (pa_cons (pv 6) (pa_cons (pv 7) pa_nil))) (blkOk_by (own := [("k", 9)]) (N := ["promise", "numbers", "lists", "old", "kind", "cells", "first", "end", "right", "k", "other", "low", "high", "i", "j"]) (sc := defScope s_l_true) (by decide +kernel)) (fun _ _ _ _ _ => pg_name (i := 9) sc_l_true.nd rfl (Or.inl rfl)) (fun _ _ _ _ _ => pts_nil) (fun _ _ _ _ _ => (pe_call G_l_compared (hr.mono (by decide)) (by rfl) D_l_compared.g D_l_compared.F.kp D_l_compared.b .nil pass0 (pa_cons (pe_ix (show IxR _ (rIxT K) from ix_tup) (pv 0) pe_int (fun _ _ => rfl)) (pa_cons (pe_ix (show IxR _ (rIxL K) from ix_list) (pv 5) (pv 9) (fun _ _ => rfl)) (pa_cons (pe_op op_add (pe_ix (show IxR _ (rIxL K) from ix_list) (pe_ix (show IxR _ (rIxT K) from ix_tup) (pv 10) pe_int (fun _ _ => rfl)) (pv 9) (fun _ _ => rfl)) (pe_ix (show IxR _ (rIxT K) from ix_tup) (pv 0) pe_int (fun _ _ => rfl))) pa_nil)))))) pa_nil))))))
    pss_nil)
    (pss_cons (ps_if (pt_cmpR op_eq (pv 4) pe_str (nomark _))
    (pss_one (ps_ret (pe_callB (cr_all rfl) (by rfl) T.n_all (by decide +kernel) (pa_cons (pe_lc (own := [("k", 9)]) (g := gName 9) (by rfl) sc_l_true.nd (pi_rangeL (by rfl) T.n_range (pa_cons (pv 6) (pa_cons (pe_op op_sub (pv 7) pe_int) pa_nil))) (blkOk_by (own := [("k", 9)]) (N := ["promise", "numbers", "lists", "old", "kind", "cells", "first", "end", "right", "k", "other", "low", "high", "i", "j"]) (sc := defScope s_l_true) (by decide +kernel)) (fun _ _ _ _ _ => pg_name (i := 9) sc_l_true.nd rfl (Or.inl rfl)) (fun _ _ _ _ _ => pts_nil) (fun _ _ _ _ _ => (pe_cmpR op_le (pe_ix (show IxR _ (rIxL K) from ix_list) (pv 5) (pv 9) (fun _ _ => rfl)) (pe_ix (show IxR _ (rIxL K) from ix_list) (pv 5) (pe_op op_add (pv 9) pe_int) (fun _ _ => rfl)) (nomark _)))) pa_nil))))
    pss_nil)
    (pss_cons (ps_asg (pe_call G_l_part (hr.mono (by decide)) (by rfl) D_l_part.g D_l_part.F.kp D_l_part.b .nil pass0 (pa_cons (pe_ix ix_tup (pv 0) pe_int (fun _ _ => rfl)) (pa_cons (pe_ix ix_tup (pv 0) pe_int (fun _ _ => rfl)) (pa_cons (pe_ix ix_tup (pv 0) pe_int (fun _ _ => rfl)) (pa_cons (pv 1) (pa_cons (pv 2) (pa_cons (pv 3) pa_nil))))))) (pg_tup (by rfl) (pgs_cons (pg_name (i := 10) sc_l_true.nd rfl (.inr rfl)) (pgs_cons (pg_name (i := 11) sc_l_true.nd rfl (.inl rfl)) (pgs_cons (pg_name (i := 12) sc_l_true.nd rfl (.inl rfl)) pgs_nil)))))
    (pss_cons (ps_for PassesOwn.never rfl (pi_rangeL (by rfl) T.n_range (pa_cons (pv 6) (pa_cons (pv 7) pa_nil))) (pg_name (i := 13) sc_l_true.nd rfl (.inl rfl))
    (pss_one (ps_for PassesOwn.never rfl (pi_rangeL (by rfl) T.n_range (pa_cons (pv 11) (pa_cons (pv 12) pa_nil))) (pg_name (i := 14) sc_l_true.nd rfl (.inl rfl))
    (pss_one (ps_if (pt_cmpR op_gt (pe_ix ix_list (pv 5) (pv 13) (fun _ _ => rfl)) (pe_ix ix_tup (pv 10) (pv 14) (fun _ _ => rfl)) (nomark _))
    (pss_one (ps_ret pe_bl))
    pss_nil)))))
    (pss_one (ps_ret pe_bl))))))))))), ?_⟩
      obtain ⟨t, v1, v2, v3, rfl, ht, h1, h2, h3⟩ := dp_inv3 hv
      cases dp_str_inv h1
      refine ⟨_, rfl, t, _, _, _, rfl, rfl, ht, atI_nat (j := 0) rfl, ?_⟩
      refine ⟨_, rfl, rfl, _, rfl, iteF ⟨_, rfl, rfl, _, rfl, iteT ?_⟩⟩
      refine ⟨_, rfl, t, _, _, _, rfl, rfl, ht, atI_nat (j := 1) rfl, _, rfl, _, rfl, _, rfl, v2, dn, dl, dO, a, E, nn, ln, rfl, h2, st, ok.1, fun H1 s1 => ⟨_, rfl, ?_⟩⟩
      have q1 : ∀ H', Same H H' → Q (.bl (a.tr E || b.tr E)) H' := q
      cases h : a.tr E with
      | true =>
        rw [h] at q1
        exact iteT (q1 H1 s1)
      | false =>
        rw [h, Bool.false_or] at q1
        exact iteF ⟨_, rfl, t, _, _, _, rfl, rfl, sqt_same s1 ht, atI_nat (j := 2) rfl, _, rfl, _, rfl, _, rfl, v3, dn, dl, dO, b, E, nn, ln, rfl, h3.same s1, st.same s1, ok.2, fun H2 s2 => q1 H2 (s1.trans s2)⟩
    | all x b lo hi z r =>
      refine ⟨_, (pss_cons (ps_set (i := 4) sc_l_true.nd rfl (.inl rfl) (pe_ix ix_tup (pv 0) pe_int (fun _ _ => rfl)))
    (pss_cons (ps_if (pt_cmpR op_eq (pv 4) pe_str (nomark _))
    (pss_one (ps_ret (pe_call G_l_holds (hr.mono (by decide)) (by rfl) D_l_holds.g D_l_holds.F.kp D_l_holds.b .nil pass0 (pa_cons (pv 0) (pa_cons (pv 1) (pa_cons (pv 2) (pa_cons (pv 3) pa_nil)))))))
    pss_nil)
    (pss_cons (ps_if (pt_cmpR op_eq (pv 4) pe_str (nomark _))
    (pss_one (ps_ret (pe_or (pe_call G_l_holds (hr.mono (by decide)) (by rfl) D_l_holds.g D_l_holds.F.kp D_l_holds.b .nil pass0 (pa_cons (pe_ix ix_tup (pv 0) pe_int (fun _ _ => rfl)) (pa_cons (pv 1) (pa_cons (pv 2) (pa_cons (pv 3) pa_nil))))) (pe_one (pe_call G_l_holds (hr.mono (by decide)) (by rfl) D_l_holds.g D_l_holds.F.kp D_l_holds.b .nil pass0 (pa_cons (pe_ix ix_tup (pv 0) pe_int (fun _ _ => rfl)) (pa_cons (pv 1) (pa_cons (pv 2) (pa_cons (pv 3) pa_nil)))))))))
    pss_nil)
    (pss_cons (ps_asg (pe_call G_l_part (hr.mono (by decide)) (by rfl) D_l_part.g D_l_part.F.kp D_l_part.b .nil pass0 (pa_cons (pe_ix ix_tup (pv 0) pe_int (fun _ _ => rfl)) (pa_cons (pe_ix ix_tup (pv 0) pe_int (fun _ _ => rfl)) (pa_cons (pe_ix ix_tup (pv 0) pe_int (fun _ _ => rfl)) (pa_cons (pv 1) (pa_cons (pv 2) (pa_cons (pv 3) pa_nil))))))) (pg_tup (by rfl) (pgs_cons (pg_name (i := 5) sc_l_true.nd rfl (.inr rfl)) (pgs_cons (pg_name (i := 6) sc_l_true.nd rfl (.inl rfl)) (pgs_cons (pg_name (i := 7) sc_l_true.nd rfl (.inl rfl)) pgs_nil)))))
    (pss_cons (ps_if (pt_cmpR op_eq (pv 4) pe_str (nomark _))
    (pss_cons (ps_set (i := 8) sc_l_true.nd rfl (.inr rfl) (pe_call G_l_value (hr.mono (by decide)) (by rfl) D_l_value.g D_l_value.F.kp D_l_value.b .nil pass0 (pa_cons (pe_ix ix_tup (pv 0) pe_int (fun _ _ => rfl)) (pa_cons (pv 1) (pa_cons (pv 2) (pa_cons (pv 3) pa_nil))))))
    (pss_one (ps_ret (pe_callB (cr_all rfl) (by rfl) T.n_all (by decide +kernel) (pa_cons (pe_lc (own := [("k", 9)]) (g := gName 9) (by rfl) sc_l_true.nd (pi_rangeL (by rfl) T.n_range (pa_cons (pv 6) (pa_cons (pv 7) pa_nil))) (blkOk_by (own := [("k", 9)]) (N := ["promise", "numbers", "lists", "old", "kind", "cells", "first", "end", "right", "k", "other", "low", "high", "i", "j"]) (sc := defScope s_l_true) (by decide +kernel)) (fun _ _ _ _ _ => pg_name (i := 9) sc_l_true.nd rfl (Or.inl rfl)) (fun _ _ _ _ _ => pts_nil) (fun _ _ _ _ _ => (pe_call G_l_compared (hr.mono (by decide)) (by rfl) D_l_compared.g D_l_compared.F.kp D_l_compared.b .nil pass0 (pa_cons (pe_ix (show IxR _ (rIxT K) from ix_tup) (pv 0) pe_int (fun _ _ => rfl)) (pa_cons (pe_ix (show IxR _ (rIxL K) from ix_list) (pv 5) (pv 9) (fun _ _ => rfl)) (pa_cons (pv 8) pa_nil)))))) pa_nil)))))
    pss_nil)
    (pss_cons (ps_if (pt_cmpR op_eq (pv 4) pe_str (nomark _))
    (pss_cons (ps_set (i := 10) sc_l_true.nd rfl (.inr rfl) (pe_call G_l_part (hr.mono (by decide)) (by rfl) D_l_part.g D_l_part.F.kp D_l_part.b .nil pass0 (pa_cons (pe_ix ix_tup (pv 0) pe_int (fun _ _ => rfl)) (pa_cons (pe_ix ix_tup (pv 0) pe_int (fun _ _ => rfl)) (pa_cons (pe_ix ix_tup (pv 0) pe_int (fun _ _ => rfl)) (pa_cons (pv 1) (pa_cons (pv 2) (pa_cons (pv 3) pa_nil))))))))
    (pss_cons (ps_set (i := 7) sc_l_true.nd rfl (.inl rfl) (pe_callB (call_min2 rfl) (by rfl) T.n_min (by decide +kernel) (pa_cons (pv 7) (pa_cons (pe_ix ix_tup (pv 10) pe_int (fun _ _ => rfl)) pa_nil))))
    (pss_one (ps_ret (pe_callB (cr_all rfl) (by rfl) T.n_all (by decide +kernel) (pa_cons (pe_lc (own := [("k", 9)]) (g := gName 9) (by rfl) sc_l_true.nd (pi_rangeL (by rfl) T.n_range (pa_cons (pv 6) (pa_cons (pv 7) pa_nil))) (blkOk_by (own := [("k", 9)]) (N := ["promise", "numbers", "lists", "old", "kind", "cells", "first", "end", "right", "k", "other", "low", "high", "i", "j"]) (sc := defScope s_l_true) (by decide +kernel)) (fun _ _ _ _ _ => pg_name (i := 9) sc_l_true.nd rfl (Or.inl rfl)) (fun _ _ _ _ _ => pts_nil) (fun _ _ _ _ _ => (pe_call G_l_compared (hr.mono (by decide)) (by rfl) D_l_compared.g D_l_compared.F.kp D_l_compared.b .nil pass0 (pa_cons (pe_ix (show IxR _ (rIxT K) from ix_tup) (pv 0) pe_int (fun _ _ => rfl)) (pa_cons (pe_ix (show IxR _ (rIxL K) from ix_list) (pv 5) (pv 9) (fun _ _ => rfl)) (pa_cons (pe_op op_add (pe_ix (show IxR _ (rIxL K) from ix_list) (pe_ix (show IxR _ (rIxT K) from ix_tup) (pv 10) pe_int (fun _ _ => rfl)) (pv 9) (fun _ _ => rfl)) (pe_ix (show IxR _ (rIxT K) from ix_tup) (pv 0) pe_int (fun _ _ => rfl))) pa_nil)))))) pa_nil))))))
    pss_nil)
    (pss_cons (ps_if (pt_cmpR op_eq (pv 4) pe_str (nomark _))
    (pss_one (ps_ret (pe_callB (cr_all rfl) (by rfl) T.n_all (by decide +kernel) (pa_cons (pe_lc (own := [("k", 9)]) (g := gName 9) (by rfl) sc_l_true.nd (pi_rangeL (by rfl) T.n_range (pa_cons (pv 6) (pa_cons (pe_op op_sub (pv 7) pe_int) pa_nil))) (blkOk_by (own := [("k", 9)]) (N := ["promise", "numbers", "lists", "old", "kind", "cells", "first", "end", "right", "k", "other", "low", "high", "i", "j"]) (sc := defScope s_l_true) (by decide +kernel)) (fun _ _ _ _ _ => pg_name (i := 9) sc_l_true.nd rfl (Or.inl rfl)) (fun _ _ _ _ _ => pts_nil) (fun _ _ _ _ _ => (pe_cmpR op_le (pe_ix (show IxR _ (rIxL K) from ix_list) (pv 5) (pv 9) (fun _ _ => rfl)) (pe_ix (show IxR _ (rIxL K) from ix_list) (pv 5) (pe_op op_add (pv 9) pe_int) (fun _ _ => rfl)) (nomark _)))) pa_nil))))
    pss_nil)
    (pss_cons (ps_asg (pe_call G_l_part (hr.mono (by decide)) (by rfl) D_l_part.g D_l_part.F.kp D_l_part.b .nil pass0 (pa_cons (pe_ix ix_tup (pv 0) pe_int (fun _ _ => rfl)) (pa_cons (pe_ix ix_tup (pv 0) pe_int (fun _ _ => rfl)) (pa_cons (pe_ix ix_tup (pv 0) pe_int (fun _ _ => rfl)) (pa_cons (pv 1) (pa_cons (pv 2) (pa_cons (pv 3) pa_nil))))))) (pg_tup (by rfl) (pgs_cons (pg_name (i := 10) sc_l_true.nd rfl (.inr rfl)) (pgs_cons (pg_name (i := 11) sc_l_true.nd rfl (.inl rfl)) (pgs_cons (pg_name (i := 12) sc_l_true.nd rfl (.inl rfl)) pgs_nil)))))
    (pss_cons (ps_for PassesOwn.never rfl (pi_rangeL (by rfl) T.n_range (pa_cons (pv 6) (pa_cons (pv 7) pa_nil))) (pg_name (i := 13) sc_l_true.nd rfl (.inl rfl))
    (pss_one (ps_for PassesOwn.never rfl (pi_rangeL (by rfl) T.n_range (pa_cons (pv 11) (pa_cons (pv 12) pa_nil))) (pg_name (i := 14) sc_l_true.nd rfl (.inl rfl))
    (pss_one (ps_if (pt_cmpR op_gt (pe_ix ix_list (pv 5) (pv 13) (fun _ _ => rfl)) (pe_ix ix_tup (pv 10) (pv 14) (fun _ _ => rfl)) (nomark _))
    (pss_one (ps_ret pe_bl))
    pss_nil)))))
    (pss_one (ps_ret pe_bl))))))))))), ?_⟩
      obtain ⟨t, v1, v2, v3, v4, v5, v6, rfl, ht, h1, h2, h3, h4, h5, h6⟩ := dp_inv6 hv
      obtain ⟨o1, o2, o3, o4, o5⟩ := ok
      cases dp_str_inv h1
      cases dp_str_inv h5
      refine ⟨_, rfl, t, _, _, _, rfl, rfl, ht, atI_nat (j := 0) rfl, ?_⟩
      refine ⟨_, rfl, rfl, _, rfl, iteF ⟨_, rfl, rfl, _, rfl, iteF ?_⟩⟩
      refine ⟨_, rfl, t, _, _, _, rfl, rfl, ht, atI_nat (j := 1) rfl, _, rfl, t, _, _, _, rfl, rfl, ht, atI_nat (j := 2) rfl, _, rfl, t, _, _, _, rfl, rfl, ht, atI_nat (j := 3) rfl, _, rfl, _, rfl, _, rfl, v2, v3, v4, dn, dl, dO, x, b, lo, hi, E, nn, ln, rfl, h2, h3, h4, st, o1, o2, o3, fun t2 a H1 s1 e1 ea => ?_⟩
      refine ⟨t2, _, rfl, SqT.of e1, rfl, _, _, rfl, _, _, rfl, _, _, rfl, rfl, ?_⟩
      refine ⟨_, rfl, rfl, _, rfl, iteT ?_⟩
      refine ⟨_, rfl, t, _, _, _, rfl, rfl, sqt_same s1 ht, atI_nat (j := 5) rfl, _, rfl, _, rfl, _, rfl, v6, dn, dl, dO, .pl r, E, nn, ln, rfl, h6.same s1, st.same s1, o5, ?_⟩
      refine ⟨_, rfl, _, rfl, _, _, rfl, fun D hD => ?_⟩
      have sz : (stI E x b lo hi).length ≤ 100 := Nat.le_trans (cutI_len _ _ _) (st.sz b x o1)
      rw [stI_len]
      refine lc_vals (walk_range (lo := ((frm E lo : Nat) : Int)) (n := (stI E x b lo hi).length)) hD (fun i => .bl (cmpI z ((stI E x b lo hi).getD i 0) (r.val E))) (by omega) (fun _ _ => trivial) (fun i x4 H4 H5 Q' hi4 s4 y q' => ?_) (fun H4 s4 e4 => ?_)
      · obtain ⟨rfl, rfl⟩ := y
        exact ⟨rfl, _, rfl, t, _, _, _, rfl, rfl, sqt_same (s1.trans s4) ht, atI_nat (j := 4) rfl, _, rfl, _, rfl, a, _, _, _, rfl, rfl, SqL.of (s4 _ _ ea), st_at hi4, _, rfl, z, _, _, rfl, o4, fun H6 s6 => q' H6 s6⟩
      · rw [bl_map] at e4
        refine ⟨D, _, rfl, SqL.of e4, ?_⟩
        rw [all_mapB, all_getD (stI E x b lo hi) fun v => cmpI z v (r.val E)]
        exact q _ (s1.trans s4)
    | mtch x b lo hi z y d pp =>
      refine ⟨_, (pss_cons (ps_set (i := 4) sc_l_true.nd rfl (.inl rfl) (pe_ix ix_tup (pv 0) pe_int (fun _ _ => rfl)))
    (pss_cons (ps_if (pt_cmpR op_eq (pv 4) pe_str (nomark _))
    (pss_one (ps_ret (pe_call G_l_holds (hr.mono (by decide)) (by rfl) D_l_holds.g D_l_holds.F.kp D_l_holds.b .nil pass0 (pa_cons (pv 0) (pa_cons (pv 1) (pa_cons (pv 2) (pa_cons (pv 3) pa_nil)))))))
    pss_nil)
    (pss_cons (ps_if (pt_cmpR op_eq (pv 4) pe_str (nomark _))
    (pss_one (ps_ret (pe_or (pe_call G_l_holds (hr.mono (by decide)) (by rfl) D_l_holds.g D_l_holds.F.kp D_l_holds.b .nil pass0 (pa_cons (pe_ix ix_tup (pv 0) pe_int (fun _ _ => rfl)) (pa_cons (pv 1) (pa_cons (pv 2) (pa_cons (pv 3) pa_nil))))) (pe_one (pe_call G_l_holds (hr.mono (by decide)) (by rfl) D_l_holds.g D_l_holds.F.kp D_l_holds.b .nil pass0 (pa_cons (pe_ix ix_tup (pv 0) pe_int (fun _ _ => rfl)) (pa_cons (pv 1) (pa_cons (pv 2) (pa_cons (pv 3) pa_nil)))))))))
    pss_nil)
    (pss_cons (ps_asg (pe_call G_l_part (hr.mono (by decide)) (by rfl) D_l_part.g D_l_part.F.kp D_l_part.b .nil pass0 (pa_cons (pe_ix ix_tup (pv 0) pe_int (fun _ _ => rfl)) (pa_cons (pe_ix ix_tup (pv 0) pe_int (fun _ _ => rfl)) (pa_cons (pe_ix ix_tup (pv 0) pe_int (fun _ _ => rfl)) (pa_cons (pv 1) (pa_cons (pv 2) (pa_cons (pv 3) pa_nil))))))) (pg_tup (by rfl) (pgs_cons (pg_name (i := 5) sc_l_true.nd rfl (.inr rfl)) (pgs_cons (pg_name (i := 6) sc_l_true.nd rfl (.inl rfl)) (pgs_cons (pg_name (i := 7) sc_l_true.nd rfl (.inl rfl)) pgs_nil)))))
    (pss_cons (ps_if (pt_cmpR op_eq (pv 4) pe_str (nomark _))
    (pss_cons (ps_set (i := 8) sc_l_true.nd rfl (.inr rfl) (pe_call G_l_value (hr.mono (by decide)) (by rfl) D_l_value.g D_l_value.F.kp D_l_value.b .nil pass0 (pa_cons (pe_ix ix_tup (pv 0) pe_int (fun _ _ => rfl)) (pa_cons (pv 1) (pa_cons (pv 2) (pa_cons (pv 3) pa_nil))))))
    (pss_one (ps_ret (pe_callB (cr_all rfl) (by rfl) T.n_all (by decide +kernel) (pa_cons (pe_lc (own := [("k", 9)]) (g := gName 9) (by rfl) sc_l_true.nd (pi_rangeL (by rfl) T.n_range (pa_cons (pv 6) (pa_cons (pv 7) pa_nil))) (blkOk_by (own := [("k", 9)]) (N := ["promise", "numbers", "lists", "old", "kind", "cells", "first", "end", "right", "k", "other", "low", "high", "i", "j"]) (sc := defScope s_l_true) (by decide +kernel)) (fun _ _ _ _ _ => pg_name (i := 9) sc_l_true.nd rfl (Or.inl rfl)) (fun _ _ _ _ _ => pts_nil) (fun _ _ _ _ _ => (pe_call G_l_compared (hr.mono (by decide)) (by rfl) D_l_compared.g D_l_compared.F.kp D_l_compared.b .nil pass0 (pa_cons (pe_ix (show IxR _ (rIxT K) from ix_tup) (pv 0) pe_int (fun _ _ => rfl)) (pa_cons (pe_ix (show IxR _ (rIxL K) from ix_list) (pv 5) (pv 9) (fun _ _ => rfl)) (pa_cons (pv 8) pa_nil)))))) pa_nil)))))
    pss_nil)
    (pss_cons (ps_if (pt_cmpR op_eq (pv 4) pe_str (nomark _))
    (pss_cons (ps_set (i := 10) sc_l_true.nd rfl (.inr rfl) (pe_call G_l_part (hr.mono (by decide)) (by rfl) D_l_part.g D_l_part.F.kp D_l_part.b .nil pass0 (pa_cons (pe_ix ix_tup (pv 0) pe_int (fun _ _ => rfl)) (pa_cons (pe_ix ix_tup (pv 0) pe_int (fun _ _ => rfl)) (pa_cons (pe_ix ix_tup (pv 0) pe_int (fun _ _ => rfl)) (pa_cons (pv 1) (pa_cons (pv 2) (pa_cons (pv 3) pa_nil))))))))
    (pss_cons (ps_set (i := 7) sc_l_true.nd rfl (.inl rfl) (pe_callB (call_min2 rfl) (by rfl) T.n_min (by decide +kernel) (pa_cons (pv 7) (pa_cons (pe_ix ix_tup (pv 10) pe_int (fun _ _ => rfl)) pa_nil))))
    (pss_one (ps_ret (pe_callB (cr_all rfl) (by rfl) T.n_all (by decide +kernel) (pa_cons (pe_lc (own := [("k", 9)]) (g := gName 9) (by rfl) sc_l_true.nd (pi_rangeL (by rfl) T.n_range (pa_cons (pv 6) (pa_cons (pv 7) pa_nil))) (blkOk_by (own := [("k", 9)]) (N := ["promise", "numbers", "lists", "old", "kind", "cells", "first", "end", "right", "k", "other", "low", "high", "i", "j"]) (sc := defScope s_l_true) (by decide +kernel)) (fun _ _ _ _ _ => pg_name (i := 9) sc_l_true.nd rfl (Or.inl rfl)) (fun _ _ _ _ _ => pts_nil) (fun _ _ _ _ _ => (pe_call G_l_compared (hr.mono (by decide)) (by rfl) D_l_compared.g D_l_compared.F.kp D_l_compared.b .nil pass0 (pa_cons (pe_ix (show IxR _ (rIxT K) from ix_tup) (pv 0) pe_int (fun _ _ => rfl)) (pa_cons (pe_ix (show IxR _ (rIxL K) from ix_list) (pv 5) (pv 9) (fun _ _ => rfl)) (pa_cons (pe_op op_add (pe_ix (show IxR _ (rIxL K) from ix_list) (pe_ix (show IxR _ (rIxT K) from ix_tup) (pv 10) pe_int (fun _ _ => rfl)) (pv 9) (fun _ _ => rfl)) (pe_ix (show IxR _ (rIxT K) from ix_tup) (pv 0) pe_int (fun _ _ => rfl))) pa_nil)))))) pa_nil))))))
    pss_nil)
    (pss_cons (ps_if (pt_cmpR op_eq (pv 4) pe_str (nomark _))
    (pss_one (ps_ret (pe_callB (cr_all rfl) (by rfl) T.n_all (by decide +kernel) (pa_cons (pe_lc (own := [("k", 9)]) (g := gName 9) (by rfl) sc_l_true.nd (pi_rangeL (by rfl) T.n_range (pa_cons (pv 6) (pa_cons (pe_op op_sub (pv 7) pe_int) pa_nil))) (blkOk_by (own := [("k", 9)]) (N := ["promise", "numbers", "lists", "old", "kind", "cells", "first", "end", "right", "k", "other", "low", "high", "i", "j"]) (sc := defScope s_l_true) (by decide +kernel)) (fun _ _ _ _ _ => pg_name (i := 9) sc_l_true.nd rfl (Or.inl rfl)) (fun _ _ _ _ _ => pts_nil) (fun _ _ _ _ _ => (pe_cmpR op_le (pe_ix (show IxR _ (rIxL K) from ix_list) (pv 5) (pv 9) (fun _ _ => rfl)) (pe_ix (show IxR _ (rIxL K) from ix_list) (pv 5) (pe_op op_add (pv 9) pe_int) (fun _ _ => rfl)) (nomark _)))) pa_nil))))
    pss_nil)
    (pss_cons (ps_asg (pe_call G_l_part (hr.mono (by decide)) (by rfl) D_l_part.g D_l_part.F.kp D_l_part.b .nil pass0 (pa_cons (pe_ix ix_tup (pv 0) pe_int (fun _ _ => rfl)) (pa_cons (pe_ix ix_tup (pv 0) pe_int (fun _ _ => rfl)) (pa_cons (pe_ix ix_tup (pv 0) pe_int (fun _ _ => rfl)) (pa_cons (pv 1) (pa_cons (pv 2) (pa_cons (pv 3) pa_nil))))))) (pg_tup (by rfl) (pgs_cons (pg_name (i := 10) sc_l_true.nd rfl (.inr rfl)) (pgs_cons (pg_name (i := 11) sc_l_true.nd rfl (.inl rfl)) (pgs_cons (pg_name (i := 12) sc_l_true.nd rfl (.inl rfl)) pgs_nil)))))
    (pss_cons (ps_for PassesOwn.never rfl (pi_rangeL (by rfl) T.n_range (pa_cons (pv 6) (pa_cons (pv 7) pa_nil))) (pg_name (i := 13) sc_l_true.nd rfl (.inl rfl))
    (pss_one (ps_for PassesOwn.never rfl (pi_rangeL (by rfl) T.n_range (pa_cons (pv 11) (pa_cons (pv 12) pa_nil))) (pg_name (i := 14) sc_l_true.nd rfl (.inl rfl))
    (pss_one (ps_if (pt_cmpR op_gt (pe_ix ix_list (pv 5) (pv 13) (fun _ _ => rfl)) (pe_ix ix_tup (pv 10) (pv 14) (fun _ _ => rfl)) (nomark _))
    (pss_one (ps_ret pe_bl))
    pss_nil)))))
    (pss_one (ps_ret pe_bl))))))))))), ?_⟩
      obtain ⟨t, v1, v2, v3, v4, v5, v6, v7, rfl, ht, h1, h2, h3, h4, h5, h6, h7⟩ := dp_inv7 hv
      obtain ⟨o1, o2, o3, o4, o5⟩ := ok
      cases dp_str_inv h1
      cases dp_str_inv h5
      cases dp_int_inv h7
      refine ⟨_, rfl, t, _, _, _, rfl, rfl, ht, atI_nat (j := 0) rfl, ?_⟩
      refine ⟨_, rfl, rfl, _, rfl, iteF ⟨_, rfl, rfl, _, rfl, iteF ?_⟩⟩
      refine ⟨_, rfl, t, _, _, _, rfl, rfl, ht, atI_nat (j := 1) rfl, _, rfl, t, _, _, _, rfl, rfl, ht, atI_nat (j := 2) rfl, _, rfl, t, _, _, _, rfl, rfl, ht, atI_nat (j := 3) rfl, _, rfl, _, rfl, _, rfl, v2, v3, v4, dn, dl, dO, x, b, lo, hi, E, nn, ln, rfl, h2, h3, h4, st, o1, o2, o3, fun t2 a H1 s1 e1 ea => ?_⟩
      refine ⟨t2, _, rfl, SqT.of e1, rfl, _, _, rfl, _, _, rfl, _, _, rfl, rfl, ?_⟩
      refine ⟨_, rfl, rfl, _, rfl, iteF ⟨_, rfl, rfl, _, rfl, iteT ?_⟩⟩
      have ht1 := sqt_same s1 ht
      refine ⟨_, rfl, t, _, _, _, rfl, rfl, ht1, atI_nat (j := 5) rfl, _, rfl, t, _, _, _, rfl, rfl, ht1, atI_nat (j := 2) rfl, _, rfl, t, _, _, _, rfl, rfl, ht1, atI_nat (j := 3) rfl, _, rfl, _, rfl, _, rfl, v6, v3, v4, dn, dl, dO, y, d, lo, hi, E, nn, ln, rfl, h6.same s1, h3.same s1, h4.same s1, st.same s1, o5, o2, o3, fun t3 a3 H3 s3 e3 ea3 => ?_⟩
      have S3 := s1.trans s3
      refine ⟨_, rfl, _, rfl, t3, _, _, _, rfl, rfl, SqT.of e3, atI_nat (j := 2) rfl, _, _, rfl, ?_⟩
      refine ⟨_, rfl, _, rfl, _, _, rfl, fun D hD => ?_⟩
      have sz1 : (stI E x b lo hi).length ≤ 100 := Nat.le_trans (cutI_len _ _ _) (st.sz b x o1)
      rw [mt_len]
      refine lc_vals (walk_range (lo := ((frm E lo : Nat) : Int)) (n := min (stI E x b lo hi).length (mtI E x b lo hi y d).length)) hD (fun i => .bl (cmpI z ((stI E x b lo hi).getD i 0) ((mtI E x b lo hi y d).getD i 0 + pp))) (by omega) (fun _ _ => trivial) (fun i x4 H4 H5 Q' hi4 s4 y4 q' => ?_) (fun H4 s4 e4 => ?_)
      · obtain ⟨rfl, rfl⟩ := y4
        have ht4 := sqt_same (S3.trans s4) ht
        exact ⟨rfl, _, rfl, t, _, _, _, rfl, rfl, ht4, atI_nat (j := 4) rfl, _, rfl, _, rfl, a, _, _, _, rfl, rfl, SqL.of (s4 _ _ (s3 _ _ ea)), st_at (Nat.lt_of_lt_of_le hi4 (Nat.min_le_left _ _)), _, rfl, t3, _, _, _, rfl, rfl, SqT.of (s4 _ _ e3), atI_nat (j := 0) rfl, _, rfl, a3, _, _, _, rfl, rfl, SqL.of (s4 _ _ ea3), mt_at (Nat.lt_of_lt_of_le hi4 (Nat.min_le_right _ _)), _, rfl, t, _, _, _, rfl, rfl, ht4, atI_nat (j := 6) rfl, _, _, rfl, rfl, z, _, _, rfl, o4, fun H6 s6 => q' H6 s6⟩
      · rw [bl_map] at e4
        refine ⟨D, _, rfl, SqL.of e4, ?_⟩
        rw [all_mapB]
        exact q _ (S3.trans s4)
    | blw x b lo hi y d lo2 hi2 =>
      refine ⟨_, (pss_cons (ps_set (i := 4) sc_l_true.nd rfl (.inl rfl) (pe_ix ix_tup (pv 0) pe_int (fun _ _ => rfl)))
    (pss_cons (ps_if (pt_cmpR op_eq (pv 4) pe_str (nomark _))
    (pss_one (ps_ret (pe_call G_l_holds (hr.mono (by decide)) (by rfl) D_l_holds.g D_l_holds.F.kp D_l_holds.b .nil pass0 (pa_cons (pv 0) (pa_cons (pv 1) (pa_cons (pv 2) (pa_cons (pv 3) pa_nil)))))))
    pss_nil)
    (pss_cons (ps_if (pt_cmpR op_eq (pv 4) pe_str (nomark _))
    (pss_one (ps_ret (pe_or (pe_call G_l_holds (hr.mono (by decide)) (by rfl) D_l_holds.g D_l_holds.F.kp D_l_holds.b .nil pass0 (pa_cons (pe_ix ix_tup (pv 0) pe_int (fun _ _ => rfl)) (pa_cons (pv 1) (pa_cons (pv 2) (pa_cons (pv 3) pa_nil))))) (pe_one (pe_call G_l_holds (hr.mono (by decide)) (by rfl) D_l_holds.g D_l_holds.F.kp D_l_holds.b .nil pass0 (pa_cons (pe_ix ix_tup (pv 0) pe_int (fun _ _ => rfl)) (pa_cons (pv 1) (pa_cons (pv 2) (pa_cons (pv 3) pa_nil)))))))))
    pss_nil)
    (pss_cons (ps_asg (pe_call G_l_part (hr.mono (by decide)) (by rfl) D_l_part.g D_l_part.F.kp D_l_part.b .nil pass0 (pa_cons (pe_ix ix_tup (pv 0) pe_int (fun _ _ => rfl)) (pa_cons (pe_ix ix_tup (pv 0) pe_int (fun _ _ => rfl)) (pa_cons (pe_ix ix_tup (pv 0) pe_int (fun _ _ => rfl)) (pa_cons (pv 1) (pa_cons (pv 2) (pa_cons (pv 3) pa_nil))))))) (pg_tup (by rfl) (pgs_cons (pg_name (i := 5) sc_l_true.nd rfl (.inr rfl)) (pgs_cons (pg_name (i := 6) sc_l_true.nd rfl (.inl rfl)) (pgs_cons (pg_name (i := 7) sc_l_true.nd rfl (.inl rfl)) pgs_nil)))))
    (pss_cons (ps_if (pt_cmpR op_eq (pv 4) pe_str (nomark _))
    (pss_cons (ps_set (i := 8) sc_l_true.nd rfl (.inr rfl) (pe_call G_l_value (hr.mono (by decide)) (by rfl) D_l_value.g D_l_value.F.kp D_l_value.b .nil pass0 (pa_cons (pe_ix ix_tup (pv 0) pe_int (fun _ _ => rfl)) (pa_cons (pv 1) (pa_cons (pv 2) (pa_cons (pv 3) pa_nil))))))
    (pss_one (ps_ret (pe_callB (cr_all rfl) (by rfl) T.n_all (by decide +kernel) (pa_cons (pe_lc (own := [("k", 9)]) (g := gName 9) (by rfl) sc_l_true.nd (pi_rangeL (by rfl) T.n_range (pa_cons (pv 6) (pa_cons (pv 7) pa_nil))) (blkOk_by (own := [("k", 9)]) (N := ["promise", "numbers", "lists", "old", "kind", "cells", "first", "end", "right", "k", "other", "low", "high", "i", "j"]) (sc := defScope s_l_true) (by decide +kernel)) (fun _ _ _ _ _ => pg_name (i := 9) sc_l_true.nd rfl (Or.inl rfl)) (fun _ _ _ _ _ => pts_nil) (fun _ _ _ _ _ => (pe_call G_l_compared (hr.mono (by decide)) (by rfl) D_l_compared.g D_l_compared.F.kp D_l_compared.b .nil pass0 (pa_cons (pe_ix (show IxR _ (rIxT K) from ix_tup) (pv 0) pe_int (fun _ _ => rfl)) (pa_cons (pe_ix (show IxR _ (rIxL K) from ix_list) (pv 5) (pv 9) (fun _ _ => rfl)) (pa_cons (pv 8) pa_nil)))))) pa_nil)))))
    pss_nil)
    (pss_cons (ps_if (pt_cmpR op_eq (pv 4) pe_str (nomark _))
    (pss_cons (ps_set (i := 10) sc_l_true.nd rfl (.inr rfl) (pe_call G_l_part (hr.mono (by decide)) (by rfl) D_l_part.g D_l_part.F.kp D_l_part.b .nil pass0 (pa_cons (pe_ix ix_tup (pv 0) pe_int (fun _ _ => rfl)) (pa_cons (pe_ix ix_tup (pv 0) pe_int (fun _ _ => rfl)) (pa_cons (pe_ix ix_tup (pv 0) pe_int (fun _ _ => rfl)) (pa_cons (pv 1) (pa_cons (pv 2) (pa_cons (pv 3) pa_nil))))))))
    (pss_cons (ps_set (i := 7) sc_l_true.nd rfl (.inl rfl) (pe_callB (call_min2 rfl) (by rfl) T.n_min (by decide +kernel) (pa_cons (pv 7) (pa_cons (pe_ix ix_list (pv 10) pe_int (fun _ _ => rfl)) pa_nil))))
    (pss_one (ps_ret (pe_callB (cr_all rfl) (by rfl) T.n_all (by decide +kernel) (pa_cons (pe_lc (own := [("k", 9)]) (g := gName 9) (by rfl) sc_l_true.nd (pi_rangeL (by rfl) T.n_range (pa_cons (pv 6) (pa_cons (pv 7) pa_nil))) (blkOk_by (own := [("k", 9)]) (N := ["promise", "numbers", "lists", "old", "kind", "cells", "first", "end", "right", "k", "other", "low", "high", "i", "j"]) (sc := defScope s_l_true) (by decide +kernel)) (fun _ _ _ _ _ => pg_name (i := 9) sc_l_true.nd rfl (Or.inl rfl)) (fun _ _ _ _ _ => pts_nil) (fun _ _ _ _ _ => (pe_call G_l_compared (hr.mono (by decide)) (by rfl) D_l_compared.g D_l_compared.F.kp D_l_compared.b .nil pass0 (pa_cons (pe_ix (show IxR _ (rIxT K) from ix_tup) (pv 0) pe_int (fun _ _ => rfl)) (pa_cons (pe_ix (show IxR _ (rIxL K) from ix_list) (pv 5) (pv 9) (fun _ _ => rfl)) (pa_cons (pe_op op_add (pe_ix (show IxR _ (rIxL K) from ix_list) (pe_ix (show IxR _ (rIxL K) from ix_list) (pv 10) pe_int (fun _ _ => rfl)) (pv 9) (fun _ _ => rfl)) (pe_ix (show IxR _ (rIxT K) from ix_tup) (pv 0) pe_int (fun _ _ => rfl))) pa_nil)))))) pa_nil))))))
    pss_nil)
    (pss_cons (ps_if (pt_cmpR op_eq (pv 4) pe_str (nomark _))
    (pss_one (ps_ret (pe_callB (cr_all rfl) (by rfl) T.n_all (by decide +kernel) (pa_cons (pe_lc (own := [("k", 9)]) (g := gName 9) (by rfl) sc_l_true.nd (pi_rangeL (by rfl) T.n_range (pa_cons (pv 6) (pa_cons (pe_op op_sub (pv 7) pe_int) pa_nil))) (blkOk_by (own := [("k", 9)]) (N := ["promise", "numbers", "lists", "old", "kind", "cells", "first", "end", "right", "k", "other", "low", "high", "i", "j"]) (sc := defScope s_l_true) (by decide +kernel)) (fun _ _ _ _ _ => pg_name (i := 9) sc_l_true.nd rfl (Or.inl rfl)) (fun _ _ _ _ _ => pts_nil) (fun _ _ _ _ _ => (pe_cmpR op_le (pe_ix (show IxR _ (rIxL K) from ix_list) (pv 5) (pv 9) (fun _ _ => rfl)) (pe_ix (show IxR _ (rIxL K) from ix_list) (pv 5) (pe_op op_add (pv 9) pe_int) (fun _ _ => rfl)) (nomark _)))) pa_nil))))
    pss_nil)
    (pss_cons (ps_asg (pe_call G_l_part (hr.mono (by decide)) (by rfl) D_l_part.g D_l_part.F.kp D_l_part.b .nil pass0 (pa_cons (pe_ix ix_tup (pv 0) pe_int (fun _ _ => rfl)) (pa_cons (pe_ix ix_tup (pv 0) pe_int (fun _ _ => rfl)) (pa_cons (pe_ix ix_tup (pv 0) pe_int (fun _ _ => rfl)) (pa_cons (pv 1) (pa_cons (pv 2) (pa_cons (pv 3) pa_nil))))))) (pg_tup (by rfl) (pgs_cons (pg_name (i := 10) sc_l_true.nd rfl (.inr rfl)) (pgs_cons (pg_name (i := 11) sc_l_true.nd rfl (.inl rfl)) (pgs_cons (pg_name (i := 12) sc_l_true.nd rfl (.inl rfl)) pgs_nil)))))
    (pss_cons (ps_for PassesOwn.never rfl (pi_rangeL (by rfl) T.n_range (pa_cons (pv 6) (pa_cons (pv 7) pa_nil))) (pg_name (i := 13) sc_l_true.nd rfl (.inl rfl))
    (pss_one (ps_for PassesOwn.never rfl (pi_rangeL (by rfl) T.n_range (pa_cons (pv 11) (pa_cons (pv 12) pa_nil))) (pg_name (i := 14) sc_l_true.nd rfl (.inl rfl))
    (pss_one (ps_if (pt_cmpR op_gt (pe_ix ix_list (pv 5) (pv 13) (fun _ _ => rfl)) (pe_ix ix_list (pv 10) (pv 14) (fun _ _ => rfl)) (nomark _))
    (pss_one (ps_ret pe_bl))
    pss_nil)))))
    (pss_one (ps_ret pe_bl))))))))))), ?_⟩
      obtain ⟨t, v1, v2, v3, v4, v5, v6, v7, rfl, ht, h1, h2, h3, h4, h5, h6, h7⟩ := dp_inv7 hv
      obtain ⟨o1, o2, o3, o4, o5, o6⟩ := ok
      cases dp_str_inv h1
      refine ⟨_, rfl, t, _, _, _, rfl, rfl, ht, atI_nat (j := 0) rfl, ?_⟩
      refine ⟨_, rfl, rfl, _, rfl, iteF ⟨_, rfl, rfl, _, rfl, iteF ?_⟩⟩
      refine ⟨_, rfl, t, _, _, _, rfl, rfl, ht, atI_nat (j := 1) rfl, _, rfl, t, _, _, _, rfl, rfl, ht, atI_nat (j := 2) rfl, _, rfl, t, _, _, _, rfl, rfl, ht, atI_nat (j := 3) rfl, _, rfl, _, rfl, _, rfl, v2, v3, v4, dn, dl, dO, x, b, lo, hi, E, nn, ln, rfl, h2, h3, h4, st, o1, o2, o3, fun t2 a H1 s1 e1 ea => ?_⟩
      refine ⟨t2, _, rfl, SqT.of e1, rfl, _, _, rfl, _, _, rfl, _, _, rfl, rfl, ?_⟩
      refine ⟨_, rfl, rfl, _, rfl, iteF ⟨_, rfl, rfl, _, rfl, iteF ⟨_, rfl, rfl, _, rfl, iteF ?_⟩⟩⟩
      have ht1 := sqt_same s1 ht
      refine ⟨_, rfl, t, _, _, _, rfl, rfl, ht1, atI_nat (j := 4) rfl, _, rfl, t, _, _, _, rfl, rfl, ht1, atI_nat (j := 5) rfl, _, rfl, t, _, _, _, rfl, rfl, ht1, atI_nat (j := 6) rfl, _, rfl, _, rfl, _, rfl, v5, v6, v7, dn, dl, dO, y, d, lo2, hi2, E, nn, ln, rfl, h5.same s1, h6.same s1, h7.same s1, st.same s1, o4, o5, o6, fun t3 a3 H3 s3 e3 ea3 => ?_⟩
      refine ⟨t3, _, rfl, SqT.of e3, rfl, _, _, rfl, _, _, rfl, _, _, rfl, rfl, ?_⟩
      have S3 := s1.trans s3
      have ea' := s3 _ _ ea
      refine ⟨_, rfl, _, rfl, _, _, rfl, ?_⟩
      rw [stI_len]
      refine for_range (lo := ((frm E lo : Nat) : Int)) (n := (stI E x b lo hi).length) (fun i σ H2 => H2 = H3 ∧ ∃ (y13 y14 : Option V), σ = [some (.ref t), some (.ref dn), some (.ref dl), some (.ref dO), some (.str "below"), some (.ref a), some (.int (frm E lo : Nat)), some (.int (endI E hi (E.lst b x).length)), none, none, some (.ref a3), some (.int (frm E lo2 : Nat)), some (.int (endI E hi2 (E.lst d y).length)), y13, y14] ∧ ∀ i', i' < i → ∀ j, j < (stI E y d lo2 hi2).length → (stI E x b lo hi).getD i' 0 ≤ (stI E y d lo2 hi2).getD j 0)
        ⟨rfl, _, _, rfl, fun _ h => absurd h (Nat.not_lt_zero _)⟩ (fun i σ H2 hi2' hP => ?_) (fun σ H2 hP => ?_)
      · obtain ⟨rfl, y13, y14, rfl, hall⟩ := hP
        refine ⟨_, rfl, _, rfl, _, _, rfl, ?_⟩
        rw [stI_len]
        refine for_range (lo := ((frm E lo2 : Nat) : Int)) (n := (stI E y d lo2 hi2).length) (fun j σ H4 => H4 = H2 ∧ ∃ (y14 : Option V), σ = [some (.ref t), some (.ref dn), some (.ref dl), some (.ref dO), some (.str "below"), some (.ref a), some (.int (frm E lo : Nat)), some (.int (endI E hi (E.lst b x).length)), none, none, some (.ref a3), some (.int (frm E lo2 : Nat)), some (.int (endI E hi2 (E.lst d y).length)), some (.int (((frm E lo : Nat) : Int) + i)), y14] ∧ ∀ j', j' < j → (stI E x b lo hi).getD i 0 ≤ (stI E y d lo2 hi2).getD j' 0)
          ⟨rfl, _, rfl, fun _ h => absurd h (Nat.not_lt_zero _)⟩ (fun j σ H4 hj hP => ?_) (fun σ H4 hP => ?_)
        · obtain ⟨rfl, y14, rfl, hin⟩ := hP
          refine ⟨_, rfl, _, rfl, a, _, _, _, rfl, rfl, SqL.of ea', st_at hi2', _, rfl, _, rfl, a3, _, _, _, rfl, rfl, SqL.of ea3, st_at hj, _, _, rfl, rfl, _, rfl, ite2 (fun e => ?_) (fun e => ?_)⟩
          · have e := of_decide_eq_true e
            have q1 : Q (.bl (blwI (stI E x b lo hi) (stI E y d lo2 hi2))) H4 := q _ S3
            rw [blw_false hi2' hj (by omega)] at q1
            exact q1
          · have e : ¬ (stI E y d lo2 hi2).getD j 0 < (stI E x b lo hi).getD i 0 := fun h => e (decide_eq_true h)
            refine ⟨rfl, _, rfl, fun j' hj' => ?_⟩
            by_cases h : j' = j
            · subst h
              omega
            · exact hin j' (by omega)
        · obtain ⟨rfl, y14, rfl, hin⟩ := hP
          refine ⟨rfl, _, _, rfl, fun i' hi' => ?_⟩
          by_cases h : i' = i
          · subst h
            exact hin
          · exact hall i' (by omega)
      · obtain ⟨rfl, y13, y14, rfl, hall⟩ := hP
        have q1 : Q (.bl (blwI (stI E x b lo hi) (stI E y d lo2 hi2))) H2 := q _ S3
        rw [blw_true hall] at q1
        exact q1
def spLPairs (K : PySem.W.Frag) : Sp := fun vs H Q _ => ∃ (v : V) (dn dl dO : Addr) (c : Pr) (E : Ev) (nn ln : List PySem.Str), vs = [v, .ref dn, .ref dl, .ref dO] ∧ Dp K H v c.enc ∧ EvAt H dn dl dO E nn ln ∧ c.ok nn ln ∧ ∀ H', Same H H' → Q (.bl (c.tr E)) H'
theorem pr_kind {K : PySem.W.Frag} {H : Hp} {v : V} {c : Pr} (h : Dp K H v c.enc) (hS : c.isS = false) : ∃ t z xs, v = .ref t ∧ SqT K H t (.str z :: xs) ∧ decide (V.str z = V.str "sorted") = false := by
  cases c with
  | srt x b lo hi => cases hS
  | cmp c =>
    obtain ⟨t, v1, v2, v3, v4, rfl, ht, h1, _⟩ := dp_inv4 h
    cases dp_str_inv h1
    exact ⟨t, _, _, rfl, ht, by decide +kernel⟩
  | either a b =>
    obtain ⟨t, v1, v2, v3, rfl, ht, h1, _⟩ := dp_inv3 h
    cases dp_str_inv h1
    exact ⟨t, _, _, rfl, ht, by decide +kernel⟩
  | all x b lo hi z r =>
    obtain ⟨t, v1, v2, v3, v4, v5, v6, rfl, ht, h1, _⟩ := dp_inv6 h
    cases dp_str_inv h1
    exact ⟨t, _, _, rfl, ht, by decide +kernel⟩
  | mtch x b lo hi z y d pp =>
    obtain ⟨t, v1, v2, v3, v4, v5, v6, v7, rfl, ht, h1, _⟩ := dp_inv7 h
    cases dp_str_inv h1
    exact ⟨t, _, _, rfl, ht, by decide +kernel⟩
  | blw x b lo hi y d lo2 hi2 =>
    obtain ⟨t, v1, v2, v3, v4, v5, v6, v7, rfl, ht, h1, _⟩ := dp_inv7 h
    cases dp_str_inv h1
    exact ⟨t, _, _, rfl, ht, by decide +kernel⟩
theorem ok_l_pairs_true (T : TxS K mg C) (D_l_pairs_true : Df K mg "_law_pairs_true" s_l_pairs_true ["promise", "numbers", "lists", "old"]) (D_l_true : Df K mg "_law_true" s_l_true ["promise", "numbers", "lists", "old"]) (D_l_part : Df K mg "_law_part" s_l_part ["reference", "lo", "hi", "numbers", "lists", "old"]) (G_l_true : FnOk P w K mg base CX0 5 D_l_true.f D_l_true.fd ["promise", "numbers", "lists", "old"] (spLTrue K)) (G_l_part : FnOk P w K mg base CX0 4 D_l_part.f D_l_part.fd ["reference", "lo", "hi", "numbers", "lists", "old"] (spLPart K)) : FnOk P w K mg base CX0 6 D_l_pairs_true.f D_l_pairs_true.fd ["promise", "numbers", "lists", "old"] (spLPairs K) := by
  refine D_l_pairs_true.F.ok sc_l_pairs_true (fun vs H Q E h => ?_) (fun cdv A outer s H vs Q E hr h => ?_)
  · obtain ⟨v, dn, dl, dO, c, E, nn, ln, rfl, _⟩ := h
    rfl
  · obtain ⟨v, dn, dl, dO, c, E, nn, ln, rfl, hv, st, ok, q⟩ := h
    refine ⟨_, (pss_cons (ps_if (pt_cmpR op_ne (pe_ix ix_tup (pv 0) pe_int (fun _ _ => rfl)) pe_str (nomark _))
    (pss_one (ps_ret (pe_call G_l_true (hr.mono (by decide)) (by rfl) D_l_true.g D_l_true.F.kp D_l_true.b .nil pass0 (pa_cons (pv 0) (pa_cons (pv 1) (pa_cons (pv 2) (pa_cons (pv 3) pa_nil)))))))
    pss_nil)
    (pss_cons (ps_asg (pe_call G_l_part (hr.mono (by decide)) (by rfl) D_l_part.g D_l_part.F.kp D_l_part.b .nil pass0 (pa_cons (pe_ix ix_tup (pv 0) pe_int (fun _ _ => rfl)) (pa_cons (pe_ix ix_tup (pv 0) pe_int (fun _ _ => rfl)) (pa_cons (pe_ix ix_tup (pv 0) pe_int (fun _ _ => rfl)) (pa_cons (pv 1) (pa_cons (pv 2) (pa_cons (pv 3) pa_nil))))))) (pg_tup (by rfl) (pgs_cons (pg_name (i := 4) sc_l_pairs_true.nd rfl (.inl rfl)) (pgs_cons (pg_name (i := 5) sc_l_pairs_true.nd rfl (.inl rfl)) (pgs_cons (pg_name (i := 6) sc_l_pairs_true.nd rfl (.inl rfl)) pgs_nil)))))
    (pss_cons (ps_for PassesOwn.never rfl (pi_rangeL (by rfl) T.n_range (pa_cons (pv 5) (pa_cons (pv 6) pa_nil))) (pg_name (i := 7) sc_l_pairs_true.nd rfl (.inl rfl))
    (pss_one (ps_for PassesOwn.never rfl (pi_rangeL (by rfl) T.n_range (pa_cons (pv 7) (pa_cons (pv 6) pa_nil))) (pg_name (i := 8) sc_l_pairs_true.nd rfl (.inl rfl))
    (pss_one (ps_if (pt_cmpR op_gt (pe_ix ix_list (pv 4) (pv 7) (fun _ _ => rfl)) (pe_ix ix_list (pv 4) (pv 8) (fun _ _ => rfl)) (nomark _))
    (pss_one (ps_ret pe_bl))
    pss_nil)))))
    (pss_one (ps_ret pe_bl))))), ?_⟩
    cases hS : c.isS with
    | false =>
      obtain ⟨t, z, xs, rfl, ht, hz⟩ := pr_kind hv hS
      refine ⟨_, rfl, t, _, _, _, rfl, rfl, ht, atI_nat (j := 0) rfl, rfl, _, rfl, ?_⟩
      rw [hz]
      exact iteT ⟨_, rfl, _, rfl, _, rfl, _, rfl, _, dn, dl, dO, c, E, nn, ln, rfl, hv, st, ok, hS, q⟩
    | true =>
      cases c with
      | cmp c => cases hS
      | either a b => cases hS
      | all x b lo hi z r => cases hS
      | mtch x b lo hi z y d pp => cases hS
      | blw x b lo hi y d lo2 hi2 => cases hS
      | srt x b lo hi =>
        obtain ⟨t, v1, v2, v3, v4, rfl, ht, h1, h2, h3, h4⟩ := dp_inv4 hv
        cases dp_str_inv h1
        obtain ⟨o1, o2, o3⟩ := ok
        refine ⟨_, rfl, t, _, _, _, rfl, rfl, ht, atI_nat (j := 0) rfl, rfl, _, rfl, iteF ?_⟩
        refine ⟨_, rfl, t, _, _, _, rfl, rfl, ht, atI_nat (j := 1) rfl, _, rfl, t, _, _, _, rfl, rfl, ht, atI_nat (j := 2) rfl, _, rfl, t, _, _, _, rfl, rfl, ht, atI_nat (j := 3) rfl, _, rfl, _, rfl, _, rfl, v2, v3, v4, dn, dl, dO, x, b, lo, hi, E, nn, ln, rfl, h2, h3, h4, st, o1, o2, o3, fun t2 a H1 s1 e1 ea => ?_⟩
        refine ⟨t2, _, rfl, SqT.of e1, rfl, _, _, rfl, _, _, rfl, _, _, rfl, rfl, ?_⟩
        refine ⟨_, rfl, _, rfl, _, _, rfl, ?_⟩
        rw [stI_len]
        refine for_range (lo := ((frm E lo : Nat) : Int)) (n := (stI E x b lo hi).length) (fun i σ H2 => H2 = H1 ∧ ∃ (y7 y8 : Option V), σ = [some (.ref t), some (.ref dn), some (.ref dl), some (.ref dO), some (.ref a), some (.int (frm E lo : Nat)), some (.int (endI E hi (E.lst b x).length)), y7, y8] ∧ ∀ i', i' < i → ∀ j, i' ≤ j → j < (stI E x b lo hi).length → (stI E x b lo hi).getD i' 0 ≤ (stI E x b lo hi).getD j 0)
          ⟨rfl, _, _, rfl, fun _ h => absurd h (Nat.not_lt_zero _)⟩ (fun i σ H2 hi2' hP => ?_) (fun σ H2 hP => ?_)
        · obtain ⟨rfl, y7, y8, rfl, hall⟩ := hP
          refine ⟨_, rfl, _, rfl, _, _, rfl, ?_⟩
          have hcount : (endI E hi (E.lst b x).length - (((frm E lo : Nat) : Int) + (i : Nat))).toNat = (stI E x b lo hi).length - i := by
            have := stI_len E x b lo hi
            omega
          rw [hcount]
          refine for_range (lo := ((frm E lo : Nat) : Int) + (i : Nat)) (n := (stI E x b lo hi).length - i) (fun j σ H4 => H4 = H2 ∧ ∃ (y8 : Option V), σ = [some (.ref t), some (.ref dn), some (.ref dl), some (.ref dO), some (.ref a), some (.int (frm E lo : Nat)), some (.int (endI E hi (E.lst b x).length)), some (.int (((frm E lo : Nat) : Int) + i)), y8] ∧ ∀ j', i ≤ j' → j' < i + j → (stI E x b lo hi).getD i 0 ≤ (stI E x b lo hi).getD j' 0)
            ⟨rfl, _, rfl, fun _ h h2 => by omega⟩ (fun j σ H4 hj hP => ?_) (fun σ H4 hP => ?_)
          · obtain ⟨rfl, y8, rfl, hin⟩ := hP
            have e0 : ((frm E lo : Nat) : Int) + (i : Nat) + (j : Nat) = ((frm E lo : Nat) : Int) + ((i + j : Nat) : Nat) := by omega
            refine ⟨_, rfl, _, rfl, a, _, _, _, rfl, rfl, SqL.of ea, st_at hi2', _, rfl, _, rfl, a, _, _, _, rfl, rfl, SqL.of ea, (congrArg (atI _) e0).trans (st_at (E := E) (x := x) (b := b) (lo := lo) (hi := hi) (i := i + j) (by omega)), _, _, rfl, rfl, _, rfl, ite2 (fun e => ?_) (fun e => ?_)⟩
            · have e := of_decide_eq_true e
              have q1 : Q (.bl (srtI (stI E x b lo hi))) H4 := q _ s1
              rw [srt_false (show i ≤ i + j by omega) (by omega) (by omega)] at q1
              exact q1
            · have e : ¬ (stI E x b lo hi).getD (i + j) 0 < (stI E x b lo hi).getD i 0 := fun h => e (decide_eq_true h)
              refine ⟨rfl, _, rfl, fun j' hj1 hj' => ?_⟩
              by_cases h : j' = i + j
              · subst h
                omega
              · exact hin j' hj1 (by omega)
          · obtain ⟨rfl, y8, rfl, hin⟩ := hP
            refine ⟨rfl, _, _, rfl, fun i' hi' j hj1 hj2 => ?_⟩
            by_cases h : i' = i
            · subst h
              exact hin j hj1 (by omega)
            · exact hall i' (by omega) j hj1 hj2
        · obtain ⟨rfl, y7, y8, rfl, hall⟩ := hP
          have q1 : Q (.bl (srtI (stI E x b lo hi))) H2 := q _ s1
          rw [srt_true fun i j hij hj => hall i (by omega) j hij hj] at q1
          exact q1
def spLTruth (K : PySem.W.Frag) (n : Nat) : Sp := fun vs H Q _ => ∃ (v : V) (dn dl dO : Addr) (c : Cd) (E : Ev) (nn ln : List PySem.Str), vs = [v, .ref dn, .ref dl, .ref dO] ∧ Dp K H v c.enc ∧ EvAt H dn dl dO E nn ln ∧ c.ok nn ln n ∧ ∀ H', Same H H' → Q (.bl (c.tr E)) H'
theorem pr_kind2 {K : PySem.W.Frag} {H : Hp} {v : V} {c : Pr} (h : Dp K H v c.enc) : ∃ t z xs, v = .ref t ∧ SqT K H t (.str z :: xs) ∧ decide (V.str z = V.str "not") = false ∧ decide (V.str z = V.str "and") = false ∧ decide (V.str z = V.str "or") = false := by
  cases c with
  | srt x b lo hi =>
    obtain ⟨t, v1, v2, v3, v4, rfl, ht, h1, _⟩ := dp_inv4 h
    cases dp_str_inv h1
    exact ⟨t, _, _, rfl, ht, by decide +kernel⟩
  | cmp c =>
    obtain ⟨t, v1, v2, v3, v4, rfl, ht, h1, _⟩ := dp_inv4 h
    cases dp_str_inv h1
    exact ⟨t, _, _, rfl, ht, by decide +kernel⟩
  | either a b =>
    obtain ⟨t, v1, v2, v3, rfl, ht, h1, _⟩ := dp_inv3 h
    cases dp_str_inv h1
    exact ⟨t, _, _, rfl, ht, by decide +kernel⟩
  | all x b lo hi z r =>
    obtain ⟨t, v1, v2, v3, v4, v5, v6, rfl, ht, h1, _⟩ := dp_inv6 h
    cases dp_str_inv h1
    exact ⟨t, _, _, rfl, ht, by decide +kernel⟩
  | mtch x b lo hi z y d pp =>
    obtain ⟨t, v1, v2, v3, v4, v5, v6, v7, rfl, ht, h1, _⟩ := dp_inv7 h
    cases dp_str_inv h1
    exact ⟨t, _, _, rfl, ht, by decide +kernel⟩
  | blw x b lo hi y d lo2 hi2 =>
    obtain ⟨t, v1, v2, v3, v4, v5, v6, v7, rfl, ht, h1, _⟩ := dp_inv7 h
    cases dp_str_inv h1
    exact ⟨t, _, _, rfl, ht, by decide +kernel⟩
theorem ok_l_truth (T : TxS K mg C) (D_l_truth : Df K mg "_law_truth" s_l_truth ["condition", "numbers", "lists", "old"]) (D_l_pairs_true : Df K mg "_law_pairs_true" s_l_pairs_true ["promise", "numbers", "lists", "old"]) (G_l_pairs_true : FnOk P w K mg base CX0 6 D_l_pairs_true.f D_l_pairs_true.fd ["promise", "numbers", "lists", "old"] (spLPairs K)) : ∀ n, FnOk P w K mg base CX0 (n + 7) D_l_truth.f D_l_truth.fd ["condition", "numbers", "lists", "old"] (spLTruth K n)
  | 0 => fn_never.imp fun _ _ _ _ h => by
    obtain ⟨_, _, _, _, _, _, _, _, _, _, _, h, _⟩ := h
    exact h
  | n + 1 => by
    have G_l_truth := ok_l_truth T D_l_truth D_l_pairs_true G_l_pairs_true n
    refine D_l_truth.F.ok sc_l_truth (fun vs H Q E h => ?_) (fun cdv A outer s H vs Q E hr h => ?_)
    · obtain ⟨v, dn, dl, dO, c, E, nn, ln, rfl, _⟩ := h
      rfl
    · obtain ⟨v, dn, dl, dO, c, E, nn, ln, rfl, hv, st, ok, q⟩ := h
      refine ⟨_, (pss_cons (ps_if (pt_cmpR op_eq (pe_ix ix_tup (pv 0) pe_int (fun _ _ => rfl)) pe_str (nomark _))
    (pss_one (ps_ret (pe_not (pe_call G_l_truth (hr.mono (by omega)) (by rfl) D_l_truth.g D_l_truth.F.kp D_l_truth.b .nil pass0 (pa_cons (pe_ix ix_tup (pv 0) pe_int (fun _ _ => rfl)) (pa_cons (pv 1) (pa_cons (pv 2) (pa_cons (pv 3) pa_nil))))))))
    pss_nil)
    (pss_cons (ps_if (pt_cmpR op_eq (pe_ix ix_tup (pv 0) pe_int (fun _ _ => rfl)) pe_str (nomark _))
    (pss_one (ps_ret (pe_callB (cr_all rfl) (by rfl) T.n_all (by decide +kernel) (pa_cons (pe_lc (own := [("part", 4)]) (g := gName 4) (by rfl) sc_l_truth.nd (pi_tup (pe_ix ix_tup (pv 0) pe_int (fun _ _ => rfl))) (blkOk_by (own := [("part", 4)]) (N := ["condition", "numbers", "lists", "old", "part"]) (sc := defScope s_l_truth) (by decide +kernel)) (fun _ _ _ _ _ => pg_name (i := 4) sc_l_truth.nd rfl (Or.inl rfl)) (fun _ _ _ _ _ => pts_nil) (fun _ _ _ _ _ => (pe_call G_l_truth (hr.mono (by omega)) (by rfl) D_l_truth.g D_l_truth.F.kp D_l_truth.b .nil pass0 (pa_cons (pv 4) (pa_cons (pv 1) (pa_cons (pv 2) (pa_cons (pv 3) pa_nil))))))) pa_nil))))
    pss_nil)
    (pss_cons (ps_if (pt_cmpR op_eq (pe_ix ix_tup (pv 0) pe_int (fun _ _ => rfl)) pe_str (nomark _))
    (pss_one (ps_ret (pe_callB (cr_any rfl) (by rfl) T.n_any (by decide +kernel) (pa_cons (pe_lc (own := [("part", 4)]) (g := gName 4) (by rfl) sc_l_truth.nd (pi_tup (pe_ix ix_tup (pv 0) pe_int (fun _ _ => rfl))) (blkOk_by (own := [("part", 4)]) (N := ["condition", "numbers", "lists", "old", "part"]) (sc := defScope s_l_truth) (by decide +kernel)) (fun _ _ _ _ _ => pg_name (i := 4) sc_l_truth.nd rfl (Or.inl rfl)) (fun _ _ _ _ _ => pts_nil) (fun _ _ _ _ _ => (pe_call G_l_truth (hr.mono (by omega)) (by rfl) D_l_truth.g D_l_truth.F.kp D_l_truth.b .nil pass0 (pa_cons (pv 4) (pa_cons (pv 1) (pa_cons (pv 2) (pa_cons (pv 3) pa_nil))))))) pa_nil))))
    pss_nil)
    (pss_one (ps_ret (pe_call G_l_pairs_true (hr.mono (by omega)) (by rfl) D_l_pairs_true.g D_l_pairs_true.F.kp D_l_pairs_true.b .nil pass0 (pa_cons (pv 0) (pa_cons (pv 1) (pa_cons (pv 2) (pa_cons (pv 3) pa_nil)))))))))), ?_⟩
      cases c with
      | not c =>
        obtain ⟨t, v1, v2, rfl, ht, h1, h2⟩ := dp_inv2 hv
        cases dp_str_inv h1
        refine ⟨_, rfl, t, _, _, _, rfl, rfl, ht, atI_nat (j := 0) rfl, rfl, _, rfl, iteT ?_⟩
        exact ⟨_, rfl, t, _, _, _, rfl, rfl, ht, atI_nat (j := 1) rfl, _, rfl, _, rfl, _, rfl, v2, dn, dl, dO, c, E, nn, ln, rfl, h2, st, ok, fun H1 s1 => ⟨_, rfl, q H1 s1⟩⟩
      | join o cs =>
        obtain ⟨t, v1, v2, rfl, ht, h1, h2⟩ := dp_inv2 hv
        cases dp_str_inv h1
        obtain ⟨t2, xs, rfl, ht2, hxs⟩ := dp_tup_inv h2
        obtain ⟨hlen, okc⟩ := ok
        have hxl : xs.length = cs.length := by rw [dpa_len hxs, encs_map, List.length_map]
        have PART : ∀ (i : Nat) (x : V), xs[i]? = some x → ∃ c, cs[i]? = some c ∧ Dp K H x c.enc ∧ c.ok nn ln n := fun i x hx => by
          obtain ⟨d, hd, hdx⟩ := dpa_get hxs hx
          rw [encs_map, List.getElem?_map] at hd
          obtain ⟨c, hc, rfl⟩ := Option.map_eq_some_iff.mp hd
          exact ⟨c, hc, hdx, okc c (List.mem_of_getElem? hc)⟩
        refine ⟨_, rfl, t, _, _, _, rfl, rfl, ht, atI_nat (j := 0) rfl, rfl, _, rfl, ?_⟩
        cases o with
        | false =>
          refine iteF ⟨_, rfl, t, _, _, _, rfl, rfl, ht, atI_nat (j := 0) rfl, rfl, _, rfl, iteT ?_⟩
          refine ⟨_, rfl, t, _, _, _, rfl, rfl, ht, atI_nat (j := 1) rfl, t2, rfl, ⟨_, ht2⟩, fun D hD => ?_⟩
          refine lc_vals (walk_tup (K := K) (a := t2) (xs := xs)) hD (fun i => .bl ((trs E cs).getD i false)) (by omega) (fun H s => sqt_same s ht2) (fun i x H1 H2 Q' hi s1 y q' => ?_) (fun H1 s1 e1 => ?_)
          · obtain ⟨rfl, hx⟩ := y
            obtain ⟨c, hc, hcx, hok⟩ := PART i x hx
            rw [trs_getD E cs hc] at q'
            exact ⟨rfl, _, rfl, _, rfl, _, rfl, _, rfl, x, dn, dl, dO, c, E, nn, ln, rfl, hcx.same s1, st.same s1, hok, fun H3 s3 => q' H3 s3⟩
          · rw [bl_map, hxl, trs_range] at e1
            exact ⟨D, _, rfl, SqL.of e1, q _ s1⟩
        | true =>
          refine iteF ⟨_, rfl, t, _, _, _, rfl, rfl, ht, atI_nat (j := 0) rfl, rfl, _, rfl, iteF ⟨_, rfl, t, _, _, _, rfl, rfl, ht, atI_nat (j := 0) rfl, rfl, _, rfl, iteT ?_⟩⟩
          refine ⟨_, rfl, t, _, _, _, rfl, rfl, ht, atI_nat (j := 1) rfl, t2, rfl, ⟨_, ht2⟩, fun D hD => ?_⟩
          refine lc_vals (walk_tup (K := K) (a := t2) (xs := xs)) hD (fun i => .bl ((trs E cs).getD i false)) (by omega) (fun H s => sqt_same s ht2) (fun i x H1 H2 Q' hi s1 y q' => ?_) (fun H1 s1 e1 => ?_)
          · obtain ⟨rfl, hx⟩ := y
            obtain ⟨c, hc, hcx, hok⟩ := PART i x hx
            rw [trs_getD E cs hc] at q'
            exact ⟨rfl, _, rfl, _, rfl, _, rfl, _, rfl, x, dn, dl, dO, c, E, nn, ln, rfl, hcx.same s1, st.same s1, hok, fun H3 s3 => q' H3 s3⟩
          · rw [bl_map, hxl, trs_range] at e1
            exact ⟨D, _, rfl, SqL.of e1, q _ s1⟩
      | pr c =>
        obtain ⟨t, z, xs, rfl, ht, z1, z2, z3⟩ := pr_kind2 (c := c) hv
        refine ⟨_, rfl, t, _, _, _, rfl, rfl, ht, atI_nat (j := 0) rfl, rfl, _, rfl, ?_⟩
        rw [z1]
        refine iteF ⟨_, rfl, t, _, _, _, rfl, rfl, ht, atI_nat (j := 0) rfl, rfl, _, rfl, ?_⟩
        rw [z2]
        refine iteF ⟨_, rfl, t, _, _, _, rfl, rfl, ht, atI_nat (j := 0) rfl, rfl, _, rfl, ?_⟩
        rw [z3]
        refine iteF ?_
        exact ⟨_, rfl, _, rfl, _, rfl, _, rfl, _, dn, dl, dO, c, E, nn, ln, rfl, hv, st, ok.1, q⟩
end
end SW

namespace SW
open PySem PySem.Spec PyProof.Rows L2
abbrev s_l_some : Stmt := topS 23
theorem sc_l_some : FnScope ["hand", "kind"] ["hand"] (defScope s_l_some) := ⟨rfl, rfl, rfl, by decide +kernel, rfl, by decide +kernel, by decide +kernel⟩

abbrev s_l_plain : Stmt := topS 24
theorem sc_l_plain : FnScope ["hand", "n", "kind"] ["hand", "n"] (defScope s_l_plain) := ⟨rfl, rfl, rfl, by decide +kernel, rfl, by decide +kernel, by decide +kernel⟩

abbrev s_l_list : Stmt := topS 25
theorem sc_l_list : FnScope ["hand", "n"] ["hand", "n"] (defScope s_l_list) := ⟨rfl, rfl, rfl, by decide +kernel, rfl, by decide +kernel, by decide +kernel⟩

abbrev s_l_term : Stmt := topS 26
theorem sc_l_term : FnScope ["hand", "n"] ["hand", "n"] (defScope s_l_term) := ⟨rfl, rfl, rfl, by decide +kernel, rfl, by decide +kernel, by decide +kernel⟩

abbrev s_l_cmp : Stmt := topS 27
theorem sc_l_cmp : FnScope ["hand", "n"] ["hand", "n"] (defScope s_l_cmp) := ⟨rfl, rfl, rfl, by decide +kernel, rfl, by decide +kernel, by decide +kernel⟩

abbrev s_l_promise : Stmt := topS 28
theorem sc_l_promise : FnScope ["hand", "n", "kind", "sign", "told"] ["hand", "n"] (defScope s_l_promise) := ⟨rfl, rfl, rfl, by decide +kernel, rfl, by decide +kernel, by decide +kernel⟩

/-! ### what is drawn -/
def Nm (H : Hp) (a : Addr) (ns : List PySem.Str) : Prop := H a = some (.lst (ns.map V.str)) ∧ ns.length = 16
theorem Nm.ne {H : Hp} {a h d : Addr} {ns : List PySem.Str} {ds : List Int} (n : Nm H a ns) (hh : Hand H h d ds) : a ≠ h := fun e => by
  obtain ⟨⟨i, e1⟩, _, _⟩ := hh
  rw [← e, n.1] at e1
  cases ns with
  | nil => cases n.2
  | cons x r => cases e1
theorem Nm.but {H H' : Hp} {a h d : Addr} {ns : List PySem.Str} {ds : List Int} (n : Nm H a ns) (hh : Hand H h d ds) (b : But h H H') : Nm H' a ns := ⟨b _ _ (n.ne hh) n.1, n.2⟩
theorem Nm.same {H H' : Hp} {a : Addr} {ns : List PySem.Str} (n : Nm H a ns) (b : Same H H') : Nm H' a ns := ⟨b _ _ n.1, n.2⟩
def nmI (ns : List PySem.Str) (i : Nat) : PySem.Str := ns.getD i ""
def nnOf (ns : List PySem.Str) : List PySem.Str := [nmI ns 0, nmI ns 1, "result"]
def lnOf (ns : List PySem.Str) : List PySem.Str := [nmI ns 3, nmI ns 4, nmI ns 5]
theorem Nm.at_ {H : Hp} {a : Addr} {ns : List PySem.Str} (n : Nm H a ns) {i : Nat} (hi : i < 16) : (ns.map V.str)[i]? = some (.str (nmI ns i)) := by
  have h : i < ns.length := by rw [n.2]; exact hi
  unfold nmI
  rw [List.getElem?_map, List.getD_eq_getElem?_getD, List.getElem?_eq_getElem h]
  rfl
theorem Nm.ln {H : Hp} {a : Addr} {ns : List PySem.Str} (n : Nm H a ns) {r : Int} (h0 : 0 ≤ r) (h3 : r < 3) : ∃ x, x ∈ lnOf ns ∧ atI (ns.map V.str) (3 + r) = some (.str x) := by
  have : r = 0 ∨ r = 1 ∨ r = 2 := by omega
  rcases this with rfl | rfl | rfl
  · exact ⟨nmI ns 3, by simp [lnOf], atI_nat (j := 3) (n.at_ (by decide))⟩
  · exact ⟨nmI ns 4, by simp [lnOf], atI_nat (j := 4) (n.at_ (by decide))⟩
  · exact ⟨nmI ns 5, by simp [lnOf], atI_nat (j := 5) (n.at_ (by decide))⟩
theorem noL_cm (c : Cm) : noL c.enc = true := by
  show (true && (true && (noL c.l.enc && (noL c.r.enc && true)))) = true
  rw [noL_tm, noL_tm]
  rfl
theorem noL_wh (x : PySem.Str) (b : Bool) : noL (pWh x b) = true := rfl
theorem noL_pr (p : Pr) : noL p.enc = true := by
  cases p with
  | cmp c => exact noL_cm c
  | either a b =>
    show (true && (noL a.enc && (noL b.enc && true))) = true
    rw [noL_cm, noL_cm]
    rfl
  | all x b lo hi z r =>
    show (true && (noL (pWh x b) && (noL lo.enc && (noL hi.enc && (true && (noL r.enc && true)))))) = true
    rw [noL_pl, noL_pl, noL_pl]
    rfl
  | mtch x b lo hi z y d p =>
    show (true && (noL (pWh x b) && (noL lo.enc && (noL hi.enc && (true && (noL (pWh y d) && (true && true))))))) = true
    rw [noL_pl, noL_pl]
    rfl
  | srt x b lo hi =>
    show (true && (noL (pWh x b) && (noL lo.enc && (noL hi.enc && true)))) = true
    rw [noL_pl, noL_pl]
    rfl
  | blw x b lo hi y d lo2 hi2 =>
    show (true && (noL (pWh x b) && (noL lo.enc && (noL hi.enc && (noL (pWh y d) && (noL lo2.enc && (noL hi2.enc && true))))))) = true
    rw [noL_pl, noL_pl, noL_pl, noL_pl]
    rfl
section
variable {P : Program} {w : World} {K : PySem.W.Frag} {mg : PySem.Str → Option Value} {base : Heap} {C : Addr}
def spSome : Sp := fun vs H Q _ => ∃ (h d : Addr) (ds : List Int), vs = [.ref h] ∧ Hand H h d ds ∧ ∀ z H', But h H H' → Hand H' h d ds → Q (.int z) H'
theorem ok_l_some (T : TxS K mg C) (D_l_some : Df K mg "_law_some" s_l_some ["hand"]) (D_l_take : Df K mg "_law_take" s_l_take ["hand", "many"]) (G_l_take : FnOk P w K mg base CX0 1 D_l_take.f D_l_take.fd ["hand", "many"] spTake) : FnOk P w K mg base CX0 2 D_l_some.f D_l_some.fd ["hand"] spSome := by
  refine D_l_some.F.ok sc_l_some (fun vs H Q E h => ?_) (fun cdv A outer s H vs Q E hr h => ?_)
  · obtain ⟨h, d, ds, rfl, _⟩ := h
    rfl
  · obtain ⟨h, d, ds, rfl, hH, q⟩ := h
    refine ⟨_, (pss_cons (ps_set (i := 1) sc_l_some.nd rfl (.inl rfl) (pe_call G_l_take (hr.mono (by decide)) (by rfl) D_l_take.g D_l_take.F.kp D_l_take.b .nil pass0 (pa_cons (pv 0) (pa_cons pe_int pa_nil))))
    (pss_cons (ps_if (pt_cmpR op_eq (pv 1) pe_int (nomark _))
    (pss_one (ps_ret (pe_op op_mul (pe_op op_sub (pe_call G_l_take (hr.mono (by decide)) (by rfl) D_l_take.g D_l_take.F.kp D_l_take.b .nil pass0 (pa_cons (pv 0) (pa_cons pe_int pa_nil))) pe_int) (pe_op op_pow pe_int pe_int))))
    pss_nil)
    (pss_one (ps_ret (pe_op op_sub (pe_call G_l_take (hr.mono (by decide)) (by rfl) D_l_take.g D_l_take.F.kp D_l_take.b .nil pass0 (pa_cons (pv 0) (pa_cons pe_int pa_nil))) pe_int))))), ?_⟩
    refine ⟨_, rfl, h, d, ds, 9, rfl, by decide, hH, fun k H1 _ _ b1 h1 _ => ⟨_, rfl, rfl, _, rfl, ite2 (fun _ => ?_) (fun _ => ?_)⟩⟩
    · exact ⟨_, rfl, h, d, ds, _, rfl, by decide, h1, fun r H2 r0 r1 b2 h2 _ => ⟨_, _, rfl, rfl, _, _, rfl, rfl, ⟨by decide, by decide, by decide⟩, _, _, rfl, rfl, .inl ⟨by omega, by omega⟩, q _ _ (b1.trans b2) h2⟩⟩
    · exact ⟨_, rfl, h, d, ds, _, rfl, by decide, h1, fun r H2 r0 r1 b2 h2 _ => ⟨_, _, rfl, rfl, q _ _ (b1.trans b2) h2⟩⟩
def spPlain (K : PySem.W.Frag) : Sp := fun vs H Q _ => ∃ (h d an : Addr) (ds : List Int) (ns : List PySem.Str), vs = [.ref h, .ref an] ∧ Hand H h d ds ∧ Nm H an ns ∧ ∀ t v H', But h H H' → Hand H' h d ds → Pl.ok (nnOf ns) (lnOf ns) t → Dp K H' v t.enc → Q v H'
theorem ok_l_plain (T : TxS K mg C) (D_l_plain : Df K mg "_law_plain" s_l_plain ["hand", "n"]) (D_l_take : Df K mg "_law_take" s_l_take ["hand", "many"]) (G_l_take : FnOk P w K mg base CX0 1 D_l_take.f D_l_take.fd ["hand", "many"] spTake) : FnOk P w K mg base CX0 2 D_l_plain.f D_l_plain.fd ["hand", "n"] (spPlain K) := by
  refine D_l_plain.F.ok sc_l_plain (fun vs H Q E h => ?_) (fun cdv A outer s H vs Q E hr h => ?_)
  · obtain ⟨h, d, an, ds, ns, rfl, _⟩ := h
    rfl
  · obtain ⟨h, d, an, ds, ns, rfl, hH, hN, q⟩ := h
    refine ⟨_, (pss_cons (ps_set (i := 2) sc_l_plain.nd rfl (.inl rfl) (pe_call G_l_take (hr.mono (by decide)) (by rfl) D_l_take.g D_l_take.F.kp D_l_take.b .nil pass0 (pa_cons (pv 0) (pa_cons pe_int pa_nil))))
    (pss_cons (ps_if (pt_cmpR op_lt (pv 2) pe_int (nomark _))
    (pss_one (ps_ret (pe_tup (pa_cons pe_str (pa_cons (pe_ix ix_list (pe_lst (pa_cons (pe_op op_sub (pe_call G_l_take (hr.mono (by decide)) (by rfl) D_l_take.g D_l_take.F.kp D_l_take.b .nil pass0 (pa_cons (pv 0) (pa_cons pe_int pa_nil))) pe_int) (pa_cons (pe_op op_sub (pe_call G_l_take (hr.mono (by decide)) (by rfl) D_l_take.g D_l_take.F.kp D_l_take.b .nil pass0 (pa_cons (pv 0) (pa_cons pe_int pa_nil))) pe_int) pa_nil))) (pe_op op_fdiv (pe_call G_l_take (hr.mono (by decide)) (by rfl) D_l_take.g D_l_take.F.kp D_l_take.b .nil pass0 (pa_cons (pv 0) (pa_cons pe_int pa_nil))) pe_int) (fun _ _ => rfl)) pa_nil)))))
    pss_nil)
    (pss_cons (ps_if (pt_cmpR op_lt (pv 2) pe_int (nomark _))
    (pss_one (ps_ret (pe_tup (pa_cons pe_str (pa_cons (pe_ix ix_list (pe_lst (pa_cons (pe_ix ix_list (pv 1) pe_int (fun _ _ => rfl)) (pa_cons (pe_ix ix_list (pv 1) pe_int (fun _ _ => rfl)) (pa_cons pe_str pa_nil)))) (pe_call G_l_take (hr.mono (by decide)) (by rfl) D_l_take.g D_l_take.F.kp D_l_take.b .nil pass0 (pa_cons (pv 0) (pa_cons pe_int pa_nil))) (fun _ _ => rfl)) (pa_cons (pe_op op_sub (pe_call G_l_take (hr.mono (by decide)) (by rfl) D_l_take.g D_l_take.F.kp D_l_take.b .nil pass0 (pa_cons (pv 0) (pa_cons pe_int pa_nil))) pe_int) pa_nil))))))
    pss_nil)
    (pss_one (ps_ret (pe_tup (pa_cons pe_str (pa_cons (pe_ix ix_list (pv 1) (pe_op op_add pe_int (pe_call G_l_take (hr.mono (by decide)) (by rfl) D_l_take.g D_l_take.F.kp D_l_take.b .nil pass0 (pa_cons (pv 0) (pa_cons pe_int pa_nil)))) (fun _ _ => rfl)) (pa_cons (pe_op op_sub (pe_call G_l_take (hr.mono (by decide)) (by rfl) D_l_take.g D_l_take.F.kp D_l_take.b .nil pass0 (pa_cons (pv 0) (pa_cons pe_int pa_nil))) pe_int) pa_nil))))))))), ?_⟩
    refine ⟨_, rfl, h, d, ds, 6, rfl, by decide, hH, fun k H1 _ _ b1 h1 _ => ⟨_, rfl, _, _, rfl, rfl, _, rfl, ite2 (fun _ => ?_) (fun _ => ⟨_, rfl, _, _, rfl, rfl, _, rfl, ite2 (fun _ => ?_) (fun _ => ?_)⟩)⟩⟩
    · refine ⟨_, rfl, h, d, ds, _, rfl, by decide, h1, fun r2 H2 _ _ b2 h2 _ => ⟨_, _, rfl, rfl, _, rfl, h, d, ds, _, rfl, by decide, h2, fun r3 H3 _ _ b3 h3 _ => ⟨_, _, rfl, rfl, by show (2 : Nat) ≤ sizeLine; decide, fun p np => ?_⟩⟩⟩
      generalize hg : upd H3 p _ = H4
      obtain ⟨s4, e4⟩ := new_of np hg
      have hp := hand_ne h3 np
      refine ⟨_, rfl, h, d, ds, 4, rfl, by decide, h3.same s4, fun r5 H5 r50 r51 b5 h5 _ => ⟨_, _, rfl, rfl, ⟨by decide, by decide⟩, ?_⟩⟩
      have B5 : But h H H5 := (((b1.trans b2).trans b3).same s4).trans b5
      have hj : r5 / 3 = 0 ∨ r5 / 3 = 1 := by omega
      rcases hj with hj | hj
      · refine ⟨p, _, _, _, rfl, rfl, SqL.of (b5 _ _ hp e4), at_nat (j := 0) hj rfl, by show (2 : Nat) ≤ sizeLine; decide, fun t nt => ?_⟩
        generalize hg : upd H5 t _ = H6
        obtain ⟨s6, e6⟩ := new_of nt hg
        exact q (.num _) _ _ (B5.same s6) (h5.same s6) trivial (dp_tup2 e6 (.str _) (.int _))
      · refine ⟨p, _, _, _, rfl, rfl, SqL.of (b5 _ _ hp e4), at_nat (j := 1) hj rfl, by show (2 : Nat) ≤ sizeLine; decide, fun t nt => ?_⟩
        generalize hg : upd H5 t _ = H6
        obtain ⟨s6, e6⟩ := new_of nt hg
        exact q (.num _) _ _ (B5.same s6) (h5.same s6) trivial (dp_tup2 e6 (.str _) (.int _))
    · have n1 := hN.but hH b1
      refine ⟨_, rfl, an, _, _, _, rfl, rfl, SqL.of n1.1, atI_nat (j := 0) (n1.at_ (by decide)), _, rfl, an, _, _, _, rfl, rfl, SqL.of n1.1, atI_nat (j := 1) (n1.at_ (by decide)), by show (3 : Nat) ≤ sizeLine; decide, fun p np => ?_⟩
      generalize hg : upd H1 p _ = H2
      obtain ⟨s2, e2⟩ := new_of np hg
      have hp := hand_ne h1 np
      refine ⟨_, rfl, h, d, ds, 3, rfl, by decide, h1.same s2, fun r3 H3 r30 r31 b3 h3 _ => ?_⟩
      obtain ⟨x, hx, hxa⟩ := strs_at (ws := nnOf ns) r30 (by show r3 < 3; exact r31)
      refine ⟨p, _, _, _, rfl, rfl, SqL.of (b3 _ _ hp e2), hxa, _, rfl, h, d, ds, 4, rfl, by decide, h3, fun r4 H4 _ _ b4 h4 _ => ⟨_, _, rfl, rfl, by show (3 : Nat) ≤ sizeLine; decide, fun t nt => ?_⟩⟩
      generalize hg : upd H4 t _ = H5
      obtain ⟨s5, e5⟩ := new_of nt hg
      exact q (.var x _) _ _ ((((b1.same s2).trans b3).trans b4).same s5) (h4.same s5) hx (dp_tup3 e5 (.str _) (.str _) (.int _))
    · refine ⟨_, rfl, _, rfl, h, d, ds, 3, rfl, by decide, h1, fun r2 H2 r20 r21 b2 h2 _ => ⟨_, _, rfl, rfl, ?_⟩⟩
      have n2 := (hN.but hH b1).but h1 b2
      obtain ⟨x, hx, hxa⟩ := n2.ln r20 r21
      refine ⟨an, _, _, _, rfl, rfl, SqL.of n2.1, hxa, _, rfl, h, d, ds, 5, rfl, by decide, h2, fun r4 H4 _ _ b4 h4 _ => ⟨_, _, rfl, rfl, by show (3 : Nat) ≤ sizeLine; decide, fun t nt => ?_⟩⟩
      generalize hg : upd H4 t _ = H5
      obtain ⟨s5, e5⟩ := new_of nt hg
      exact q (.len x _) _ _ (((b1.trans b2).trans b4).same s5) (h4.same s5) hx (dp_tup3 e5 (.str _) (.str _) (.int _))
def spList (K : PySem.W.Frag) : Sp := fun vs H Q _ => ∃ (h d an : Addr) (ds : List Int) (ns : List PySem.Str), vs = [.ref h, .ref an] ∧ Hand H h d ds ∧ Nm H an ns ∧ ∀ x b v H', But h H H' → Hand H' h d ds → x ∈ lnOf ns → Dp K H' v (pWh x b) → Q v H'
theorem ok_l_list (T : TxS K mg C) (D_l_list : Df K mg "_law_list" s_l_list ["hand", "n"]) (D_l_take : Df K mg "_law_take" s_l_take ["hand", "many"]) (G_l_take : FnOk P w K mg base CX0 1 D_l_take.f D_l_take.fd ["hand", "many"] spTake) : FnOk P w K mg base CX0 2 D_l_list.f D_l_list.fd ["hand", "n"] (spList K) := by
  refine D_l_list.F.ok sc_l_list (fun vs H Q E h => ?_) (fun cdv A outer s H vs Q E hr h => ?_)
  · obtain ⟨h, d, an, ds, ns, rfl, _⟩ := h
    rfl
  · obtain ⟨h, d, an, ds, ns, rfl, hH, hN, q⟩ := h
    refine ⟨_, (pss_one (ps_ret (pe_tup (pa_cons (pe_ix ix_list (pv 1) (pe_op op_add pe_int (pe_call G_l_take (hr.mono (by decide)) (by rfl) D_l_take.g D_l_take.F.kp D_l_take.b .nil pass0 (pa_cons (pv 0) (pa_cons pe_int pa_nil)))) (fun _ _ => rfl)) (pa_cons (pe_cmpR op_eq (pe_call G_l_take (hr.mono (by decide)) (by rfl) D_l_take.g D_l_take.F.kp D_l_take.b .nil pass0 (pa_cons (pv 0) (pa_cons pe_int pa_nil))) pe_int (nomark _)) pa_nil))))), ?_⟩
    refine ⟨_, rfl, _, rfl, h, d, ds, 3, rfl, by decide, hH, fun r2 H2 r20 r21 b2 h2 _ => ⟨_, _, rfl, rfl, ?_⟩⟩
    have n2 := hN.but hH b2
    obtain ⟨x, hx, hxa⟩ := n2.ln r20 r21
    refine ⟨an, _, _, _, rfl, rfl, SqL.of n2.1, hxa, _, rfl, h, d, ds, 3, rfl, by decide, h2, fun r4 H4 _ _ b4 h4 _ => ⟨rfl, by show (2 : Nat) ≤ sizeLine; decide, fun t nt => ?_⟩⟩
    generalize hg : upd H4 t _ = H5
    obtain ⟨s5, e5⟩ := new_of nt hg
    exact q x _ _ _ ((b2.trans b4).same s5) (h4.same s5) hx (dp_tup2 e5 (.str _) (.bl _))
def spTerm (K : PySem.W.Frag) : Sp := fun vs H Q _ => ∃ (h d an : Addr) (ds : List Int) (ns : List PySem.Str), vs = [.ref h, .ref an] ∧ Hand H h d ds ∧ Nm H an ns ∧ ∀ t v H', But h H H' → Hand H' h d ds → Tm.ok (nnOf ns) (lnOf ns) t → Dp K H' v t.enc → Q v H'
theorem ok_l_term (T : TxS K mg C) (D_l_term : Df K mg "_law_term" s_l_term ["hand", "n"]) (D_l_take : Df K mg "_law_take" s_l_take ["hand", "many"]) (D_l_plain : Df K mg "_law_plain" s_l_plain ["hand", "n"]) (D_l_list : Df K mg "_law_list" s_l_list ["hand", "n"]) (G_l_take : FnOk P w K mg base CX0 1 D_l_take.f D_l_take.fd ["hand", "many"] spTake) (G_l_plain : FnOk P w K mg base CX0 2 D_l_plain.f D_l_plain.fd ["hand", "n"] (spPlain K)) (G_l_list : FnOk P w K mg base CX0 2 D_l_list.f D_l_list.fd ["hand", "n"] (spList K)) : FnOk P w K mg base CX0 3 D_l_term.f D_l_term.fd ["hand", "n"] (spTerm K) := by
  refine D_l_term.F.ok sc_l_term (fun vs H Q E h => ?_) (fun cdv A outer s H vs Q E hr h => ?_)
  · obtain ⟨h, d, an, ds, ns, rfl, _⟩ := h
    rfl
  · obtain ⟨h, d, an, ds, ns, rfl, hH, hN, q⟩ := h
    refine ⟨_, (pss_cons (ps_if (pt_cmpR op_eq (pe_call G_l_take (hr.mono (by decide)) (by rfl) D_l_take.g D_l_take.F.kp D_l_take.b .nil pass0 (pa_cons (pv 0) (pa_cons pe_int pa_nil))) pe_int (nomark _))
    (pss_one (ps_ret (pe_call G_l_plain (hr.mono (by decide)) (by rfl) D_l_plain.g D_l_plain.F.kp D_l_plain.b .nil pass0 (pa_cons (pv 0) (pa_cons (pv 1) pa_nil)))))
    pss_nil)
    (pss_one (ps_ret (pe_tup (pa_cons pe_str (pa_cons (pe_call G_l_list (hr.mono (by decide)) (by rfl) D_l_list.g D_l_list.F.kp D_l_list.b .nil pass0 (pa_cons (pv 0) (pa_cons (pv 1) pa_nil))) (pa_cons (pe_call G_l_plain (hr.mono (by decide)) (by rfl) D_l_plain.g D_l_plain.F.kp D_l_plain.b .nil pass0 (pa_cons (pv 0) (pa_cons (pv 1) pa_nil))) (pa_cons (pe_ix ix_list (pe_lst (pa_cons pe_int (pa_cons pe_int (pa_cons pe_int (pa_cons (pe_un un_neg pe_int) pa_nil))))) (pe_call G_l_take (hr.mono (by decide)) (by rfl) D_l_take.g D_l_take.F.kp D_l_take.b .nil pass0 (pa_cons (pv 0) (pa_cons pe_int pa_nil))) (fun _ _ => rfl)) pa_nil)))))))), ?_⟩
    refine ⟨_, rfl, h, d, ds, 2, rfl, by decide, hH, fun k H1 _ _ b1 h1 _ => ⟨rfl, _, rfl, ite2 (fun _ => ?_) (fun _ => ?_)⟩⟩
    · exact ⟨_, rfl, _, rfl, h, d, an, ds, ns, rfl, h1, hN.but hH b1, fun t v H2 b2 h2 ht hv => q (.pl t) v H2 (b1.trans b2) h2 ht hv⟩
    · have n1 := hN.but hH b1
      refine ⟨_, rfl, _, rfl, h, d, an, ds, ns, rfl, h1, n1, fun x b v2 H2 b2 h2 hx hv2 => ?_⟩
      refine ⟨_, rfl, _, rfl, h, d, an, ds, ns, rfl, h2, n1.but h1 b2, fun t v3 H3 b3 h3 ht hv3 => ?_⟩
      refine ⟨_, rfl, by show (4 : Nat) ≤ sizeLine; decide, fun p np => ?_⟩
      generalize hg : upd H3 p _ = H4
      obtain ⟨s4, e4⟩ := new_of np hg
      have hp := hand_ne h3 np
      refine ⟨_, rfl, h, d, ds, 4, rfl, by decide, h3.same s4, fun r5 H5 r50 r51 b5 h5 _ => ?_⟩
      obtain ⟨z, _, hza⟩ := int_at (ns := [0, 0, 1, -2]) r50 (by show r5 < 4; exact r51)
      refine ⟨p, _, _, _, rfl, rfl, SqL.of (b5 _ _ hp e4), hza, by show (4 : Nat) ≤ sizeLine; decide, fun t6 n6 => ?_⟩
      generalize hg : upd H5 t6 _ = H6
      obtain ⟨s6, e6⟩ := new_of n6 hg
      have d2 := ((h3.same s4).dp b5 (noL_wh x b) ((h2.dp b3 (noL_wh x b) hv2).same s4)).same s6
      have d3 := ((h3.same s4).dp b5 (noL_pl t) (hv3.same s4)).same s6
      exact q (.cell x b t z) _ _ (((((b1.trans b2).trans b3).same s4).trans b5).same s6) (h5.same s6) ⟨hx, ht⟩ (dp_tup4 e6 (.str _) d2 d3 (.int _))
def spCmp (K : PySem.W.Frag) : Sp := fun vs H Q _ => ∃ (h d an : Addr) (ds : List Int) (ns : List PySem.Str), vs = [.ref h, .ref an] ∧ Hand H h d ds ∧ Nm H an ns ∧ ∀ c v H', But h H H' → Hand H' h d ds → Cm.ok (nnOf ns) (lnOf ns) c → Dp K H' v c.enc → Q v H'
theorem ok_l_cmp (T : TxS K mg C) (D_l_cmp : Df K mg "_law_cmp" s_l_cmp ["hand", "n"]) (D_l_take : Df K mg "_law_take" s_l_take ["hand", "many"]) (D_l_term : Df K mg "_law_term" s_l_term ["hand", "n"]) (G_l_take : FnOk P w K mg base CX0 1 D_l_take.f D_l_take.fd ["hand", "many"] spTake) (G_l_term : FnOk P w K mg base CX0 3 D_l_term.f D_l_term.fd ["hand", "n"] (spTerm K)) : FnOk P w K mg base CX0 4 D_l_cmp.f D_l_cmp.fd ["hand", "n"] (spCmp K) := by
  refine D_l_cmp.F.ok sc_l_cmp (fun vs H Q E h => ?_) (fun cdv A outer s H vs Q E hr h => ?_)
  · obtain ⟨h, d, an, ds, ns, rfl, _⟩ := h
    rfl
  · obtain ⟨h, d, an, ds, ns, rfl, hH, hN, q⟩ := h
    refine ⟨_, (pss_one (ps_ret (pe_tup (pa_cons pe_str (pa_cons (pe_ix ix_list (pe_lst (pa_strs (.cons _ _ _ (.cons _ _ _ (.cons _ _ _ (.cons _ _ _ (.cons _ _ _ (.cons _ _ _ .nil)))))))) (pe_call G_l_take (hr.mono (by decide)) (by rfl) D_l_take.g D_l_take.F.kp D_l_take.b .nil pass0 (pa_cons (pv 0) (pa_cons pe_int pa_nil))) (fun _ _ => rfl)) (pa_cons (pe_call G_l_term (hr.mono (by decide)) (by rfl) D_l_term.g D_l_term.F.kp D_l_term.b .nil pass0 (pa_cons (pv 0) (pa_cons (pv 1) pa_nil))) (pa_cons (pe_call G_l_term (hr.mono (by decide)) (by rfl) D_l_term.g D_l_term.F.kp D_l_term.b .nil pass0 (pa_cons (pv 0) (pa_cons (pv 1) pa_nil))) pa_nil))))))), ?_⟩
    refine ⟨by show (6 : Nat) ≤ sizeLine; decide, fun p np => ?_⟩
    generalize hg : upd H p _ = H1
    obtain ⟨s1, e1⟩ := new_of np hg
    have hp := hand_ne hH np
    have h1 := hH.same s1
    have n1 := hN.same s1
    refine ⟨_, rfl, h, d, ds, 6, rfl, by decide, h1, fun r2 H2 r20 r21 b2 h2 _ => ?_⟩
    obtain ⟨z, hz, hza⟩ := strs_at (ws := sgs) r20 (by show r2 < 6; exact r21)
    have n2 := n1.but h1 b2
    refine ⟨p, _, _, _, rfl, rfl, SqL.of (b2 _ _ hp e1), hza, ?_⟩
    refine ⟨_, rfl, _, rfl, h, d, an, ds, ns, rfl, h2, n2, fun l v3 H3 b3 h3 hl hv3 => ?_⟩
    refine ⟨_, rfl, _, rfl, h, d, an, ds, ns, rfl, h3, n2.but h2 b3, fun r v4 H4 b4 h4 hr4 hv4 => ?_⟩
    refine ⟨by show (4 : Nat) ≤ sizeLine; decide, fun t nt => ?_⟩
    generalize hg : upd H4 t _ = H5
    obtain ⟨s5, e5⟩ := new_of nt hg
    exact q ⟨z, l, r⟩ _ _ ((((hH.at_.elim fun _ _ => (But.refl h H).same s1).trans b2).trans b3).trans b4 |>.same s5) (h4.same s5) ⟨hl, hr4, hz⟩ (dp_tup4 e5 (.str _) (.str _) ((h3.dp b4 (noL_tm l) hv3).same s5) (hv4.same s5))
end
end SW

namespace SW
open PySem PySem.Spec PyProof.Rows L2
abbrev s_l_condition : Stmt := topS 29
theorem sc_l_condition : FnScope ["hand", "n", "depth", "kind", "parts", "k"] ["hand", "n", "depth"] (defScope s_l_condition) := ⟨rfl, rfl, rfl, by decide +kernel, rfl, by decide +kernel, by decide +kernel⟩

abbrev s_l_names : Stmt := topS 15
theorem sc_l_names : FnScope ["hand", "found", "letter", "pad"] ["hand"] (defScope s_l_names) := ⟨rfl, rfl, rfl, by decide +kernel, rfl, by decide +kernel, by decide +kernel⟩

theorem tup_ne {H : Hp} {h d t : Addr} {ds : List Int} {xs : List V} (hh : Hand H h d ds) (e : H t = some (.tup xs)) : t ≠ h := fun q => by
  obtain ⟨⟨i, e1⟩, _, _⟩ := hh
  rw [← q, e] at e1
  cases e1
section
variable {P : Program} {w : World} {K : PySem.W.Frag} {mg : PySem.Str → Option Value} {base : Heap} {C : Addr}
/-- data that were there, behind a new thing, a draw and two new things -/
theorem dp3 {K : PySem.W.Frag} {H H1 H2 H3 : Hp} {h d : Addr} {ds : List Int} {v : V} {e : PyData} (hh : Hand H1 h d ds) (s1 : Same H H1) (b : But h H1 H2) (s2 : Same H2 H3) (n : noL e = true) (hv : Dp K H v e) : Dp K H3 v e := (hh.dp b n (hv.same s1)).same s2
def spPromise (K : PySem.W.Frag) : Sp := fun vs H Q _ => ∃ (h d an : Addr) (ds : List Int) (ns : List PySem.Str), vs = [.ref h, .ref an] ∧ Hand H h d ds ∧ Nm H an ns ∧ ∀ c v H', But h H H' → Hand H' h d ds → Pr.ok (nnOf ns) (lnOf ns) c → Dp K H' v c.enc → Q v H'
theorem ok_l_promise (T : TxS K mg C) (D_l_promise : Df K mg "_law_promise" s_l_promise ["hand", "n"]) (D_l_take : Df K mg "_law_take" s_l_take ["hand", "many"]) (D_l_cmp : Df K mg "_law_cmp" s_l_cmp ["hand", "n"]) (D_l_list : Df K mg "_law_list" s_l_list ["hand", "n"]) (D_l_plain : Df K mg "_law_plain" s_l_plain ["hand", "n"]) (G_l_take : FnOk P w K mg base CX0 1 D_l_take.f D_l_take.fd ["hand", "many"] spTake) (G_l_cmp : FnOk P w K mg base CX0 4 D_l_cmp.f D_l_cmp.fd ["hand", "n"] (spCmp K)) (G_l_list : FnOk P w K mg base CX0 2 D_l_list.f D_l_list.fd ["hand", "n"] (spList K)) (G_l_plain : FnOk P w K mg base CX0 2 D_l_plain.f D_l_plain.fd ["hand", "n"] (spPlain K)) : FnOk P w K mg base CX0 5 D_l_promise.f D_l_promise.fd ["hand", "n"] (spPromise K) := by
  refine D_l_promise.F.ok sc_l_promise (fun vs H Q E h => ?_) (fun cdv A outer s H vs Q E hr h => ?_)
  · obtain ⟨h, d, an, ds, ns, rfl, _⟩ := h
    rfl
  · obtain ⟨h, d, an, ds, ns, rfl, hH, hN, q⟩ := h
    refine ⟨_, (pss_cons (ps_set (i := 2) sc_l_promise.nd rfl (.inl rfl) (pe_call G_l_take (hr.mono (by decide)) (by rfl) D_l_take.g D_l_take.F.kp D_l_take.b .nil pass0 (pa_cons (pv 0) (pa_cons pe_int pa_nil))))
    (pss_cons (ps_if (pt_cmpR op_lt (pv 2) pe_int (nomark _))
    (pss_one (ps_ret (pe_call G_l_cmp (hr.mono (by decide)) (by rfl) D_l_cmp.g D_l_cmp.F.kp D_l_cmp.b .nil pass0 (pa_cons (pv 0) (pa_cons (pv 1) pa_nil)))))
    pss_nil)
    (pss_cons (ps_if (pt_cmpR op_eq (pv 2) pe_int (nomark _))
    (pss_one (ps_ret (pe_tup (pa_cons pe_str (pa_cons (pe_call G_l_cmp (hr.mono (by decide)) (by rfl) D_l_cmp.g D_l_cmp.F.kp D_l_cmp.b .nil pass0 (pa_cons (pv 0) (pa_cons (pv 1) pa_nil))) (pa_cons (pe_call G_l_cmp (hr.mono (by decide)) (by rfl) D_l_cmp.g D_l_cmp.F.kp D_l_cmp.b .nil pass0 (pa_cons (pv 0) (pa_cons (pv 1) pa_nil))) pa_nil))))))
    pss_nil)
    (pss_cons (ps_set (i := 3) sc_l_promise.nd rfl (.inl rfl) (pe_ix ix_list (pe_lst (pa_strs (.cons _ _ _ (.cons _ _ _ (.cons _ _ _ (.cons _ _ _ (.cons _ _ _ (.cons _ _ _ .nil)))))))) (pe_call G_l_take (hr.mono (by decide)) (by rfl) D_l_take.g D_l_take.F.kp D_l_take.b .nil pass0 (pa_cons (pv 0) (pa_cons pe_int pa_nil))) (fun _ _ => rfl)))
    (pss_cons (ps_set (i := 4) sc_l_promise.nd rfl (.inl rfl) (pe_tup (pa_cons (pe_call G_l_list (hr.mono (by decide)) (by rfl) D_l_list.g D_l_list.F.kp D_l_list.b .nil pass0 (pa_cons (pv 0) (pa_cons (pv 1) pa_nil))) (pa_cons (pe_ix ix_list (pe_lst (pa_cons (pe_tup (pa_cons pe_str (pa_cons pe_int pa_nil))) (pa_cons (pe_call G_l_plain (hr.mono (by decide)) (by rfl) D_l_plain.g D_l_plain.F.kp D_l_plain.b .nil pass0 (pa_cons (pv 0) (pa_cons (pv 1) pa_nil))) pa_nil))) (pe_call G_l_take (hr.mono (by decide)) (by rfl) D_l_take.g D_l_take.F.kp D_l_take.b .nil pass0 (pa_cons (pv 0) (pa_cons pe_int pa_nil))) (fun _ _ => rfl)) (pa_cons (pe_call G_l_plain (hr.mono (by decide)) (by rfl) D_l_plain.g D_l_plain.F.kp D_l_plain.b .nil pass0 (pa_cons (pv 0) (pa_cons (pv 1) pa_nil))) pa_nil)))))
    (pss_cons (ps_if (pt_cmpR op_lt (pv 2) pe_int (nomark _))
    (pss_one (ps_ret (pe_op op_catT (pe_op op_catT (pe_tup (pa_cons pe_str pa_nil)) (pv 4)) (pe_tup (pa_cons (pv 3) (pa_cons (pe_call G_l_plain (hr.mono (by decide)) (by rfl) D_l_plain.g D_l_plain.F.kp D_l_plain.b .nil pass0 (pa_cons (pv 0) (pa_cons (pv 1) pa_nil))) pa_nil))))))
    pss_nil)
    (pss_cons (ps_if (pt_cmpR op_lt (pv 2) pe_int (nomark _))
    (pss_one (ps_ret (pe_op op_catT (pe_op op_catT (pe_tup (pa_cons pe_str pa_nil)) (pv 4)) (pe_tup (pa_cons (pv 3) (pa_cons (pe_call G_l_list (hr.mono (by decide)) (by rfl) D_l_list.g D_l_list.F.kp D_l_list.b .nil pass0 (pa_cons (pv 0) (pa_cons (pv 1) pa_nil))) (pa_cons (pe_ix ix_list (pe_lst (pa_cons pe_int (pa_cons pe_int (pa_cons pe_int (pa_cons (pe_un un_neg pe_int) pa_nil))))) (pe_call G_l_take (hr.mono (by decide)) (by rfl) D_l_take.g D_l_take.F.kp D_l_take.b .nil pass0 (pa_cons (pv 0) (pa_cons pe_int pa_nil))) (fun _ _ => rfl)) pa_nil)))))))
    pss_nil)
    (pss_cons (ps_if (pt_cmpR op_lt (pv 2) pe_int (nomark _))
    (pss_one (ps_ret (pe_op op_catT (pe_tup (pa_cons pe_str pa_nil)) (pv 4))))
    pss_nil)
    (pss_one (ps_ret (pe_op op_catT (pe_op op_catT (pe_tup (pa_cons pe_str pa_nil)) (pv 4)) (pe_tup (pa_cons (pe_call G_l_list (hr.mono (by decide)) (by rfl) D_l_list.g D_l_list.F.kp D_l_list.b .nil pass0 (pa_cons (pv 0) (pa_cons (pv 1) pa_nil))) (pa_cons (pe_call G_l_plain (hr.mono (by decide)) (by rfl) D_l_plain.g D_l_plain.F.kp D_l_plain.b .nil pass0 (pa_cons (pv 0) (pa_cons (pv 1) pa_nil))) (pa_cons (pe_call G_l_plain (hr.mono (by decide)) (by rfl) D_l_plain.g D_l_plain.F.kp D_l_plain.b .nil pass0 (pa_cons (pv 0) (pa_cons (pv 1) pa_nil))) pa_nil))))))))))))))), ?_⟩
    refine ⟨_, rfl, h, d, ds, 10, rfl, by decide, hH, fun k H1 _ _ b1 h1 _ => ?_⟩
    have n1 := hN.but hH b1
    refine ⟨_, rfl, _, _, rfl, rfl, _, rfl, ite2 (fun _ => ?_) (fun _ => ⟨_, rfl, rfl, _, rfl, ite2 (fun _ => ?_) (fun _ => ?_)⟩)⟩
    · exact ⟨_, rfl, _, rfl, h, d, an, ds, ns, rfl, h1, n1, fun c v H2 b2 h2 hc hv => q (.cmp c) v H2 (b1.trans b2) h2 hc hv⟩
    · refine ⟨_, rfl, _, rfl, h, d, an, ds, ns, rfl, h1, n1, fun c v H2 b2 h2 hc hv => ⟨_, rfl, _, rfl, h, d, an, ds, ns, rfl, h2, n1.but h1 b2, fun c3 v3 H3 b3 h3 hc3 hv3 => ⟨by show (3 : Nat) ≤ sizeLine; decide, fun t nt => ?_⟩⟩⟩
      generalize hg : upd H3 t _ = H4
      obtain ⟨s4, e4⟩ := new_of nt hg
      exact q (.either c c3) _ _ (((b1.trans b2).trans b3).same s4) (h3.same s4) ⟨hc, hc3⟩ (dp_tup3 e4 (.str _) ((h2.dp b3 (noL_cm c) hv).same s4) (hv3.same s4))
    refine ⟨by show (6 : Nat) ≤ sizeLine; decide, fun p np => ?_⟩
    generalize hg : upd H1 p _ = H2
    obtain ⟨s2, e2⟩ := new_of np hg
    have hp := hand_ne h1 np
    have h2 := h1.same s2
    have n2 := n1.same s2
    refine ⟨_, rfl, h, d, ds, 6, rfl, by decide, h2, fun r3 H3 r30 r31 b3 h3 _ => ?_⟩
    obtain ⟨z, hz, hza⟩ := strs_at (ws := sgs) r30 (by show r3 < 6; exact r31)
    have n3 := n2.but h2 b3
    refine ⟨p, _, _, _, rfl, rfl, SqL.of (b3 _ _ hp e2), hza, ?_⟩
    have B3 : But h H H3 := (b1.same s2).trans b3
    clear e2 hp np s2 h2 n2 b3 hza r30 r31 b1 h1 n1
    -- told
    refine ⟨_, rfl, _, rfl, h, d, an, ds, ns, rfl, h3, n3, fun x b vw H4 b4 h4 hx hvw => ?_⟩
    have n4 := n3.but h3 b4
    refine ⟨by show (2 : Nat) ≤ sizeLine; decide, fun t5 n5 => ?_⟩
    generalize hg : upd H4 t5 _ = H5
    obtain ⟨s5, e5⟩ := new_of n5 hg
    have h5 := h4.same s5
    have dz : Dp K H5 (.ref t5) (Pl.num 0).enc := dp_tup2 e5 (.str _) (.int _)
    refine ⟨_, rfl, _, rfl, h, d, an, ds, ns, rfl, h5, n4.same s5, fun lo1 vl H6 b6 h6 ol1 hvl => ?_⟩
    have n6 := (n4.same s5).but h5 b6
    have dz6 := h5.dp b6 (noL_pl _) dz
    refine ⟨by show (2 : Nat) ≤ sizeLine; decide, fun p7 n7 => ?_⟩
    generalize hg : upd H6 p7 _ = H7
    obtain ⟨s7, e7⟩ := new_of n7 hg
    have h7 := h6.same s7
    have hp7 := hand_ne h6 n7
    refine ⟨_, rfl, h, d, ds, 2, rfl, by decide, h7, fun r8 H8 r80 r81 b8 h8 _ => ?_⟩
    have n8 := (n6.same s7).but h7 b8
    have LO : ∃ (lo : Pl) (v : V), atI [V.ref t5, vl] r8 = some v ∧ lo.ok (nnOf ns) (lnOf ns) ∧ Dp K H8 v lo.enc := by
      have hj : r8 = 0 ∨ r8 = 1 := by omega
      rcases hj with rfl | rfl
      · exact ⟨.num 0, _, atI_nat (j := 0) rfl, trivial, h7.dp b8 (noL_pl _) (dz6.same s7)⟩
      · exact ⟨lo1, _, atI_nat (j := 1) rfl, ol1, h7.dp b8 (noL_pl _) (hvl.same s7)⟩
    obtain ⟨lo, vlo, hlo, olo, dlo⟩ := LO
    refine ⟨p7, _, _, _, rfl, rfl, SqL.of (b8 _ _ hp7 e7), hlo, ?_⟩
    have dw8 : Dp K H8 vw (pWh x b) := h7.dp b8 (noL_wh x b) ((h5.dp b6 (noL_wh x b) (hvw.same s5)).same s7)
    have B8 : But h H H8 := ((((B3.trans b4).same s5).trans b6).same s7).trans b8
    clear hlo e7 hp7 n7 dz6 dz hvl hvw e5 n5 B3
    refine ⟨_, rfl, _, rfl, h, d, an, ds, ns, rfl, h8, n8, fun hi vhi H9 b9 h9 ohi dhi => ?_⟩
    have n9 := n8.but h8 b9
    have dw9 := h8.dp b9 (noL_wh x b) dw8
    have dlo9 := h8.dp b9 (noL_pl lo) dlo
    refine ⟨by show (3 : Nat) ≤ sizeLine; decide, fun t nt => ?_⟩
    generalize hg : upd H9 t _ = Ha
    obtain ⟨sa, ea⟩ := new_of nt hg
    have ha := h9.same sa
    have na := n9.same sa
    have dw := dw9.same sa
    have dl := dlo9.same sa
    have dh := dhi.same sa
    have Ba : But h H Ha := (B8.trans b9).same sa
    clear dw9 dlo9 dhi dw8 dlo B8 b8 b9 n8 n9 h8 h9 sa nt
    -- all
    refine ⟨_, rfl, _, _, rfl, rfl, _, rfl, ite2 (fun _ => ?_) (fun _ => ⟨_, rfl, _, _, rfl, rfl, _, rfl, ite2 (fun _ => ?_) (fun _ => ⟨_, rfl, _, _, rfl, rfl, _, rfl, ite2 (fun _ => ?_) (fun _ => ?_)⟩)⟩)⟩
    · refine ⟨by show (1 : Nat) ≤ sizeLine; decide, fun t1 m1 => ?_⟩
      generalize hg : upd Ha t1 _ = Hb
      obtain ⟨sb, eb⟩ := new_of m1 hg
      refine ⟨_, rfl, t1, t, _, _, rfl, rfl, SqT.of eb, SqT.of (sb _ _ ea), List.cons_ne_nil _ _, by show (4 : Nat) ≤ sizeLine; decide, fun h => absurd h (List.cons_ne_nil _ _), fun _ t2 m2 => ?_⟩
      generalize hg : upd Hb t2 _ = Hc
      obtain ⟨sc, ec⟩ := new_of m2 hg
      have hc := (ha.same sb).same sc
      refine ⟨_, rfl, _, rfl, _, rfl, h, d, an, ds, ns, rfl, hc, (na.same sb).same sc, fun r vr Hd bd hd or dr => ?_⟩
      refine ⟨by show (2 : Nat) ≤ sizeLine; decide, fun t3 m3 => ?_⟩
      generalize hg : upd Hd t3 _ = He
      obtain ⟨se, ee⟩ := new_of m3 hg
      refine ⟨t2, t3, _, _, rfl, rfl, SqT.of (se _ _ (bd _ _ (tup_ne hc ec) ec)), SqT.of ee, List.cons_ne_nil _ _, by show (6 : Nat) ≤ sizeLine; decide, fun h => absurd h (List.cons_ne_nil _ _), fun _ t4 m4 => ?_⟩
      generalize hg : upd He t4 _ = Hf
      obtain ⟨sf, ef⟩ := new_of m4 hg
      have S1 := sb.trans sc
      have S2 := se.trans sf
      exact q (.all x b lo hi z r) _ _ (((Ba.same S1).trans bd).same S2) (hd.same S2) ⟨hx, olo, ohi, hz, or⟩ (.tup (SqT.of ef) (.cons (.str _) (.cons (dp3 hc S1 bd S2 (noL_wh x b) dw) (.cons (dp3 hc S1 bd S2 (noL_pl lo) dl) (.cons (dp3 hc S1 bd S2 (noL_pl hi) dh) (.cons (.str _) (.cons (dr.same S2) .nil)))))))
    · refine ⟨by show (1 : Nat) ≤ sizeLine; decide, fun t1 m1 => ?_⟩
      generalize hg : upd Ha t1 _ = Hb
      obtain ⟨sb, eb⟩ := new_of m1 hg
      refine ⟨_, rfl, t1, t, _, _, rfl, rfl, SqT.of eb, SqT.of (sb _ _ ea), List.cons_ne_nil _ _, by show (4 : Nat) ≤ sizeLine; decide, fun h => absurd h (List.cons_ne_nil _ _), fun _ t2 m2 => ?_⟩
      generalize hg : upd Hb t2 _ = Hc
      obtain ⟨sc, ec⟩ := new_of m2 hg
      have hc := (ha.same sb).same sc
      refine ⟨_, rfl, _, rfl, _, rfl, h, d, an, ds, ns, rfl, hc, (na.same sb).same sc, fun y dd vy Hd bd hd oy dy => ?_⟩
      refine ⟨_, rfl, by show (4 : Nat) ≤ sizeLine; decide, fun p3 m3 => ?_⟩
      generalize hg : upd Hd p3 _ = He
      obtain ⟨se, ee⟩ := new_of m3 hg
      have hp3 := hand_ne hd m3
      have he := hd.same se
      refine ⟨_, rfl, h, d, ds, 4, rfl, by decide, he, fun r5 Hf r50 r51 bf hf _ => ?_⟩
      obtain ⟨pp, _, hpa⟩ := int_at (ns := [0, 0, 1, -1]) r50 (by show r5 < 4; exact r51)
      refine ⟨p3, _, _, _, rfl, rfl, SqL.of (bf _ _ hp3 ee), hpa, by show (3 : Nat) ≤ sizeLine; decide, fun t3 m5 => ?_⟩
      generalize hg : upd Hf t3 _ = Hg
      obtain ⟨sg, eg⟩ := new_of m5 hg
      have S1 := sb.trans sc
      have bx : But h Hc Hf := (bd.same se).trans bf
      refine ⟨t2, t3, _, _, rfl, rfl, SqT.of (sg _ _ (bx _ _ (tup_ne hc ec) ec)), SqT.of eg, List.cons_ne_nil _ _, by show (7 : Nat) ≤ sizeLine; decide, fun h => absurd h (List.cons_ne_nil _ _), fun _ t4 m4 => ?_⟩
      generalize hg : upd Hg t4 _ = Hi
      obtain ⟨si, ei⟩ := new_of m4 hg
      have S2 := sg.trans si
      exact q (.mtch x b lo hi z y dd pp) _ _ (((Ba.same S1).trans bx).same S2) (hf.same S2) ⟨hx, olo, ohi, hz, oy⟩ (.tup (SqT.of ei) (.cons (.str _) (.cons (dp3 hc S1 bx S2 (noL_wh x b) dw) (.cons (dp3 hc S1 bx S2 (noL_pl lo) dl) (.cons (dp3 hc S1 bx S2 (noL_pl hi) dh) (.cons (.str _) (.cons (dp3 he se bf S2 (noL_wh y dd) dy) (.cons (.int _) .nil))))))))
    · refine ⟨by show (1 : Nat) ≤ sizeLine; decide, fun t1 m1 => ?_⟩
      generalize hg : upd Ha t1 _ = Hb
      obtain ⟨sb, eb⟩ := new_of m1 hg
      refine ⟨_, rfl, t1, t, _, _, rfl, rfl, SqT.of eb, SqT.of (sb _ _ ea), List.cons_ne_nil _ _, by show (4 : Nat) ≤ sizeLine; decide, fun h => absurd h (List.cons_ne_nil _ _), fun _ t2 m2 => ?_⟩
      generalize hg : upd Hb t2 _ = Hc
      obtain ⟨sc, ec⟩ := new_of m2 hg
      have S1 := sb.trans sc
      exact q (.srt x b lo hi) _ _ (Ba.same S1) (ha.same S1) ⟨hx, olo, ohi⟩ (.tup (SqT.of ec) (.cons (.str _) (.cons (dw.same S1) (.cons (dl.same S1) (.cons (dh.same S1) .nil)))))
    · refine ⟨by show (1 : Nat) ≤ sizeLine; decide, fun t1 m1 => ?_⟩
      generalize hg : upd Ha t1 _ = Hb
      obtain ⟨sb, eb⟩ := new_of m1 hg
      refine ⟨_, rfl, t1, t, _, _, rfl, rfl, SqT.of eb, SqT.of (sb _ _ ea), List.cons_ne_nil _ _, by show (4 : Nat) ≤ sizeLine; decide, fun h => absurd h (List.cons_ne_nil _ _), fun _ t2 m2 => ?_⟩
      generalize hg : upd Hb t2 _ = Hc
      obtain ⟨sc, ec⟩ := new_of m2 hg
      have hc := (ha.same sb).same sc
      have nc := (na.same sb).same sc
      refine ⟨_, rfl, _, rfl, h, d, an, ds, ns, rfl, hc, nc, fun y dd vy Hd bd hd oy dy => ?_⟩
      refine ⟨_, rfl, _, rfl, h, d, an, ds, ns, rfl, hd, nc.but hc bd, fun lo2 v6 He be he o6 d6 => ?_⟩
      refine ⟨_, rfl, _, rfl, h, d, an, ds, ns, rfl, he, (nc.but hc bd).but hd be, fun hi2 v7 Hf bf hf o7 d7 => ?_⟩
      refine ⟨by show (3 : Nat) ≤ sizeLine; decide, fun t3 m3 => ?_⟩
      generalize hg : upd Hf t3 _ = Hg
      obtain ⟨sg, eg⟩ := new_of m3 hg
      have S1 := sb.trans sc
      have bx : But h Hc Hf := (bd.trans be).trans bf
      refine ⟨t2, t3, _, _, rfl, rfl, SqT.of (sg _ _ (bx _ _ (tup_ne hc ec) ec)), SqT.of eg, List.cons_ne_nil _ _, by show (7 : Nat) ≤ sizeLine; decide, fun h => absurd h (List.cons_ne_nil _ _), fun _ t4 m4 => ?_⟩
      generalize hg : upd Hg t4 _ = Hi
      obtain ⟨si, ei⟩ := new_of m4 hg
      have S2 := sg.trans si
      exact q (.blw x b lo hi y dd lo2 hi2) _ _ (((Ba.same S1).trans bx).same S2) (hf.same S2) ⟨hx, olo, ohi, oy, o6, o7⟩ (.tup (SqT.of ei) (.cons (.str _) (.cons (dp3 hc S1 bx S2 (noL_wh x b) dw) (.cons (dp3 hc S1 bx S2 (noL_pl lo) dl) (.cons (dp3 hc S1 bx S2 (noL_pl hi) dh) (.cons (dp3 hd (Same.refl _) (be.trans bf) S2 (noL_wh y dd) dy) (.cons (dp3 he (Same.refl _) bf S2 (noL_pl lo2) d6) (.cons (d7.same S2) .nil))))))))
mutual
theorem noL_cd : ∀ c : Cd, noL c.enc = true
  | .pr p => noL_pr p
  | .not c => by
    show (true && (noL c.enc && true)) = true
    rw [noL_cd c]
    rfl
  | .join o cs => by
    show (true && (noLs (encs cs) && true)) = true
    rw [noLs_cds cs]
    rfl
theorem noLs_cds : ∀ cs : List Cd, noLs (encs cs) = true
  | [] => rfl
  | c :: r => by
    show (noL c.enc && noLs (encs r)) = true
    rw [noL_cd c, noLs_cds r]
    rfl
end
def spCond (K : PySem.W.Frag) (n : Nat) : Sp := fun vs H Q _ => ∃ (h d an : Addr) (ds : List Int) (ns : List PySem.Str) (dep : Int), vs = [.ref h, .ref an, .int dep] ∧ dep + 1 = n ∧ Hand H h d ds ∧ Nm H an ns ∧ ∀ c v H', But h H H' → Hand H' h d ds → Cd.ok (nnOf ns) (lnOf ns) n c → Dp K H' v c.enc → Q v H'
theorem ok_l_condition1 (T : TxS K mg C) (D_l_condition : Df K mg "_law_condition" s_l_condition ["hand", "n", "depth"]) (D_l_take : Df K mg "_law_take" s_l_take ["hand", "many"]) (D_l_cmp : Df K mg "_law_cmp" s_l_cmp ["hand", "n"]) (G_l_take : FnOk P w K mg base CX0 1 D_l_take.f D_l_take.fd ["hand", "many"] spTake) (G_l_cmp : FnOk P w K mg base CX0 4 D_l_cmp.f D_l_cmp.fd ["hand", "n"] (spCmp K)) (n : Nat) (G_l_condition : FnOk P w K mg base CX0 (n + 4) D_l_condition.f D_l_condition.fd ["hand", "n", "depth"] (fun vs H Q E => n ≠ 0 ∧ spCond K n vs H Q E)) :
    FnOk P w K mg base CX0 (n + 5) D_l_condition.f D_l_condition.fd ["hand", "n", "depth"] (spCond K (n + 1)) := by
    refine D_l_condition.F.ok sc_l_condition (fun vs H Q E h => ?_) (fun cdv A outer s H vs Q E hr h => ?_)
    · obtain ⟨h, d, an, ds, ns, dep, rfl, _⟩ := h
      rfl
    · obtain ⟨h, d, an, ds, ns, dep, rfl, hdep, hH, hN, q⟩ := h
      refine ⟨_, (pss_cons (ps_set (i := 3) sc_l_condition.nd rfl (.inl rfl) (pe_call G_l_take (hr.mono (by omega)) (by rfl) D_l_take.g D_l_take.F.kp D_l_take.b .nil pass0 (pa_cons (pv 0) (pa_cons pe_int pa_nil))))
    (pss_cons (ps_if (PW.pt (pw_or (pt_cmpR op_eq (pv 2) pe_int (nomark _)) (pw_or1 (pt_cmpR op_lt (pv 3) pe_int (nomark _)))))
    (pss_one (ps_ret (pe_call G_l_cmp (hr.mono (by omega)) (by rfl) D_l_cmp.g D_l_cmp.F.kp D_l_cmp.b .nil pass0 (pa_cons (pv 0) (pa_cons (pv 1) pa_nil)))))
    pss_nil)
    (pss_cons (ps_if (pt_cmpR op_eq (pv 3) pe_int (nomark _))
    (pss_one (ps_ret (pe_tup (pa_cons pe_str (pa_cons (pe_call G_l_condition (hr.mono (by omega)) (by rfl) D_l_condition.g D_l_condition.F.kp D_l_condition.b .nil pass0 (pa_cons (pv 0) (pa_cons (pv 1) (pa_cons (pe_op op_sub (pv 2) pe_int) pa_nil)))) pa_nil)))))
    pss_nil)
    (pss_cons (ps_setLc (i := 4) (own := [("k", 5)]) (g := gName 5) (by rfl) sc_l_condition.nd rfl rfl (sw_true rfl rfl rfl (by decide +kernel)) (pi_range1 (by rfl) T.n_range (pa_cons (pe_op op_add pe_int (pe_call G_l_take (hr.mono (by omega)) (by rfl) D_l_take.g D_l_take.F.kp D_l_take.b .nil pass0 (pa_cons (pv 0) (pa_cons pe_int pa_nil)))) pa_nil)) (blkOk_by (own := [("k", 5)]) (N := ["hand", "n", "depth", "kind", "parts", "k"]) (sc := defScope s_l_condition) (by decide +kernel)) (fun _ _ _ _ _ => pg_name (i := 5) sc_l_condition.nd rfl (Or.inl rfl)) (fun _ _ _ _ _ => pts_nil) (fun _ _ _ _ _ => (pe_call G_l_condition (hr.mono (by omega)) (by rfl) D_l_condition.g D_l_condition.F.kp D_l_condition.b .nil pass0 (pa_cons (pv 0) (pa_cons (pv 1) (pa_cons (pe_op op_sub (pv 2) pe_int) pa_nil))))))
    (pss_one (ps_ret (pe_tup (pa_cons (pe_ix ix_list (pe_lst (pa_cons pe_str (pa_cons pe_str pa_nil))) (pe_op op_sub (pv 3) pe_int) (fun _ _ => rfl)) (pa_cons (pe_callTy call_tuple_of (by rfl) T.n_tuple (by decide +kernel) (pa_cons (pv 4) pa_nil)) pa_nil))))))))), ?_⟩
      refine ⟨_, rfl, h, d, ds, 5, rfl, by decide, hH, fun k H1 k0 k1 b1 h1 _ => ?_⟩
      have n1 := hN.but hH b1
      refine ⟨_, rfl, rfl, _, rfl, ite2 (fun _ => ?b1) (fun e1 => ⟨_, rfl, _, _, rfl, rfl, _, rfl, ite2 (fun _ => ?b2) (fun e2 => ?b3)⟩)⟩
      case b1 => exact iteT ⟨_, rfl, _, rfl, h, d, an, ds, ns, rfl, h1, n1, fun c v H2 b2 h2 hc hv => q (.pr (.cmp c)) v H2 (b1.trans b2) h2 ⟨hc, fun h => nomatch h⟩ hv⟩
      case b2 => exact ⟨_, rfl, _, rfl, h, d, an, ds, ns, rfl, h1, n1, fun c v H2 b2 h2 hc hv => q (.pr (.cmp c)) v H2 (b1.trans b2) h2 ⟨hc, fun h => nomatch h⟩ hv⟩
      have e2 : ¬ k < 2 := fun h => e2 (decide_eq_true h)
      have hd0 : dep ≠ 0 := fun h => e1 (decide_eq_true (by rw [h]))
      have hn0 : n ≠ 0 := fun h => hd0 (by omega)
      refine ⟨_, rfl, rfl, _, rfl, ite2 (fun _ => ?_) (fun e3 => ?_)⟩
      · refine ⟨_, rfl, _, rfl, _, rfl, _, _, rfl, rfl, hn0, h, d, an, ds, ns, dep - 1, rfl, by omega, h1, n1, fun c v H2 b2 h2 hc hv => ⟨by show (2 : Nat) ≤ sizeLine; decide, fun t nt => ?_⟩⟩
        generalize hg : upd H2 t _ = H3
        obtain ⟨s3, e3⟩ := new_of nt hg
        exact q (.not c) _ _ ((b1.trans b2).same s3) (h2.same s3) hc (dp_tup2 e3 (.str _) (hv.same s3))
      have hk2 : k ≠ 2 := fun h => e3 (decide_eq_true (by rw [h]))
      refine ⟨_, rfl, h, d, ds, 2, rfl, by decide, h1, fun r2 H2 r20 r21 b2 h2 _ => ⟨_, _, rfl, rfl, _, rfl, by omega, by omega, fun D hD => ?_⟩⟩
      refine lc_drawn (K := K) (lo := 0) (n := (2 + r2).toNat) Cd.enc (fun c => Cd.ok (nnOf ns) (lnOf ns) n c) (fun c _ => noL_cd c) (by omega) h2 hD (fun i x H3 Q' hi b3 h3 hx q' => ?_) (fun H3 ys es b3 h3 e3 hDh hDd hys hel hes => ?_)
      · subst hx
        exact ⟨rfl, _, rfl, _, rfl, _, rfl, _, _, rfl, rfl, hn0, h, d, an, ds, ns, dep - 1, rfl, by omega, h3, (n1.but h1 b2).but h2 b3, fun c v H4 b4 h4 hc hv => q' v c H4 b4 h4 hc hv⟩
      refine ⟨by show (2 : Nat) ≤ sizeLine; decide, fun p np => ?_⟩
      generalize hg : upd H3 p _ = H4
      obtain ⟨s4, e4⟩ := new_of np hg
      have fit : ∀ o, Cd.ok (nnOf ns) (lnOf ns) (n + 1) (.join o es) := fun o => ⟨by omega, hes⟩
      have hk : k - 3 = ((0 : Nat) : Int) ∨ k - 3 = ((1 : Nat) : Int) := by omega
      have B4 : But h H H4 := (((b1.trans b2).trans b3).same s4)
      rw [← encs_map] at hys
      rcases hk with hk | hk
      · refine ⟨_, rfl, _, _, rfl, rfl, p, _, _, _, rfl, rfl, SqL.of e4, at_nat (j := 0) hk rfl, _, rfl, D, _, rfl, .inl ⟨SqL.of (s4 _ _ e3), fun l nl => ?_⟩⟩
        generalize hg : upd H4 l _ = H5
        obtain ⟨s5, e5⟩ := new_of nl hg
        refine ⟨by show (2 : Nat) ≤ sizeLine; decide, fun t nt => ?_⟩
        generalize hg : upd H5 t _ = H6
        obtain ⟨s6, e6⟩ := new_of nt hg
        exact q (.join false es) _ _ ((B4.same s5).same s6) (((h3.same s4).same s5).same s6) (fit false) (dp_tup2 e6 (.str _) (.tup (SqT.of (s6 _ _ e5)) (dpa_same ((s4.trans s5).trans s6) _ _ hys)))
      · refine ⟨_, rfl, _, _, rfl, rfl, p, _, _, _, rfl, rfl, SqL.of e4, at_nat (j := 1) hk rfl, _, rfl, D, _, rfl, .inl ⟨SqL.of (s4 _ _ e3), fun l nl => ?_⟩⟩
        generalize hg : upd H4 l _ = H5
        obtain ⟨s5, e5⟩ := new_of nl hg
        refine ⟨by show (2 : Nat) ≤ sizeLine; decide, fun t nt => ?_⟩
        generalize hg : upd H5 t _ = H6
        obtain ⟨s6, e6⟩ := new_of nt hg
        exact q (.join true es) _ _ ((B4.same s5).same s6) (((h3.same s4).same s5).same s6) (fit true) (dp_tup2 e6 (.str _) (.tup (SqT.of (s6 _ _ e5)) (dpa_same ((s4.trans s5).trans s6) _ _ hys)))
theorem ok_l_condition (T : TxS K mg C) (D_l_condition : Df K mg "_law_condition" s_l_condition ["hand", "n", "depth"]) (D_l_take : Df K mg "_law_take" s_l_take ["hand", "many"]) (D_l_cmp : Df K mg "_law_cmp" s_l_cmp ["hand", "n"]) (G_l_take : FnOk P w K mg base CX0 1 D_l_take.f D_l_take.fd ["hand", "many"] spTake) (G_l_cmp : FnOk P w K mg base CX0 4 D_l_cmp.f D_l_cmp.fd ["hand", "n"] (spCmp K)) : ∀ n, FnOk P w K mg base CX0 (n + 5) D_l_condition.f D_l_condition.fd ["hand", "n", "depth"] (spCond K (n + 1))
  | 0 => ok_l_condition1 T D_l_condition D_l_take D_l_cmp G_l_take G_l_cmp 0 (fn_never.imp fun _ _ _ _ h => absurd rfl h.1)
  | n + 1 => ok_l_condition1 T D_l_condition D_l_take D_l_cmp G_l_take G_l_cmp (n + 1) ((ok_l_condition T D_l_condition D_l_take D_l_cmp G_l_take G_l_cmp n).imp fun _ _ _ _ h => h.2)
def spNames : Sp := fun vs H Q _ => ∃ (h d : Addr) (ds : List Int), vs = [.ref h] ∧ Hand H h d ds ∧ ∀ a ns H', But h H H' → Hand H' h d ds → Nm H' a ns → Q (.ref a) H'
theorem ok_l_names (T : TxS K mg C) (D_l_names : Df K mg "_law_names" s_l_names ["hand"]) (D_l_take : Df K mg "_law_take" s_l_take ["hand", "many"]) (G_l_take : FnOk P w K mg base CX0 1 D_l_take.f D_l_take.fd ["hand", "many"] spTake) : FnOk P w K mg base CX0 2 D_l_names.f D_l_names.fd ["hand"] spNames := by
  refine D_l_names.F.ok sc_l_names (fun vs H Q E h => ?_) (fun cdv A outer s H vs Q E hr h => ?_)
  · obtain ⟨h, d, ds, rfl, _⟩ := h
    rfl
  · obtain ⟨h, d, ds, rfl, hH, q⟩ := h
    refine ⟨_, (pss_cons (ps_set (i := 1) sc_l_names.nd rfl (.inl rfl) (pe_lst pa_nil))
    (pss_cons (ps_for PassesOwn.never rfl (pi_str pe_str) (pg_name (i := 2) sc_l_names.nd rfl (.inl rfl))
    (pss_cons (ps_set (i := 3) sc_l_names.nd rfl (.inl rfl) (pe_ix ix_list (pe_lst (pa_strs (.cons _ _ _ (.cons _ _ _ (.cons _ _ _ (.cons _ _ _ (.cons _ _ _ .nil))))))) (pe_call G_l_take (hr.mono (by decide)) (by rfl) D_l_take.g D_l_take.F.kp D_l_take.b .nil pass0 (pa_cons (pv 0) (pa_cons pe_int pa_nil))) (fun _ _ => rfl)))
    (pss_one (ps_expr (pe_bm PySem.F.plainAttrs_list PySem.F.slot_list_append PySem.F.type_list_append mt_append (pv 1) (pa_cons (pe_ix ix_list (pe_lst (pa_cons (pv 2) (pa_cons (pe_op op_add_str (pv 2) (pv 3)) (pa_cons (pe_op op_add_str (pv 3) (pv 2)) pa_nil)))) (pe_call G_l_take (hr.mono (by decide)) (by rfl) D_l_take.g D_l_take.F.kp D_l_take.b .nil pass0 (pa_cons (pv 0) (pa_cons pe_int pa_nil))) (fun _ _ => rfl)) pa_nil))))))
    (pss_one (ps_ret (pv 1))))), ?_⟩
    refine ⟨Nat.zero_le _, fun D nD => ?_⟩
    have hDh := hand_ne hH nD
    have hDd := hand_ne2 hH nD
    refine ⟨_, rfl, ?_⟩
    refine for_str (fun i σ H2 => ∃ (y2 y3 : Option V) (ns : List PySem.Str), σ = [some (.ref h), some (.ref D), y2, y3] ∧ But h H H2 ∧ Hand H2 h d ds ∧ H2 D = some (.lst (ns.map V.str)) ∧ ns.length = i) ⟨_, _, [], rfl, (But.refl h H).new nD, hH.upd hDh hDd, upd_same, rfl⟩ (fun i c σ H2 hc hP => ?_) (fun σ H2 hP => ?_)
    · obtain ⟨y2, y3, ns, rfl, b2, h2, e2, hl⟩ := hP
      have hi : i < 16 := (List.getElem?_eq_some_iff.mp hc).1
      refine ⟨by show (5 : Nat) ≤ sizeLine; decide, fun p np => ?_⟩
      generalize hg : upd H2 p _ = H3
      obtain ⟨s3, e3⟩ := new_of np hg
      have hp := hand_ne h2 np
      have h3 := h2.same s3
      refine ⟨_, rfl, h, d, ds, 5, rfl, by decide, h3, fun r4 H4 r40 r41 b4 h4 _ => ?_⟩
      obtain ⟨z, hz, hza⟩ := strs_at (ws := ["u", "z", "uz", "zuuz", "zzzzuuuu"]) r40 (by show r4 < 5; exact r41)
      have hzl : z.length ≤ 8 := by
        have : ∀ z : PySem.Str, z ∈ (["u", "z", "uz", "zuuz", "zzzzuuuu"] : List PySem.Str) → z.length ≤ 8 := by decide +kernel
        exact this z hz
      refine ⟨p, _, _, _, rfl, rfl, SqL.of (b4 _ _ hp e3), hza, ?_⟩
      have e4 := b4 _ _ hDh (s3 _ _ e2)
      have hcl : (⟨#[c]⟩ : PySem.Str).length = 1 := rfl
      refine ⟨_, rfl, .inl ⟨rfl, _, SqL.of e4⟩, ?_⟩
      refine ⟨_, rfl, _, rfl, _, rfl, _, _, rfl, rfl, sz5 (by rw [hcl]; omega), _, rfl, _, rfl, _, _, rfl, rfl, sz5 (by rw [hcl]; omega), by show (3 : Nat) ≤ sizeLine; decide, fun p5 n5 => ?_⟩
      generalize hg : upd H4 p5 _ = H5
      obtain ⟨s5, e5⟩ := new_of n5 hg
      have hp5 := hand_ne h4 n5
      have h5 := h4.same s5
      refine ⟨_, rfl, h, d, ds, 3, rfl, by decide, h5, fun r6 H6 r60 r61 b6 h6 _ => ?_⟩
      obtain ⟨z2, _, hza2⟩ := strs_at (ws := [⟨#[c]⟩, (⟨#[c]⟩ : PySem.Str) ++ z, z ++ (⟨#[c]⟩ : PySem.Str)]) r60 (by show r6 < 3; exact r61)
      have e6 := b6 _ _ hDh (s5 _ _ e4)
      refine ⟨p5, _, _, _, rfl, rfl, SqL.of (b6 _ _ hp5 e5), hza2, D, _, _, rfl, rfl, e6, ?_, ?_⟩
      · rw [List.length_map, hl]
        exact small_sz (by omega)
      · have B6 : But h H H6 := ((((b2.same s3).trans b4).same s5).trans b6)
        refine ⟨_, _, ns ++ [z2], rfl, ?_, h6.upd hDh hDd, ?_, by rw [List.length_append, hl]; rfl⟩
        · exact B6.new nD
        · rw [upd_same, List.map_append]
          rfl
    · obtain ⟨y2, y3, ns, rfl, b2, h2, e2, hl⟩ := hP
      exact ⟨_, rfl, q D ns H2 b2 h2 ⟨e2, hl⟩⟩
end
end SW

namespace SW
open PySem PySem.Spec PyProof.Rows L2
theorem units65 {k : Nat} {A : Around} (r : Room k A) : A.units + 65 < cLine := by
  have := r.un
  omega
/-! ### dicts of lists of numbers, compared -/
section
variable {X : Cx}
def LEq (H : Hp) (ks ls : List (Key × V)) : Prop := ks.length = ls.length ∧ ∀ p ∈ ks, ∃ (c d : Addr) (ns : List Int), p.2 = .ref c ∧ valV ls p.1 = some (.ref d) ∧ H c = some (.lst (ns.map V.int)) ∧ H d = some (.lst (ns.map V.int))
theorem hits_lists {pins : List (Addr × Obj)} {σ : L2.St} {H : Hp} {s : Shared} (hu : X.A.units + 65 < cLine) (I : Inv X pins σ H s) {ls : List (Key × V)} {vb : List (Key × Value)} (rb : KV ls vb) {ks : List (Key × V)} {va : List (Key × Value)} (ra : KV ks va) :
    (∀ p ∈ ks, ∃ (c d : Addr) (ns : List Int), p.2 = .ref c ∧ valV ls p.1 = some (.ref d) ∧ H c = some (.lst (ns.map V.int)) ∧ H d = some (.lst (ns.map V.int))) → PySem.W.KeqHits X.A.in1 s vb va true := by
  unfold KV at ra
  induction ra with
  | nil => intro _; exact .nil
  | @cons p q ps qs h t ih =>
    intro hp
    obtain ⟨h1, h2⟩ := h
    obtain ⟨c, d, ns, e1, e2, e3, e4⟩ := hp p List.mem_cons_self
    have rr : RelO (some (V.ref d)) (valueAt vb p.1) := by rw [← e2]; exact rb.val p.1
    obtain ⟨y, hy, ry⟩ := rr.some_of
    obtain ⟨k, v⟩ := q
    have h1' : p.1 = k := h1
    rw [h1'] at hy
    have h2' : RelV p.2 v := h2
    rw [e1] at h2'
    cases h2'
    cases ry
    obtain ⟨its, r1, p1, _⟩ := I.list (SqL.of e3)
    obtain ⟨jts, r2, p2, _⟩ := I.list (SqL.of e4)
    have x := PySem.W.keq_ints (A := X.A) (s := s) p1.isList (intsAre_of r1) p2.isList (intsAre_of r2) (by show X.A.units + 1 + 64 < cLine; omega)
    rw [decide_eq_true rfl] at x
    show PySem.W.KeqHits X.A.in1 s vb ((k, .ref c) :: qs) (true && true)
    exact .hit hy x (ih fun p' hm => hp p' (List.mem_cons_of_mem _ hm))
def rEqDL : R2 := fun x y H Q => ∃ a b ks ls, x = .ref a ∧ y = .ref b ∧ H a = some (.dK ks) ∧ H b = some (.dK ls) ∧ LEq H ks ls ∧ Q (.bl true) H
def rNeDL : R2 := fun x y H Q => ∃ a b ks ls, x = .ref a ∧ y = .ref b ∧ H a = some (.dK ks) ∧ H b = some (.dK ls) ∧ LEq H ks ls ∧ Q (.bl false) H
theorem op_eqDL (hu : X.A.units + 65 < cLine) : OpR X (compareOp .Eq) rEqDL := by
  intro pins s σ H x y v u Q I rx ry h
  obtain ⟨a, b, ks, ls, rfl, rfl, ea, eb, ⟨hlen, hp⟩, q⟩ := h
  obtain rfl : v = Value.ref a := rx
  obtain rfl : u = Value.ref b := ry
  obtain ⟨_, ya, va, ra, da⟩ := (show ObjOk X.prog X.w H s.heap a (.dK ks) from I.hok a _ ea)
  obtain ⟨_, yb, vb, rb, db⟩ := (show ObjOk X.prog X.w H s.heap b (.dK ls) from I.hok b _ eb)
  have hl : va.length = vb.length := by rw [← ra.length, ← rb.length]; exact hlen
  exact PySem.W.keq_eq (knd := mixKind X.prog X.w) (r := true) ya yb da db (by omega) (fun _ => hits_lists hu I rb ra hp) (fin_bl I q (by simp [hl]))
theorem op_neDL (hu : X.A.units + 65 < cLine) : OpR X (compareOp .NotEq) rNeDL := by
  intro pins s σ H x y v u Q I rx ry h
  obtain ⟨a, b, ks, ls, rfl, rfl, ea, eb, ⟨hlen, hp⟩, q⟩ := h
  obtain rfl : v = Value.ref a := rx
  obtain rfl : u = Value.ref b := ry
  obtain ⟨_, ya, va, ra, da⟩ := (show ObjOk X.prog X.w H s.heap a (.dK ks) from I.hok a _ ea)
  obtain ⟨_, yb, vb, rb, db⟩ := (show ObjOk X.prog X.w H s.heap b (.dK ls) from I.hok b _ eb)
  have hl : va.length = vb.length := by rw [← ra.length, ← rb.length]; exact hlen
  exact PySem.W.keq_ne (knd := mixKind X.prog X.w) (r := true) ya yb da db (by omega) (fun _ => hits_lists hu I rb ra hp) (fin_bl I q (by simp [hl]))
end
/-! ### dicts: keys once -/
theorem nd_put {kvs : List (Key × V)} {k : Key} (v : V) (hn : (kvs.map (·.1)).Nodup) : ((putK kvs k v).map (·.1)).Nodup := by
  cases e : valV kvs k with
  | none => exact nd_putK v hn e
  | some u =>
    have hm : (kvs.any fun kv => decide (kv.1 = k)) = true := by rw [valV_any, e]; rfl
    unfold putK
    rw [if_pos hm, List.map_map]
    have : ((fun x : Key × V => x.1) ∘ fun kv : Key × V => if kv.1 = k then (kv.1, v) else kv) = fun x => x.1 := by
      funext x
      show (if x.1 = k then (x.1, v) else x).1 = x.1
      split <;> rfl
    rw [this]
    exact hn
theorem mem_val {kvs : List (Key × V)} (hn : (kvs.map (·.1)).Nodup) : ∀ p, p ∈ kvs → valV kvs p.1 = some p.2 := by
  induction kvs with
  | nil => exact fun _ h => nomatch h
  | cons a r ih =>
    intro p hp
    obtain ⟨h1, h2⟩ := List.nodup_cons.mp hn
    rcases List.mem_cons.mp hp with rfl | hp
    · exact valV_pos rfl
    · rw [valV_neg (fun e => h1 (List.mem_map.mpr ⟨p, hp, e.symm⟩))]
      exact ih h2 p hp
/-- a dict whose values are lists of numbers -/
structure LD (H : Hp) (a : Addr) (kvs : List (Key × V)) : Prop where
  at_ : H a = some (.dK kvs)
  nd : (kvs.map (·.1)).Nodup
  vals : ∀ k v, valV kvs k = some v → ∃ (b : Addr) (ns : List Int), v = .ref b ∧ H b = some (.lst (ns.map V.int)) ∧ ns.length ≤ 6
/-- a dict of numbers -/
structure ND (H : Hp) (a : Addr) (kvs : List (Key × V)) : Prop where
  at_ : H a = some (.dK kvs)
  nd : (kvs.map (·.1)).Nodup
  vals : ∀ k v, valV kvs k = some v → ∃ z : Int, v = .int z
theorem LD.same {H H' : Hp} {a : Addr} {kvs : List (Key × V)} (l : LD H a kvs) (s : Same H H') : LD H' a kvs := by
  refine ⟨s _ _ l.at_, l.nd, fun k v e => ?_⟩
  obtain ⟨b, ns, h1, h2, h3⟩ := l.vals k v e
  exact ⟨b, ns, h1, s _ _ h2, h3⟩
theorem ND.same {H H' : Hp} {a : Addr} {kvs : List (Key × V)} (l : ND H a kvs) (s : Same H H') : ND H' a kvs := ⟨s _ _ l.at_, l.nd, l.vals⟩
theorem dk_ne {H : Hp} {h d t : Addr} {ds : List Int} {xs : List (Key × V)} (hh : Hand H h d ds) (e : H t = some (.dK xs)) : t ≠ h := fun q => by
  obtain ⟨⟨i, e1⟩, _, _⟩ := hh
  rw [← q, e] at e1
  cases e1
theorem dk_ned {H : Hp} {h d t : Addr} {ds : List Int} {xs : List (Key × V)} (hh : Hand H h d ds) (e : H t = some (.dK xs)) : t ≠ d := fun q => by
  obtain ⟨_, e1, _⟩ := hh
  rw [← q, e] at e1
  cases e1
theorem ints_ne {H : Hp} {h d t : Addr} {ds ns : List Int} (hh : Hand H h d ds) (e : H t = some (.lst (ns.map V.int))) : t ≠ h := fun q => by
  obtain ⟨⟨i, e1⟩, _, _⟩ := hh
  rw [← q, e] at e1
  cases ns with
  | nil => cases e1
  | cons x r => cases e1
theorem LD.but {H H' : Hp} {h d a : Addr} {ds : List Int} {kvs : List (Key × V)} (l : LD H a kvs) (hh : Hand H h d ds) (s : But h H H') : LD H' a kvs := by
  refine ⟨s _ _ (dk_ne hh l.at_) l.at_, l.nd, fun k v e => ?_⟩
  obtain ⟨b, ns, h1, h2, h3⟩ := l.vals k v e
  exact ⟨b, ns, h1, s _ _ (ints_ne hh h2) h2, h3⟩
theorem ND.but {H H' : Hp} {h d a : Addr} {ds : List Int} {kvs : List (Key × V)} (l : ND H a kvs) (hh : Hand H h d ds) (s : But h H H') : ND H' a kvs := ⟨s _ _ (dk_ne hh l.at_) l.at_, l.nd, l.vals⟩
theorem LD.put {H : Hp} {a b : Addr} {kvs : List (Key × V)} {k : Key} {ns : List Int} (l : LD H a kvs) (e : H b = some (.lst (ns.map V.int))) (hn : ns.length ≤ 6) : LD (upd H a (.dK (putK kvs k (.ref b)))) a (putK kvs k (.ref b)) := by
  have ne : ∀ (c : Addr) (ms : List Int), H c = some (.lst (ms.map V.int)) → c ≠ a := fun c ms e q => by
    rw [q, l.at_] at e
    cases e
  refine ⟨upd_same, nd_put _ l.nd, fun j v e2 => ?_⟩
  rw [valV_put] at e2
  by_cases hj : j = k
  · rw [if_pos hj] at e2
    cases e2
    exact ⟨b, ns, rfl, (upd_ne (ne b ns e)).trans e, hn⟩
  · rw [if_neg hj] at e2
    obtain ⟨c, ms, h1, h2, h3⟩ := l.vals j v e2
    exact ⟨c, ms, h1, (upd_ne (ne c ms h2)).trans h2, h3⟩
theorem ND.put {H : Hp} {a : Addr} {kvs : List (Key × V)} {k : Key} {z : Int} (l : ND H a kvs) : ND (upd H a (.dK (putK kvs k (.int z)))) a (putK kvs k (.int z)) := by
  refine ⟨upd_same, nd_put _ l.nd, fun j v e2 => ?_⟩
  rw [valV_put] at e2
  by_cases hj : j = k
  · rw [if_pos hj] at e2
    cases e2
    exact ⟨z, rfl⟩
  · rw [if_neg hj] at e2
    exact l.vals j v e2
/-- another dict has changed -/
theorem LD.other {H : Hp} {a p : Addr} {kvs xs : List (Key × V)} {o : HO} (l : LD H a kvs) (e : H p = some (.dK xs)) (hp : p ≠ a) : LD (upd H p o) a kvs := by
  refine ⟨(upd_ne hp.symm).trans l.at_, l.nd, fun k v e2 => ?_⟩
  obtain ⟨b, ns, h1, h2, h3⟩ := l.vals k v e2
  refine ⟨b, ns, h1, (upd_ne (fun q => ?_)).trans h2, h3⟩
  rw [q, e] at h2
  cases h2
theorem ND.other {H : Hp} {a p : Addr} {kvs : List (Key × V)} {o : HO} (l : ND H a kvs) (hp : p ≠ a) : ND (upd H p o) a kvs := ⟨(upd_ne hp.symm).trans l.at_, l.nd, l.vals⟩
theorem hand_dk {H : Hp} {h d p : Addr} {ds : List Int} {xs : List (Key × V)} {o : HO} (hh : Hand H h d ds) (e : H p = some (.dK xs)) : Hand (upd H p o) h d ds := hh.upd (dk_ne hh e) (dk_ned hh e)
theorem nm_dk {H : Hp} {a p : Addr} {ns : List PySem.Str} {xs : List (Key × V)} {o : HO} (n : Nm H a ns) (e : H p = some (.dK xs)) : Nm (upd H p o) a ns := ⟨(upd_ne (fun q => by
  have h := n.1
  rw [q, e] at h
  cases h)).trans n.1, n.2⟩
theorem putK_len6 (c : List (Key × V)) (k : Key) (x : V) : (putK c k x).length ≤ c.length + 1 := by
  unfold putK
  by_cases e : (c.any fun kv => decide (kv.1 = k)) = true
  · rw [if_pos e, List.length_map]
    omega
  · rw [if_neg e, List.length_append]
    simp
theorem valV_len {kvs : List (Key × V)} {k : Key} {v : V} (h : valV kvs k = some v) : ∃ p, p ∈ kvs ∧ p.1 = k ∧ p.2 = v := by
  induction kvs with
  | nil => cases h
  | cons a r ih =>
    by_cases e : a.1 = k
    · rw [valV_pos e] at h
      cases h
      exact ⟨a, List.mem_cons_self, e, rfl⟩
    · rw [valV_neg e] at h
      obtain ⟨p, h1, h2⟩ := ih h
      exact ⟨p, List.mem_cons_of_mem _ h1, h2⟩
end SW

namespace SW
open PySem PySem.Spec PyProof.Rows L2
abbrev s_State : Stmt := inClass (topS 1) 0
theorem sc_State : FnScope ["self", "numbers", "lists", "old"] ["self", "numbers", "lists", "old"] (defScope s_State) := ⟨rfl, rfl, rfl, by decide +kernel, rfl, by decide +kernel, by decide +kernel⟩
abbrev s_l_copied : Stmt := topS 30
theorem sc_l_copied : FnScope ["dict_now", "found", "name"] ["dict_now"] (defScope s_l_copied) := ⟨rfl, rfl, rfl, by decide +kernel, rfl, by decide +kernel, by decide +kernel⟩

abbrev s_l_state : Stmt := topS 31
theorem sc_l_state : FnScope ["hand", "n", "numbers", "name", "lists", "old", "k", "many", "one"] ["hand", "n"] (defScope s_l_state) := ⟨rfl, rfl, rfl, by decide +kernel, rfl, by decide +kernel, by decide +kernel⟩

section
variable {P : Program} {w : World} {K : PySem.W.Frag} {mg : PySem.Str → Option Value} {base : Heap} {C : Addr}
def stF (dn dl dO : Addr) : List (PySem.Str × V) := putF "old" (.ref dO) (putF "lists" (.ref dl) (putF "numbers" (.ref dn) []))
theorem stF_n (dn dl dO : Addr) : (stF dn dl dO).lookup ("numbers" : PySem.Str) = some (.ref dn) := by
  unfold stF
  rw [lookup_putF, if_neg (by decide +kernel), lookup_putF, if_neg (by decide +kernel), lookup_putF, if_pos rfl]
theorem stF_l (dn dl dO : Addr) : (stF dn dl dO).lookup ("lists" : PySem.Str) = some (.ref dl) := by
  unfold stF
  rw [lookup_putF, if_neg (by decide +kernel), lookup_putF, if_pos rfl]
theorem stF_o (dn dl dO : Addr) : (stF dn dl dO).lookup ("old" : PySem.Str) = some (.ref dO) := by
  unfold stF
  rw [lookup_putF, if_pos rfl]
theorem putF_len (f : PySem.Str) (v : V) : ∀ fs : List (PySem.Str × V), (putF f v fs).length ≤ fs.length + 1
  | [] => Nat.le_refl _
  | (g, u) :: r => by
    show (if g = f then (g, v) :: r else (g, u) :: putF f v r).length ≤ _
    by_cases e : g = f
    · rw [if_pos e]
      exact Nat.le_succ _
    · rw [if_neg e]
      exact Nat.succ_le_succ (putF_len f v r)
def spInit (C : Addr) : Sp := fun vs H Q _ => ∃ (p dx dn dl dO : Addr), vs = [.ref p, .ref dn, .ref dl, .ref dO] ∧ H p = some (.ins C dx []) ∧ Q .non (upd (upd (upd H p (.ins C dx (putF "numbers" (.ref dn) []))) p (.ins C dx (putF "lists" (.ref dl) (putF "numbers" (.ref dn) [])))) p (.ins C dx (stF dn dl dO)))
theorem ok_init {f : Addr} {fd : FuncData} (F : Fun K "__init__" "State.__init__" s_State f fd) (T : TxS K mg C) : FnOk P w K mg base CX0 1 f fd ["self", "numbers", "lists", "old"] (spInit C) := by
  refine F.ok sc_State (fun vs H Q E h => ?_) (fun cdv A outer s H vs Q E hr h => ?_)
  · obtain ⟨p, dx, dn, dl, dO, rfl, _⟩ := h
    rfl
  · obtain ⟨p, dx, dn, dl, dO, rfl, hp, q⟩ := h
    refine ⟨_, pss_cons (ps_fld (pv 0) (pv 1) rfl) (pss_cons (ps_fld (pv 0) (pv 2) rfl) (pss_one (ps_fld (pv 0) (pv 3) rfl))), ?_⟩
    refine ⟨_, rfl, _, rfl, p, C, dx, [], rfl, hp, T.cl, T.nN, (by show 0 < 1000; decide), ?_⟩
    refine ⟨_, rfl, _, rfl, p, C, dx, _, rfl, upd_same, T.cl, T.nL, (by show 1 < 1000; decide), ?_⟩
    refine ⟨_, rfl, _, rfl, p, C, dx, _, rfl, upd_same, T.cl, T.nO, ?_, q⟩
    have h1 := putF_len "lists" (V.ref dl) (putF "numbers" (V.ref dn) [])
    have h2 := putF_len "numbers" (V.ref dn) []
    have h3 : ([] : List (PySem.Str × V)).length = 0 := rfl
    omega
/-- the copy of a dict of lists -/
def Cop (H H' : Hp) (ks ls : List (Key × V)) : Prop := Paired (fun (p q : Key × V) => p.1 = q.1 ∧ ∃ (c d : Addr) (ns : List Int), p.2 = .ref c ∧ q.2 = .ref d ∧ H c = some (.lst (ns.map V.int)) ∧ H' d = some (.lst (ns.map V.int))) ks ls
theorem Paired.snoc {α β : Type} {R : α → β → Prop} : ∀ {xs : List α} {ys : List β} {x : α} {y : β}, Paired R xs ys → R x y → Paired R (xs ++ [x]) (ys ++ [y])
  | _, _, _, _, .nil, h => .cons h .nil
  | _, _, _, _, .cons h1 h2, h => .cons h1 (Paired.snoc h2 h)
theorem Cop.keys {H H' : Hp} : ∀ {ks ls : List (Key × V)}, Cop H H' ks ls → ls.map (·.1) = ks.map (·.1)
  | _, _, .nil => rfl
  | _, _, .cons h1 h2 => by
    rw [List.map_cons, List.map_cons, Cop.keys h2, h1.1]
theorem Cop.val {H H' : Hp} : ∀ {ks ls : List (Key × V)} (_ : Cop H H' ks ls) {k : Key} {v : V}, valV ks k = some v → ∃ (c d : Addr) (ns : List Int), v = .ref c ∧ valV ls k = some (.ref d) ∧ H c = some (.lst (ns.map V.int)) ∧ H' d = some (.lst (ns.map V.int))
  | _, _, .nil, _, _, h => nomatch h
  | a :: r, b :: t, .cons h1 h2, k, v, h => by
    obtain ⟨e, c, d, ns, g1, g2, g3, g4⟩ := h1
    by_cases hk : a.1 = k
    · rw [valV_pos hk] at h
      cases h
      exact ⟨c, d, ns, g1, (valV_pos (e ▸ hk)).trans (congrArg some g2), g3, g4⟩
    · rw [valV_neg hk] at h
      obtain ⟨c, d, ns, f1, f2, f3, f4⟩ := Cop.val h2 h
      exact ⟨c, d, ns, f1, (valV_neg (e ▸ hk)).trans f2, f3, f4⟩
theorem Cop.mono {H H' H2 H2' : Hp} (s : ∀ c (ns : List Int), H c = some (.lst (ns.map V.int)) → H2 c = some (.lst (ns.map V.int))) (s' : ∀ c (ns : List Int), H' c = some (.lst (ns.map V.int)) → H2' c = some (.lst (ns.map V.int))) : ∀ {ks ls : List (Key × V)}, Cop H H' ks ls → Cop H2 H2' ks ls
  | _, _, .nil => .nil
  | _, _, .cons h1 h2 => by
    obtain ⟨e, c, d, ns, g1, g2, g3, g4⟩ := h1
    exact .cons ⟨e, c, d, ns, g1, g2, s _ _ g3, s' _ _ g4⟩ (Cop.mono s s' h2)
def spCopied : Sp := fun vs H Q _ => ∃ (a : Addr) (kvs : List (Key × V)), vs = [.ref a] ∧ LD H a kvs ∧ kvs.length ≤ 100 ∧ ∀ p ls H', Same H H' → H' p = some (.dK ls) → Cop H H' kvs ls → Q (.ref p) H'
theorem ok_l_copied (T : TxS K mg C) (D_l_copied : Df K mg "_law_copied" s_l_copied ["dict_now"]) : FnOk P w K mg base CX0 1 D_l_copied.f D_l_copied.fd ["dict_now"] spCopied := by
  refine D_l_copied.F.ok sc_l_copied (fun vs H Q E h => ?_) (fun cdv A outer s H vs Q E hr h => ?_)
  · obtain ⟨a, kvs, rfl, _⟩ := h
    rfl
  · obtain ⟨a, kvs, rfl, l, hlen, q⟩ := h
    refine ⟨_, (pss_cons (ps_set (i := 1) sc_l_copied.nd rfl (.inl rfl) pe_dnewK)
    (pss_cons (ps_lock (ps_for PassesOwn.never rfl (pi_keys (pv 0)) (pg_name (i := 2) sc_l_copied.nd rfl (.inl rfl))
    (pss_one (ps_dput (hu_of hr) (pv 1) (pv 2) (pe_callTy call_list_of (by rfl) T.n_list (by decide +kernel) (pa_cons (pe_dget (hu_of hr) (pv 0) (pv 2) (fun _ _ => rfl)) pa_nil)) rfl))))
    (pss_one (ps_ret (pv 1))))), ?_⟩
    refine fun p np => ?_
    have hap : a ≠ p := ne_of_none l.at_ np
    refine ⟨a, .dK kvs, (upd_ne hap).trans l.at_, trivial, fun od => ?_⟩
    have e0 : (upd (upd H p (.dK [])) a (.frz od (.dK kvs))) p = some (.dK []) := (upd_ne hap.symm).trans upd_same
    refine ⟨_, rfl, a, od, rfl, .inl ⟨kvs, upd_same, ?_⟩⟩
    refine for_it (walk_keys (d := a) (o := od) (kvs := kvs)) (fun i σ H2 => ∃ (y2 : Option V) (ls : List (Key × V)), σ = [some (.ref a), some (.ref p), y2] ∧ H2 a = some (.frz od (.dK kvs)) ∧ (∀ b o, b ≠ a → H b = some o → H2 b = some o) ∧ H2 p = some (.dK ls) ∧ Cop H H2 (kvs.take i) ls)
      ⟨_, [], rfl, upd_same, fun b o hb e => (upd_ne hb).trans ((upd_ne (ne_of_none e np)).trans e), e0, .nil⟩ (fun i σ H2 _ hP => ?_) (fun i x σ H2 H3 hi hP hy => ?_) (fun σ H2 hP => ?_)
    · obtain ⟨y2, ls, rfl, e1, _⟩ := hP
      exact e1
    · obtain ⟨y2, ls, rfl, e1, e2, e3, cop⟩ := hP
      obtain ⟨rfl, k, v, hk, rfl⟩ := hy
      have hmem : (k, v) ∈ kvs := List.mem_of_getElem? hk
      have hval := mem_val l.nd _ hmem
      obtain ⟨c, ns, rfl, hc, hns⟩ := l.vals _ _ hval
      have hca : c ≠ a := fun q => by
        rw [q, l.at_] at hc
        cases hc
      have hc2 := e2 c _ hca hc
      have hlen2 : ls.length ≤ 100 := by
        have := congrArg List.length (Cop.keys cop)
        rw [List.length_map, List.length_map, List.length_take] at this
        omega
      refine ⟨_, rfl, _, rfl, a, _, rfl, .inl ⟨kvs, k, .inr ⟨od, e1⟩, rfl, hval.symm⟩, c, _, rfl, .inl (SqL.of hc2), fun t nt => ?_⟩
      generalize hg : upd H3 t _ = H4
      obtain ⟨s4, e4⟩ := new_of nt hg
      have htp : t ≠ p := (ne_of_none e3 nt).symm
      have hta : t ≠ a := (ne_of_none e1 nt).symm
      refine ⟨_, rfl, _, rfl, p, _, rfl, DPut.k (k := k) (s4 _ _ e3) (small_sz (by omega)), ?_⟩
      have hnot : valV ls k = none := by
        cases e : valV ls k with
        | none => rfl
        | some u =>
          obtain ⟨q, hq, hqk, _⟩ := valV_len e
          have h1 : k ∈ ls.map (·.1) := List.mem_map.mpr ⟨q, hq, hqk⟩
          rw [Cop.keys cop] at h1
          obtain ⟨hlt, hget⟩ := List.getElem?_eq_some_iff.mp hk
          have h2 : kvs = kvs.take i ++ (k, V.ref c) :: kvs.drop (i + 1) := by
            rw [← hget, List.getElem_cons_drop, List.take_append_drop]
          have nd := l.nd
          rw [h2, List.map_append] at nd
          have h3 := (List.nodup_append.mp nd).2.2 k h1 k (by rw [List.map_cons]; exact List.mem_cons_self)
          exact absurd rfl h3
      rw [putK_new _ hnot]
      have hne : ∀ (c : Addr) (ms : List Int), H4 c = some (.lst (ms.map V.int)) → c ≠ p := fun c ms e q => by
        rw [q, s4 _ _ e3] at e
        cases e
      refine ⟨_, _, rfl, (upd_ne hap).trans (s4 _ _ e1), fun b o hb e => (upd_ne (fun q => ?_)).trans (s4 _ _ (e2 b o hb e)), upd_same, ?_⟩
      · rw [q, np] at e
        cases e
      · obtain ⟨hlt, hget⟩ := List.getElem?_eq_some_iff.mp hk
        have h2 : kvs.take (i + 1) = kvs.take i ++ [(k, V.ref c)] := by
          rw [← hget, List.take_succ_eq_append_getElem hlt]
        rw [h2]
        refine Paired.snoc (Cop.mono (fun _ _ h => h) (fun c ms h => (upd_ne (hne c ms (s4 _ _ h))).trans (s4 _ _ h)) cop) ⟨rfl, c, t, ns, rfl, rfl, hc, ?_⟩
        exact (upd_ne htp).trans e4
    · obtain ⟨y2, ls, rfl, e1, e2, e3, cop⟩ := hP
      rw [List.take_length] at cop
      refine ⟨e1, _, rfl, q p ls _ (fun b o e => ?_) ((upd_ne hap.symm).trans e3) (Cop.mono (fun _ _ h => h) (fun c ms h => (upd_ne (fun q => ?_)).trans h) cop)⟩
      · by_cases hb : b = a
        · subst hb
          rw [l.at_] at e
          cases e
          exact upd_same
        · exact (upd_ne hb).trans (e2 b o hb e)
      · rw [q, e1] at h
        cases h
end
end SW

namespace SW
open PySem PySem.Spec PyProof.Rows L2
section
variable {P : Program} {w : World} {K : PySem.W.Frag} {mg : PySem.Str → Option Value} {base : Heap} {C : Addr}
def Has (kvs : List (Key × V)) (l : List PySem.Str) : Prop := ∀ x, x ∈ l → ∃ v, valV kvs (.inr x) = some v
theorem Has.nil (kvs : List (Key × V)) : Has kvs [] := fun _ h => nomatch h
theorem Has.put {kvs : List (Key × V)} {l : List PySem.Str} (h : Has kvs l) (x : PySem.Str) (v : V) : Has (putK kvs (.inr x) v) (l ++ [x]) := fun y hy => by
  rw [valV_put]
  by_cases e : (Sum.inr y : Key) = Sum.inr x
  · exact ⟨v, if_pos e⟩
  · rcases List.mem_append.mp hy with hy | hy
    · rw [if_neg e]
      exact h y hy
    · rw [List.mem_singleton.mp hy] at e
      exact absurd rfl e
theorem Has.put' {kvs : List (Key × V)} {l : List PySem.Str} (h : Has kvs l) (x : PySem.Str) (v : V) : Has (putK kvs (.inr x) v) l := fun y hy => (h.put x v) y (List.mem_append_left _ hy)
theorem Has.one (kvs : List (Key × V)) (x : PySem.Str) (v : V) : valV (putK kvs (.inr x) v) (.inr x) = some v := by
  rw [valV_put, if_pos rfl]
theorem ints_range (ns : List Int) : (List.range (ns.map V.int).length).map (fun i => V.int (ns.getD i 0)) = ns.map V.int := by
  rw [List.length_map]
  exact range_map ns V.int _ fun i x h => by
    rw [List.getD_eq_getElem?_getD, h]
    rfl
def spState (K : PySem.W.Frag) : Sp := fun vs H Q _ => ∃ (h d an : Addr) (ds : List Int) (ns : List PySem.Str), vs = [.ref h, .ref an] ∧ Hand H h d ds ∧ Nm H an ns ∧ ∀ (p dn dl dO : Addr) (kn kl ko : List (Key × V)) H', But h H H' → Hand H' h d ds → H' p = some (.lst [.ref dn, .ref dl, .ref dO]) → p ≠ h → ND H' dn kn → LD H' dl kl → LD H' dO ko →
  Has kn (nnOf ns) → Has kl (lnOf ns) → Has ko (lnOf ns) → kn.length ≤ 100 → kl.length ≤ 100 → ko.length ≤ 100 → Q (.ref p) H'
theorem ok_l_state (T : TxS K mg C) (D_l_state : Df K mg "_law_state" s_l_state ["hand", "n"]) (D_l_take : Df K mg "_law_take" s_l_take ["hand", "many"]) (D_l_some : Df K mg "_law_some" s_l_some ["hand"]) (G_l_take : FnOk P w K mg base CX0 1 D_l_take.f D_l_take.fd ["hand", "many"] spTake) (G_l_some : FnOk P w K mg base CX0 2 D_l_some.f D_l_some.fd ["hand"] spSome) : FnOk P w K mg base CX0 3 D_l_state.f D_l_state.fd ["hand", "n"] (spState K) := by
  refine D_l_state.F.ok sc_l_state (fun vs H Q E h => ?_) (fun cdv A outer s H vs Q E hr h => ?_)
  · obtain ⟨h, d, an, ds, ns, rfl, _⟩ := h
    rfl
  · obtain ⟨h, d, an, ds, ns, rfl, hH, hN, q⟩ := h
    refine ⟨_, (pss_cons (ps_set (i := 2) sc_l_state.nd rfl (.inl rfl) pe_dnewK)
    (pss_cons (ps_for PassesOwn.never rfl (pi_list (pe_lst (pa_cons (pe_ix ix_list (pv 1) pe_int (fun _ _ => rfl)) (pa_cons (pe_ix ix_list (pv 1) pe_int (fun _ _ => rfl)) (pa_cons pe_str pa_nil))))) (pg_name (i := 3) sc_l_state.nd rfl (.inl rfl))
    (pss_one (ps_dput (hu_of hr) (pv 2) (pv 3) (pe_call G_l_some (hr.mono (by decide)) (by rfl) D_l_some.g D_l_some.F.kp D_l_some.b .nil pass0 (pa_cons (pv 0) pa_nil)) rfl)))
    (pss_cons (ps_set (i := 4) sc_l_state.nd rfl (.inl rfl) pe_dnewK)
    (pss_cons (ps_set (i := 5) sc_l_state.nd rfl (.inl rfl) pe_dnewK)
    (pss_cons (ps_for PassesOwn.never rfl (pi_range1 (by rfl) T.n_range (pa_cons pe_int pa_nil)) (pg_name (i := 6) sc_l_state.nd rfl (.inl rfl))
    (pss_cons (ps_set (i := 7) sc_l_state.nd rfl (.inl rfl) (pe_call G_l_take (hr.mono (by decide)) (by rfl) D_l_take.g D_l_take.F.kp D_l_take.b .nil pass0 (pa_cons (pv 0) (pa_cons pe_int pa_nil))))
    (pss_cons (ps_dput (hu_of hr) (pv 4) (pe_ix ix_list (pv 1) (pe_op op_add pe_int (pv 6)) (fun _ _ => rfl)) (pe_lc (own := [("one", 8)]) (g := gName 8) (by rfl) sc_l_state.nd (pi_range1 (by rfl) T.n_range (pa_cons (pv 7) pa_nil)) (blkOk_by (own := [("one", 8)]) (N := ["hand", "n", "numbers", "name", "lists", "old", "k", "many", "one"]) (sc := defScope s_l_state) (by decide +kernel)) (fun _ _ _ _ _ => pg_name (i := 8) sc_l_state.nd rfl (Or.inl rfl)) (fun _ _ _ _ _ => pts_nil) (fun _ _ _ _ _ => (pe_call G_l_some (hr.mono (by decide)) (by rfl) D_l_some.g D_l_some.F.kp D_l_some.b .nil pass0 (pa_cons (pv 0) pa_nil)))) rfl)
    (Evl.pss_cut (ps_if (pt_cmpR op_eq (pe_call G_l_take (hr.mono (by decide)) (by rfl) D_l_take.g D_l_take.F.kp D_l_take.b .nil pass0 (pa_cons (pv 0) (pa_cons pe_int pa_nil))) pe_int (nomark _))
    (pss_one (ps_dput (hu_of hr) (pv 4) (pe_ix ix_list (pv 1) (pe_op op_add pe_int (pv 6)) (fun _ _ => rfl)) (pe_callB cr_sorted (by rfl) T.n_sorted (by decide +kernel) (pa_cons (pe_lc (own := [("one", 8)]) (g := gName 8) (by rfl) sc_l_state.nd (pi_list (pe_dget (hu_of hr) (pv 4) (pe_ix ix_list (pv 1) (pe_op op_add pe_int (pv 6)) (fun _ _ => rfl)) (fun _ _ => rfl))) (blkOk_by (own := [("one", 8)]) (N := ["hand", "n", "numbers", "name", "lists", "old", "k", "many", "one"]) (sc := defScope s_l_state) (by decide +kernel)) (fun _ _ _ _ _ => pg_name (i := 8) sc_l_state.nd rfl (Or.inl rfl)) (fun _ _ _ _ _ => pts_nil) (fun _ _ _ _ _ => (pe_callTy call_int1 (by rfl) T.n_int (by decide +kernel) (pa_cons (pv 8) pa_nil)))) pa_nil)) rfl))
    pss_nil)
    (pss_cons (ps_dput (hu_of hr) (pv 5) (pe_ix ix_list (pv 1) (pe_op op_add pe_int (pv 6)) (fun _ _ => rfl)) (pe_lc (own := [("one", 8)]) (g := gName 8) (by rfl) sc_l_state.nd (pi_range1 (by rfl) T.n_range (pa_cons (pv 7) pa_nil)) (blkOk_by (own := [("one", 8)]) (N := ["hand", "n", "numbers", "name", "lists", "old", "k", "many", "one"]) (sc := defScope s_l_state) (by decide +kernel)) (fun _ _ _ _ _ => pg_name (i := 8) sc_l_state.nd rfl (Or.inl rfl)) (fun _ _ _ _ _ => pts_nil) (fun _ _ _ _ _ => (pe_call G_l_some (hr.mono (by decide)) (by rfl) D_l_some.g D_l_some.F.kp D_l_some.b .nil pass0 (pa_cons (pv 0) pa_nil)))) rfl)
    (pss_one (ps_if (pt_cmpR op_eq (pe_call G_l_take (hr.mono (by decide)) (by rfl) D_l_take.g D_l_take.F.kp D_l_take.b .nil pass0 (pa_cons (pv 0) (pa_cons pe_int pa_nil))) pe_int (nomark _))
    (pss_one (ps_dput (hu_of hr) (pv 5) (pe_ix ix_list (pv 1) (pe_op op_add pe_int (pv 6)) (fun _ _ => rfl)) (pe_callTy call_list_of (by rfl) T.n_list (by decide +kernel) (pa_cons (pe_dget (hu_of hr) (pv 4) (pe_ix ix_list (pv 1) (pe_op op_add pe_int (pv 6)) (fun _ _ => rfl)) (fun _ _ => rfl)) pa_nil)) rfl))
    pss_nil)))))))
    (pss_one (ps_ret (pe_lst (pa_cons (pv 2) (pa_cons (pv 4) (pa_cons (pv 5) pa_nil))))))))))), ?_⟩
    refine fun dn hdn => ?_
    generalize hg : upd H dn _ = H1
    obtain ⟨s1, e1⟩ := new_of hdn hg
    have h1 := hH.same s1
    have n1 := hN.same s1
    have B1 : But h H H1 := (But.refl h H).same s1
    have nd1 : ND H1 dn [] := ⟨e1, List.nodup_nil, fun _ _ h => nomatch h⟩
    have dnh : dn ≠ h := hand_ne hH hdn
    refine ⟨_, rfl, an, _, _, _, rfl, rfl, SqL.of n1.1, atI_nat (j := 0) (n1.at_ (by decide)), _, rfl, an, _, _, _, rfl, rfl, SqL.of n1.1, atI_nat (j := 1) (n1.at_ (by decide)), by show (3 : Nat) ≤ sizeLine; decide, fun p np => ?_⟩
    generalize hg : upd H1 p _ = H2
    obtain ⟨s2, e2⟩ := new_of np hg
    have hp := hand_ne h1 np
    have h2 := h1.same s2
    refine ⟨p, rfl, ⟨_, SqL.of e2⟩, ?_⟩
    refine for_list (K := K) (a := p) (xs := (nnOf ns).map V.str) (fun i σ H3 => ∃ (y3 : Option V) (kn : List (Key × V)), σ = [some (.ref h), some (.ref an), some (.ref dn), y3, none, none, none, none, none] ∧ But h H H3 ∧ Hand H3 h d ds ∧ Nm H3 an ns ∧ H3 p = some (.lst ((nnOf ns).map V.str)) ∧ ND H3 dn kn ∧ kn.length ≤ i ∧ Has kn ((nnOf ns).take i))
      ⟨_, [], rfl, B1.same s2, h2, n1.same s2, e2, nd1.same s2, Nat.zero_le _, fun _ h => nomatch h⟩ (fun i σ H3 _ hP => ?_) (fun i x σ H3 hx hP => ?_) (fun σ H3 hP => ?_)
    · obtain ⟨_, _, _, _, _, _, e, _⟩ := hP
      exact SqL.of e
    · obtain ⟨y3, kn, rfl, b3, h3, n3, e3, nd3, hl3, hk3⟩ := hP
      rw [List.getElem?_map] at hx
      obtain ⟨z, hz, rfl⟩ := Option.map_eq_some_iff.mp hx
      have hi : i < 3 := (List.getElem?_eq_some_iff.mp hz).1
      refine ⟨_, rfl, h, d, ds, rfl, h3, fun v H4 b4 h4 => ?_⟩
      have nd4 := nd3.but h3 b4
      refine ⟨_, rfl, _, rfl, dn, _, rfl, DPut.k (k := .inr z) nd4.at_ (small_sz (by omega)), ?_⟩
      have e4 := b4 _ _ hp e3
      refine ⟨_, _, rfl, (b3.trans b4).new hdn, hand_dk h4 nd4.at_, nm_dk (n3.but h3 b4) nd4.at_, (upd_ne (fun q => ?_)).trans e4, nd4.put, Nat.le_trans (putK_len6 _ _ _) (Nat.succ_le_succ hl3), ?_⟩
      · rw [q, nd4.at_] at e4
        cases e4
      · rw [List.take_succ, hz]
        exact hk3.put z _
    obtain ⟨y3, kn, rfl, b3, h3, n3, e3, nd3, hl3, hk3⟩ := hP
    have hl3 : kn.length ≤ 3 := hl3
    have hk3 : Has kn (nnOf ns) := hk3
    clear e3 e2 nd1 e1 n1 np
    -- lists = {}; old = {}
    refine fun dl hdl => ?_
    generalize hg : upd H3 dl _ = H4
    obtain ⟨s4, e4⟩ := new_of hdl hg
    have dlh : dl ≠ h := hand_ne h3 hdl
    have dlH : H dl = none := b3.free dlh hdl
    have h4 := h3.same s4
    refine fun dO hdO => ?_
    generalize hg : upd H4 dO _ = H5
    obtain ⟨s5, e5⟩ := new_of hdO hg
    have dOh : dO ≠ h := hand_ne h4 hdO
    have dOH : H dO = none := (b3.same s4).free dOh hdO
    have h5 := h4.same s5
    have dlO : dl ≠ dO := ne_of_none e4 hdO
    have dnl : dn ≠ dl := ne_of_none nd3.at_ hdl
    have dnO : dn ≠ dO := ne_of_none (s4 _ _ nd3.at_) hdO
    refine ⟨3, rfl, by decide, by decide, ?_⟩
    refine for_range (lo := 0) (n := (3 : Int).toNat) (fun i σ H6 => ∃ (y6 y7 : Option V) (kl ko : List (Key × V)), σ = [some (.ref h), some (.ref an), some (.ref dn), y3, some (.ref dl), some (.ref dO), y6, y7, none] ∧ But h H H6 ∧ Hand H6 h d ds ∧ Nm H6 an ns ∧ ND H6 dn kn ∧ LD H6 dl kl ∧ LD H6 dO ko ∧ kl.length ≤ 2 * i ∧ ko.length ≤ 2 * i ∧ Has kl ((lnOf ns).take i) ∧ Has ko ((lnOf ns).take i))
      ⟨_, _, [], [], rfl, (b3.same s4).same s5, h5, (n3.same s4).same s5, (nd3.same s4).same s5, ⟨s5 _ _ e4, List.nodup_nil, fun _ _ h => nomatch h⟩, ⟨e5, List.nodup_nil, fun _ _ h => nomatch h⟩, Nat.le_refl _, Nat.le_refl _, Has.nil _, Has.nil _⟩ (fun i σ H6 hi hP => ?_) (fun σ H6 hP => ?_)
    · obtain ⟨y6, y7, kl, ko, rfl, b6, h6, n6, nd6, l6, o6, c1, c2, k1, k2⟩ := hP
      have hi : i < 3 := hi
      have hx : ∃ x, (lnOf ns)[i]? = some x ∧ ∀ H an, Nm H an ns → atI (ns.map V.str) (3 + (0 + (i : Int))) = some (.str x) := by
        match i, hi with
        | 0, _ => exact ⟨_, rfl, fun H an n => atI_nat (j := 3) (n.at_ (by decide))⟩
        | 1, _ => exact ⟨_, rfl, fun H an n => atI_nat (j := 4) (n.at_ (by decide))⟩
        | 2, _ => exact ⟨_, rfl, fun H an n => atI_nat (j := 5) (n.at_ (by decide))⟩
      obtain ⟨x, hxi, hxa⟩ := hx
      -- many
      refine ⟨_, rfl, h, d, ds, 7, rfl, by decide, h6, fun m H7 m0 m1 b7 h7 _ => ?_⟩
      have n7 := n6.but h6 b7
      have l7 := l6.but h6 b7
      have o7 := o6.but h6 b7
      have nd7 := nd6.but h6 b7
      have B7 := b6.trans b7
      -- lists[..] = [..]
      refine ⟨_, rfl, m, rfl, by omega, by omega, fun D hD => ?_⟩
      refine lc_drawn (K := K) (lo := 0) (n := m.toNat) PyData.int (fun _ => True) (fun _ _ => rfl) (by omega) h7 hD (fun j x4 H8 Q' hj b8 h8 hx8 q' => ⟨rfl, _, rfl, h, d, ds, rfl, h8, fun z H9 b9 h9 => q' _ z H9 b9 h9 trivial (.int z)⟩) (fun H8 ys es b8 h8 e8 hDh hDd hys hel _ => ?_)
      cases dpa_ints' hys
      have n8 := n7.but h7 b8
      have l8 := l7.but h7 b8
      have o8 := o7.but h7 b8
      have nd8 := nd7.but h7 b8
      have B8 := B7.trans b8
      refine ⟨_, rfl, _, rfl, _, rfl, _, _, rfl, rfl, an, _, _, _, rfl, rfl, SqL.of n8.1, hxa _ _ n8, dl, _, rfl, DPut.k (k := .inr x) l8.at_ (small_sz (by omega)), ?_⟩
      have l9 := l8.put (k := .inr x) e8 (by omega)
      have o9 := o8.other (o := .dK (putK kl (.inr x) (.ref D))) l8.at_ dlO
      have nd9 := nd8.other (o := .dK (putK kl (.inr x) (.ref D))) dnl.symm
      have h9 := hand_dk (o := .dK (putK kl (.inr x) (.ref D))) h8 l8.at_
      have n9 := nm_dk (o := .dK (putK kl (.inr x) (.ref D))) n8 l8.at_
      have B9 := B8.new (o := .dK (putK kl (.inr x) (.ref D))) dlH
      have k9 := k1.put x (.ref D)
      have c9 := putK_len6 kl (.inr x) (.ref D)
      have v9 := Has.one kl x (.ref D)
      generalize hg9 : upd H8 dl (.dK (putK kl (.inr x) (.ref D))) = H9 at l9 o9 nd9 h9 n9 B9
      generalize hgk : putK kl (.inr x) (.ref D) = kl' at l9 k9 c9 v9
      -- sorted
      refine ⟨fun σ' Ha => ∃ (kl' : List (Key × V)), σ' = [some (.ref h), some (.ref an), some (.ref dn), y3, some (.ref dl), some (.ref dO), some (.int (0 + (i : Nat))), some (.int m), none] ∧ But h H Ha ∧ Hand Ha h d ds ∧ Nm Ha an ns ∧ ND Ha dn kn ∧ LD Ha dl kl' ∧ LD Ha dO ko ∧ kl'.length ≤ 2 * i + 2 ∧ Has kl' ((lnOf ns).take i ++ [x]), ?_, ?_⟩
      · refine ⟨_, rfl, h, d, ds, 2, rfl, by decide, h9, fun r Ha _ _ ba ha _ => ⟨rfl, _, rfl, ite2 (fun _ => ?_) (fun _ => ?_)⟩⟩
        · have na := n9.but h9 ba
          have la := l9.but h9 ba
          obtain ⟨c, ms, hv, hc, hms⟩ := la.vals _ _ v9
          cases hv
          refine ⟨_, rfl, _, rfl, _, rfl, _, _, rfl, rfl, an, _, _, _, rfl, rfl, SqL.of na.1, hxa _ _ na, dl, _, rfl, .inl ⟨kl', .inr x, .inl la.at_, rfl, v9.symm⟩, D, rfl, ⟨_, SqL.of hc⟩, fun D2 hD2 => ?_⟩
          refine lc_vals (walk_list (K := K) (a := D) (xs := ms.map V.int)) hD2 (fun i => .int (ms.getD i 0)) (by rw [List.length_map]; omega) (fun H s => SqL.of (s _ _ hc)) (fun j x4 Hb Hc Q' hj sb yb q' => ?_) (fun Hb sb eb => ?_)
          · obtain ⟨rfl, g1⟩ := yb
            rw [getD_int (by rw [List.length_map] at hj; exact hj)] at g1
            cases g1
            exact ⟨rfl, _, rfl, .inl ⟨_, rfl, q' _ (Same.refl _)⟩⟩
          rw [ints_range] at eb
          refine ⟨D2, ms, rfl, SqL.of eb, by omega, fun ms' p4 hperm _ n4 => ?_⟩
          generalize hg : upd Hb p4 _ = Hc
          obtain ⟨sc, ec⟩ := new_of n4 hg
          have S := sb.trans sc
          have lc := la.same S
          have hml : ms'.length ≤ 6 := by rw [hperm.length_eq]; exact hms
          have nc := na.same S
          refine ⟨_, rfl, _, rfl, _, rfl, _, _, rfl, rfl, an, _, _, _, rfl, rfl, SqL.of nc.1, hxa _ _ nc, dl, _, rfl, DPut.k (k := .inr x) lc.at_ (small_sz (by omega)), ?_⟩
          have cx := putK_len6 kl' (.inr x) (.ref p4)
          refine ⟨_, rfl, ((B9.trans ba).same S).new dlH, hand_dk (ha.same S) lc.at_, nm_dk nc lc.at_, ((nd9.but h9 ba).same S).other dnl.symm, lc.put ec hml, ((o9.but h9 ba).same S).other lc.at_ dlO, by omega, k9.put' x _⟩
        · exact ⟨kl', rfl, B9.trans ba, ha, n9.but h9 ba, nd9.but h9 ba, l9.but h9 ba, o9.but h9 ba, by omega, k9⟩
      intro σ' Ha hNx
      clear l9 o9 nd9 h9 n9 B9 k9 c9 v9 hgk hg9 n8 l8 o8 nd8 B8 e8
      obtain ⟨kl2, rfl, Ba, ha, na, nda, la, oa, ca, ka⟩ := hNx
      refine ⟨_, rfl, m, rfl, by omega, by omega, fun D3 hD3 => ?_⟩
      refine lc_drawn (K := K) (lo := 0) (n := m.toNat) PyData.int (fun _ => True) (fun _ _ => rfl) (by omega) ha hD3 (fun j x4 H8 Q' hj b8 h8 hx8 q' => ⟨rfl, _, rfl, h, d, ds, rfl, h8, fun z H9 b9 h9 => q' _ z H9 b9 h9 trivial (.int z)⟩) (fun Hb ys3 es3 bb hb eb hDh3 hDd3 hys3 hel3 _ => ?_)
      cases dpa_ints' hys3
      have nb := na.but ha bb
      have lb := la.but ha bb
      have ob := oa.but ha bb
      have ndb := nda.but ha bb
      refine ⟨_, rfl, _, rfl, _, rfl, _, _, rfl, rfl, an, _, _, _, rfl, rfl, SqL.of nb.1, hxa _ _ nb, dO, _, rfl, DPut.k (k := .inr x) ob.at_ (small_sz (by omega)), ?_⟩
      have oc := ob.put (k := .inr x) eb (by omega)
      have lc := lb.other (o := .dK (putK ko (.inr x) (.ref D3))) ob.at_ dlO.symm
      have ndc := ndb.other (o := .dK (putK ko (.inr x) (.ref D3))) dnO.symm
      have hc := hand_dk (o := .dK (putK ko (.inr x) (.ref D3))) hb ob.at_
      have nc := nm_dk (o := .dK (putK ko (.inr x) (.ref D3))) nb ob.at_
      have Bc := (Ba.trans bb).new (o := .dK (putK ko (.inr x) (.ref D3))) dOH
      have kc := k2.put x (.ref D3)
      have cc := putK_len6 ko (.inr x) (.ref D3)
      generalize hgc : upd Hb dO (.dK (putK ko (.inr x) (.ref D3))) = Hc at oc lc ndc hc nc Bc
      generalize hgk : putK ko (.inr x) (.ref D3) = ko' at oc kc cc
      have htake : (lnOf ns).take (i + 1) = (lnOf ns).take i ++ [x] := by
        rw [List.take_succ, hxi]
        rfl
      refine ⟨_, rfl, h, d, ds, 2, rfl, by decide, hc, fun r Hd _ _ bd hd _ => ⟨rfl, _, rfl, ite2 (fun _ => ?_) (fun _ => ?_)⟩⟩
      · have ndd := nc.but hc bd
        have ld := lc.but hc bd
        obtain ⟨v, hv⟩ := ka x (List.mem_append_right _ (List.mem_singleton.mpr rfl))
        obtain ⟨c, ms, rfl, hcc, hms⟩ := ld.vals _ _ hv
        refine ⟨_, rfl, _, rfl, _, rfl, _, _, rfl, rfl, an, _, _, _, rfl, rfl, SqL.of ndd.1, hxa _ _ ndd, dl, _, rfl, .inl ⟨kl2, .inr x, .inl ld.at_, rfl, hv.symm⟩, c, _, rfl, .inl (SqL.of hcc), fun l nl => ?_⟩
        generalize hg : upd Hd l _ = He
        obtain ⟨se, ee⟩ := new_of nl hg
        have oe := (oc.but hc bd).same se
        have ne := ndd.same se
        have cx := putK_len6 ko' (.inr x) (.ref l)
        refine ⟨_, rfl, _, rfl, _, rfl, _, _, rfl, rfl, an, _, _, _, rfl, rfl, SqL.of ne.1, hxa _ _ ne, dO, _, rfl, DPut.k (k := .inr x) oe.at_ (small_sz (by omega)), ?_⟩
        refine ⟨_, _, kl2, _, rfl, ((Bc.trans bd).same se).new dOH, hand_dk (hd.same se) oe.at_, nm_dk ne oe.at_, ((ndc.but hc bd).same se).other dnO.symm, (ld.same se).other oe.at_ dlO.symm, oe.put ee hms, by omega, by omega, ?_, ?_⟩
        · rw [htake]
          exact ka
        · rw [htake]
          exact kc.put' x _
      · refine ⟨_, _, kl2, ko', rfl, Bc.trans bd, hd, nc.but hc bd, ndc.but hc bd, lc.but hc bd, oc.but hc bd, by omega, by omega, ?_, ?_⟩
        · rw [htake]
          exact ka
        · rw [htake]
          exact kc
    · obtain ⟨y6, y7, kl, ko, rfl, b6, h6, n6, nd6, l6, o6, c1, c2, k1, k2⟩ := hP
      have c1 : kl.length ≤ 2 * 3 := c1
      have c2 : ko.length ≤ 2 * 3 := c2
      have k1 : Has kl (lnOf ns) := k1
      have k2 : Has ko (lnOf ns) := k2
      refine ⟨_, rfl, _, rfl, _, rfl, by show (3 : Nat) ≤ sizeLine; decide, fun p9 n9 => ?_⟩
      generalize hg : upd H6 p9 _ = H9
      obtain ⟨s9, e9⟩ := new_of n9 hg
      exact q p9 dn dl dO kn kl ko H9 (b6.same s9) (h6.same s9) e9 (hand_ne h6 n9) (nd6.same s9) (l6.same s9) (o6.same s9) hk3 k1 k2 (by omega) (by omega) (by omega)
end
end SW

namespace SW
open PySem PySem.Spec PyProof.Rows L2
abbrev s_l_answers : Stmt := topS 32
theorem sc_l_answers : FnScope ["state", "asked", "kept", "terms", "promises", "term", "due", "found", "promise"] ["state", "asked", "kept"] (defScope s_l_answers) := ⟨rfl, rfl, rfl, by decide +kernel, rfl, by decide +kernel, by decide +kernel⟩

/-! ### what the dicts say -/
def numOf (kn : List (Key × V)) (x : PySem.Str) : Int := match valV kn (.inr x) with
  | some (.int z) => z
  | _ => 0
def intOf : V → Option Int
  | .int z => some z
  | _ => none
def intsOf : Option HO → List Int
  | some (.lst xs) => xs.filterMap intOf
  | _ => []
def lstOf (H : Hp) (kl : List (Key × V)) (x : PySem.Str) : List Int := match valV kl (.inr x) with
  | some (.ref a) => intsOf (H a)
  | _ => []
theorem intsOf_map (ns : List Int) : (ns.map V.int).filterMap intOf = ns := by
  induction ns with
  | nil => rfl
  | cons a r ih =>
    show a :: (r.map V.int).filterMap intOf = _
    rw [ih]
theorem intsOf_eq {o : Option HO} {ns : List Int} (h : o = some (.lst (ns.map V.int))) : intsOf o = ns := by
  subst h
  exact intsOf_map ns
def evOf (H : Hp) (kn kl ko : List (Key × V)) : Ev := ⟨numOf kn, fun b x => if b = true then lstOf H ko x else lstOf H kl x⟩
theorem lstOf_eq {H : Hp} {kl : List (Key × V)} {x : PySem.Str} {a : Addr} {ns : List Int} (e : valV kl (.inr x) = some (.ref a)) (h : H a = some (.lst (ns.map V.int))) : lstOf H kl x = ns := by
  unfold lstOf
  rw [e]
  exact intsOf_eq h
theorem EvAt.but {H H' : Hp} {h d dn dl dO : Addr} {ds : List Int} {E : Ev} {nn ln : List PySem.Str} (a : EvAt H dn dl dO E nn ln) (hh : Hand H h d ds) (s : But h H H') : EvAt H' dn dl dO E nn ln := by
  obtain ⟨⟨k1, e1, f1⟩, ⟨k2, e2, f2⟩, ⟨k3, e3, f3⟩, sz⟩ := a
  refine ⟨⟨k1, s _ _ (dk_ne hh e1) e1, f1⟩, ⟨k2, s _ _ (dk_ne hh e2) e2, fun x hx => ?_⟩, ⟨k3, s _ _ (dk_ne hh e3) e3, fun x hx => ?_⟩, sz⟩
  · obtain ⟨a, h1, h2⟩ := f2 x hx
    exact ⟨a, h1, s _ _ (ints_ne hh h2) h2⟩
  · obtain ⟨a, h1, h2⟩ := f3 x hx
    exact ⟨a, h1, s _ _ (ints_ne hh h2) h2⟩
theorem ev_at {H : Hp} {dn dl dO : Addr} {kn kl ko : List (Key × V)} {nn ln : List PySem.Str} (nd : ND H dn kn) (l : LD H dl kl) (o : LD H dO ko) (h1 : Has kn nn) (h2 : Has kl ln) (h3 : Has ko ln) : EvAt H dn dl dO (evOf H kn kl ko) nn ln := by
  refine ⟨⟨kn, nd.at_, fun x hx => ?_⟩, ⟨kl, l.at_, fun x hx => ?_⟩, ⟨ko, o.at_, fun x hx => ?_⟩, fun b x hx => ?_⟩
  · obtain ⟨v, hv⟩ := h1 x hx
    obtain ⟨z, rfl⟩ := nd.vals _ _ hv
    have e : numOf kn x = z := by
      unfold numOf
      rw [hv]
    show _ = some (V.int (numOf kn x))
    rw [hv, e]
  · obtain ⟨v, hv⟩ := h2 x hx
    obtain ⟨b, ns, rfl, hb, _⟩ := l.vals _ _ hv
    refine ⟨b, hv, ?_⟩
    show H b = some (.lst ((lstOf H kl x).map V.int))
    rw [lstOf_eq hv hb, hb]
  · obtain ⟨v, hv⟩ := h3 x hx
    obtain ⟨b, ns, rfl, hb, _⟩ := o.vals _ _ hv
    refine ⟨b, hv, ?_⟩
    show H b = some (.lst ((lstOf H ko x).map V.int))
    rw [lstOf_eq hv hb, hb]
  · cases b with
    | false =>
      obtain ⟨v, hv⟩ := h2 x hx
      obtain ⟨b, ns, rfl, hb, hl⟩ := l.vals _ _ hv
      show (lstOf H kl x).length ≤ 100
      rw [lstOf_eq hv hb]
      omega
    | true =>
      obtain ⟨v, hv⟩ := h3 x hx
      obtain ⟨b, ns, rfl, hb, hl⟩ := o.vals _ _ hv
      show (lstOf H ko x).length ≤ 100
      rw [lstOf_eq hv hb]
      omega
/-- the copies say the same -/
theorem ev_cop {H : Hp} {dn dl dO qn q1 q2 : Addr} {kn kl ko l1 l2 : List (Key × V)} {nn ln : List PySem.Str} (E : Ev) (a : EvAt H dn dl dO E nn ln) (nd : H dn = some (.dK kn)) (l : H dl = some (.dK kl)) (o : H dO = some (.dK ko)) (en : H qn = some (.dK kn)) (e1 : H q1 = some (.dK l1)) (e2 : H q2 = some (.dK l2)) (c1 : Cop H H kl l1) (c2 : Cop H H ko l2) : EvAt H qn q1 q2 E nn ln := by
  obtain ⟨⟨k1, g1, f1⟩, ⟨k2, g2, f2⟩, ⟨k3, g3, f3⟩, sz⟩ := a
  rw [nd] at g1
  rw [l] at g2
  rw [o] at g3
  cases g1
  cases g2
  cases g3
  refine ⟨⟨kn, en, f1⟩, ⟨l1, e1, fun x hx => ?_⟩, ⟨l2, e2, fun x hx => ?_⟩, sz⟩
  · obtain ⟨a, h1, h2⟩ := f2 x hx
    obtain ⟨c, d, ns, w1, w2, w3, w4⟩ := c1.val h1
    cases w1
    rw [h2] at w3
    injection w3 with w3
    injection w3 with w3
    exact ⟨d, w2, by rw [w4, w3]⟩
  · obtain ⟨a, h1, h2⟩ := f3 x hx
    obtain ⟨c, d, ns, w1, w2, w3, w4⟩ := c2.val h1
    cases w1
    rw [h2] at w3
    injection w3 with w3
    injection w3 with w3
    exact ⟨d, w2, by rw [w4, w3]⟩
theorem cop_eq {H : Hp} {kl l1 : List (Key × V)} (nd : (kl.map (·.1)).Nodup) (c : Cop H H kl l1) : LEq H kl l1 := by
  refine ⟨?_, fun p hp => c.val (mem_val nd p hp)⟩
  have := congrArg List.length c.keys
  rw [List.length_map, List.length_map] at this
  exact this.symm
theorem Cd.ok_up {nn ln : List PySem.Str} : ∀ {n : Nat} {c : Cd}, Cd.ok nn ln n c → Cd.ok nn ln (n + 1) c
  | 0, _, h => False.elim h
  | n + 1, .pr p, h => ⟨h.1, fun _ => Nat.succ_ne_zero _⟩
  | n + 1, .not c, h => Cd.ok_up (n := n) (c := c) h
  | n + 1, .join o cs, h => ⟨h.1, fun c hc => Cd.ok_up (n := n) (h.2 c hc)⟩
/-- what is asked: terms and conditions -/
structure AskAt (K : PySem.W.Frag) (H : Hp) (aq a1 a2 : Addr) (xs ys : List V) (ts : List Tm) (cs : List Cd) : Prop where
  q : H aq = some (.lst [.ref a1, .ref a2])
  t : H a1 = some (.lst xs)
  c : H a2 = some (.lst ys)
  tx : DpAll K H xs (ts.map Tm.enc)
  cx : DpAll K H ys (cs.map Cd.enc)
theorem noLs_tms : ∀ ts : List Tm, noLs (ts.map Tm.enc) = true
  | [] => rfl
  | t :: r => by
    show (noL t.enc && noLs (r.map Tm.enc)) = true
    rw [noL_tm, noLs_tms r]
    rfl
theorem noLs_cds' (cs : List Cd) : noLs (cs.map Cd.enc) = true := by
  rw [← encs_map]
  exact noLs_cds cs
theorem AskAt.same {K : PySem.W.Frag} {H H' : Hp} {aq a1 a2 : Addr} {xs ys : List V} {ts : List Tm} {cs : List Cd} (a : AskAt K H aq a1 a2 xs ys ts cs) (s : Same H H') : AskAt K H' aq a1 a2 xs ys ts cs := ⟨s _ _ a.q, s _ _ a.t, s _ _ a.c, dpa_same s _ _ a.tx, dpa_same s _ _ a.cx⟩
theorem AskAt.but {K : PySem.W.Frag} {H H' : Hp} {h d aq a1 a2 : Addr} {ds : List Int} {xs ys : List V} {ts : List Tm} {cs : List Cd} (a : AskAt K H aq a1 a2 xs ys ts cs) (hh : Hand H h d ds) (n0 : aq ≠ h) (n1 : a1 ≠ h) (n2 : a2 ≠ h) (s : But h H H') : AskAt K H' aq a1 a2 xs ys ts cs := by
  obtain ⟨i, hl⟩ := hh.at_
  exact ⟨s _ _ n0 a.q, s _ _ n1 a.t, s _ _ n2 a.c, dpa_but hl s _ _ (noLs_tms ts) a.tx, dpa_but hl s _ _ (noLs_cds' cs) a.cx⟩
theorem kit_int {K : PySem.W.Frag} : PySem.W.kitOne K (.type "int") (.type "int") = some true := kit_ty (by decide +kernel)
theorem kit_intb {K : PySem.W.Frag} : PySem.W.kitOne K (.type "int") (.type "bool") = some false := kit_ty (by decide +kernel)
theorem kit_boolb {K : PySem.W.Frag} : PySem.W.kitOne K (.type "bool") (.type "bool") = some true := kit_ty (by decide +kernel)
section
variable {P : Program} {w : World} {K : PySem.W.Frag} {mg : PySem.Str → Option Value} {base : Heap} {C : Addr}
def spAnswers (K : PySem.W.Frag) (C : Addr) : Sp := fun vs H Q _ => ∃ (p aq a1 a2 kp dn dl dO : Addr) (xs ys : List V) (ts : List Tm) (cs : List Cd) (E : Ev) (nn ln : List PySem.Str), vs = [.ref p, .ref aq, .ref kp] ∧ AskAt K H aq a1 a2 xs ys ts cs ∧ (∀ t, t ∈ ts → t.ok nn ln) ∧ (∀ c, c ∈ cs → c.ok nn ln 5) ∧ StAt C H p E nn ln ∧ H kp = some (.lst [.ref dn, .ref dl, .ref dO]) ∧ EvAt H dn dl dO E nn ln ∧ ∀ H', Same H H' → Q (.bl true) H'
theorem ok_l_answers (T : TxS K mg C) (D_l_answers : Df K mg "_law_answers" s_l_answers ["state", "asked", "kept"]) (D_l_value : Df K mg "_law_value" s_l_value ["term", "numbers", "lists", "old"]) (D_value_of : Df K mg "value_of" s_value_of ["term", "state"]) (D_truth_of : Df K mg "truth_of" s_truth_of ["promise", "state"]) (D_l_truth : Df K mg "_law_truth" s_l_truth ["condition", "numbers", "lists", "old"]) (G_l_value : FnOk P w K mg base CX0 3 D_l_value.f D_l_value.fd ["term", "numbers", "lists", "old"] (spLV K)) (G_value_of : FnOk P w K mg base CX0 3 D_value_of.f D_value_of.fd ["term", "state"] (spVal K C)) (G_truth_of : FnOk P w K mg base CX0 11 D_truth_of.f D_truth_of.fd ["promise", "state"] (spTruth K C 5)) (G_l_truth : FnOk P w K mg base CX0 12 D_l_truth.f D_l_truth.fd ["condition", "numbers", "lists", "old"] (spLTruth K 5)) : FnOk P w K mg base CX0 13 D_l_answers.f D_l_answers.fd ["state", "asked", "kept"] (spAnswers K C) := by
  refine D_l_answers.F.ok sc_l_answers (fun vs H Q E h => ?_) (fun cdv A outer s H vs Q E hr h => ?_)
  · obtain ⟨p, aq, a1, a2, kp, dn, dl, dO, xs, ys, ts, cs, E, nn, ln, rfl, _⟩ := h
    rfl
  · obtain ⟨p, aq, a1, a2, kp, dn, dl, dO, xs, ys, ts, cs, E, nn, ln, rfl, ask, okt, okc, st, ek, ev, q⟩ := h
    refine ⟨_, (pss_cons (ps_asg (pv 1) (pg_lst (by rfl) (pgs_cons (pg_name (i := 3) sc_l_answers.nd rfl (.inl rfl)) (pgs_cons (pg_name (i := 4) sc_l_answers.nd rfl (.inl rfl)) pgs_nil))))
    (pss_cons (ps_for PassesOwn.never rfl (pi_list (pv 3)) (pg_name (i := 5) sc_l_answers.nd rfl (.inl rfl))
    (pss_cons (ps_set (i := 6) sc_l_answers.nd rfl (.inl rfl) (pe_call G_l_value (hr.mono (by decide)) (by rfl) D_l_value.g D_l_value.F.kp D_l_value.b .nil pass0 (pa_cons (pv 5) (pa_cons (pe_ix ix_list (pv 2) pe_int (fun _ _ => rfl)) (pa_cons (pe_ix ix_list (pv 2) pe_int (fun _ _ => rfl)) (pa_cons (pe_ix ix_list (pv 2) pe_int (fun _ _ => rfl)) pa_nil))))))
    (pss_cons (ps_set (i := 7) sc_l_answers.nd rfl (.inl rfl) (pe_call G_value_of (hr.mono (by decide)) (by rfl) D_value_of.g D_value_of.F.kp D_value_of.b .nil pass0 (pa_cons (pv 5) (pa_cons (pv 0) pa_nil))))
    (pss_cons (ps_if (PW.pt (pw_and (pt_cmpR op_isN (pv 6) pe_non (nomark _)) (pw_and1 (pt_cmpR op_notN (pv 7) pe_non (nomark _)))))
    (pss_one (ps_ret pe_bl))
    pss_nil)
    (pss_one (ps_if (PW.pt (pw_and (pt_cmpR op_notN (pv 6) pe_non (nomark _)) (pw_and1 (PW.pt (pw_or (pt_not (pt_val (pe_callB call_isi (by rfl) T.n_isinstance (by decide +kernel) (pa_cons (pv 7) (pa_cons (pe_bltn (v := .ty "int") (u := .type "int") (by rfl) T.n_int (by decide +kernel) rfl) pa_nil))))) (pw_or (pt_val (pe_callB call_isi (by rfl) T.n_isinstance (by decide +kernel) (pa_cons (pv 7) (pa_cons (pe_bltn (v := .ty "bool") (u := .type "bool") (by rfl) T.n_bool (by decide +kernel) rfl) pa_nil)))) (pw_or1 (pt_cmpR op_ne (pv 7) (pv 6) (nomark _)))))))))
    (pss_one (ps_ret pe_bl))
    pss_nil))))))
    (pss_cons (ps_for PassesOwn.never rfl (pi_list (pv 4)) (pg_name (i := 8) sc_l_answers.nd rfl (.inl rfl))
    (pss_cons (ps_set (i := 7) sc_l_answers.nd rfl (.inl rfl) (pe_call G_truth_of (hr.mono (by decide)) (by rfl) D_truth_of.g D_truth_of.F.kp D_truth_of.b .nil pass0 (pa_cons (pv 8) (pa_cons (pv 0) pa_nil))))
    (pss_one (ps_if (PW.pt (pw_or (pt_not (pt_val (pe_callB call_isi (by rfl) T.n_isinstance (by decide +kernel) (pa_cons (pv 7) (pa_cons (pe_bltn (v := .ty "bool") (u := .type "bool") (by rfl) T.n_bool (by decide +kernel) rfl) pa_nil))))) (pw_or1 (pt_cmpR op_ne (pv 7) (pe_call G_l_truth (hr.mono (by decide)) (by rfl) D_l_truth.g D_l_truth.F.kp D_l_truth.b .nil pass0 (pa_cons (pv 8) (pa_cons (pe_ix ix_list (pv 2) pe_int (fun _ _ => rfl)) (pa_cons (pe_ix ix_list (pv 2) pe_int (fun _ _ => rfl)) (pa_cons (pe_ix ix_list (pv 2) pe_int (fun _ _ => rfl)) pa_nil))))) (nomark _)))))
    (pss_one (ps_ret pe_bl))
    pss_nil))))
    (pss_one (ps_ret pe_bl))))), ?_⟩
    refine ⟨_, rfl, aq, _, rfl, SqL.of ask.q, rfl, _, _, rfl, _, _, rfl, rfl, ?_⟩
    refine ⟨_, rfl, a1, rfl, ⟨_, SqL.of ask.t⟩, ?_⟩
    refine for_list (K := K) (a := a1) (xs := xs) (fun i σ H2 => ∃ (y5 y6 y7 : Option V), σ = [some (.ref p), some (.ref aq), some (.ref kp), some (.ref a1), some (.ref a2), y5, y6, y7, none] ∧ Same H H2) ⟨_, _, _, rfl, Same.refl H⟩ (fun i σ H2 _ hP => ?_) (fun i x σ H2 hx hP => ?_) (fun σ H2 hP => ?_)
    · obtain ⟨_, _, _, _, s⟩ := hP
      exact SqL.of (s _ _ ask.t)
    · obtain ⟨y5, y6, y7, rfl, s2⟩ := hP
      obtain ⟨dd, hd, hdx⟩ := dpa_get ask.tx hx
      rw [List.getElem?_map] at hd
      obtain ⟨t, ht, rfl⟩ := Option.map_eq_some_iff.mp hd
      have hok := okt t (List.mem_of_getElem? ht)
      have ek2 := s2 _ _ ek
      refine ⟨_, rfl, _, rfl, kp, _, _, _, rfl, rfl, SqL.of ek2, atI_nat (j := 0) rfl, _, rfl, kp, _, _, _, rfl, rfl, SqL.of ek2, atI_nat (j := 1) rfl, _, rfl, kp, _, _, _, rfl, rfl, SqL.of ek2, atI_nat (j := 2) rfl, x, dn, dl, dO, t, E, nn, ln, rfl, hdx.same s2, ev.same s2, hok, ?_⟩
      refine ⟨_, rfl, _, rfl, x, p, t, E, nn, ln, rfl, hdx.same s2, st.same s2, hok, ?_⟩
      cases t.val E with
      | none =>
        refine ⟨_, rfl, rfl, _, rfl, iteT ⟨_, rfl, rfl, _, rfl, iteF ?_⟩⟩
        exact ⟨_, rfl, rfl, _, rfl, iteF (iteF ⟨_, _, _, rfl, s2⟩)⟩
      | some a =>
        refine ⟨_, rfl, rfl, _, rfl, iteF (iteF ?_)⟩
        refine ⟨_, rfl, rfl, _, rfl, iteT ⟨_, rfl, _, _, _, _, true, rfl, .ty "int", .base (.int _), kit_int, _, rfl, iteF ⟨_, rfl, _, _, _, _, false, rfl, .ty "bool", .base (.int _), kit_intb, _, rfl, iteF ⟨_, rfl, _, rfl, rfl, _, rfl, ?_⟩⟩⟩⟩
        rw [decide_eq_true rfl]
        exact iteF ⟨_, _, _, rfl, s2⟩
    obtain ⟨y5, y6, y7, rfl, s2⟩ := hP
    refine ⟨_, rfl, a2, rfl, ⟨_, SqL.of (s2 _ _ ask.c)⟩, ?_⟩
    refine for_list (K := K) (a := a2) (xs := ys) (fun i σ H3 => ∃ (y7 y8 : Option V), σ = [some (.ref p), some (.ref aq), some (.ref kp), some (.ref a1), some (.ref a2), y5, y6, y7, y8] ∧ Same H H3) ⟨_, _, rfl, s2⟩ (fun i σ H3 _ hP => ?_) (fun i x σ H3 hx hP => ?_) (fun σ H3 hP => ?_)
    · obtain ⟨_, _, _, s⟩ := hP
      exact SqL.of (s _ _ ask.c)
    · obtain ⟨y7, y8, rfl, s3⟩ := hP
      obtain ⟨dd, hd, hdx⟩ := dpa_get ask.cx hx
      rw [List.getElem?_map] at hd
      obtain ⟨c, hc, rfl⟩ := Option.map_eq_some_iff.mp hd
      have hok := okc c (List.mem_of_getElem? hc)
      refine ⟨_, rfl, _, rfl, x, p, c, E, nn, ln, rfl, hdx.same s3, st.same s3, hok, fun H4 s4 => ?_⟩
      have S4 := s3.trans s4
      have ek2 := S4 _ _ ek
      refine ⟨_, rfl, _, _, _, _, true, rfl, .ty "bool", .base (.bl _), kit_boolb, _, rfl, iteF ?_⟩
      refine ⟨_, rfl, _, rfl, _, rfl, kp, _, _, _, rfl, rfl, SqL.of ek2, atI_nat (j := 0) rfl, _, rfl, kp, _, _, _, rfl, rfl, SqL.of ek2, atI_nat (j := 1) rfl, _, rfl, kp, _, _, _, rfl, rfl, SqL.of ek2, atI_nat (j := 2) rfl, x, dn, dl, dO, c, E, nn, ln, rfl, hdx.same S4, ev.same S4, hok, fun H5 s5 => ?_⟩
      refine ⟨rfl, _, rfl, ?_⟩
      rw [decide_eq_true rfl]
      exact iteF ⟨_, _, rfl, S4.trans s5⟩
    · obtain ⟨y7, y8, rfl, s3⟩ := hP
      exact q _ s3
end
end SW

namespace SW
open PySem PySem.Spec PyProof.Rows L2
abbrev s_law : Stmt := topS 33
theorem sc_law : FnScope ["script", "hand", "n", "handed", "kept", "state", "asked", "k", "other"] ["script"] (defScope s_law) := ⟨rfl, rfl, rfl, by decide +kernel, rfl, by decide +kernel, by decide +kernel⟩

/-- the class, as a def of the text -/
structure Cs (K : PySem.W.Frag) (C : Addr) where
  f : Addr
  fd : FuncData
  F : Fun K "__init__" "State.__init__" s_State f fd
  b : Binds K fd ["self", "numbers", "lists", "old"] []
  M : Mk K C f
/-- all that stays while the hand draws -/
structure LawSt (C h d an p kp x dn dl dO qn q1 q2 : Addr) (ds : List Int) (ns : List PySem.Str) (kn kl ko l1 l2 : List (Key × V)) (H : Hp) : Prop where
  hh : Hand H h d ds
  nm : Nm H an ns
  ep : H p = some (.lst [.ref dn, .ref dl, .ref dO])
  pne : p ≠ h
  nd : ND H dn kn
  l : LD H dl kl
  o : LD H dO ko
  ek : H kp = some (.lst [.ref qn, .ref q1, .ref q2])
  kne : kp ≠ h
  nq : H qn = some (.dK kn)
  e1 : H q1 = some (.dK l1)
  e2 : H q2 = some (.dK l2)
  c1 : Cop H H kl l1
  c2 : Cop H H ko l2
  ex : ∃ dx, H x = some (.ins C dx (stF dn dl dO))
theorem ins_ne {H : Hp} {h d t C dx : Addr} {ds : List Int} {fs : List (PySem.Str × V)} (hh : Hand H h d ds) (e : H t = some (.ins C dx fs)) : t ≠ h := fun q => by
  obtain ⟨⟨i, e1⟩, _, _⟩ := hh
  rw [← q, e] at e1
  cases e1
theorem LawSt.but {C h d an p kp x dn dl dO qn q1 q2 : Addr} {ds : List Int} {ns : List PySem.Str} {kn kl ko l1 l2 : List (Key × V)} {H H' : Hp} (a : LawSt C h d an p kp x dn dl dO qn q1 q2 ds ns kn kl ko l1 l2 H) (s : But h H H') (hh' : Hand H' h d ds) : LawSt C h d an p kp x dn dl dO qn q1 q2 ds ns kn kl ko l1 l2 H' := by
  obtain ⟨dx, ex⟩ := a.ex
  have mv : ∀ (c : Addr) (ns : List Int), H c = some (.lst (ns.map V.int)) → H' c = some (.lst (ns.map V.int)) := fun c ns e => s _ _ (ints_ne a.hh e) e
  exact ⟨hh', a.nm.but a.hh s, s _ _ a.pne a.ep, a.pne, a.nd.but a.hh s, a.l.but a.hh s, a.o.but a.hh s, s _ _ a.kne a.ek, a.kne, s _ _ (dk_ne a.hh a.nq) a.nq, s _ _ (dk_ne a.hh a.e1) a.e1, s _ _ (dk_ne a.hh a.e2) a.e2, a.c1.mono mv mv, a.c2.mono mv mv, dx, s _ _ (ins_ne a.hh ex) ex⟩
theorem LawSt.same {C h d an p kp x dn dl dO qn q1 q2 : Addr} {ds : List Int} {ns : List PySem.Str} {kn kl ko l1 l2 : List (Key × V)} {H H' : Hp} (a : LawSt C h d an p kp x dn dl dO qn q1 q2 ds ns kn kl ko l1 l2 H) (s : Same H H') : LawSt C h d an p kp x dn dl dO qn q1 q2 ds ns kn kl ko l1 l2 H' := a.but (Same.but s) (a.hh.same s)
theorem LawSt.st {C h d an p kp x dn dl dO qn q1 q2 : Addr} {ds : List Int} {ns : List PySem.Str} {kn kl ko l1 l2 : List (Key × V)} {H : Hp} (a : LawSt C h d an p kp x dn dl dO qn q1 q2 ds ns kn kl ko l1 l2 H) (h1 : Has kn (nnOf ns)) (h2 : Has kl (lnOf ns)) (h3 : Has ko (lnOf ns)) : StAt C H x (evOf H kn kl ko) (nnOf ns) (lnOf ns) := by
  obtain ⟨dx, ex⟩ := a.ex
  exact ⟨dn, dl, dO, dx, _, ex, stF_n _ _ _, stF_l _ _ _, stF_o _ _ _, ev_at a.nd a.l a.o h1 h2 h3⟩
theorem LawSt.ev {C h d an p kp x dn dl dO qn q1 q2 : Addr} {ds : List Int} {ns : List PySem.Str} {kn kl ko l1 l2 : List (Key × V)} {H : Hp} (a : LawSt C h d an p kp x dn dl dO qn q1 q2 ds ns kn kl ko l1 l2 H) (h1 : Has kn (nnOf ns)) (h2 : Has kl (lnOf ns)) (h3 : Has ko (lnOf ns)) : EvAt H qn q1 q2 (evOf H kn kl ko) (nnOf ns) (lnOf ns) :=
  ev_cop _ (ev_at a.nd a.l a.o h1 h2 h3) a.nd.at_ a.l.at_ a.o.at_ a.nq a.e1 a.e2 a.c1 a.c2
section
variable {P : Program} {w : World} {K : PySem.W.Frag} {mg : PySem.Str → Option Value} {base : Heap} {C : Addr}
def spLaw (K : PySem.W.Frag) : Sp := fun vs H Q _ => ∃ (a : Addr) (ns : List Int), vs = [.ref a] ∧ SqL K H a (ns.map V.int) ∧ ns.length ≤ 63 ∧ ∀ H', Q (.bl true) H'
theorem ok_law (T : TxS K mg C) (c_State : Cs K C) (D_law : Df K mg "law" s_law ["script"]) (D_value_of : Df K mg "value_of" s_value_of ["term", "state"]) (D_compares : Df K mg "compares" s_compares ["sign", "left", "right"]) (D_truth_of : Df K mg "truth_of" s_truth_of ["promise", "state"]) (D_cells_of : Df K mg "_cells_of" s_cells_of ["which", "state"]) (D_comparison_holds : Df K mg "_comparison_holds" s_comparison_holds ["comparison", "state"]) (D_places : Df K mg "_places" s_places ["lo", "hi", "cells", "state"]) (D_stretch_of : Df K mg "_stretch_of" s_stretch_of ["stretch", "state"]) (D_is_sorted : Df K mg "_is_sorted" s_is_sorted ["cells"]) (D_is_below : Df K mg "_is_below" s_is_below ["cells", "others"]) (D_all_hold : Df K mg "_all_hold" s_all_hold ["promise", "state"]) (D_l_draws : Df K mg "_law_draws" s_l_draws ["script", "many"]) (D_l_take : Df K mg "_law_take" s_l_take ["hand", "many"]) (D_l_names : Df K mg "_law_names" s_l_names ["hand"]) (D_l_compared : Df K mg "_law_compared" s_l_compared ["sign", "left", "right"]) (D_l_value : Df K mg "_law_value" s_l_value ["term", "numbers", "lists", "old"]) (D_l_holds : Df K mg "_law_holds" s_l_holds ["comparison", "numbers", "lists", "old"]) (D_l_part : Df K mg "_law_part" s_l_part ["reference", "lo", "hi", "numbers", "lists", "old"]) (D_l_true : Df K mg "_law_true" s_l_true ["promise", "numbers", "lists", "old"]) (D_l_pairs_true : Df K mg "_law_pairs_true" s_l_pairs_true ["promise", "numbers", "lists", "old"]) (D_l_truth : Df K mg "_law_truth" s_l_truth ["condition", "numbers", "lists", "old"]) (D_l_some : Df K mg "_law_some" s_l_some ["hand"]) (D_l_plain : Df K mg "_law_plain" s_l_plain ["hand", "n"]) (D_l_list : Df K mg "_law_list" s_l_list ["hand", "n"]) (D_l_term : Df K mg "_law_term" s_l_term ["hand", "n"]) (D_l_cmp : Df K mg "_law_cmp" s_l_cmp ["hand", "n"]) (D_l_promise : Df K mg "_law_promise" s_l_promise ["hand", "n"]) (D_l_condition : Df K mg "_law_condition" s_l_condition ["hand", "n", "depth"]) (D_l_copied : Df K mg "_law_copied" s_l_copied ["dict_now"]) (D_l_state : Df K mg "_law_state" s_l_state ["hand", "n"]) (D_l_answers : Df K mg "_law_answers" s_l_answers ["state", "asked", "kept"]) : FnOk P w K mg base CX0 14 D_law.f D_law.fd ["script"] (spLaw K) := by
  have G_cells_of := ok_cells_of (P := P) (w := w) (base := base) T D_cells_of
  have G_value_of := ok_value_of (P := P) (w := w) (base := base) T D_value_of D_cells_of G_cells_of
  have G_compares := ok_compares (P := P) (w := w) (base := base) T D_compares
  have G_comparison_holds := ok_comparison_holds T D_comparison_holds D_value_of D_compares G_value_of G_compares
  have G_places := ok_places T D_places D_value_of G_value_of
  have G_stretch_of := ok_stretch_of T D_stretch_of D_cells_of D_places G_cells_of G_places
  have G_is_sorted := ok_is_sorted (P := P) (w := w) (base := base) T D_is_sorted
  have G_is_below := ok_is_below (P := P) (w := w) (base := base) T D_is_below
  have G_all_hold := ok_all_hold T D_all_hold D_cells_of D_places D_value_of D_compares G_cells_of G_places G_value_of G_compares
  have G_truth_of := ok_truth_of T D_truth_of D_comparison_holds D_is_sorted D_stretch_of D_is_below D_all_hold G_comparison_holds G_is_sorted G_stretch_of G_is_below G_all_hold 5
  have G_l_take := ok_l_take (P := P) (w := w) (base := base) (K := K) (mg := mg) T.toTxB D_l_take
  have G_l_draws := ok_l_draws (P := P) (w := w) (base := base) (K := K) (mg := mg) T.toTxB D_l_draws
  have G_l_names := ok_l_names T D_l_names D_l_take G_l_take
  have G_l_compared := ok_l_compared (P := P) (w := w) (base := base) T D_l_compared
  have G_l_value := ok_l_value (P := P) (w := w) (base := base) T D_l_value
  have G_l_holds := ok_l_holds T D_l_holds D_l_value D_l_compared G_l_value G_l_compared
  have G_l_part := ok_l_part T D_l_part D_l_value G_l_value
  have G_l_true := ok_l_true T D_l_true D_l_holds D_l_part D_l_value D_l_compared G_l_holds G_l_part G_l_value G_l_compared
  have G_l_pairs_true := ok_l_pairs_true T D_l_pairs_true D_l_true D_l_part G_l_true G_l_part
  have G_l_truth := ok_l_truth T D_l_truth D_l_pairs_true G_l_pairs_true 5
  have G_l_some := ok_l_some T D_l_some D_l_take G_l_take
  have G_l_plain := ok_l_plain T D_l_plain D_l_take G_l_take
  have G_l_list := ok_l_list T D_l_list D_l_take G_l_take
  have G_l_term := ok_l_term T D_l_term D_l_take D_l_plain D_l_list G_l_take G_l_plain G_l_list
  have G_l_cmp := ok_l_cmp T D_l_cmp D_l_take D_l_term G_l_take G_l_term
  have G_l_promise := ok_l_promise T D_l_promise D_l_take D_l_cmp D_l_list D_l_plain G_l_take G_l_cmp G_l_list G_l_plain
  have G_l_condition := ok_l_condition T D_l_condition D_l_take D_l_cmp G_l_take G_l_cmp 3
  have G_l_copied := ok_l_copied (P := P) (w := w) (base := base) T D_l_copied
  have G_l_state := ok_l_state T D_l_state D_l_take D_l_some G_l_take G_l_some
  have G_l_answers := ok_l_answers T D_l_answers D_l_value D_value_of D_truth_of D_l_truth G_l_value G_value_of G_truth_of G_l_truth
  have M_State := c_State.M
  have G_State := ok_init (P := P) (w := w) (base := base) c_State.F T
  have b_State := c_State.b
  refine D_law.F.ok sc_law (fun vs H Q E h => ?_) (fun cdv A outer s H vs Q E hr h => ?_)
  · obtain ⟨a, ns, rfl, _⟩ := h
    rfl
  · obtain ⟨a, scr, rfl, hS, hnl, q⟩ := h
    refine ⟨_, (pss_cons (ps_set (i := 1) sc_law.nd rfl (.inr rfl) (pe_lst (pa_cons (pe_call G_l_draws (hr.mono (by decide)) (by rfl) D_l_draws.g D_l_draws.F.kp D_l_draws.b .nil pass0 (pa_cons (pv 0) (pa_cons pe_int pa_nil))) (pa_cons pe_int pa_nil))))
    (pss_cons (ps_set (i := 2) sc_law.nd rfl (.inr rfl) (pe_call G_l_names (hr.mono (by decide)) (by rfl) D_l_names.g D_l_names.F.kp D_l_names.b .nil pass0 (pa_cons (pv 1) pa_nil)))
    (pss_cons (ps_set (i := 3) sc_law.nd rfl (.inl rfl) (pe_call G_l_state (hr.mono (by decide)) (by rfl) D_l_state.g D_l_state.F.kp D_l_state.b .nil pass0 (pa_cons (pv 1) (pa_cons (pv 2) pa_nil))))
    (pss_cons (ps_set (i := 4) sc_law.nd rfl (.inl rfl) (pe_lst (pa_cons (pe_callTy call_dictD (by rfl) T.n_dict (by decide +kernel) (pa_cons (pe_ix ix_list (pv 3) pe_int (fun _ _ => rfl)) pa_nil)) (pa_cons (pe_call G_l_copied (hr.mono (by decide)) (by rfl) D_l_copied.g D_l_copied.F.kp D_l_copied.b .nil pass0 (pa_cons (pe_ix ix_list (pv 3) pe_int (fun _ _ => rfl)) pa_nil)) (pa_cons (pe_call G_l_copied (hr.mono (by decide)) (by rfl) D_l_copied.g D_l_copied.F.kp D_l_copied.b .nil pass0 (pa_cons (pe_ix ix_list (pv 3) pe_int (fun _ _ => rfl)) pa_nil)) pa_nil)))))
    (pss_cons (ps_set (i := 5) sc_law.nd rfl (.inl rfl) (pe_make M_State G_State (hr.mono (by decide)) rfl T.mg_State b_State .nil pass0 (pa_cons (pe_ix ix_list (pv 3) pe_int (fun _ _ => rfl)) (pa_cons (pe_ix ix_list (pv 3) pe_int (fun _ _ => rfl)) (pa_cons (pe_ix ix_list (pv 3) pe_int (fun _ _ => rfl)) pa_nil)))))
    (pss_cons (ps_set (i := 6) sc_law.nd rfl (.inl rfl) (pe_lst (pa_cons (pe_lc (own := [("k", 7)]) (g := gName 7) (by rfl) sc_law.nd (pi_range1 (by rfl) T.n_range (pa_cons pe_int pa_nil)) (blkOk_by (own := [("k", 7)]) (N := ["script", "hand", "n", "handed", "kept", "state", "asked", "k", "other"]) (sc := defScope s_law) (by decide +kernel)) (fun _ _ _ _ _ => pg_name (i := 7) sc_law.nd rfl (Or.inl rfl)) (fun _ _ _ _ _ => pts_nil) (fun _ _ _ _ _ => (pe_call G_l_term (hr.mono (by decide)) (by rfl) D_l_term.g D_l_term.F.kp D_l_term.b .nil pass0 (pa_cons (pv 1) (pa_cons (pv 2) pa_nil))))) (pa_cons (pe_lc (own := [("k", 7)]) (g := gName 7) (by rfl) sc_law.nd (pi_range1 (by rfl) T.n_range (pa_cons pe_int pa_nil)) (blkOk_by (own := [("k", 7)]) (N := ["script", "hand", "n", "handed", "kept", "state", "asked", "k", "other"]) (sc := defScope s_law) (by decide +kernel)) (fun _ _ _ _ _ => pg_name (i := 7) sc_law.nd rfl (Or.inl rfl)) (fun _ _ _ _ _ => pts_nil) (fun _ _ _ _ _ => (pe_call G_l_promise (hr.mono (by decide)) (by rfl) D_l_promise.g D_l_promise.F.kp D_l_promise.b .nil pass0 (pa_cons (pv 1) (pa_cons (pv 2) pa_nil))))) pa_nil))))
    (pss_cons (ps_expr (pe_bm PySem.F.plainAttrs_list PySem.F.slot_list_append PySem.F.type_list_append mt_append (pe_ix ix_list (pv 6) pe_int (fun _ _ => rfl)) (pa_cons (pe_call G_l_condition (hr.mono (by decide)) (by rfl) D_l_condition.g D_l_condition.F.kp D_l_condition.b .nil pass0 (pa_cons (pv 1) (pa_cons (pv 2) (pa_cons pe_int pa_nil)))) pa_nil)))
    (pss_cons (ps_if (pt_not (pt_val (pe_call G_l_answers (hr.mono (by decide)) (by rfl) D_l_answers.g D_l_answers.F.kp D_l_answers.b .nil pass0 (pa_cons (pv 5) (pa_cons (pv 6) (pa_cons (pv 4) pa_nil))))))
    (pss_one (ps_ret pe_bl))
    pss_nil)
    (pss_cons (ps_set (i := 8) sc_law.nd rfl (.inl rfl) (pe_call G_l_state (hr.mono (by decide)) (by rfl) D_l_state.g D_l_state.F.kp D_l_state.b .nil pass0 (pa_cons (pv 1) (pa_cons (pv 2) pa_nil))))
    (pss_cons (ps_if (pt_not (pt_val (pe_call G_l_answers (hr.mono (by decide)) (by rfl) D_l_answers.g D_l_answers.F.kp D_l_answers.b .nil pass0 (pa_cons (pe_make M_State G_State (hr.mono (by decide)) rfl T.mg_State b_State .nil pass0 (pa_cons (pe_ix ix_list (pv 8) pe_int (fun _ _ => rfl)) (pa_cons (pe_ix ix_list (pv 8) pe_int (fun _ _ => rfl)) (pa_cons (pe_ix ix_list (pv 8) pe_int (fun _ _ => rfl)) pa_nil)))) (pa_cons (pv 6) (pa_cons (pv 8) pa_nil))))))
    (pss_one (ps_ret pe_bl))
    pss_nil)
    (pss_cons (ps_if (PW.pt (pw_or (pt_cmpR (op_ne_dictA hr.units0) (pe_ix ix_list (pv 3) pe_int (fun _ _ => rfl)) (pe_ix ix_list (pv 4) pe_int (fun _ _ => rfl)) (nomark _)) (pw_or (pt_cmpR (op_neDL (units65 hr)) (pe_ix ix_list (pv 3) pe_int (fun _ _ => rfl)) (pe_ix ix_list (pv 4) pe_int (fun _ _ => rfl)) (nomark _)) (pw_or1 (pt_cmpR (op_neDL (units65 hr)) (pe_ix ix_list (pv 3) pe_int (fun _ _ => rfl)) (pe_ix ix_list (pv 4) pe_int (fun _ _ => rfl)) (nomark _))))))
    (pss_one (ps_ret pe_bl))
    pss_nil)
    (pss_one (ps_ret (pe_and (pe_cmpR (op_eq_dictA hr.units0) (pe_fld (pv 5) rfl) (pe_ix ix_list (pv 4) pe_int (fun _ _ => rfl)) (nomark _)) (pe_and (pe_cmpR (op_eqDL (units65 hr)) (pe_fld (pv 5) rfl) (pe_ix ix_list (pv 4) pe_int (fun _ _ => rfl)) (nomark _)) (pe_and (pe_cmpR (op_eqDL (units65 hr)) (pe_fld (pv 5) rfl) (pe_ix ix_list (pv 4) pe_int (fun _ _ => rfl)) (nomark _)) (pe_one (pe_call G_l_answers (hr.mono (by decide)) (by rfl) D_l_answers.g D_l_answers.F.kp D_l_answers.b .nil pass0 (pa_cons (pv 5) (pa_cons (pv 6) (pa_cons (pv 4) pa_nil))))))))))))))))))))), ?_⟩
    -- hand
    refine ⟨_, rfl, a, scr, 400, rfl, hS, by omega, by decide, fun d ds H1 s1 nd1 ed1 => ?_⟩
    refine ⟨by show (2 : Nat) ≤ sizeLine; decide, fun h nh => ?_⟩
    generalize hg : upd H1 h _ = H2
    obtain ⟨s2, e2⟩ := new_of nh hg
    have hdh : d ≠ h := ne_of_none ed1 nh
    have h2 : Hand H2 h d ds := ⟨⟨0, e2⟩, s2 _ _ ed1, hdh⟩
    clear e2
    -- n
    refine ⟨_, rfl, h, d, ds, rfl, h2, fun an ns H3 b3 h3 n3 => ?_⟩
    -- handed
    refine ⟨_, rfl, _, rfl, h, d, an, ds, ns, rfl, h3, n3, fun p dn dl dO kn kl ko H4 b4 h4 e4 pne nd4 l4 o4 k1 k2 k3 c1 c2 c3 => ?_⟩
    have n4 := n3.but h3 b4
    -- kept
    refine ⟨_, rfl, p, _, _, _, rfl, rfl, SqL.of e4, atI_nat (j := 0) rfl, dn, kn, rfl, .inl nd4.at_, fun qn hqn => ?_⟩
    generalize hg : upd H4 qn _ = H5
    obtain ⟨s5, e5⟩ := new_of hqn hg
    refine ⟨_, rfl, p, _, _, _, rfl, rfl, SqL.of (s5 _ _ e4), atI_nat (j := 1) rfl, dl, kl, rfl, l4.same s5, c2, fun q1 l1 H6 s6 e6 cop1 => ?_⟩
    have S6 := s5.trans s6
    refine ⟨_, rfl, p, _, _, _, rfl, rfl, SqL.of (S6 _ _ e4), atI_nat (j := 2) rfl, dO, ko, rfl, o4.same S6, c3, fun q2 l2 H7 s7 e7 cop2 => ?_⟩
    have S7 := S6.trans s7
    refine ⟨by show (3 : Nat) ≤ sizeLine; decide, fun kp nkp => ?_⟩
    generalize hg : upd H7 kp _ = H8
    obtain ⟨s8, e8⟩ := new_of nkp hg
    have S8 := S7.trans s8
    have hkp : kp ≠ h := hand_ne (h4.same S7) nkp
    -- state
    have e4' := S8 _ _ e4
    refine ⟨_, rfl, p, _, _, _, rfl, rfl, SqL.of e4', atI_nat (j := 0) rfl, _, rfl, p, _, _, _, rfl, rfl, SqL.of e4', atI_nat (j := 1) rfl, _, rfl, p, _, _, _, rfl, rfl, SqL.of e4', atI_nat (j := 2) rfl, fun x dx nx ndx hne => ⟨x, dx, dn, dl, dO, rfl, upd_same, rfl, ?_⟩⟩
    generalize hg : upd (upd (upd (upd (upd H8 dx _) x _) x _) x _) x _ = H9
    have s9 : Same H8 H9 := fun b o e => by
      have hb1 : b ≠ x := ne_of_none e nx
      have hb2 : b ≠ dx := ne_of_none e ndx
      rw [← hg, upd_ne hb1, upd_ne hb1, upd_ne hb1, upd_ne hb1, upd_ne hb2]
      exact e
    have e9 : H9 x = some (.ins C dx (stF dn dl dO)) := by
      rw [← hg]
      exact upd_same
    clear hg
    have S9 := S8.trans s9
    have mvs : ∀ {Ha Hb : Hp}, Same Ha Hb → ∀ (c : Addr) (ns : List Int), Ha c = some (.lst (ns.map V.int)) → Hb c = some (.lst (ns.map V.int)) := fun s c ns e => s _ _ e
    have L9 : LawSt C h d an p kp x dn dl dO qn q1 q2 ds ns kn kl ko l1 l2 H9 := ⟨h4.same S9, n4.same S9, S9 _ _ e4, pne, nd4.same S9, l4.same S9, o4.same S9, s9 _ _ e8, hkp, ((s6.trans s7).trans (s8.trans s9)) _ _ e5, (s7.trans (s8.trans s9)) _ _ e6, (s8.trans s9) _ _ e7, cop1.mono (mvs (s6.trans (s7.trans (s8.trans s9)))) (mvs (s7.trans (s8.trans s9))), cop2.mono (mvs (s7.trans (s8.trans s9))) (mvs (s8.trans s9)), dx, e9⟩
    clear e9 S9 s9 e4' hkp S8 s8 e8 S7 s7 e7 S6 s6 e6 s5 e5 nd4 l4 o4 e4 h4 n4 h3 n3 nx ndx hne cop1 cop2 hqn nkp
    -- asked
    refine ⟨4, rfl, by decide, by decide, fun D1 hD1 => ?_⟩
    refine lc_drawn (K := K) (lo := 0) (n := (4 : Int).toNat) Tm.enc (fun t => Tm.ok (nnOf ns) (lnOf ns) t) (fun t _ => noL_tm t) (by decide) L9.hh hD1 (fun i x4 Ha Q' hi ba ha hx q' => ⟨rfl, _, rfl, _, rfl, h, d, an, ds, ns, rfl, ha, L9.nm.but L9.hh ba, fun t v Hb bb hb ht hv => q' v t Hb bb hb ht hv⟩) (fun Ha xs ts ba ha ea hD1h hD1d hxs htl hts => ?_)
    have La := L9.but ba ha
    refine ⟨5, rfl, by decide, by decide, fun D2 hD2 => ?_⟩
    refine lc_drawn (K := K) (lo := 0) (n := (5 : Int).toNat) Pr.enc (fun t => Pr.ok (nnOf ns) (lnOf ns) t) (fun t _ => noL_pr t) (by decide) ha hD2 (fun i x4 Hb Q' hi bb hb hx q' => ⟨rfl, _, rfl, _, rfl, h, d, an, ds, ns, rfl, hb, La.nm.but ha bb, fun t v Hc bc hc ht hv => q' v t Hc bc hc ht hv⟩) (fun Hb ys ps bb hb eb hD2h hD2d hys hpl hps => ?_)
    have Lb := La.but bb hb
    have eab := bb _ _ hD1h ea
    obtain ⟨ix, hix⟩ := ha.at_
    have hxs' := dpa_but hix bb _ _ (noLs_tms ts) hxs
    refine ⟨by show (2 : Nat) ≤ sizeLine; decide, fun aq naq => ?_⟩
    generalize hg : upd Hb aq _ = Hc
    obtain ⟨sc, ec⟩ := new_of naq hg
    have haq := hand_ne hb naq
    have Lc := Lb.same sc
    have h12 : D1 ≠ D2 := ne_of_none ea hD2
    -- asked[1].append
    refine ⟨_, rfl, aq, _, _, _, rfl, rfl, SqL.of ec, atI_nat (j := 1) rfl, .inl ⟨rfl, _, SqL.of (sc _ _ eb)⟩, ?_⟩
    refine ⟨_, rfl, _, rfl, h, d, an, ds, ns, 3, rfl, rfl, Lc.hh, Lc.nm, fun cd vc Hd bd hd hcd hvc => ?_⟩
    have ebd := bd _ _ hD2h (sc _ _ eb)
    have hlen : ys.length = 5 := by rw [dpa_len hys, List.length_map, hpl]; rfl
    refine ⟨D2, _, _, rfl, rfl, ebd, by rw [hlen]; decide, ?_⟩
    generalize hg2 : upd Hd D2 _ = He
    have bde : But D2 Hd He := fun b o hne e => by
      rw [← hg2]
      exact (upd_ne hne).trans e
    have ee2 : He D2 = some (.lst (ys ++ [vc])) := by
      rw [← hg2]
      exact upd_same
    obtain ⟨iy, hiy⟩ := Lc.hh.at_
    have hne12 : ∀ (c : Addr) (ms : List Int), Hd c = some (.lst (ms.map V.int)) → c ≠ D2 ∨ ys = [] := fun c ms e => by
      by_cases hc : c = D2
      · right
        rw [hc, ebd] at e
        injection e with e
        injection e with e
        obtain ⟨v, g1, g2⟩ := dp_mem (j := 0) hys (by rw [hpl]; decide)
        rw [e, List.getElem?_map] at g1
        obtain ⟨m, _, rfl⟩ := Option.map_eq_some_iff.mp g1
        generalize ps[0]'(by rw [hpl]; decide) = p0 at g2
        cases p0 <;> cases g2
      · exact .inl hc
    have hysne : ys ≠ [] := fun e => by
      rw [e] at hlen
      cases hlen
    have mvd : ∀ (c : Addr) (ms : List Int), Hd c = some (.lst (ms.map V.int)) → He c = some (.lst (ms.map V.int)) := fun c ms e => (hne12 c ms e).elim (fun hc => bde _ _ hc e) (fun h => absurd h hysne)
    have Ld := Lc.but bd hd
    have he : Hand He h d ds := by
      rw [← hg2]
      exact hd.upd hD2h hD2d
    have dkne : ∀ (c : Addr) (ks : List (Key × V)), Hd c = some (.dK ks) → c ≠ D2 := fun c ks e hq => by
      rw [hq, ebd] at e
      cases e
    have keq : ∀ (c a1 a2 a3 : Addr), Hd c = some (.lst [.ref a1, .ref a2, .ref a3]) → c ≠ D2 := fun c a1 a2 a3 e hq => by
      rw [hq, ebd] at e
      injection e with e
      injection e with e
      have := congrArg List.length e
      rw [hlen] at this
      cases this
    have kst : an ≠ D2 := fun hq => by
      have e := Ld.nm.1
      rw [hq, ebd] at e
      injection e with e
      injection e with e
      have := congrArg List.length e
      rw [hlen, List.length_map, Ld.nm.2] at this
      cases this
    have Le : LawSt C h d an p kp x dn dl dO qn q1 q2 ds ns kn kl ko l1 l2 He := by
      obtain ⟨dx, ex⟩ := Ld.ex
      have mvL : ∀ {a : Addr} {kvs : List (Key × V)}, LD Hd a kvs → LD He a kvs := fun {a kvs} l => ⟨bde _ _ (dkne _ _ l.at_) l.at_, l.nd, fun k v e => by
        obtain ⟨b, ns, h1, h2, h3⟩ := l.vals k v e
        exact ⟨b, ns, h1, mvd _ _ h2, h3⟩⟩
      exact ⟨he, ⟨bde _ _ kst Ld.nm.1, Ld.nm.2⟩, bde _ _ (keq _ _ _ _ Ld.ep) Ld.ep, pne, ⟨bde _ _ (dkne _ _ Ld.nd.at_) Ld.nd.at_, Ld.nd.nd, Ld.nd.vals⟩, mvL Ld.l, mvL Ld.o, bde _ _ (keq _ _ _ _ Ld.ek) Ld.ek, Ld.kne, bde _ _ (dkne _ _ Ld.nq) Ld.nq, bde _ _ (dkne _ _ Ld.e1) Ld.e1, bde _ _ (dkne _ _ Ld.e2) Ld.e2, Ld.c1.mono mvd mvd, Ld.c2.mono mvd mvd, dx, bde _ _ (fun hq => by
        rw [hq, ebd] at ex
        cases ex) ex⟩
    have haD2 : aq ≠ D2 := (ne_of_none eb naq).symm
    have AE : AskAt K He aq D1 D2 xs (ys ++ [vc]) ts (ps.map Cd.pr ++ [cd]) := by
      have nps : noLs (ps.map Pr.enc) = true := by
        have := noLs_cds' (ps.map Cd.pr)
        rw [List.map_map] at this
        exact this
      have t1 := dpa_but hiy bd _ _ (noLs_tms ts) (dpa_same sc _ _ hxs')
      have t2 := dpa_but hiy bd _ _ nps (dpa_same sc _ _ hys)
      refine ⟨bde _ _ haD2 (bd _ _ haq ec), bde _ _ h12 (bd _ _ hD1h (sc _ _ eab)), ee2, dpa_but ebd bde _ _ (noLs_tms ts) t1, ?_⟩
      rw [List.map_append]
      refine dpa_snoc (d := cd.enc) ?_ (dp_but ebd bde _ _ (noL_cd cd) hvc)
      have e : (ps.map Cd.pr).map Cd.enc = ps.map Pr.enc := by
        rw [List.map_map]
        rfl
      rw [e]
      exact dpa_but ebd bde _ _ nps t2
    have OKC : ∀ c, c ∈ ps.map Cd.pr ++ [cd] → c.ok (nnOf ns) (lnOf ns) 5 := fun c hc => by
      rcases List.mem_append.mp hc with hc | hc
      · obtain ⟨p0, hp0, rfl⟩ := List.mem_map.mp hc
        exact ⟨hps p0 hp0, fun _ => by decide⟩
      · rw [List.mem_singleton.mp hc]
        exact Cd.ok_up hcd
    clear mvd hne12 hysne dkne keq kst bde ee2 ebd hvc hys hxs hxs' eab ea eb ec Lc Ld Lb La L9 hiy hix hlen hg2 hD1 hD2 naq
    -- the first answers
    refine ⟨_, rfl, _, rfl, _, rfl, x, aq, D1, D2, kp, qn, q1, q2, xs, _, ts, _, _, _, _, rfl, AE, hts, OKC, Le.st k1 k2 k3, Le.ek, Le.ev k1 k2 k3, fun Hf sf => ⟨_, rfl, iteF ?_⟩⟩
    have Lf := Le.same sf
    have AF := AE.same sf
    -- other
    refine ⟨_, rfl, _, rfl, h, d, an, ds, ns, rfl, Lf.hh, Lf.nm, fun p' dn' dl' dO' kn' kl' ko' Hg bg hhg eg pne' nd' l' o' k1' k2' k3' _ _ _ => ?_⟩
    have Lg := Lf.but bg hhg
    have AG := AF.but Lf.hh haq hD1h hD2h bg
    refine ⟨_, rfl, p', _, _, _, rfl, rfl, SqL.of eg, atI_nat (j := 0) rfl, _, rfl, p', _, _, _, rfl, rfl, SqL.of eg, atI_nat (j := 1) rfl, _, rfl, p', _, _, _, rfl, rfl, SqL.of eg, atI_nat (j := 2) rfl, fun x' dx' nx' ndx' hne' => ⟨x', dx', dn', dl', dO', rfl, upd_same, rfl, ?_⟩⟩
    generalize hg : upd (upd (upd (upd (upd Hg dx' _) x' _) x' _) x' _) x' _ = Hh
    have sh : Same Hg Hh := fun b o e => by
      have hb1 : b ≠ x' := ne_of_none e nx'
      have hb2 : b ≠ dx' := ne_of_none e ndx'
      rw [← hg, upd_ne hb1, upd_ne hb1, upd_ne hb1, upd_ne hb1, upd_ne hb2]
      exact e
    have eh : Hh x' = some (.ins C dx' (stF dn' dl' dO')) := by
      rw [← hg]
      exact upd_same
    clear hg
    have EV' := ev_at (nd'.same sh) (l'.same sh) (o'.same sh) k1' k2' k3'
    refine ⟨_, rfl, _, rfl, x', aq, D1, D2, p', dn', dl', dO', xs, _, ts, _, _, _, _, rfl, AG.same sh, hts, OKC, ⟨dn', dl', dO', dx', _, eh, stF_n _ _ _, stF_l _ _ _, stF_o _ _ _, EV'⟩, sh _ _ eg, EV', fun Hi si => ⟨_, rfl, iteF ?_⟩⟩
    have Li := Lg.same (sh.trans si)
    have AI := AG.same (sh.trans si)
    have nsame : ∀ q, q ∈ kn → valV kn q.1 = some q.2 ∧ flatB q.2 = true := fun q hq => by
      have hv := mem_val Li.nd.nd q hq
      obtain ⟨z, hz⟩ := Li.nd.vals _ _ hv
      exact ⟨hv, by rw [hz]; rfl⟩
    obtain ⟨dx, ex⟩ := Li.ex
    refine ⟨_, rfl, p, _, _, _, rfl, rfl, SqL.of Li.ep, atI_nat (j := 0) rfl, _, rfl, kp, _, _, _, rfl, rfl, SqL.of Li.ek, atI_nat (j := 0) rfl, dn, qn, kn, kn, rfl, rfl, Li.nd.at_, Li.nq, rfl, nsame, _, rfl, iteF ?_⟩
    refine ⟨_, rfl, p, _, _, _, rfl, rfl, SqL.of Li.ep, atI_nat (j := 1) rfl, _, rfl, kp, _, _, _, rfl, rfl, SqL.of Li.ek, atI_nat (j := 1) rfl, dl, q1, kl, l1, rfl, rfl, Li.l.at_, Li.e1, cop_eq Li.l.nd Li.c1, _, rfl, iteF ?_⟩
    refine ⟨_, rfl, p, _, _, _, rfl, rfl, SqL.of Li.ep, atI_nat (j := 2) rfl, _, rfl, kp, _, _, _, rfl, rfl, SqL.of Li.ek, atI_nat (j := 2) rfl, dO, q2, ko, l2, rfl, rfl, Li.o.at_, Li.e2, cop_eq Li.o.nd Li.c2, _, rfl, iteF ?_⟩
    refine ⟨_, rfl, x, C, dx, _, _, rfl, ex, T.cl, T.nN, stF_n _ _ _, _, rfl, kp, _, _, _, rfl, rfl, SqL.of Li.ek, atI_nat (j := 0) rfl, dn, qn, kn, kn, rfl, rfl, Li.nd.at_, Li.nq, rfl, nsame, _, rfl, iteT ?_⟩
    refine ⟨_, rfl, x, C, dx, _, _, rfl, ex, T.cl, T.nL, stF_l _ _ _, _, rfl, kp, _, _, _, rfl, rfl, SqL.of Li.ek, atI_nat (j := 1) rfl, dl, q1, kl, l1, rfl, rfl, Li.l.at_, Li.e1, cop_eq Li.l.nd Li.c1, _, rfl, iteT ?_⟩
    refine ⟨_, rfl, x, C, dx, _, _, rfl, ex, T.cl, T.nO, stF_o _ _ _, _, rfl, kp, _, _, _, rfl, rfl, SqL.of Li.ek, atI_nat (j := 2) rfl, dO, q2, ko, l2, rfl, rfl, Li.o.at_, Li.e2, cop_eq Li.o.nd Li.c2, _, rfl, iteT ?_⟩
    exact ⟨_, rfl, _, rfl, _, rfl, x, aq, D1, D2, kp, qn, q1, q2, xs, _, ts, _, _, _, _, rfl, AI, hts, OKC, Li.st k1 k2 k3, Li.ek, Li.ev k1 k2 k3, fun Hj _ => q Hj⟩
end
end SW

namespace SW
open PySem PySem.Spec PyProof.Rows L2
theorem txs_mk {K : PySem.W.Frag} {h : Heap} {mg : PySem.Str → Option Value} {C : Addr} (X : K.In h) (G : h.Ns mainGlobals mg) (B : TxB mg) (aC : PySem.W.nsIn K mainGlobals "State" = some (some (.ref C)))
    (pg : PySem.W.plainGet K C Str.empty = true) (hd : PySem.W.hasDictIn K C = true) (po : PySem.W.plainOver K C = true) (sa : PySem.W.findIn K (.ref C) "__setattr__" = some (some (.builtin "object.__setattr__")))
    (nN : PySem.W.findIn K (.ref C) "numbers" = some none) (nL : PySem.W.findIn K (.ref C) "lists" = some none) (nO : PySem.W.findIn K (.ref C) "old" = some none) : TxS K mg C :=
  ⟨B, ⟨pg, hd, po, sa⟩, nN, nL, nO, PySem.W.mg_of X G aC⟩
def cs_mk {K : PySem.W.Frag} {C f : Addr} {oc : Value} {od an : Option Addr} {sl : Array (Option Value)} {kV doc pm cd ct : Value}
    (a : PySem.W.findIn K (.ref C) "__init__" = some (some (.ref f))) (i : PySem.W.isFn K (.ref f) = true) (l : K.lookup f = some ⟨oc, od, .func (PySem.W.fnOf "__init__" "State.__init__" (defArgs s_State) (defBody s_State) (defScope s_State) .none kV doc pm an cd ct), sl⟩) (c : PySem.W.codeIn K cd "State.__init__" = true) (k : PySem.W.keepIn K (.ref f) = true)
    (mk : PySem.W.makesIn K C = true) (kc : PySem.W.keepIn K (.ref C) = true) : Cs K C :=
  ⟨f, _, fun_mk (st := s_State) l c k, (fun_mk (st := s_State) l c k).binds (ps := ["self", "numbers", "lists", "old"]) fun _ _ _ _ _ _ us hl => match us, hl with | [_, _, _, _], _ => rfl, ⟨mk, a, i, kc⟩⟩
end SW

namespace SW
open PySem PySem.Spec PyProof.Rows L2
theorem all_mk {P : Program} {w : World} {K : PySem.W.Frag} {mg : PySem.Str → Option Value} {fa C : Addr} (hfa : mg "law" = some (.ref fa)) (T : TxS K mg C) (c_State : Cs K C)
  (D_law : Df K mg "law" s_law ["script"]) (hb : ∀ (s : Shared) (v : Value), BindsTo s D_law.fd ⟨[v], []⟩ [("script", v)]) (D_value_of : Df K mg "value_of" s_value_of ["term", "state"]) (D_compares : Df K mg "compares" s_compares ["sign", "left", "right"]) (D_truth_of : Df K mg "truth_of" s_truth_of ["promise", "state"]) (D_cells_of : Df K mg "_cells_of" s_cells_of ["which", "state"]) (D_comparison_holds : Df K mg "_comparison_holds" s_comparison_holds ["comparison", "state"]) (D_places : Df K mg "_places" s_places ["lo", "hi", "cells", "state"]) (D_stretch_of : Df K mg "_stretch_of" s_stretch_of ["stretch", "state"]) (D_is_sorted : Df K mg "_is_sorted" s_is_sorted ["cells"]) (D_is_below : Df K mg "_is_below" s_is_below ["cells", "others"]) (D_all_hold : Df K mg "_all_hold" s_all_hold ["promise", "state"]) (D_l_draws : Df K mg "_law_draws" s_l_draws ["script", "many"]) (D_l_take : Df K mg "_law_take" s_l_take ["hand", "many"]) (D_l_names : Df K mg "_law_names" s_l_names ["hand"]) (D_l_compared : Df K mg "_law_compared" s_l_compared ["sign", "left", "right"]) (D_l_value : Df K mg "_law_value" s_l_value ["term", "numbers", "lists", "old"]) (D_l_holds : Df K mg "_law_holds" s_l_holds ["comparison", "numbers", "lists", "old"]) (D_l_part : Df K mg "_law_part" s_l_part ["reference", "lo", "hi", "numbers", "lists", "old"]) (D_l_true : Df K mg "_law_true" s_l_true ["promise", "numbers", "lists", "old"]) (D_l_pairs_true : Df K mg "_law_pairs_true" s_l_pairs_true ["promise", "numbers", "lists", "old"]) (D_l_truth : Df K mg "_law_truth" s_l_truth ["condition", "numbers", "lists", "old"]) (D_l_some : Df K mg "_law_some" s_l_some ["hand"]) (D_l_plain : Df K mg "_law_plain" s_l_plain ["hand", "n"]) (D_l_list : Df K mg "_law_list" s_l_list ["hand", "n"]) (D_l_term : Df K mg "_law_term" s_l_term ["hand", "n"]) (D_l_cmp : Df K mg "_law_cmp" s_l_cmp ["hand", "n"]) (D_l_promise : Df K mg "_law_promise" s_l_promise ["hand", "n"]) (D_l_condition : Df K mg "_law_condition" s_l_condition ["hand", "n", "depth"]) (D_l_copied : Df K mg "_law_copied" s_l_copied ["dict_now"]) (D_l_state : Df K mg "_law_state" s_l_state ["hand", "n"]) (D_l_answers : Df K mg "_law_answers" s_l_answers ["state", "asked", "kept"]) :
    ∃ fd : FuncData, (∀ (s : Shared) (v : Value), BindsTo s fd ⟨[v], []⟩ [("script", v)]) ∧ ∀ base : Heap, K.In base → base.Ns mainGlobals mg → FnOk P w K mg base CX0 15 fa fd ["script"] (spLaw K) := by
  have e := hfa.symm.trans D_law.g
  cases e
  exact ⟨D_law.fd, hb, fun base _ _ => (ok_law T c_State D_law D_value_of D_compares D_truth_of D_cells_of D_comparison_holds D_places D_stretch_of D_is_sorted D_is_below D_all_hold D_l_draws D_l_take D_l_names D_l_compared D_l_value D_l_holds D_l_part D_l_true D_l_pairs_true D_l_truth D_l_some D_l_plain D_l_list D_l_term D_l_cmp D_l_promise D_l_condition D_l_copied D_l_state D_l_answers).mono (by decide)⟩
end SW

open PySem PySem.W PyProof.Rows
set_option maxHeartbeats 0 in
theorem PySem.Challenge.cw_swornrun_k09_truths_and_values_holds : PySem.Challenge.rw_swornrun_k09_truths_and_values.Holds := by
  w_on; o_law; k_head; (case hw => w_witness2)
  k_fill
  refine L2.walk_of (l := PySem.Challenge.rw_swornrun_k09_truths_and_values) (n := 63) (k := 15) (x := "script") (CX := fun _ => L2.CX0) (sp := fun w => SW.spLaw _) rfl (by decide) rfl ⟨rfl, by decide, by decide⟩ (fun w h Y => PySem.W.kIn_of Y) ?F (fun _ _ a ns hl _ hS => ⟨a, ns, rfl, hS, hl, fun _ => rfl⟩) (fun _ _ _ _ _ h => h)
  case F =>
    intro w mg fa h KX G hmg
    refine' SW.all_mk hmg (SW.txs_mk KX G ⟨PySem.W.mg_none_of KX G ?n_len, PySem.W.mg_none_of KX G ?n_range, PySem.W.mg_none_of KX G ?n_int, PySem.W.mg_none_of KX G ?n_abs, PySem.W.mg_none_of KX G ?n_isinstance, PySem.W.mg_none_of KX G ?n_list, PySem.W.mg_none_of KX G ?n_str, PySem.W.mg_none_of KX G ?n_bool, PySem.W.mg_none_of KX G ?n_tuple, PySem.W.mg_none_of KX G ?n_min, PySem.W.mg_none_of KX G ?n_max, PySem.W.mg_none_of KX G ?n_sum, PySem.W.mg_none_of KX G ?n_sorted, PySem.W.mg_none_of KX G ?n_any, PySem.W.mg_none_of KX G ?n_all, PySem.W.mg_none_of KX G ?n_zip, PySem.W.mg_none_of KX G ?n_enumerate, PySem.W.mg_none_of KX G ?n_reversed, PySem.W.mg_none_of KX G ?n_dict, PySem.W.mg_none_of KX G ?n_set, PySem.W.mg_none_of KX G ?n_repr, PySem.W.mg_none_of KX G ?n_ord⟩ ?aC ?pg ?hd ?po ?sa ?nN ?nL ?nO) (SW.cs_mk ?ia ?ii ?il ?ic ?ik ?mk ?kc) (SW.df_mk KX G ?a0 ?l0 ?c0 ?k0 (fun _ _ _ _ _ _ us hl => match us, hl with | [_], _ => rfl)) (fun s v => .of_eq rfl) (SW.df_mk KX G ?a1 ?l1 ?c1 ?k1 (fun _ _ _ _ _ _ us hl => match us, hl with | [_, _], _ => rfl)) (SW.df_mk KX G ?a2 ?l2 ?c2 ?k2 (fun _ _ _ _ _ _ us hl => match us, hl with | [_, _, _], _ => rfl)) (SW.df_mk KX G ?a3 ?l3 ?c3 ?k3 (fun _ _ _ _ _ _ us hl => match us, hl with | [_, _], _ => rfl)) (SW.df_mk KX G ?a4 ?l4 ?c4 ?k4 (fun _ _ _ _ _ _ us hl => match us, hl with | [_, _], _ => rfl)) (SW.df_mk KX G ?a5 ?l5 ?c5 ?k5 (fun _ _ _ _ _ _ us hl => match us, hl with | [_, _], _ => rfl)) (SW.df_mk KX G ?a6 ?l6 ?c6 ?k6 (fun _ _ _ _ _ _ us hl => match us, hl with | [_, _, _, _], _ => rfl)) (SW.df_mk KX G ?a7 ?l7 ?c7 ?k7 (fun _ _ _ _ _ _ us hl => match us, hl with | [_, _], _ => rfl)) (SW.df_mk KX G ?a8 ?l8 ?c8 ?k8 (fun _ _ _ _ _ _ us hl => match us, hl with | [_], _ => rfl)) (SW.df_mk KX G ?a9 ?l9 ?c9 ?k9 (fun _ _ _ _ _ _ us hl => match us, hl with | [_, _], _ => rfl)) (SW.df_mk KX G ?a10 ?l10 ?c10 ?k10 (fun _ _ _ _ _ _ us hl => match us, hl with | [_, _], _ => rfl)) (SW.df_mk KX G ?a11 ?l11 ?c11 ?k11 (fun _ _ _ _ _ _ us hl => match us, hl with | [_, _], _ => rfl)) (SW.df_mk KX G ?a12 ?l12 ?c12 ?k12 (fun _ _ _ _ _ _ us hl => match us, hl with | [_, _], _ => rfl)) (SW.df_mk KX G ?a13 ?l13 ?c13 ?k13 (fun _ _ _ _ _ _ us hl => match us, hl with | [_], _ => rfl)) (SW.df_mk KX G ?a14 ?l14 ?c14 ?k14 (fun _ _ _ _ _ _ us hl => match us, hl with | [_, _, _], _ => rfl)) (SW.df_mk KX G ?a15 ?l15 ?c15 ?k15 (fun _ _ _ _ _ _ us hl => match us, hl with | [_, _, _, _], _ => rfl)) (SW.df_mk KX G ?a16 ?l16 ?c16 ?k16 (fun _ _ _ _ _ _ us hl => match us, hl with | [_, _, _, _], _ => rfl)) (SW.df_mk KX G ?a17 ?l17 ?c17 ?k17 (fun _ _ _ _ _ _ us hl => match us, hl with | [_, _, _, _, _, _], _ => rfl)) (SW.df_mk KX G ?a18 ?l18 ?c18 ?k18 (fun _ _ _ _ _ _ us hl => match us, hl with | [_, _, _, _], _ => rfl)) (SW.df_mk KX G ?a19 ?l19 ?c19 ?k19 (fun _ _ _ _ _ _ us hl => match us, hl with | [_, _, _, _], _ => rfl)) (SW.df_mk KX G ?a20 ?l20 ?c20 ?k20 (fun _ _ _ _ _ _ us hl => match us, hl with | [_, _, _, _], _ => rfl)) (SW.df_mk KX G ?a21 ?l21 ?c21 ?k21 (fun _ _ _ _ _ _ us hl => match us, hl with | [_], _ => rfl)) (SW.df_mk KX G ?a22 ?l22 ?c22 ?k22 (fun _ _ _ _ _ _ us hl => match us, hl with | [_, _], _ => rfl)) (SW.df_mk KX G ?a23 ?l23 ?c23 ?k23 (fun _ _ _ _ _ _ us hl => match us, hl with | [_, _], _ => rfl)) (SW.df_mk KX G ?a24 ?l24 ?c24 ?k24 (fun _ _ _ _ _ _ us hl => match us, hl with | [_, _], _ => rfl)) (SW.df_mk KX G ?a25 ?l25 ?c25 ?k25 (fun _ _ _ _ _ _ us hl => match us, hl with | [_, _], _ => rfl)) (SW.df_mk KX G ?a26 ?l26 ?c26 ?k26 (fun _ _ _ _ _ _ us hl => match us, hl with | [_, _], _ => rfl)) (SW.df_mk KX G ?a27 ?l27 ?c27 ?k27 (fun _ _ _ _ _ _ us hl => match us, hl with | [_, _, _], _ => rfl)) (SW.df_mk KX G ?a28 ?l28 ?c28 ?k28 (fun _ _ _ _ _ _ us hl => match us, hl with | [_], _ => rfl)) (SW.df_mk KX G ?a29 ?l29 ?c29 ?k29 (fun _ _ _ _ _ _ us hl => match us, hl with | [_, _], _ => rfl)) (SW.df_mk KX G ?a30 ?l30 ?c30 ?k30 (fun _ _ _ _ _ _ us hl => match us, hl with | [_, _, _], _ => rfl))
    (case a0 => k_is)
    (case l0 => k_is)
    (case c0 => k_is)
    (case k0 => k_is)
    (case a1 => k_is)
    (case l1 => k_is)
    (case c1 => k_is)
    (case k1 => k_is)
    (case a2 => k_is)
    (case l2 => k_is)
    (case c2 => k_is)
    (case k2 => k_is)
    (case a3 => k_is)
    (case l3 => k_is)
    (case c3 => k_is)
    (case k3 => k_is)
    (case a4 => k_is)
    (case l4 => k_is)
    (case c4 => k_is)
    (case k4 => k_is)
    (case a5 => k_is)
    (case l5 => k_is)
    (case c5 => k_is)
    (case k5 => k_is)
    (case a6 => k_is)
    (case l6 => k_is)
    (case c6 => k_is)
    (case k6 => k_is)
    (case a7 => k_is)
    (case l7 => k_is)
    (case c7 => k_is)
    (case k7 => k_is)
    (case a8 => k_is)
    (case l8 => k_is)
    (case c8 => k_is)
    (case k8 => k_is)
    (case a9 => k_is)
    (case l9 => k_is)
    (case c9 => k_is)
    (case k9 => k_is)
    (case a10 => k_is)
    (case l10 => k_is)
    (case c10 => k_is)
    (case k10 => k_is)
    (case a11 => k_is)
    (case l11 => k_is)
    (case c11 => k_is)
    (case k11 => k_is)
    (case a12 => k_is)
    (case l12 => k_is)
    (case c12 => k_is)
    (case k12 => k_is)
    (case a13 => k_is)
    (case l13 => k_is)
    (case c13 => k_is)
    (case k13 => k_is)
    (case a14 => k_is)
    (case l14 => k_is)
    (case c14 => k_is)
    (case k14 => k_is)
    (case a15 => k_is)
    (case l15 => k_is)
    (case c15 => k_is)
    (case k15 => k_is)
    (case a16 => k_is)
    (case l16 => k_is)
    (case c16 => k_is)
    (case k16 => k_is)
    (case a17 => k_is)
    (case l17 => k_is)
    (case c17 => k_is)
    (case k17 => k_is)
    (case a18 => k_is)
    (case l18 => k_is)
    (case c18 => k_is)
    (case k18 => k_is)
    (case a19 => k_is)
    (case l19 => k_is)
    (case c19 => k_is)
    (case k19 => k_is)
    (case a20 => k_is)
    (case l20 => k_is)
    (case c20 => k_is)
    (case k20 => k_is)
    (case a21 => k_is)
    (case l21 => k_is)
    (case c21 => k_is)
    (case k21 => k_is)
    (case a22 => k_is)
    (case l22 => k_is)
    (case c22 => k_is)
    (case k22 => k_is)
    (case a23 => k_is)
    (case l23 => k_is)
    (case c23 => k_is)
    (case k23 => k_is)
    (case a24 => k_is)
    (case l24 => k_is)
    (case c24 => k_is)
    (case k24 => k_is)
    (case a25 => k_is)
    (case l25 => k_is)
    (case c25 => k_is)
    (case k25 => k_is)
    (case a26 => k_is)
    (case l26 => k_is)
    (case c26 => k_is)
    (case k26 => k_is)
    (case a27 => k_is)
    (case l27 => k_is)
    (case c27 => k_is)
    (case k27 => k_is)
    (case a28 => k_is)
    (case l28 => k_is)
    (case c28 => k_is)
    (case k28 => k_is)
    (case a29 => k_is)
    (case l29 => k_is)
    (case c29 => k_is)
    (case k29 => k_is)
    (case a30 => k_is)
    (case l30 => k_is)
    (case c30 => k_is)
    (case k30 => k_is)
    (case n_len => k_is)
    (case n_range => k_is)
    (case n_int => k_is)
    (case n_abs => k_is)
    (case n_isinstance => k_is)
    (case n_list => k_is)
    (case n_str => k_is)
    (case n_bool => k_is)
    (case n_tuple => k_is)
    (case n_min => k_is)
    (case n_max => k_is)
    (case n_sum => k_is)
    (case n_sorted => k_is)
    (case n_any => k_is)
    (case n_all => k_is)
    (case n_zip => k_is)
    (case n_enumerate => k_is)
    (case n_reversed => k_is)
    (case n_dict => k_is)
    (case n_set => k_is)
    (case n_repr => k_is)
    (case n_ord => k_is)
    (case aC => k_is)
    (case pg => k_is)
    (case hd => k_is)
    (case po => k_is)
    (case sa => k_is)
    (case nN => k_is)
    (case nL => k_is)
    (case nO => k_is)
    (case ia => k_is)
    (case ii => k_is)
    (case il => k_is)
    (case ic => k_is)
    (case ik => k_is)
    (case mk => k_is)
    (case kc => k_is)
