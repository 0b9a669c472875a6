import PyProof.Rows.All
import Wide.All
import OpenK.AllK
import Wide.FinOn
import HandS.ForMost
import HandS.IsInst
import HandS.Evl
import HandS.SetIn
import HandS.Walk
import HandS.Star
import HandS.Zip
import HandS.Style
import HandS.Wide
import HandS.DeepEq
import PySem.Challenge.RW_swornrun_k12_chains_and_rings
set_option Elab.async false
set_option linter.all false
set_option maxRecDepth 100000
set_option maxHeartbeats 4000000
namespace SW
open PySem PySem.Spec PyProof.Rows L2
def topS (i : Nat) : Stmt := PySem.Challenge.pw_swornrun_k12_chains_and_rings.main.body.getD i (.Pass ⟨0, 0, 0, 0⟩)
/-- the built-in names stand for what they are -/
structure TxB (mg : PySem.Str → Option Value) : Prop where
  n_len : mg "len" = none
  n_range : mg "range" = none
  n_int : mg "int" = none
  n_abs : mg "abs" = none
  n_isinstance : mg "isinstance" = none
  n_list : mg "list" = none
  n_str : mg "str" = none
  n_bool : mg "bool" = none
  n_tuple : mg "tuple" = none
  n_min : mg "min" = none
  n_max : mg "max" = none
  n_sum : mg "sum" = none
  n_sorted : mg "sorted" = none
  n_any : mg "any" = none
  n_all : mg "all" = none
  n_zip : mg "zip" = none
  n_enumerate : mg "enumerate" = none
  n_reversed : mg "reversed" = none
  n_dict : mg "dict" = none
  n_set : mg "set" = none
  n_repr : mg "repr" = none
  n_ord : mg "ord" = none
/-- a def of the text -/
structure Df (K : PySem.W.Frag) (mg : PySem.Str → Option Value) (x : PySem.Str) (st : Stmt) (ps : List PySem.Str) where
  f : Addr
  fd : FuncData
  F : Fun K x x st f fd
  rb : ∀ us : List Value, us.length = ps.length → bindArgs fd ⟨us, []⟩ = pure (ps.zip us)
  g : mg x = some (.ref f)
theorem Df.b {K : PySem.W.Frag} {mg : PySem.Str → Option Value} {x : PySem.Str} {st : Stmt} {ps : List PySem.Str} (D : Df K mg x st ps) : Binds K D.fd ps [] := .all D.rb
/-- .. of what the head tells -/
def df_mk {x : PySem.Str} {st : Stmt} {ps : List PySem.Str} {K : PySem.W.Frag} {h : Heap} {mg : PySem.Str → Option Value} (X : K.In h) (G : h.Ns mainGlobals mg) {f : Addr} {oc : Value} {od an : Option Addr} {sl : Array (Option Value)} {kV doc pm cd ct : Value}
    (a : PySem.W.nsIn K mainGlobals x = some (some (.ref f))) (l : K.lookup f = some ⟨oc, od, .func (PySem.W.fnOf x x (defArgs st) (defBody st) (defScope st) .none kV doc pm an cd ct), sl⟩) (c : PySem.W.codeIn K cd x = true) (k : PySem.W.keepIn K (.ref f) = true)
    (hb : ∀ (kV doc pm : Value) (an : Option Addr) (cd ct : Value) (us : List Value), us.length = ps.length → bindArgs (PySem.W.fnOf x x (defArgs st) (defBody st) (defScope st) .none kV doc pm an cd ct) ⟨us, []⟩ = pure (ps.zip us)) : Df K mg x st ps :=
  ⟨f, _, fun_mk l c k, hb kV doc pm an cd ct, PySem.W.mg_of X G a⟩
theorem m_of {K : PySem.W.Frag} {h : Heap} {mg : PySem.Str → Option Value} {x : PySem.Str} {v u : Value} (X : K.In h) (G : h.Ns mainGlobals mg) (e : PySem.W.nsIn K mainGlobals x = some (some v)) (q : v = u) : mg x = some u := by
  rw [← q]
  exact PySem.W.mg_of X G e
theorem sqt_mk {K : PySem.W.Frag} {aT : Addr} {od : Option Addr} {its : Array Value} {n : Nat} {sl : Array (Option Value)} {xs : List V} (l : K.lookup aT = some ⟨.type "tuple", od, .seq its n, sl⟩) (hs : its.size ≤ sizeLine) (r : Vals xs its.toList) : ∀ H, SqT K H aT xs :=
  fun H => .inr ⟨_, its, n, l, rfl, rfl, hs, r⟩
theorem same_new {H : Hp} {p : Addr} {o : HO} (h : H p = none) : Same H (upd H p o) := fun b x e => by
  rw [upd_ne (ne_of_none e h)]
  exact e
/-- an object that H does not know has changed -/
theorem same_mut {H H' : Hp} {p : Addr} {o : HO} (s : Same H H') (h : H p = none) : Same H (upd H' p o) := fun b x e => by
  rw [upd_ne (ne_of_none e h)]
  exact s _ _ e
theorem new_of {H H1 : Hp} {p : Addr} {o : HO} (n : H p = none) (h : upd H p o = H1) : Same H H1 ∧ H1 p = some o := by
  subst h
  exact ⟨same_new n, upd_same⟩
/-- all that was tracked is as it was, but what stands at h -/
def But (h : Addr) (H H' : Hp) : Prop := ∀ b o, b ≠ h → H b = some o → H' b = some o
theorem But.refl (h : Addr) (H : Hp) : But h H H := fun _ _ _ e => e
theorem But.trans {h : Addr} {H H1 H2 : Hp} (a : But h H H1) (b : But h H1 H2) : But h H H2 := fun c o n e => b c o n (a c o n e)
theorem Same.but {h : Addr} {H H' : Hp} (a : Same H H') : But h H H' := fun c o _ e => a c o e
/-- the hand at h: the list of draws at d, and a place in it -/
structure Hand (H : Hp) (h d : Addr) (ds : List Int) : Prop where
  at_ : ∃ i : Nat, H h = some (.lst [.ref d, .int (i : Nat)])
  ds_ : H d = some (.lst (ds.map V.int))
  ne : d ≠ h
theorem Hand.same {H H' : Hp} {h d : Addr} {ds : List Int} (a : Hand H h d ds) (s : Same H H') : Hand H' h d ds := by
  obtain ⟨⟨i, h1⟩, h2, h3⟩ := a
  exact ⟨⟨i, s _ _ h1⟩, s _ _ h2, h3⟩
theorem small_sz {n : Nat} (h : n ≤ 1000) : n < sizeLine := Nat.lt_of_le_of_lt h (by decide)
theorem small_sz5 {n : Nat} (h : n ≤ 100000) : n < sizeLine := Nat.lt_of_le_of_lt h (by decide)
theorem ixN_nat {n j : Nat} (h : j < n) : ixN n (j : Int) = some j := by
  unfold ixN
  rw [if_pos (by omega), if_pos (by omega)]
  rfl
theorem hand_ne {H : Hp} {h d p : Addr} {ds : List Int} (hd : Hand H h d ds) (n : H p = none) : p ≠ h := by
  obtain ⟨⟨i, e⟩, _, _⟩ := hd
  exact (ne_of_none e n).symm
theorem hand_ne2 {H : Hp} {h d p : Addr} {ds : List Int} (hd : Hand H h d ds) (n : H p = none) : p ≠ d := (ne_of_none hd.ds_ n).symm
/-- something else than the hand and its draws has changed -/
theorem Hand.upd {H : Hp} {h d p : Addr} {o : HO} {ds : List Int} (a : Hand H h d ds) (h1 : p ≠ h) (h2 : p ≠ d) : Hand (L2.upd H p o) h d ds := by
  obtain ⟨⟨i, e1⟩, e2, e3⟩ := a
  exact ⟨⟨i, (upd_ne h1.symm).trans e1⟩, (upd_ne h2.symm).trans e2, e3⟩
theorem But.new {a : Addr} {H H' : Hp} {p : Addr} {o : HO} (b : But a H H') (n : H p = none) : But a H (L2.upd H' p o) := fun c u hc e => (upd_ne (ne_of_none e n)).trans (b c u hc e)
theorem But.free {a : Addr} {H H' : Hp} {p : Addr} (b : But a H H') (hp : p ≠ a) (n : H' p = none) : H p = none := by
  cases e : H p with
  | none => rfl
  | some u =>
    rw [b p u hp e] at n
    cases n
/-! ### written texts in a row; a text n times -/
def tStrs (ws : List PySem.Str) : TA := fun _ H Q => Q (ws.map V.str) H
theorem pa_strs {X : Cx} {es : List Expr} {ws : List PySem.Str} (h : StrEs es ws) : PA X es (tStrs ws) := by
  induction h with
  | nil => exact pa_nil
  | cons x j p _ ih => exact pa_cons pe_str ih
def rMulS : R2 := fun x y H Q => ∃ (z : PySem.Str) (n : Int), x = .str z ∧ y = .int n ∧ 0 ≤ n ∧ n ≤ 1000 ∧ z.length ≤ 1000 ∧ Q (.str (Txt.mul z n)) H
theorem op_mul_str {X : Cx} : OpR X (binaryOp .Mult) rMulS := by
  intro pins s σ H x y v u Q I rx ry h
  obtain ⟨z, n, rfl, rfl, h0, h1, hz, q⟩ := h
  obtain ⟨t, rfl⟩ := rx
  obtain ⟨t', rfl⟩ := ry
  refine SB.mul ⟨?_, ?_, ?_⟩ fun t' k => ⟨.str _, H, I.tok k, ⟨t', rfl⟩, q⟩
  · rw [Bool.or_eq_false_iff]
    exact ⟨decide_eq_false (by omega), decide_eq_false (by omega)⟩
  · intro hn _ hc
    have hd : (2 ^ 63 - 1 : Int) / 1000 ≤ (2 ^ 63 - 1) / n := by
      have : n * 9223372036854775 ≤ 2 ^ 63 - 1 := by omega
      have h2 : (9223372036854775 : Int) ≤ (2 ^ 63 - 1) / n := Int.le_ediv_of_mul_le (by omega) (by rw [Int.mul_comm]; exact this)
      have h3 : (2 ^ 63 - 1 : Int) / 1000 = 9223372036854775 := by decide
      omega
    have h3 : (2 ^ 63 - 1 : Int) / 1000 = 9223372036854775 := by decide
    omega
  · intro _ _
    have hb : z.length * n.toNat ≤ 1000 * 1000 := Nat.mul_le_mul hz (by omega)
    unfold Builtin.Str.tooLong
    refine decide_eq_false ?_
    have : (1000 * 1000 : Nat) ≤ sizeLine := by decide
    omega
theorem foldl_app {c : Nat} : ∀ (n : Nat) (a : Array Nat), ((List.replicate n #[c]).foldl (· ++ ·) a).toList = a.toList ++ List.replicate n c
  | 0, a => by simp
  | n + 1, a => by
    rw [List.replicate_succ, List.foldl_cons, foldl_app n]
    simp [List.replicate_succ]
theorem mul_one_sign (c : Nat) (n : Int) : (Txt.mul ⟨#[c]⟩ n).cps.toList = List.replicate n.toNat c := by
  unfold Txt.mul
  by_cases h1 : n < 1
  · rw [if_pos h1, show n.toNat = 0 by omega]
    rfl
  · rw [if_neg h1]
    by_cases h2 : (n == 1 || (⟨#[c]⟩ : PySem.Str).length == 0) = true
    · rw [if_pos h2]
      have h3 : n = 1 := by
        rcases Bool.or_eq_true_iff.mp h2 with h | h
        · exact eq_of_beq h
        · exact absurd (eq_of_beq h) (by show ¬ (1 : Nat) = 0; decide)
      subst h3
      rfl
    · rw [if_neg h2]
      show ((List.replicate n.toNat #[c]).foldl (· ++ ·) #[]).toList = _
      rw [foldl_app]
      rfl
theorem join_len1 : ∀ (ys : List PySem.Str), (Str.join "" ys).length = (ys.map (·.length)).sum
  | [] => rfl
  | [x] => by
    show x.length = (x.length :: []).sum
    rw [List.sum_cons]
    rfl
  | x :: y :: r => by
    show (x ++ "" ++ Str.join "" (y :: r)).length = _
    have h := join_len1 (y :: r)
    rw [TL.len_tl] at h ⊢
    rw [TL.tl_append, TL.tl_append, List.length_append, List.length_append, h, List.map_cons, List.sum_cons, TL.len_tl]
    rfl
theorem join_len (ys : List PySem.Str) : (Txt.join "" ys).length = (ys.map (·.length)).sum := by
  rw [TL.join_eq, join_len1]
theorem sum_const {ys : List PySem.Str} {b : Nat} (h : ∀ y ∈ ys, y.length ≤ b) : (ys.map (·.length)).sum ≤ ys.length * b := by
  induction ys with
  | nil => exact Nat.zero_le _
  | cons a r ih =>
    have h1 := h a List.mem_cons_self
    have h2 := ih fun y hy => h y (List.mem_cons_of_mem _ hy)
    rw [List.map_cons, List.sum_cons, List.length_cons, Nat.add_mul]
    omega
theorem str_at {z : PySem.Str} {r : Int} (h0 : 0 ≤ r) (h1 : r < z.length) : ∃ c, atI z.cps.toList r = some c := by
  obtain ⟨j, rfl⟩ : ∃ j : Nat, r = j := ⟨r.toNat, by omega⟩
  have hl : z.cps.toList.length = z.length := rfl
  have hj : j < z.cps.toList.length := by omega
  exact ⟨_, atI_nat (List.getElem?_eq_getElem hj)⟩
theorem strs_at {ws : List PySem.Str} {r : Int} (h0 : 0 ≤ r) (h1 : r < ws.length) : ∃ z, z ∈ ws ∧ atI (ws.map V.str) r = some (.str z) := by
  obtain ⟨j, rfl⟩ : ∃ j : Nat, r = j := ⟨r.toNat, by omega⟩
  have hj : j < ws.length := by omega
  refine ⟨ws[j], List.getElem_mem hj, atI_nat ?_⟩
  rw [List.getElem?_map, List.getElem?_eq_getElem hj]
  rfl
/-- a loop over a text's signs -/
theorem for_str {x : PySem.Str} {g : TG} {tb : TS} {D : Ends} {σ : L2.St} {H : Hp} (Pv : Nat → L2.St → Hp → Prop) (h0 : Pv 0 σ H)
    (hs : ∀ i c σ H, x.cps.toList[i]? = some c → Pv i σ H → g (.str ⟨#[c]⟩) σ H fun σ2 H2 => tb { D with nx := Pv (i + 1), ct := Pv (i + 1), bk := D.nx } σ2 H2) (hd : ∀ σ H, Pv x.cps.toList.length σ H → D.nx σ H) :
    ∃ W : Nat → Nat → L2.St → Hp → Prop, (∃ m, W 0 m σ H) ∧ ∀ i m σ H, W i m σ H →
      ((Its x).stop i H ∧ D.nx σ H) ∨ ((Its x).go i H ∧ ∃ N : L2.St → Hp → Prop, (∀ σ' H', N σ' H' → ∃ m', m' < m ∧ W (i + 1) m' σ' H') ∧ ∀ v H', (Its x).yld i H v H' → g v σ H' fun σ2 H2 => tb { D with nx := N, ct := N, bk := D.nx } σ2 H2) := by
  refine ⟨fun i m σ H => m = x.cps.toList.length - i ∧ i ≤ x.cps.toList.length ∧ Pv i σ H, ⟨x.cps.toList.length, by simp, Nat.zero_le _, h0⟩, ?_⟩
  rintro i m σ H ⟨rfl, hi, p⟩
  by_cases hlt : i < x.cps.toList.length
  · refine .inr ⟨hlt, Pv (i + 1), fun σ' H' p' => ⟨x.cps.toList.length - (i + 1), by omega, rfl, hlt, p'⟩, fun v H' y => ?_⟩
    obtain ⟨e, c, hc, hv⟩ := y
    subst e hv
    exact hs i c σ _ (by rw [Array.getElem?_toList]; exact hc) p
  · have e : i = x.cps.toList.length := by omega
    subst e
    exact .inl ⟨Nat.le_refl _, hd σ H p⟩
abbrev mk (l : List Nat) : PySem.Str := ⟨l.toArray⟩
theorem mk_cp (z : PySem.Str) : mk z.cps.toList = z := rfl
theorem cp_mk (l : List Nat) : (mk l).cps.toList = l := rfl
theorem flat_strs (ws : List PySem.Str) : (ws.map V.str).all flatV = true := by
  induction ws with
  | nil => rfl
  | cons a r ih =>
    rw [List.map_cons, List.all_cons, ih]
    rfl
theorem inV_strs (a : PySem.Str) (ws : List PySem.Str) : inV (.str a) (ws.map V.str) = decide (a ∈ ws) := by
  induction ws with
  | nil => rfl
  | cons b r ih =>
    show ((b == a) || inV (.str a) (r.map V.str)) = _
    rw [ih]
    by_cases e : b = a
    · subst e
      simp
    · rw [beq_eq_false_iff_ne.mpr e]
      by_cases m : a ∈ r
      · simp [m]
      · simp [m, Ne.symm e]
theorem cut2 (z : PySem.Str) (i : Nat) (h : i < z.length) : cutS z (some (i : Int)) (some ((i : Int) + 2)) = mk ((z.cps.toList.drop i).take 2) := by
  have e1 : HT.sIx z.length 0 (some (i : Int)) = i := by
    rw [HT.sIx_nat]
    omega
  have e2 : HT.sIx z.length z.length (some ((i : Int) + 2)) = min (i + 2) z.length := by
    rw [show ((i : Int) + 2) = ((i + 2 : Nat) : Int) by omega, HT.sIx_nat]
  unfold cutS
  rw [e1, e2]
  show mk _ = mk _
  congr 1
  have hl : (z.cps.toList.drop i).length = z.length - i := by
    rw [List.length_drop]
    rfl
  by_cases h2 : i + 2 ≤ z.length
  · rw [show min (i + 2) z.length - i = 2 by omega]
  · rw [Nat.min_eq_right (by omega), List.take_of_length_le (by omega), List.take_of_length_le (by omega)]
theorem cut_nat (z : PySem.Str) (i n : Nat) (h : i + n ≤ z.length) : cutS z (some (i : Int)) (some ((i + n : Nat) : Int)) = mk ((z.cps.toList.drop i).take n) := by
  have e1 : HT.sIx z.length 0 (some (i : Int)) = i := by
    rw [HT.sIx_nat]
    omega
  have e2 : HT.sIx z.length z.length (some ((i + n : Nat) : Int)) = i + n := by
    rw [HT.sIx_nat]
    omega
  unfold cutS
  rw [e1, e2, show i + n - i = n by omega]
theorem str_ne (z : PySem.Str) : (!decide (V.str z = V.str "")) = decide (z.cps.toList ≠ []) := by
  by_cases h : z.cps.toList = []
  · have e : z = "" := by
      rw [← mk_cp z, h]
      rfl
    subst e
    rfl
  · have e : ¬ V.str z = V.str "" := fun e => h (by
      injection e with e
      rw [e]
      rfl)
    rw [decide_eq_false e, decide_eq_true h]
    rfl
theorem le_dec (n m : Nat) : decide ((n : Int) ≤ (m : Int)) = decide (n ≤ m) := decide_eq_decide.mpr Int.ofNat_le
theorem str_dec (x y : PySem.Str) : decide (V.str x = V.str y) = decide (x = y) := decide_eq_decide.mpr ⟨fun h => by injection h, fun h => by rw [h]⟩
theorem sz5 {n : Nat} (h : n ≤ 100000) : n ≤ sizeLine := Nat.le_trans h (by decide)
theorem sz5' {n : Nat} (h : n ≤ 100000) : n < sizeLine := Nat.lt_of_le_of_lt h (by decide)
theorem at_nat {xs : List V} {z : Int} {j : Nat} {v : V} (e : z = (j : Int)) (h : xs[j]? = some v) : atI xs z = some v := at_of e h
end SW

namespace SW
open PySem PySem.Spec PyProof.Rows L2
theorem app_len (x y : PySem.Str) : (x ++ y).length = x.length + y.length := by
  rw [TL.len_tl, TL.tl_append, List.length_append, ← TL.len_tl, ← TL.len_tl]
theorem mul_len (n : Int) : (Txt.mul " " n).length = n.toNat := by
  rw [TL.len_tl]
  show (Txt.mul ⟨#[32]⟩ n).cps.toList.length = _
  rw [mul_one_sign, List.length_replicate]
/-! ### data: what is read stays -/
mutual
theorem dp_same {K : PySem.W.Frag} {H H' : Hp} (s : Same H H') : ∀ (d : PyData) (v : V), Dp K H v d → Dp K H' v d
  | .none, _, h => by
    cases h
    exact .non
  | .bool b, _, h => by
    cases h
    exact .bl b
  | .int i, _, h => by
    cases h
    exact .int i
  | .str x, _, h => by
    cases h
    exact .str x
  | .list ds, _, h => by
    cases h with
    | lst hs ha => exact .lst (s.seq hs) (dpa_same s ds _ ha)
  | .tuple ds, _, h => by
    cases h with
    | tup hs ha =>
      refine .tup ?_ (dpa_same s ds _ ha)
      rcases hs with (hs | ⟨o, hs⟩) | hs
      · exact .inl (.inl (s _ _ hs))
      · exact .inl (.inr ⟨o, s _ _ hs⟩)
      · exact .inr hs
  | .dict _, _, h => by cases h
theorem dpa_same {K : PySem.W.Frag} {H H' : Hp} (s : Same H H') : ∀ (ds : List PyData) (vs : List V), DpAll K H vs ds → DpAll K H' vs ds
  | [], _, h => by
    cases h
    exact .nil
  | d :: ds, _, h => by
    cases h with
    | cons h1 h2 => exact .cons (dp_same s d _ h1) (dpa_same s ds _ h2)
end
theorem sqt_same {K : PySem.W.Frag} {H H' : Hp} (s : Same H H') {a : Addr} {xs : List V} (hs : SqT K H a xs) : SqT K H' a xs := by
  rcases hs with (hs | ⟨o, hs⟩) | hs
  · exact .inl (.inl (s _ _ hs))
  · exact .inl (.inr ⟨o, s _ _ hs⟩)
  · exact .inr hs
theorem _root_.L2.Dp.same {K : PySem.W.Frag} {H H' : Hp} {d : PyData} {v : V} (h : Dp K H v d) (s : Same H H') : Dp K H' v d := dp_same s d v h
mutual
/-- no list within -/
def noL : PyData → Bool
  | .tuple ds => noLs ds
  | .list _ => false
  | .dict _ => false
  | _ => true
def noLs : List PyData → Bool
  | [] => true
  | d :: ds => noL d && noLs ds
end
mutual
theorem dp_but {K : PySem.W.Frag} {H H' : Hp} {h : Addr} {ys : List V} (hl : H h = some (.lst ys)) (s : But h H H') : ∀ (d : PyData) (v : V), noL d = true → Dp K H v d → Dp K H' v d
  | .none, _, _, e => by
    cases e
    exact .non
  | .bool b, _, _, e => by
    cases e
    exact .bl b
  | .int i, _, _, e => by
    cases e
    exact .int i
  | .str x, _, _, e => by
    cases e
    exact .str x
  | .list ds, _, n, _ => by
    unfold noL at n
    cases n
  | .tuple ds, _, n, e => by
    cases e with
    | tup hs ha =>
      refine .tup ?_ (dpa_but hl s ds _ (by unfold noL at n; exact n) ha)
      rcases hs with (hs | ⟨o, hs⟩) | hs
      · refine .inl (.inl (s _ _ (fun e => ?_) hs))
        rw [e, hl] at hs
        cases hs
      · refine .inl (.inr ⟨o, s _ _ (fun e => ?_) hs⟩)
        rw [e, hl] at hs
        cases hs
      · exact .inr hs
  | .dict _, _, _, e => by cases e
theorem dpa_but {K : PySem.W.Frag} {H H' : Hp} {h : Addr} {ys : List V} (hl : H h = some (.lst ys)) (s : But h H H') : ∀ (ds : List PyData) (vs : List V), noLs ds = true → DpAll K H vs ds → DpAll K H' vs ds
  | [], _, _, e => by
    cases e
    exact .nil
  | d :: ds, _, n, e => by
    unfold noLs at n
    rw [Bool.and_eq_true] at n
    cases e with
    | cons h1 h2 => exact .cons (dp_but hl s d _ n.1 h1) (dpa_but hl s ds _ n.2 h2)
end
theorem Hand.dp {K : PySem.W.Frag} {H H' : Hp} {h d0 : Addr} {ds : List Int} (a : Hand H h d0 ds) (s : But h H H') {d : PyData} {v : V} (n : noL d = true) (e : Dp K H v d) : Dp K H' v d := by
  obtain ⟨⟨i, hl⟩, _, _⟩ := a
  exact dp_but hl s d v n e
def isN : PyData → Bool
  | .none => true
  | _ => false
theorem dp_isN {K : PySem.W.Frag} {H : Hp} {d : PyData} {v : V} (h : Dp K H v d) : decide (v = V.non) = isN d := by
  cases h <;> rfl
theorem dp_tup2 {K : PySem.W.Frag} {H : Hp} {t : Addr} {v1 v2 : V} {d1 d2 : PyData} (h : H t = some (.tup [v1, v2])) (h1 : Dp K H v1 d1) (h2 : Dp K H v2 d2) : Dp K H (.ref t) (.tuple [d1, d2]) :=
  .tup (SqT.of h) (.cons h1 (.cons h2 .nil))
theorem dp_tup3 {K : PySem.W.Frag} {H : Hp} {t : Addr} {v1 v2 v3 : V} {d1 d2 d3 : PyData} (h : H t = some (.tup [v1, v2, v3])) (h1 : Dp K H v1 d1) (h2 : Dp K H v2 d2) (h3 : Dp K H v3 d3) : Dp K H (.ref t) (.tuple [d1, d2, d3]) :=
  .tup (SqT.of h) (.cons h1 (.cons h2 (.cons h3 .nil)))
theorem dp_tup4 {K : PySem.W.Frag} {H : Hp} {t : Addr} {v1 v2 v3 v4 : V} {d1 d2 d3 d4 : PyData} (h : H t = some (.tup [v1, v2, v3, v4])) (h1 : Dp K H v1 d1) (h2 : Dp K H v2 d2) (h3 : Dp K H v3 d3) (h4 : Dp K H v4 d4) : Dp K H (.ref t) (.tuple [d1, d2, d3, d4]) :=
  .tup (SqT.of h) (.cons h1 (.cons h2 (.cons h3 (.cons h4 .nil))))
/-! ### lists of texts, compared -/
theorem dpa_strs {K : PySem.W.Frag} {H : Hp} : ∀ ws : List PySem.Str, DpAll K H (ws.map V.str) (ws.map PyData.str)
  | [] => .nil
  | x :: r => .cons (.str x) (dpa_strs r)
theorem dp_strs {K : PySem.W.Frag} {H : Hp} {a : Addr} {ws : List PySem.Str} (h : SqL K H a (ws.map V.str)) : Dp K H (.ref a) (.list (ws.map PyData.str)) := .lst h (dpa_strs ws)
theorem vals_strs : ∀ {ws : List PySem.Str} {us : List Value} {j : Nat} {x : PySem.Str}, Vals (ws.map V.str) us → ws[j]? = some x → ∃ t, us[j]? = some (.str x t)
  | _, _, _, _, r, h => by
    obtain ⟨u, h1, h2⟩ := r.get (x := V.str _) (by rw [List.getElem?_map, h]; rfl)
    obtain ⟨t, rfl⟩ := h2
    exact ⟨t, h1⟩
/-- == of two lists of texts -/
def rEqS (K : PySem.W.Frag) : R2 := fun x y H Q => ∃ (a b : Addr) (ws vs : List PySem.Str), x = .ref a ∧ y = .ref b ∧ SqL K H a (ws.map V.str) ∧ SqL K H b (vs.map V.str) ∧ Q (.bl (decide (ws = vs))) H
theorem all_eq {ws vs : List PySem.Str} (hl : ws.length = vs.length) : ((List.range ws.length).all fun j => decide (ws[j]? = vs[j]?)) = decide (ws = vs) := by
  by_cases h : ws = vs
  · subst h
    rw [decide_eq_true rfl, List.all_eq_true]
    exact fun j _ => decide_eq_true rfl
  · rw [decide_eq_false h]
    refine Bool.eq_false_iff.mpr fun e => h ?_
    rw [List.all_eq_true] at e
    refine List.ext_getElem? fun j => ?_
    by_cases hj : j < ws.length
    · exact of_decide_eq_true (e j (List.mem_range.mpr hj))
    · rw [List.getElem?_eq_none (by omega), List.getElem?_eq_none (by omega)]
theorem op_eqS {X : Cx} (hu : X.A.units < cLine) : OpR X (compareOp .Eq) (rEqS X.K) := by
  intro pins s σ H x y v u Q I rx ry h
  obtain ⟨a, b, ws, vs, rfl, rfl, ha, hb, q⟩ := h
  cases rx
  cases ry
  obtain ⟨its, r1, p1, _⟩ := I.list ha
  obtain ⟨jts, r2, p2, _⟩ := I.list hb
  have l1 := r1.length
  have l2 := r2.length
  rw [List.length_map] at l1 l2
  by_cases hl : ws.length = vs.length
  · refine SeqAt.eq_listAt (e := fun j => decide (ws[j]? = vs[j]?)) p1.isList p2.isList (by simp only [List.size_toArray]; omega) hu (fun j h1 h2 => ?_) ?_
    · simp only [List.size_toArray] at h1 h2
      obtain ⟨t1, e1⟩ := vals_strs (x := ws[j]) r1 (List.getElem?_eq_getElem (by omega))
      obtain ⟨t2, e2⟩ := vals_strs (x := vs[j]) r2 (List.getElem?_eq_getElem (by omega))
      have f1 : its.toArray[j] = .str ws[j] t1 := by
        rw [List.getElem?_eq_getElem h1] at e1
        injection e1 with e1
      have f2 : jts.toArray[j] = .str vs[j] t2 := by
        rw [List.getElem?_eq_getElem h2] at e2
        injection e2 with e2
      rw [f1, f2]
      have e3 : decide (ws[j]? = vs[j]?) = (ws[j] == vs[j]) := by
        rw [List.getElem?_eq_getElem (by omega), List.getElem?_eq_getElem (by omega)]
        by_cases h : ws[j] = vs[j]
        · rw [h]
          simp
        · rw [decide_eq_false (fun e => h (Option.some.inj e)), beq_eq_false_iff_ne.mpr h]
      rw [e3]
      exact SeqAt.EqAt.str_str _ _ _ _
    · have e4 : ((List.range its.toArray.size).all fun j => decide (ws[j]? = vs[j]?)) = decide (ws = vs) := by
        rw [List.size_toArray, ← l1]
        exact all_eq hl
      rw [e4]
      exact ⟨.bl _, H, I, rfl, q⟩
  · refine SeqAt.eq_list_lengthsAt p1.isList p2.isList (by simp only [List.size_toArray]; exact bne_iff_ne.mpr (by omega)) hu ?_
    rw [decide_eq_false (fun e => hl (by rw [e]))] at q
    exact ⟨.bl _, H, I, rfl, q⟩
end SW

namespace SW
open PySem PySem.Spec PyProof.Rows L2
/-! ### a def that is called where no object is being shown -/
structure FnOkG (P : Program) (w : World) (K : PySem.W.Frag) (mg : PySem.Str → Option Value) (base : Heap) (CX : CXT) (k : Nat) (f : Addr) (fd : FuncData) (ps : List PySem.Str) (sp : Sp) : Prop where
  run : ∀ (A : Around) (outer : List Env) (s : Shared) (H : Hp) (args : Args) (us : List Value) (vs : List V) (Q : VK) (E : XK),
    A.guards = some [] → Room k A → Env0 P w K mg base A outer s H → BindsTo s fd args (ps.zip us) → Vals vs us → sp vs H Q E →
    codeAny (model P w) A (.call (.ref f) args) (CR CX outer P w H s Q E) s
theorem Fun.okG {P : Program} {w : World} {K : PySem.W.Frag} {mg : PySem.Str → Option Value} {base : Heap} {x qual : PySem.Str} {st : Stmt} {f : Addr} {fd : FuncData} {N ps : List PySem.Str} {k : Nat} {sp : Sp}
    (F : Fun K x qual st f fd) (S : FnScope N ps (defScope st)) (len : ∀ vs H Q E, sp vs H Q E → vs.length = ps.length)
    (hbody : ∀ (cdv : Value) (A : Around) (outer : List Env) (s : Shared) (H : Hp) (vs : List V) (Q : VK) (E : XK),
      (A.deeper (envOfC qual (defScope st) s.heap.objs.size f cdv)).guards = some [] → Room k (A.deeper (envOfC qual (defScope st) s.heap.objs.size f cdv)) → sp vs H Q E →
      ∃ t, PSs (cxOf CX0 P w K mg base N qual (defScope st) f cdv A outer s H E).nox (defBody st) t ∧ t { nx := fun _ H' => Q .non H', rt := Q } (L2.start N vs) H) :
    FnOkG P w K mg base CX0 (k + 1) f fd ps sp := by
  obtain ⟨oc, od, kV, doc, pm, an, cdv, ct, osl, rfl, lk, hcd⟩ := F.ex
  refine ⟨fun A outer s H args us vs Q E hg hr e0 hb r hsp => ?_⟩
  have hl := len vs H Q E hsp
  have KX := PySem.W.Frag.In.keeps e0.mod.kin fun b o e => (e0.bs b o e).1
  have lim := Heap.NoLimit.keeps e0.mod.nolimit fun b o e => (e0.bs b o e).1
  refine codeAny_call_function hr.depth (KX f _ lk) rfl S.co S.gen rfl (PySem.W.codeRec_of KX hcd) (hb _ _ _ _ (wpAny_newFunctionEnv_cells S.kind (fun y hy => ?_) fun env he s1 i => ?_))
  · obtain ⟨n, v⟩ := y
    rcases S.par n (List.of_mem_zip hy).1 with q | q
    · exact .inl q
    · exact .inr ⟨q, PySem.W.cellsFrom_some _ _ [] (.inl q)⟩
  · subst he
    refine ⟨lim.keeps i.toInCall.keep, codeAny_func ?_⟩
    obtain ⟨t, ht, hq⟩ := hbody cdv A outer s H vs Q E hg (hr.deeper _) hsp
    have I : L2.Inv (cxOf CX0 P w K mg base N qual (defScope st) f cdv A outer s H E) [] (L2.start N vs) H s1 := inv_start S hr.hd e0 hl r i
    refine wpAny_mono ((PSs.nox ht).run [] s1 (L2.start N vs) H _ I hq) (fun fl s' hs => ?_) fun e s' hs => hs
    have fin : ∀ {σ' : L2.St} {H' : Hp} {v : V} {u : Value}, L2.Inv (cxOf CX0 P w K mg base N qual (defScope st) f cdv A outer s H E) [] σ' H' s' → RelV v u → Q v H' → CE outer P w H s Q u s' :=
      fun J rv q => ⟨_, _, J.os, J.bare, J.base, J.hok, rv, q⟩
    cases fl with
    | next =>
      obtain ⟨σ', H', J, q⟩ := hs
      exact fin (v := .non) (u := .none) J rfl q
    | brk =>
      obtain ⟨_, _, _, q⟩ := hs
      exact q.elim
    | cont =>
      obtain ⟨_, _, _, q⟩ := hs
      exact q.elim
    | ret u =>
      obtain ⟨v, σ', H', J, rv, q⟩ := hs
      exact fin J rv q
/-- the law's own call -/
theorem law_callG {P : Program} {w : World} {K : PySem.W.Frag} {mg mb : PySem.Str → Option Value} {k : Nat} {fa a : Addr} {fd : FuncData} {x : PySem.Str} {sp : Sp} {s₁ : Shared} {vs : List Value} {ns : List Int}
    (KX : K.In s₁.heap) (hns : s₁.heap.Ns mainGlobals mg) (hb : s₁.heap.Ns builtinsNs mb) (hbb : ∀ x : PySem.Str, x ≠ Str.ofString "__name__" → mb x = bootBuiltins x) (hlim : s₁.heap.NoLimit) (hg : s₁.gens = #[])
    (ha : s₁.heap.get? a = some { cls := .type "list", data := .seq vs.toArray }) (hi : IntsAre vs ns) (hl : ns.length ≤ sizeLine) (hr : Room k callerA)
    (F : ∀ base : Heap, K.In base → base.Ns mainGlobals mg → FnOkG P w K mg base CX0 k fa fd [x] sp) (hbind : ∀ (s : Shared) (u : Value), BindsTo s fd ⟨[u], []⟩ [(x, u)])
    (hsp : ∀ H, Only H → SqL K H a (ns.map V.int) → sp [.ref a] H (fun v _ => v = .bl true) fun _ _ _ => False) :
    codeAny (model P w) callerA (.call (.ref fa) ⟨[.ref a], []⟩) (fun r s' => r = .ok (.ret (.bool true)) ∧ OldK s₁.heap s'.heap ∧ s'.os = s₁.os ∧ AllBare s'.gens) s₁ := by
  have rv := vals_ints hi
  have lenV := IntsAre.length hi
  have core : ∀ H : Hp, Only H → SqL K H a (ns.map V.int) → HOk P w H s₁.heap → (∀ b, H b ≠ none → b = a) → (H a ≠ none → List.lookup a K = none) →
      codeAny (model P w) callerA (.call (.ref fa) ⟨[.ref a], []⟩) (fun r s' => r = .ok (.ret (.bool true)) ∧ OldK s₁.heap s'.heap ∧ s'.os = s₁.os ∧ AllBare s'.gens) s₁ := by
    intro H hO hS hok hA hK
    have noA : ∀ {b : Addr} {o : Obj}, s₁.heap.get? b = some o → (∀ vs n, o.data ≠ .seq vs n) → H b = none := by
      intro b o e d
      cases hb' : H b with
      | none => rfl
      | some u =>
        have := hA b (by rw [hb']; exact fun z => nomatch z)
        subst this
        rw [ha] at e
        cases e
        exact absurd rfl (d _ _)
    have base_of : ∀ {b : Addr} {o : Obj}, s₁.heap.get? b = some o → H b = none → (hidT s₁.heap H).get? b = some o := fun e n => hidT_get e n
    have nsK : ∀ {b : Addr} {m : PySem.Str → Option Value}, s₁.heap.Ns b m → (hidT s₁.heap H).Ns b m := by
      rintro b m ⟨o, es, ep, e, d, r⟩
      exact ⟨o, es, ep, base_of e (noA e (by intro vs n; rw [d]; exact fun z => nomatch z)), d, r⟩
    have hKb : K.In (hidT s₁.heap H) := by
      intro b o e
      refine base_of (KX b o e) ?_
      cases hb' : H b with
      | none => rfl
      | some u =>
        have := hA b (by rw [hb']; exact fun z => nomatch z)
        subst this
        rw [hK (by rw [hb']; exact fun z => nomatch z)] at e
        cases e
    have hM : Mod K mg (hidT s₁.heap H) := by
      obtain ⟨mc, h1, h2⟩ := hlim
      exact ⟨hKb, nsK hns, ⟨mb, nsK hb, hbb⟩, ⟨mc, nsK h1, h2⟩⟩
    have e0 : Env0 P w K mg (hidT s₁.heap H) callerA [] s₁ H :=
      { frames := rfl, mod := hM, bs := fun b o e => of_hidT e, bsz := Nat.le_of_eq (hidT_size s₁.heap H), funs := trivial, frf := fun b hb => (List.not_mem_nil hb).elim, hok := hok, bare := AllBare.of_eq hg }
    refine codeAny_mono ((F _ hKb (nsK hns)).run callerA [] s₁ H ⟨[.ref a], []⟩ [.ref a] [.ref a] (fun v _ => v = .bl true) (fun _ _ _ => False) rfl hr e0 (hbind s₁ _) (.cons rfl .nil) (hsp H hO hS)) fun r s' h => ?_
    cases r with
    | error e => exact h.elim
    | ok fl =>
      cases fl with
      | next => exact h.elim
      | brk => exact h.elim
      | cont => exact h.elim
      | ret u =>
        obtain ⟨v, H', os, bare, un, hok', r', q⟩ := h
        subst q
        cases r'
        refine ⟨rfl, OldK.of_keep fun b o e => ?_, os, bare⟩
        cases hb' : H b with
        | none => exact un.keep b o e hb' (fun z => List.not_mem_nil z) (fun z => List.not_mem_nil z)
        | some u =>
          rcases hO b with z | ⟨ob, xs, z⟩
          · rw [hb'] at z
            cases z
          · have h1 := un.frzs b _ _ z
            have h2 := hok b _ z
            have h3 := hok' b _ h1
            have h4 := h2.1
            have h5 := h3.1
            rw [e] at h4
            cases h4
            exact h5
  cases hk : List.lookup a K with
  | none =>
    refine core (fun b => if b = a then some (.frz { cls := .type "list", data := .seq vs.toArray } (.lst (ns.map V.int))) else none) (fun b => ?_) (.inl (.inr ⟨_, if_pos rfl⟩)) (fun b u z => ?_) (fun b z => ?_) fun _ => hk
    · by_cases hb : b = a
      · exact .inr ⟨_, _, if_pos hb⟩
      · exact .inl (if_neg hb)
    · by_cases hb : b = a
      · have z' := (if_pos hb).symm.trans z
        cases z'
        subst hb
        exact ⟨ha, by rw [List.length_map]; exact hl, vs, 0, rv, ha⟩
      · have z' := (if_neg hb).symm.trans z
        cases z'
    · by_cases hb : b = a
      · exact hb
      · exact absurd (if_neg hb) z
  | some o =>
    have e := KX a o hk
    rw [ha] at e
    cases e
    refine core (fun _ => none) (fun _ => .inl rfl) (.inr ⟨_, vs.toArray, 0, hk, rfl, rfl, rfl, by rw [List.size_toArray, lenV]; exact hl, rv⟩) (fun b u z => nomatch z) (fun b z => absurd rfl z) fun z => absurd rfl z
theorem walk_ofG {l : PySem.W.OpenLaw} {n k : Nat} {q : Program} {loose : List PySem.Str} {XP : (PySem.Str → Option Value) → Heap → Prop} {YP : World → Heap → Prop} {d : DefRec} {K : Params → PySem.W.Frag} {sp : World → Sp} {x : PySem.Str}
    (hn : l.most = some n) (hn2 : n ≤ sizeLine) (hdf : d.params.defaults = []) (hr : Room k callerA) (hY : ∀ (w : World) (h : Heap), YP w h → (K w.params).In h)
    (F : ∀ (w : World) (mg : PySem.Str → Option Value) (fa : Addr) (h : Heap), (K w.params).In h → h.Ns mainGlobals mg → mg d.name = some (.ref fa) →
      ∃ fd, (∀ (s : Shared) (u : Value), BindsTo s fd ⟨[u], []⟩ [(x, u)]) ∧ ∀ base : Heap, (K w.params).In base → base.Ns mainGlobals mg → FnOkG l.prog w (K w.params) mg base CX0 k fa fd [x] (sp w))
    (hsp : ∀ (w : World) (H : Hp) (a : Addr) (ns : List Int), ns.length ≤ n → Only H → SqL (K w.params) H a (ns.map V.int) → sp w [.ref a] H (fun v _ => v = .bl true) fun _ _ _ => False) :
    PySem.W.WalkO q loose XP YP l.row.toRowW d [] fun f vs => call f vs :=
  Att.attach_call hn hdf fun w s₀ s₁ mg mb fa o pm cd doc a vs ns G Y ho hd hcd hmg hobj hints hlen hg => by
    have KX := hY w s₁.heap Y
    obtain ⟨fd, hb, hF⟩ := F w mg fa s₁.heap KX G.T.g hmg
    exact law_callG KX G.T.g G.T.b G.T.builtins G.T.nolimit hg hobj hints (Nat.le_trans hlen hn2) hr hF hb fun H hO hS => hsp w H a ns hlen hO hS
end SW

namespace SW
open PySem PySem.Spec PyProof.Rows L2
def rLenK (K : PySem.W.Frag) : List V → Hp → VK → Prop := fun xs H Q => ∃ p ys, xs = [.ref p] ∧ (SqL K H p ys ∨ SqT K H p ys) ∧ Q (.int (ys.length : Nat)) H
/-! ### data in lists -/
theorem dpa_snoc {K : PySem.W.Frag} {H : Hp} : ∀ {vs : List V} {ds : List PyData} {v : V} {d : PyData}, DpAll K H vs ds → Dp K H v d → DpAll K H (vs ++ [v]) (ds ++ [d])
  | _, _, _, _, .nil, h => .cons h .nil
  | _, _, _, _, .cons h1 h2, h => .cons h1 (dpa_snoc h2 h)
theorem dpa_len {K : PySem.W.Frag} {H : Hp} : ∀ {vs : List V} {ds : List PyData}, DpAll K H vs ds → vs.length = ds.length
  | _, _, .nil => rfl
  | _, _, .cons _ h => congrArg (· + 1) (dpa_len h)
theorem dpa_get {K : PySem.W.Frag} {H : Hp} : ∀ {vs : List V} {ds : List PyData} {j : Nat} {v : V}, DpAll K H vs ds → vs[j]? = some v → ∃ d, ds[j]? = some d ∧ Dp K H v d
  | _, _, 0, _, .cons h _, e => by
    cases e
    exact ⟨_, rfl, h⟩
  | _, _, j + 1, _, .cons _ h, e => dpa_get (j := j) h e
theorem dpa_get' {K : PySem.W.Frag} {H : Hp} : ∀ {vs : List V} {ds : List PyData} {j : Nat} {d : PyData}, DpAll K H vs ds → ds[j]? = some d → ∃ v, vs[j]? = some v ∧ Dp K H v d
  | _, _, 0, _, .cons h _, e => by
    cases e
    exact ⟨_, rfl, h⟩
  | _, _, j + 1, _, .cons _ h, e => dpa_get' (j := j) h e
theorem dpa_set {K : PySem.W.Frag} {H : Hp} : ∀ {vs : List V} {ds : List PyData} {j : Nat} {v : V} {d : PyData}, DpAll K H vs ds → Dp K H v d → DpAll K H (vs.set j v) (ds.set j d)
  | _, _, _, _, _, .nil, _ => .nil
  | _, _, 0, _, _, .cons _ h, e => .cons e h
  | _, _, j + 1, _, _, .cons h1 h, e => .cons h1 (dpa_set (j := j) h e)
theorem dpa_app {K : PySem.W.Frag} {H : Hp} : ∀ {vs us : List V} {ds es : List PyData}, DpAll K H vs ds → DpAll K H us es → DpAll K H (vs ++ us) (ds ++ es)
  | _, _, _, _, .nil, h => h
  | _, _, _, _, .cons h1 h2, h => .cons h1 (dpa_app h2 h)
theorem dpa_drop {K : PySem.W.Frag} {H : Hp} : ∀ {vs : List V} {ds : List PyData} (n : Nat), DpAll K H vs ds → DpAll K H (vs.drop n) (ds.drop n)
  | _, _, 0, h => h
  | _, _, _ + 1, .nil => .nil
  | _, _, n + 1, .cons _ h => dpa_drop n h
theorem dpa_take {K : PySem.W.Frag} {H : Hp} : ∀ {vs : List V} {ds : List PyData} (n : Nat), DpAll K H vs ds → DpAll K H (vs.take n) (ds.take n)
  | _, _, 0, _ => .nil
  | _, _, _ + 1, .nil => .nil
  | _, _, n + 1, .cons h1 h => .cons h1 (dpa_take n h)
theorem dpa_rev {K : PySem.W.Frag} {H : Hp} : ∀ {vs : List V} {ds : List PyData}, DpAll K H vs ds → DpAll K H vs.reverse ds.reverse
  | _, _, .nil => .nil
  | _, _, .cons h1 h => by
    rw [List.reverse_cons, List.reverse_cons]
    exact dpa_snoc (dpa_rev h) h1
theorem dpa_ints {K : PySem.W.Frag} {H : Hp} : ∀ ns : List Int, DpAll K H (ns.map V.int) (ns.map PyData.int)
  | [] => .nil
  | x :: r => .cons (.int x) (dpa_ints r)
theorem dpa_ints' {K : PySem.W.Frag} {H : Hp} : ∀ {vs : List V} {ns : List Int}, DpAll K H vs (ns.map PyData.int) → vs = ns.map V.int
  | _, [], .nil => rfl
  | _, _ :: _, .cons (.int x) h => congrArg (V.int x :: ·) (dpa_ints' h)
theorem dpa_bls' {K : PySem.W.Frag} {H : Hp} : ∀ {vs : List V} {ns : List Bool}, DpAll K H vs (ns.map PyData.bool) → vs = ns.map V.bl
  | _, [], .nil => rfl
  | _, _ :: _, .cons (.bl x) h => congrArg (V.bl x :: ·) (dpa_bls' h)
theorem int_dec (x y : Int) : decide (V.int x = V.int y) = decide (x = y) := decide_eq_decide.mpr ⟨fun h => by injection h, fun h => by rw [h]⟩
/-! ### parts of lists -/
theorem cutv_from (xs : List V) (n : Nat) : cutV xs (some (n : Int)) none = xs.drop n := by
  unfold cutV
  rw [HT.sIx_nat, HT.sIx_none]
  by_cases h : n ≤ xs.length
  · rw [Nat.min_eq_left h]
    exact List.take_of_length_le (by rw [List.length_drop]; exact Nat.le_refl _)
  · rw [Nat.min_eq_right (by omega), List.drop_eq_nil_of_le (Nat.le_refl _), List.drop_eq_nil_of_le (by omega)]
    exact List.take_nil
theorem cutv_first (xs : List V) (n : Nat) : cutV xs none (some (n : Int)) = xs.take n := by
  unfold cutV
  rw [HT.sIx_nat, HT.sIx_none, List.drop_zero, Nat.sub_zero]
  by_cases h : n ≤ xs.length
  · rw [Nat.min_eq_left h]
  · rw [Nat.min_eq_right (by omega), List.take_of_length_le (Nat.le_refl _), List.take_of_length_le (by omega)]
theorem cutv_part (xs : List V) (n m : Nat) (h : n ≤ m) : cutV xs (some (n : Int)) (some (m : Int)) = (xs.drop n).take (m - n) := by
  unfold cutV
  rw [HT.sIx_nat, HT.sIx_nat]
  by_cases h1 : n ≤ xs.length
  · rw [Nat.min_eq_left h1]
    by_cases h2 : m ≤ xs.length
    · rw [Nat.min_eq_left h2]
    · rw [Nat.min_eq_right (by omega), List.take_of_length_le (by rw [List.length_drop]; exact Nat.le_refl _), List.take_of_length_le (by rw [List.length_drop]; omega)]
  · rw [List.drop_eq_nil_of_le (show xs.length ≤ min n xs.length by omega), List.drop_eq_nil_of_le (show xs.length ≤ n by omega), List.take_nil, List.take_nil]
theorem at_neg1 {xs : List V} {v : V} (h : xs[xs.length - 1]? = some v) : atI xs (-1) = some v := by
  have hl : xs ≠ [] := fun e => by
    rw [e] at h
    cases h
  have e := List.dropLast_concat_getLast hl
  rw [← List.getLast?_eq_getElem?, List.getLast?_eq_getLast hl] at h
  cases h
  conv => lhs; rw [← e]
  exact atI_last _ _
/-! ### a comprehension over any walk, whose items are data without lists -/
theorem lc_data {K : PySem.W.Frag} {J : It} {n : Nat} {G : Hp → Prop} {Y : Nat → Hp → V → Hp → Prop} (w : Walk J n G Y) {g : TG} {te : TE} {vs : List Nat} {σ : L2.St} {H1 : Hp} {D : Addr} {Qd : Hp → Prop} (hD : H1 D = none) (f : Nat → PyData) (hn : n ≤ 100000)
    (hf : ∀ i, i < n → noL (f i) = true) (hG : ∀ H, Same H1 H → G H)
    (hs : ∀ (i : Nat) (x : V) (H H' : Hp) (Q : V → Hp → Prop), i < n → Same H1 H → Y i H x H' → (∀ y H4, Same H H4 → Dp K H4 y (f i) → Q y H4) → g x (wipe σ vs) H' fun σ2 H2 => wipe σ2 vs = wipe σ vs ∧ te σ2 H2 Q)
    (hd : ∀ H ys, Same H1 H → H D = some (.lst ys) → DpAll K H ys ((List.range n).map f) → Qd H) :
    ∃ W : Nat → Nat → Hp → Prop, (∃ m, W 0 m (upd H1 D (.lst []))) ∧ ∀ i m H, W i m H → (J.stop i H ∧ Qd H) ∨ (J.go i H ∧ ∃ Nx : Hp → Prop, (∀ H', Nx H' → ∃ m', m' < m ∧ W (i + 1) m' H') ∧
      ∀ x H', J.yld i H x H' → g x (wipe σ vs) H' fun σ2 H2 => wipe σ2 vs = wipe σ vs ∧ tYes σ2 H2 fun b H3 => if b = true then te σ2 H3 fun y H4 => ∃ acc, H4 D = some (.lst acc) ∧ acc.length < sizeLine ∧ Nx (upd H4 D (.lst (acc ++ [y]))) else Nx H3) := by
  let Pv : Nat → Hp → Prop := fun i H => Same H1 H ∧ ∃ ys, H D = some (.lst ys) ∧ DpAll K H ys ((List.range i).map f)
  refine ⟨fun i m H => m = n - i ∧ i ≤ n ∧ Pv i H, ⟨n, rfl, Nat.zero_le _, same_new hD, [], upd_same, .nil⟩, ?_⟩
  rintro i m H ⟨rfl, hi, s1, ys, e, ha⟩
  by_cases hlt : i < n
  · refine .inr ⟨w.goes i H hlt (hG H s1), Pv (i + 1), fun H' p => ⟨n - (i + 1), by omega, rfl, hlt, p⟩, fun x H' y => ?_⟩
    refine hs i x H H' _ hlt s1 (w.yields i H x H' hlt (hG H s1) y) fun y H4 s4 h4 => ?_
    have e4 : H4 D = some (.lst ys) := s4 _ _ e
    refine ⟨ys, e4, ?_, same_mut (s1.trans s4) hD, ys ++ [y], upd_same, ?_⟩
    · rw [dpa_len ha, List.length_map, List.length_range]
      exact small_sz5 (by omega)
    · rw [List.range_succ, List.map_append]
      have b4 : But D H4 (upd H4 D (.lst (ys ++ [y]))) := fun c o hc eo => (upd_ne hc).trans eo
      refine dpa_snoc (dpa_but e4 b4 _ _ ?_ (dpa_same s4 _ _ ha)) (dp_but e4 b4 _ _ (hf i hlt) h4)
      clear h4 e4 s4 ha
      generalize hr : List.range i = l
      have : ∀ j, j ∈ l → j < n := fun j hj => by
        rw [← hr] at hj
        have := List.mem_range.mp hj
        omega
      clear hr
      induction l with
      | nil => rfl
      | cons a r ih =>
        show (noL (f a) && noLs (r.map f)) = true
        rw [hf a (this a List.mem_cons_self), ih fun j hj => this j (List.mem_cons_of_mem _ hj)]
        rfl
  · have : i = n := by omega
    subst this
    exact .inl ⟨w.stops H (hG H s1), hd H ys s1 e ha⟩
theorem range_map {α β : Type} (xs : List α) (g : α → β) (f : Nat → β) (h : ∀ i x, xs[i]? = some x → f i = g x) : (List.range xs.length).map f = xs.map g := by
  refine List.ext_getElem? fun i => ?_
  rw [List.getElem?_map, List.getElem?_map]
  by_cases hi : i < xs.length
  · rw [List.getElem?_range hi, List.getElem?_eq_getElem hi]
    exact congrArg some (h i _ (List.getElem?_eq_getElem hi))
  · rw [List.getElem?_eq_none (by rw [List.length_range]; omega), List.getElem?_eq_none (by omega)]
    rfl
theorem ints_get {ns : List Int} {j : Nat} {n : Int} (h : ns[j]? = some n) : (ns.map V.int)[j]? = some (.int n) := by
  rw [List.getElem?_map, h]
  rfl
theorem ints_at {ns : List Int} {j : Nat} (h : j < ns.length) : atI (ns.map V.int) (j : Int) = some (.int ns[j]) := atI_nat (ints_get (List.getElem?_eq_getElem h))
end SW

namespace SW
open PySem PySem.Spec PyProof.Rows L2
/-! ### the shown text of small data -/
mutual
def smI : PyData → Bool
  | .none => true
  | .bool _ => true
  | .int i => decide (i.natAbs < 10 ^ 60)
  | .list ds => smIs ds
  | .tuple ds => smIs ds
  | _ => false
def smIs : List PyData → Bool
  | [] => true
  | d :: r => smI d && smIs r
end
mutual
def shW : PyData → Nat
  | .list ds => shWs ds + 10
  | .tuple ds => shWs ds + 10
  | _ => 70
def shWs : List PyData → Nat
  | [] => 0
  | d :: r => shW d + 10 + shWs r
end
theorem of_len (z : String) : (Str.ofString z).length = z.toList.length := by
  rw [TL.len_tl]
  rw [TL.tl_ofString, List.length_map]
theorem int_len (i : Int) (h : i.natAbs < 10 ^ 60) : (Str.ofString (toString i)).length ≤ 70 := by
  rw [of_len]
  show (Int.repr i).toList.length ≤ 70
  have key : ∀ n : Nat, n < 10 ^ 60 → n.repr.toList.length ≤ 60 := fun n hn => by
    have := (Nat.length_repr_le_iff (n := n) (k := 60) (by decide)).mpr hn
    exact this
  cases i with
  | ofNat n =>
    have := key n (by simpa using h)
    show (Nat.repr n).toList.length ≤ 70
    omega
  | negSucc n =>
    have := key (n + 1) (by simpa using h)
    show ("-" ++ Nat.repr (n + 1)).toList.length ≤ 70
    rw [String.toList_append, List.length_append]
    have : "-".toList.length = 1 := rfl
    omega
theorem tf_len : ∀ (ts : List PySem.Str) (k : Nat) (acc : PySem.Str), (textFrom k acc ts).length ≤ acc.length + (ts.map fun t => t.length + 2).sum
  | [], _, _ => Nat.le_add_right _ _
  | t :: r, k, acc => by
    have h := tf_len r (k + 1) (acc ++ Str.ofString (if k > 0 then ", " else "") ++ t)
    show (textFrom (k + 1) (acc ++ Str.ofString (if k > 0 then ", " else "") ++ t) r).length ≤ _
    rw [app_len, app_len] at h
    rw [List.map_cons, List.sum_cons]
    have h2 : (Str.ofString (if k > 0 then ", " else "")).length ≤ 2 := by
      by_cases hk : k > 0
      · rw [if_pos hk]
        decide
      · rw [if_neg hk]
        decide
    omega
theorem jn_len (z : PySem.Str) (hz : z.length ≤ 2) : ∀ ts : List PySem.Str, (Str.join z ts).length ≤ (ts.map fun t => t.length + 2).sum
  | [] => Nat.zero_le _
  | [x] => by
    show x.length ≤ (x.length + 2) + 0
    omega
  | x :: y :: r => by
    have h := jn_len z hz (y :: r)
    show (x ++ z ++ Str.join z (y :: r)).length ≤ _
    rw [app_len, app_len, List.map_cons, List.sum_cons]
    omega
mutual
theorem sm_shown : ∀ d : PyData, smI d = true → d.showable = true ∧ d.hasDict = false ∧ d.shown.length ≤ shW d
  | .none, _ => ⟨rfl, rfl, by decide⟩
  | .bool b, _ => ⟨rfl, rfl, by cases b <;> decide⟩
  | .int i, h => by
    have h := of_decide_eq_true (by unfold smI at h; exact h)
    refine ⟨decide_eq_true ?_, rfl, int_len i h⟩
    refine Nat.lt_of_le_of_lt (m := 200) ?_ (by decide)
    by_cases h0 : i.natAbs = 0
    · rw [h0]
      decide
    · refine Nat.le_of_lt ((Nat.log2_lt h0).mpr (Nat.lt_of_lt_of_le h (by decide)))
  | .list ds, h => by
    have ⟨h1, h2, h3⟩ := sms_shown ds (by unfold smI at h; exact h)
    refine ⟨h1, h2, ?_⟩
    show (listText (PyData.shownAll ds)).length ≤ shWs ds + 10
    unfold listText
    rw [app_len]
    have := tf_len (PyData.shownAll ds) 0 (Str.ofString "[")
    have e1 : (Str.ofString "[").length = 1 := rfl
    have e2 : (Str.ofString "]").length = 1 := rfl
    omega
  | .tuple ds, h => by
    have ⟨h1, h2, h3⟩ := sms_shown ds (by unfold smI at h; exact h)
    refine ⟨h1, h2, ?_⟩
    show (tupleText (PyData.shownAll ds)).length ≤ shWs ds + 10
    unfold tupleText
    rw [app_len, app_len]
    have := jn_len (Str.ofString ", ") (by decide) (PyData.shownAll ds)
    have e1 : (Str.ofString "(").length = 1 := rfl
    have e2 : (Str.ofString (if ((PyData.shownAll ds).length == 1) = true then ",)" else ")")).length ≤ 2 := by
      by_cases hk : ((PyData.shownAll ds).length == 1) = true
      · rw [if_pos hk]
        decide
      · rw [if_neg hk]
        decide
    omega
  | .str _, h => by
    unfold smI at h
    cases h
  | .dict _, h => by
    unfold smI at h
    cases h
theorem sms_shown : ∀ ds : List PyData, smIs ds = true → PyData.showableAll ds = true ∧ PyData.hasDictAll ds = false ∧ ((PyData.shownAll ds).map fun t => t.length + 2).sum ≤ shWs ds
  | [], _ => ⟨rfl, rfl, Nat.le_refl _⟩
  | d :: r, h => by
    unfold smIs at h
    rw [Bool.and_eq_true] at h
    have ⟨a1, a2, a3⟩ := sm_shown d h.1
    have ⟨b1, b2, b3⟩ := sms_shown r h.2
    refine ⟨?_, ?_, ?_⟩
    · show (d.showable && PyData.showableAll r) = true
      rw [a1, b1]
      rfl
    · show (d.hasDict || PyData.hasDictAll r) = false
      rw [a2, b2]
      rfl
    · show ((d.shown :: PyData.shownAll r).map fun t => t.length + 2).sum ≤ shW d + 10 + shWs r
      rw [List.map_cons, List.sum_cons]
      omega
end
theorem smIs_map {α : Type} (f : α → PyData) : ∀ xs : List α, (∀ x, x ∈ xs → smI (f x) = true) → smIs (xs.map f) = true
  | [], _ => rfl
  | x :: r, h => by
    show (smI (f x) && smIs (r.map f)) = true
    rw [h x List.mem_cons_self, smIs_map f r fun y hy => h y (List.mem_cons_of_mem _ hy)]
    rfl
theorem shWs_map {α : Type} (f : α → PyData) (b : Nat) : ∀ xs : List α, (∀ x, x ∈ xs → shW (f x) ≤ b) → shWs (xs.map f) ≤ xs.length * (b + 10)
  | [], _ => Nat.zero_le _
  | x :: r, h => by
    have h1 := h x List.mem_cons_self
    have h2 := shWs_map f b r fun y hy => h y (List.mem_cons_of_mem _ hy)
    show shW (f x) + 10 + shWs (r.map f) ≤ (r.length + 1) * (b + 10)
    rw [Nat.add_mul]
    omega
theorem depth_map {α : Type} (f : α → PyData) (b : Nat) : ∀ xs : List α, (∀ x, x ∈ xs → (f x).depth ≤ b) → PyData.depthAll (xs.map f) ≤ b
  | [], _ => Nat.zero_le _
  | x :: r, h => by
    have h1 := h x List.mem_cons_self
    have h2 := depth_map f b r fun y hy => h y (List.mem_cons_of_mem _ hy)
    show max (f x).depth (PyData.depthAll (r.map f)) ≤ b
    omega
def rReprD (K : PySem.W.Frag) : List V → Hp → VK → Prop := fun vs H Q => ∃ (a : Addr) (d : PyData), vs = [.ref a] ∧ Dp K H (.ref a) d ∧ smI d = true ∧ d.depth ≤ 60 ∧ shW d ≤ sizeLine ∧ Q (.str d.shown) H
theorem call_reprD {X : Cx} (hg : X.A.guards = some []) (hu : X.A.units + 64 < cLine) : CallR X (.builtin "repr") (rReprD X.K) := by
  intro pins s σ H xs us Q I r h
  obtain ⟨a, d, rfl, hd, sm, dp, sz, q⟩ := h
  cases r with
  | cons r1 r2 =>
    cases r2
    cases r1
    obtain ⟨as, rd⟩ := Dp.reads I d _ _ hd rfl
    have ⟨h1, h2, h3⟩ := sm_shown d sm
    exact repr_of_reads' rd h1 (PyData.noDict_hsm h2) hg (by omega) (fun _ _ e => e) (fun h' u tk hk => ⟨.str _, H, I.kept hk, ⟨u, rfl⟩, q⟩) (Nat.le_trans h3 sz)
end SW

namespace SW
open PySem PySem.Spec PyProof.Rows L2
/-! ### differences: triples of numbers -/
abbrev Tri := Int × Int × Int
def t0 : Tri := (0, 0, 0)
def e3 (d : Tri) : PyData := .tuple [.int d.1, .int d.2.1, .int d.2.2]
theorem noL_e3 (d : Tri) : noL (e3 d) = true := rfl
theorem noLs_e3 : ∀ ds : List Tri, noLs (ds.map e3) = true
  | [] => rfl
  | _ :: r => noLs_e3 r
theorem e3_inv {K : PySem.W.Frag} {H : Hp} {v : V} {d : Tri} (h : Dp K H v (e3 d)) : ∃ t, v = .ref t ∧ SqT K H t [.int d.1, .int d.2.1, .int d.2.2] := by
  cases h with
  | tup hs ha =>
    cases ha with
    | cons h1 ha =>
      cases h1
      cases ha with
      | cons h2 ha =>
        cases h2
        cases ha with
        | cons h3 ha =>
          cases h3
          cases ha
          exact ⟨_, rfl, hs⟩
theorem e3_mk {K : PySem.W.Frag} {H : Hp} {t : Addr} {u v c : Int} (h : H t = some (.tup [.int u, .int v, .int c])) : Dp K H (.ref t) (e3 (u, v, c)) := dp_tup3 h (.int _) (.int _) (.int _)
theorem lst_at {K : PySem.W.Frag} {H : Hp} {xs : List V} {ds : List Tri} {j : Nat} (ha : DpAll K H xs (ds.map e3)) (hj : j < ds.length) : ∃ t, xs[j]? = some (.ref t) ∧ SqT K H t [.int ds[j].1, .int ds[j].2.1, .int ds[j].2.2] := by
  obtain ⟨v, h1, h2⟩ := dpa_get' (j := j) ha (by rw [List.getElem?_map, List.getElem?_eq_getElem hj]; rfl)
  obtain ⟨t, rfl, h3⟩ := e3_inv h2
  exact ⟨t, h1, h3⟩
def inR (n : Nat) (z : Int) : Bool := decide (0 ≤ z) && decide (z < n)
def tri (ds : List Tri) (z : Int) : Tri := ds.getD z.toNat t0
def lnk (st : List Tri) : Bool := (List.range (st.length - 1)).all fun i => decide ((st.getD i t0).2.1 = (st.getD (i + 1) t0).1)
def chainOf (ds : List Tri) (ns : List Int) : Option Tri :=
  if ns.isEmpty || !(ns.all (inR ds.length)) then none
  else if lnk (ns.map (tri ds)) then some (((ns.map (tri ds)).getD 0 t0).1, ((ns.map (tri ds)).getD (ns.length - 1) t0).2.1, ((ns.map (tri ds)).map fun t => t.2.2).sum)
  else none
def optD : Option Tri → PyData
  | none => .none
  | some t => e3 t
def ringOf (c : Option Tri) : Bool := match c with
  | none => false
  | some t => decide (t.1 = t.2.1) && decide (t.2.2 < 0)
/-- a sequence of numbers: a list or a tuple -/
def Seq (K : PySem.W.Frag) (H : Hp) (b : Addr) (ns : List Int) : Prop := SqL K H b (ns.map V.int) ∨ SqT K H b (ns.map V.int)
end SW

namespace SW
open PySem PySem.Spec PyProof.Rows L2
abbrev s_chain_sum : Stmt := topS 1
theorem sc_chain_sum : FnScope ["differences", "numbers", "number", "steps", "step", "following"] ["differences", "numbers"] (defScope s_chain_sum) := ⟨rfl, rfl, rfl, by decide +kernel, rfl, by decide +kernel, by decide +kernel⟩

section
variable {P : Program} {w : World} {K : PySem.W.Frag} {mg : PySem.Str → Option Value} {base : Heap}
def spChain (K : PySem.W.Frag) : Sp := fun vs H Q _ => ∃ (a b : Addr) (ds : List Tri) (ns : List Int), vs = [.ref a, .ref b] ∧ Dp K H (.ref a) (.list (ds.map e3)) ∧ Seq K H b ns ∧ ds.length ≤ 1000 ∧ ns.length ≤ 1000 ∧ ∀ r H', Same H H' → Dp K H' r (optD (chainOf ds ns)) → Q r H'
theorem lst_of {K : PySem.W.Frag} {H : Hp} {a : Addr} {ds : List PyData} (h : Dp K H (.ref a) (.list ds)) : ∃ xs, SqL K H a xs ∧ DpAll K H xs ds := by
  cases h with
  | lst hs ha => exact ⟨_, hs, ha⟩
theorem all_range {α : Type} (ns : List α) (f : α → Bool) : (ns.map f).all id = ns.all f := by
  rw [List.all_map]
  rfl
theorem tri_get {ds : List Tri} {z : Int} {j : Nat} (hz : z = j) (hj : j < ds.length) : tri ds z = ds[j] := by
  subst hz
  unfold tri
  rw [Int.toNat_natCast, List.getD_eq_getElem?_getD, List.getElem?_eq_getElem hj]
  rfl
theorem inR_nat {n : Nat} {z : Int} (h : inR n z = true) : ∃ j : Nat, z = j ∧ j < n := by
  unfold inR at h
  rw [Bool.and_eq_true] at h
  have h1 := of_decide_eq_true h.1
  have h2 := of_decide_eq_true h.2
  exact ⟨z.toNat, by omega, by omega⟩
theorem ok_chain_sum (T : TxB mg) (D_chain_sum : Df K mg "chain_sum" s_chain_sum ["differences", "numbers"]) : FnOk P w K mg base CX0 1 D_chain_sum.f D_chain_sum.fd ["differences", "numbers"] (spChain K) := by
  refine D_chain_sum.F.ok sc_chain_sum (fun vs H Q E h => ?_) (fun cdv A outer s H vs Q E hr h => ?_)
  · obtain ⟨a, b, ds, ns, rfl, _⟩ := h
    rfl
  · obtain ⟨a, b, ds, ns, rfl, ha, hb, hdl, hnl, q⟩ := h
    obtain ⟨xs, hxs, hxa⟩ := lst_of ha
    have hxl : xs.length = ds.length := by rw [dpa_len hxa, List.length_map]
    have hml : (ns.map V.int).length = ns.length := List.length_map _
    rcases hb with hb | hb
    · refine ⟨_, (pss_cons (ps_if (PW.pt (pw_or (pt_not (pt_truth (pv 1) (by intro _; rfl))) (pw_or1 (pt_not (pt_val (pe_callB (cr_all rfl) (by rfl) T.n_all (by decide +kernel) (pa_cons (pe_lc (own := [("number", 2)]) (g := gName 2) (by rfl) sc_chain_sum.nd (pi_list (pv 1)) (blkOk_by (own := [("number", 2)]) (N := ["differences", "numbers", "number", "steps", "step", "following"]) (sc := defScope s_chain_sum) (by decide +kernel)) (fun _ _ _ _ _ => pg_name (i := 2) sc_chain_sum.nd rfl (Or.inl rfl)) (fun _ _ _ _ _ => pts_nil) (fun _ _ _ _ _ => (pe_chain op_le op_lt pe_int (pv 2) (pe_callB (show CallR _ _ (rLenK K) from call_len_seq) (by rfl) T.n_len PySem.boot_len (pa_cons (pv 0) pa_nil))))) pa_nil)))))))
    (pss_one (ps_ret pe_non))
    pss_nil)
    (pss_cons (ps_setLc (i := 3) (own := [("number", 2)]) (g := gName 2) (by rfl) sc_chain_sum.nd rfl rfl (sw_true rfl rfl rfl (by decide +kernel)) (pi_list (pv 1)) (blkOk_by (own := [("number", 2)]) (N := ["differences", "numbers", "number", "steps", "step", "following"]) (sc := defScope s_chain_sum) (by decide +kernel)) (fun _ _ _ _ _ => pg_name (i := 2) sc_chain_sum.nd rfl (Or.inl rfl)) (fun _ _ _ _ _ => pts_nil) (fun _ _ _ _ _ => (pe_ix (show IxR _ (rIxL K) from ix_list) (pv 0) (pv 2) (fun _ _ => rfl))))
    (pss_cons (ps_if (pt_not (pt_val (pe_callB (cr_all rfl) (by rfl) T.n_all (by decide +kernel) (pa_cons (pe_lc (own := [("step", 4), ("following", 5)]) (g := gTup K 2 (gCons (gName 4) (gCons (gName 5) gNil))) (by rfl) sc_chain_sum.nd (pi_zip (by rfl) T.n_zip (pa_cons (pv 3) (pa_cons (pe_slice sl_list (pv 3) (po_some pe_int) po_none) pa_nil))) (blkOk_by (own := [("step", 4), ("following", 5)]) (N := ["differences", "numbers", "number", "steps", "step", "following"]) (sc := defScope s_chain_sum) (by decide +kernel)) (fun _ _ _ _ _ => pg_tup rfl (pgs_cons (pg_name (i := 4) sc_chain_sum.nd rfl (Or.inl rfl)) (pgs_cons (pg_name (i := 5) sc_chain_sum.nd rfl (Or.inl rfl)) pgs_nil))) (fun _ _ _ _ _ => pts_nil) (fun _ _ _ _ _ => (pe_cmpR op_eq (pe_ix (show IxR _ (rIxT K) from ix_tup) (pv 4) pe_int (fun _ _ => rfl)) (pe_ix (show IxR _ (rIxT K) from ix_tup) (pv 5) pe_int (fun _ _ => rfl)) (nomark _)))) pa_nil))))
    (pss_one (ps_ret pe_non))
    pss_nil)
    (pss_one (ps_ret (pe_tup (pa_cons (pe_ix ix_tup (pe_ix ix_list (pv 3) pe_int (fun _ _ => rfl)) pe_int (fun _ _ => rfl)) (pa_cons (pe_ix ix_tup (pe_ix ix_list (pv 3) (pe_un un_neg pe_int) (fun _ _ => rfl)) pe_int (fun _ _ => rfl)) (pa_cons (pe_callB (cr_sum rfl) (by rfl) T.n_sum (by decide +kernel) (pa_cons (pe_lc (own := [("step", 4)]) (g := gName 4) (by rfl) sc_chain_sum.nd (pi_list (pv 3)) (blkOk_by (own := [("step", 4)]) (N := ["differences", "numbers", "number", "steps", "step", "following"]) (sc := defScope s_chain_sum) (by decide +kernel)) (fun _ _ _ _ _ => pg_name (i := 4) sc_chain_sum.nd rfl (Or.inl rfl)) (fun _ _ _ _ _ => pts_nil) (fun _ _ _ _ _ => (pe_ix (show IxR _ (rIxT K) from ix_tup) (pv 4) pe_int (fun _ _ => rfl)))) pa_nil)) pa_nil))))))))), ?_⟩
      have hsame : ∀ {H' : Hp}, Same H H' → SqL K H' b (ns.map V.int) := fun s => s.seq hb
      -- not numbers
      refine ⟨_, rfl, _, .inl ⟨_, hb, rfl⟩, ite2 (fun e => ?_) (fun e => ?_)⟩
      · refine q _ _ (Same.refl _) ?_
        have : ns.isEmpty = true := by
          cases ns with
          | nil => rfl
          | cons _ _ => cases e
        unfold chainOf
        rw [this]
        exact .non
      have hne : ns.isEmpty = false := by
        cases ns with
        | nil => exact absurd rfl e
        | cons _ _ => rfl
      clear e
      -- not all in range
      refine ⟨_, rfl, b, rfl, ⟨_, hb⟩, fun D hD => ?_⟩
      refine lc_data (K := K) (walk_list (K := K) (a := b) (xs := ns.map V.int)) hD (fun i => .bool (inR ds.length (ns.getD i 0))) (by omega) (fun _ _ => rfl) (fun H s => hsame s) (fun i x H1 H2 Q' hi s1 y q' => ?_) (fun H1 ys s1 e1 ha1 => ?_)
      · obtain ⟨rfl, hx⟩ := y
        have hi' : i < ns.length := by omega
        rw [ints_get (List.getElem?_eq_getElem hi')] at hx
        cases hx
        have eg : ns.getD i 0 = ns[i] := by rw [List.getD_eq_getElem?_getD, List.getElem?_eq_getElem hi']; rfl
        refine ⟨rfl, _, rfl, _, _, rfl, rfl, _, rfl, ite2 (fun e => ?_) (fun e => ?_)⟩
        · refine ⟨_, rfl, a, _, rfl, .inl (s1.seq hxs), _, _, rfl, rfl, q' _ _ (Same.refl _) ?_⟩
          rw [eg]
          unfold inR
          rw [e, hxl]
          exact .bl _
        · refine q' _ _ (Same.refl _) ?_
          rw [eg]
          unfold inR
          rw [Bool.eq_false_iff.mpr e]
          exact .bl _
      have er : (List.range (ns.map V.int).length).map (fun i => PyData.bool (inR ds.length (ns.getD i 0))) = (ns.map (inR ds.length)).map PyData.bool := by
        rw [hml, List.map_map]
        refine range_map ns _ _ fun i x h => ?_
        rw [List.getD_eq_getElem?_getD, h]
        rfl
      rw [er] at ha1
      have e2 := dpa_bls' ha1
      subst e2
      refine ⟨D, _, rfl, SqL.of e1, _, rfl, ?_⟩
      rw [all_range]
      refine ite2 (fun e => ?_) (fun e => ?_)
      · refine q _ _ s1 ?_
        unfold chainOf
        rw [e, Bool.or_true]
        exact .non
      have hin : ns.all (inR ds.length) = true := by
        cases h : ns.all (inR ds.length) with
        | true => rfl
        | false =>
          rw [h] at e
          exact absurd rfl e
      clear e
      have hin' : ∀ i (hi : i < ns.length), ∃ j : Nat, ns[i] = j ∧ j < ds.length := fun i hi => inR_nat (List.all_eq_true.mp hin _ (List.getElem_mem hi))
      -- steps
      refine ⟨_, rfl, b, rfl, ⟨_, hsame s1⟩, fun D2 hD2 => ?_⟩
      refine lc_data (K := K) (walk_list (K := K) (a := b) (xs := ns.map V.int)) hD2 (fun i => e3 (tri ds (ns.getD i 0))) (by omega) (fun _ _ => rfl) (fun H s => hsame (s1.trans s)) (fun i x H2 H3 Q' hi s2 y q' => ?_) (fun H2 ys s2 e2 ha2 => ?_)
      · obtain ⟨rfl, hx⟩ := y
        have hi' : i < ns.length := by omega
        rw [ints_get (List.getElem?_eq_getElem hi')] at hx
        cases hx
        have eg : ns.getD i 0 = ns[i] := by rw [List.getD_eq_getElem?_getD, List.getElem?_eq_getElem hi']; rfl
        obtain ⟨j, ej, hj⟩ := hin' i hi'
        obtain ⟨t, g1, g2⟩ := lst_at hxa hj
        refine ⟨rfl, _, rfl, _, rfl, a, _, _, _, rfl, rfl, (s1.trans s2).seq hxs, at_of ej g1, q' _ _ (Same.refl _) ?_⟩
        rw [eg, tri_get ej hj]
        exact .tup (sqt_same (s1.trans s2) g2) (.cons (.int _) (.cons (.int _) (.cons (.int _) .nil)))
      have er2 : (List.range (ns.map V.int).length).map (fun i => e3 (tri ds (ns.getD i 0))) = (ns.map (tri ds)).map e3 := by
        rw [hml, List.map_map]
        refine range_map ns _ _ fun i x h => ?_
        rw [List.getD_eq_getElem?_getD, h]
        rfl
      rw [er2] at ha2
      generalize hst : ns.map (tri ds) = st at ha2
      have hstl : st.length = ns.length := by rw [← hst, List.length_map]
      have hyl : ys.length = st.length := by rw [dpa_len ha2, List.length_map]
      have hpos : 0 < ns.length := by
        cases ns with
        | nil => cases hne
        | cons _ _ => exact Nat.succ_pos _
      have ha2' : ∀ {H' : Hp}, Same H2 H' → ∀ i (hi : i < st.length), ∃ t, ys[i]? = some (.ref t) ∧ SqT K H' t [.int st[i].1, .int st[i].2.1, .int st[i].2.2] := fun s i hi => by
        obtain ⟨t, g1, g2⟩ := lst_at ha2 hi
        exact ⟨t, g1, sqt_same s g2⟩
      -- steps[1:]
      refine ⟨_, rfl, _, rfl, _, rfl, D2, _, rfl, SqL.of e2, fun p np => ?_⟩
      have s3 := same_new (o := .lst (cutV ys (some 1) none)) np
      have e3' := s3 _ _ e2
      generalize hH3 : upd H2 p (.lst (cutV ys (some 1) none)) = H3 at s3 e3'
      have ep : H3 p = some (.lst (ys.drop 1)) := by
        rw [← hH3, upd_same]
        have : cutV ys (some 1) none = ys.drop 1 := cutv_from ys 1
        rw [this]
      refine ⟨D2, p, _, _, rfl, SqL.of e3', SqL.of ep, fun D4 hD4 => ?_⟩
      refine lc_data (K := K) (walk_zip (K := K) (a := D2) (b := p) (xs := ys) (ys := ys.drop 1) (n := st.length - 1) (by rw [List.length_drop]; omega)) hD4 (fun i => .bool (decide ((st.getD i t0).2.1 = (st.getD (i + 1) t0).1))) (by omega) (fun _ _ => rfl) (fun H s => ⟨s.seq (SqL.of e3'), s.seq (SqL.of ep)⟩) (fun i x H4 H5 Q' hi s4 y q' => ?_) (fun H4 zs s4 e4 ha4 => ?_)
      · obtain ⟨t, x1, x2, rfl, ht, rfl, g1, g2⟩ := y
        have s5 := same_new (o := .tup [x1, x2]) ht
        obtain ⟨ta, f1, f2⟩ := ha2' (s3.trans (s4.trans s5)) i (by omega)
        obtain ⟨tb, f3, f4⟩ := ha2' (s3.trans (s4.trans s5)) (i + 1) (by omega)
        have g2' : ys[i + 1]? = some x2 := by
          rw [show i + 1 = 1 + i by omega, ← List.getElem?_drop]
          exact g2
        have g1' : ys[i]? = some x1 := g1
        clear g1 g2
        rw [f3] at g2'
        rw [f1] at g1'
        cases g1'
        cases g2'
        refine ⟨t, _, rfl, SqT.of upd_same, rfl, _, _, rfl, _, _, rfl, rfl, rfl, _, rfl, ta, _, _, _, rfl, rfl, f2, atI_nat (j := 1) rfl, _, rfl, tb, _, _, _, rfl, rfl, f4, atI_nat (j := 0) rfl, rfl, q' _ _ s5 ?_⟩
        rw [List.getD_eq_getElem?_getD, List.getD_eq_getElem?_getD, List.getElem?_eq_getElem (by omega), List.getElem?_eq_getElem (show i + 1 < st.length by omega), int_dec]
        exact (.bl _)
      have e4' := dpa_bls' (ns := (List.range (st.length - 1)).map fun i => decide ((st.getD i t0).2.1 = (st.getD (i + 1) t0).1)) (by rw [List.map_map]; exact ha4)
      subst e4'
      refine ⟨D4, _, rfl, SqL.of e4, _, rfl, ?_⟩
      have s4' : Same H H4 := s1.trans (s2.trans (s3.trans s4))
      rw [all_range]
      refine ite2 (fun e => ?_) (fun e => ?_)
      · refine q _ _ s4' ?_
        unfold chainOf
        rw [hne, hin, hst]
        have e' : lnk st = false := by
          unfold lnk
          cases h : (List.range (st.length - 1)).all fun i => decide ((st.getD i t0).2.1 = (st.getD (i + 1) t0).1) with
          | false => rfl
          | true =>
            rw [h] at e
            cases e
        rw [e']
        exact .non
      have hlk : lnk st = true := by
        unfold lnk
        cases h : (List.range (st.length - 1)).all fun i => decide ((st.getD i t0).2.1 = (st.getD (i + 1) t0).1) with
        | true => rfl
        | false =>
          rw [h] at e
          exact absurd rfl e
      clear e
      -- the three parts
      have sB : Same H2 H4 := s3.trans s4
      have e2B := sB _ _ e2
      obtain ⟨ta, f1, f2⟩ := ha2' sB 0 (by omega)
      obtain ⟨tb, f3, f4⟩ := ha2' sB (st.length - 1) (by omega)
      refine ⟨_, rfl, D2, _, _, _, rfl, rfl, SqL.of e2B, atI_nat (j := 0) f1, ta, _, _, _, rfl, rfl, f2, atI_nat (j := 0) rfl, ?_⟩
      refine ⟨_, rfl, _, rfl, D2, _, _, _, rfl, rfl, SqL.of e2B, at_neg1 (by rw [hyl]; exact f3), tb, _, _, _, rfl, rfl, f4, atI_nat (j := 1) rfl, ?_⟩
      refine ⟨_, rfl, D2, rfl, ⟨_, SqL.of e2B⟩, fun D6 hD6 => ?_⟩
      refine lc_data (K := K) (walk_list (K := K) (a := D2) (xs := ys)) hD6 (fun i => .int (st.getD i t0).2.2) (by omega) (fun _ _ => rfl) (fun H s => s.seq (SqL.of e2B)) (fun i x H5 H6 Q' hi s6 y q' => ?_) (fun H6 zs s6 e6 ha6 => ?_)
      · obtain ⟨rfl, hx⟩ := y
        obtain ⟨t, x1, x2⟩ := ha2' (sB.trans s6) i (by omega)
        rw [x1] at hx
        cases hx
        refine ⟨rfl, _, rfl, t, _, _, _, rfl, rfl, x2, atI_nat (j := 2) rfl, q' _ _ (Same.refl _) ?_⟩
        rw [List.getD_eq_getElem?_getD, List.getElem?_eq_getElem (by omega)]
        exact (.int _)
      have er6 : (List.range ys.length).map (fun i => PyData.int (st.getD i t0).2.2) = (st.map fun t => t.2.2).map PyData.int := by
        rw [hyl, List.map_map]
        refine range_map st _ _ fun i x h => ?_
        rw [List.getD_eq_getElem?_getD, h]
        rfl
      rw [er6] at ha6
      have e7 := dpa_ints' ha6
      subst e7
      refine ⟨D6, _, rfl, SqL.of e6, by show 3 ≤ sizeLine; decide, fun z hz => ?_⟩
      refine q _ _ (s4'.trans (s6.trans (same_new hz))) ?_
      unfold chainOf
      rw [hne, hin, hst, hlk]
      have g0 : st.getD 0 t0 = st[0]'(by omega) := by rw [List.getD_eq_getElem?_getD, List.getElem?_eq_getElem (by omega)]; rfl
      have g1 : st.getD (ns.length - 1) t0 = st[st.length - 1]'(by omega) := by rw [← hstl, List.getD_eq_getElem?_getD, List.getElem?_eq_getElem (by omega)]; rfl
      rw [g0, g1]
      exact e3_mk upd_same
    · refine ⟨_, (pss_cons (ps_if (PW.pt (pw_or (pt_not (pt_truth (pv 1) (by intro _; rfl))) (pw_or1 (pt_not (pt_val (pe_callB (cr_all rfl) (by rfl) T.n_all (by decide +kernel) (pa_cons (pe_lc (own := [("number", 2)]) (g := gName 2) (by rfl) sc_chain_sum.nd (pi_tup (pv 1)) (blkOk_by (own := [("number", 2)]) (N := ["differences", "numbers", "number", "steps", "step", "following"]) (sc := defScope s_chain_sum) (by decide +kernel)) (fun _ _ _ _ _ => pg_name (i := 2) sc_chain_sum.nd rfl (Or.inl rfl)) (fun _ _ _ _ _ => pts_nil) (fun _ _ _ _ _ => (pe_chain op_le op_lt pe_int (pv 2) (pe_callB (show CallR _ _ (rLenK K) from call_len_seq) (by rfl) T.n_len PySem.boot_len (pa_cons (pv 0) pa_nil))))) pa_nil)))))))
    (pss_one (ps_ret pe_non))
    pss_nil)
    (pss_cons (ps_setLc (i := 3) (own := [("number", 2)]) (g := gName 2) (by rfl) sc_chain_sum.nd rfl rfl (sw_true rfl rfl rfl (by decide +kernel)) (pi_tup (pv 1)) (blkOk_by (own := [("number", 2)]) (N := ["differences", "numbers", "number", "steps", "step", "following"]) (sc := defScope s_chain_sum) (by decide +kernel)) (fun _ _ _ _ _ => pg_name (i := 2) sc_chain_sum.nd rfl (Or.inl rfl)) (fun _ _ _ _ _ => pts_nil) (fun _ _ _ _ _ => (pe_ix (show IxR _ (rIxL K) from ix_list) (pv 0) (pv 2) (fun _ _ => rfl))))
    (pss_cons (ps_if (pt_not (pt_val (pe_callB (cr_all rfl) (by rfl) T.n_all (by decide +kernel) (pa_cons (pe_lc (own := [("step", 4), ("following", 5)]) (g := gTup K 2 (gCons (gName 4) (gCons (gName 5) gNil))) (by rfl) sc_chain_sum.nd (pi_zip (by rfl) T.n_zip (pa_cons (pv 3) (pa_cons (pe_slice sl_list (pv 3) (po_some pe_int) po_none) pa_nil))) (blkOk_by (own := [("step", 4), ("following", 5)]) (N := ["differences", "numbers", "number", "steps", "step", "following"]) (sc := defScope s_chain_sum) (by decide +kernel)) (fun _ _ _ _ _ => pg_tup rfl (pgs_cons (pg_name (i := 4) sc_chain_sum.nd rfl (Or.inl rfl)) (pgs_cons (pg_name (i := 5) sc_chain_sum.nd rfl (Or.inl rfl)) pgs_nil))) (fun _ _ _ _ _ => pts_nil) (fun _ _ _ _ _ => (pe_cmpR op_eq (pe_ix (show IxR _ (rIxT K) from ix_tup) (pv 4) pe_int (fun _ _ => rfl)) (pe_ix (show IxR _ (rIxT K) from ix_tup) (pv 5) pe_int (fun _ _ => rfl)) (nomark _)))) pa_nil))))
    (pss_one (ps_ret pe_non))
    pss_nil)
    (pss_one (ps_ret (pe_tup (pa_cons (pe_ix ix_tup (pe_ix ix_list (pv 3) pe_int (fun _ _ => rfl)) pe_int (fun _ _ => rfl)) (pa_cons (pe_ix ix_tup (pe_ix ix_list (pv 3) (pe_un un_neg pe_int) (fun _ _ => rfl)) pe_int (fun _ _ => rfl)) (pa_cons (pe_callB (cr_sum rfl) (by rfl) T.n_sum (by decide +kernel) (pa_cons (pe_lc (own := [("step", 4)]) (g := gName 4) (by rfl) sc_chain_sum.nd (pi_list (pv 3)) (blkOk_by (own := [("step", 4)]) (N := ["differences", "numbers", "number", "steps", "step", "following"]) (sc := defScope s_chain_sum) (by decide +kernel)) (fun _ _ _ _ _ => pg_name (i := 4) sc_chain_sum.nd rfl (Or.inl rfl)) (fun _ _ _ _ _ => pts_nil) (fun _ _ _ _ _ => (pe_ix (show IxR _ (rIxT K) from ix_tup) (pv 4) pe_int (fun _ _ => rfl)))) pa_nil)) pa_nil))))))))), ?_⟩
      have hsame : ∀ {H' : Hp}, Same H H' → SqT K H' b (ns.map V.int) := fun s => sqt_same s hb
      -- not numbers
      refine ⟨_, rfl, _, .inr (.inl ⟨_, hb, rfl⟩), ite2 (fun e => ?_) (fun e => ?_)⟩
      · refine q _ _ (Same.refl _) ?_
        have : ns.isEmpty = true := by
          cases ns with
          | nil => rfl
          | cons _ _ => cases e
        unfold chainOf
        rw [this]
        exact .non
      have hne : ns.isEmpty = false := by
        cases ns with
        | nil => exact absurd rfl e
        | cons _ _ => rfl
      clear e
      -- not all in range
      refine ⟨_, rfl, b, rfl, ⟨_, hb⟩, fun D hD => ?_⟩
      refine lc_data (K := K) (walk_tup (K := K) (a := b) (xs := ns.map V.int)) hD (fun i => .bool (inR ds.length (ns.getD i 0))) (by omega) (fun _ _ => rfl) (fun H s => hsame s) (fun i x H1 H2 Q' hi s1 y q' => ?_) (fun H1 ys s1 e1 ha1 => ?_)
      · obtain ⟨rfl, hx⟩ := y
        have hi' : i < ns.length := by omega
        rw [ints_get (List.getElem?_eq_getElem hi')] at hx
        cases hx
        have eg : ns.getD i 0 = ns[i] := by rw [List.getD_eq_getElem?_getD, List.getElem?_eq_getElem hi']; rfl
        refine ⟨rfl, _, rfl, _, _, rfl, rfl, _, rfl, ite2 (fun e => ?_) (fun e => ?_)⟩
        · refine ⟨_, rfl, a, _, rfl, .inl (s1.seq hxs), _, _, rfl, rfl, q' _ _ (Same.refl _) ?_⟩
          rw [eg]
          unfold inR
          rw [e, hxl]
          exact .bl _
        · refine q' _ _ (Same.refl _) ?_
          rw [eg]
          unfold inR
          rw [Bool.eq_false_iff.mpr e]
          exact .bl _
      have er : (List.range (ns.map V.int).length).map (fun i => PyData.bool (inR ds.length (ns.getD i 0))) = (ns.map (inR ds.length)).map PyData.bool := by
        rw [hml, List.map_map]
        refine range_map ns _ _ fun i x h => ?_
        rw [List.getD_eq_getElem?_getD, h]
        rfl
      rw [er] at ha1
      have e2 := dpa_bls' ha1
      subst e2
      refine ⟨D, _, rfl, SqL.of e1, _, rfl, ?_⟩
      rw [all_range]
      refine ite2 (fun e => ?_) (fun e => ?_)
      · refine q _ _ s1 ?_
        unfold chainOf
        rw [e, Bool.or_true]
        exact .non
      have hin : ns.all (inR ds.length) = true := by
        cases h : ns.all (inR ds.length) with
        | true => rfl
        | false =>
          rw [h] at e
          exact absurd rfl e
      clear e
      have hin' : ∀ i (hi : i < ns.length), ∃ j : Nat, ns[i] = j ∧ j < ds.length := fun i hi => inR_nat (List.all_eq_true.mp hin _ (List.getElem_mem hi))
      -- steps
      refine ⟨_, rfl, b, rfl, ⟨_, hsame s1⟩, fun D2 hD2 => ?_⟩
      refine lc_data (K := K) (walk_tup (K := K) (a := b) (xs := ns.map V.int)) hD2 (fun i => e3 (tri ds (ns.getD i 0))) (by omega) (fun _ _ => rfl) (fun H s => hsame (s1.trans s)) (fun i x H2 H3 Q' hi s2 y q' => ?_) (fun H2 ys s2 e2 ha2 => ?_)
      · obtain ⟨rfl, hx⟩ := y
        have hi' : i < ns.length := by omega
        rw [ints_get (List.getElem?_eq_getElem hi')] at hx
        cases hx
        have eg : ns.getD i 0 = ns[i] := by rw [List.getD_eq_getElem?_getD, List.getElem?_eq_getElem hi']; rfl
        obtain ⟨j, ej, hj⟩ := hin' i hi'
        obtain ⟨t, g1, g2⟩ := lst_at hxa hj
        refine ⟨rfl, _, rfl, _, rfl, a, _, _, _, rfl, rfl, (s1.trans s2).seq hxs, at_of ej g1, q' _ _ (Same.refl _) ?_⟩
        rw [eg, tri_get ej hj]
        exact .tup (sqt_same (s1.trans s2) g2) (.cons (.int _) (.cons (.int _) (.cons (.int _) .nil)))
      have er2 : (List.range (ns.map V.int).length).map (fun i => e3 (tri ds (ns.getD i 0))) = (ns.map (tri ds)).map e3 := by
        rw [hml, List.map_map]
        refine range_map ns _ _ fun i x h => ?_
        rw [List.getD_eq_getElem?_getD, h]
        rfl
      rw [er2] at ha2
      generalize hst : ns.map (tri ds) = st at ha2
      have hstl : st.length = ns.length := by rw [← hst, List.length_map]
      have hyl : ys.length = st.length := by rw [dpa_len ha2, List.length_map]
      have hpos : 0 < ns.length := by
        cases ns with
        | nil => cases hne
        | cons _ _ => exact Nat.succ_pos _
      have ha2' : ∀ {H' : Hp}, Same H2 H' → ∀ i (hi : i < st.length), ∃ t, ys[i]? = some (.ref t) ∧ SqT K H' t [.int st[i].1, .int st[i].2.1, .int st[i].2.2] := fun s i hi => by
        obtain ⟨t, g1, g2⟩ := lst_at ha2 hi
        exact ⟨t, g1, sqt_same s g2⟩
      -- steps[1:]
      refine ⟨_, rfl, _, rfl, _, rfl, D2, _, rfl, SqL.of e2, fun p np => ?_⟩
      have s3 := same_new (o := .lst (cutV ys (some 1) none)) np
      have e3' := s3 _ _ e2
      generalize hH3 : upd H2 p (.lst (cutV ys (some 1) none)) = H3 at s3 e3'
      have ep : H3 p = some (.lst (ys.drop 1)) := by
        rw [← hH3, upd_same]
        have : cutV ys (some 1) none = ys.drop 1 := cutv_from ys 1
        rw [this]
      refine ⟨D2, p, _, _, rfl, SqL.of e3', SqL.of ep, fun D4 hD4 => ?_⟩
      refine lc_data (K := K) (walk_zip (K := K) (a := D2) (b := p) (xs := ys) (ys := ys.drop 1) (n := st.length - 1) (by rw [List.length_drop]; omega)) hD4 (fun i => .bool (decide ((st.getD i t0).2.1 = (st.getD (i + 1) t0).1))) (by omega) (fun _ _ => rfl) (fun H s => ⟨s.seq (SqL.of e3'), s.seq (SqL.of ep)⟩) (fun i x H4 H5 Q' hi s4 y q' => ?_) (fun H4 zs s4 e4 ha4 => ?_)
      · obtain ⟨t, x1, x2, rfl, ht, rfl, g1, g2⟩ := y
        have s5 := same_new (o := .tup [x1, x2]) ht
        obtain ⟨ta, f1, f2⟩ := ha2' (s3.trans (s4.trans s5)) i (by omega)
        obtain ⟨tb, f3, f4⟩ := ha2' (s3.trans (s4.trans s5)) (i + 1) (by omega)
        have g2' : ys[i + 1]? = some x2 := by
          rw [show i + 1 = 1 + i by omega, ← List.getElem?_drop]
          exact g2
        have g1' : ys[i]? = some x1 := g1
        clear g1 g2
        rw [f3] at g2'
        rw [f1] at g1'
        cases g1'
        cases g2'
        refine ⟨t, _, rfl, SqT.of upd_same, rfl, _, _, rfl, _, _, rfl, rfl, rfl, _, rfl, ta, _, _, _, rfl, rfl, f2, atI_nat (j := 1) rfl, _, rfl, tb, _, _, _, rfl, rfl, f4, atI_nat (j := 0) rfl, rfl, q' _ _ s5 ?_⟩
        rw [List.getD_eq_getElem?_getD, List.getD_eq_getElem?_getD, List.getElem?_eq_getElem (by omega), List.getElem?_eq_getElem (show i + 1 < st.length by omega), int_dec]
        exact (.bl _)
      have e4' := dpa_bls' (ns := (List.range (st.length - 1)).map fun i => decide ((st.getD i t0).2.1 = (st.getD (i + 1) t0).1)) (by rw [List.map_map]; exact ha4)
      subst e4'
      refine ⟨D4, _, rfl, SqL.of e4, _, rfl, ?_⟩
      have s4' : Same H H4 := s1.trans (s2.trans (s3.trans s4))
      rw [all_range]
      refine ite2 (fun e => ?_) (fun e => ?_)
      · refine q _ _ s4' ?_
        unfold chainOf
        rw [hne, hin, hst]
        have e' : lnk st = false := by
          unfold lnk
          cases h : (List.range (st.length - 1)).all fun i => decide ((st.getD i t0).2.1 = (st.getD (i + 1) t0).1) with
          | false => rfl
          | true =>
            rw [h] at e
            cases e
        rw [e']
        exact .non
      have hlk : lnk st = true := by
        unfold lnk
        cases h : (List.range (st.length - 1)).all fun i => decide ((st.getD i t0).2.1 = (st.getD (i + 1) t0).1) with
        | true => rfl
        | false =>
          rw [h] at e
          exact absurd rfl e
      clear e
      -- the three parts
      have sB : Same H2 H4 := s3.trans s4
      have e2B := sB _ _ e2
      obtain ⟨ta, f1, f2⟩ := ha2' sB 0 (by omega)
      obtain ⟨tb, f3, f4⟩ := ha2' sB (st.length - 1) (by omega)
      refine ⟨_, rfl, D2, _, _, _, rfl, rfl, SqL.of e2B, atI_nat (j := 0) f1, ta, _, _, _, rfl, rfl, f2, atI_nat (j := 0) rfl, ?_⟩
      refine ⟨_, rfl, _, rfl, D2, _, _, _, rfl, rfl, SqL.of e2B, at_neg1 (by rw [hyl]; exact f3), tb, _, _, _, rfl, rfl, f4, atI_nat (j := 1) rfl, ?_⟩
      refine ⟨_, rfl, D2, rfl, ⟨_, SqL.of e2B⟩, fun D6 hD6 => ?_⟩
      refine lc_data (K := K) (walk_list (K := K) (a := D2) (xs := ys)) hD6 (fun i => .int (st.getD i t0).2.2) (by omega) (fun _ _ => rfl) (fun H s => s.seq (SqL.of e2B)) (fun i x H5 H6 Q' hi s6 y q' => ?_) (fun H6 zs s6 e6 ha6 => ?_)
      · obtain ⟨rfl, hx⟩ := y
        obtain ⟨t, x1, x2⟩ := ha2' (sB.trans s6) i (by omega)
        rw [x1] at hx
        cases hx
        refine ⟨rfl, _, rfl, t, _, _, _, rfl, rfl, x2, atI_nat (j := 2) rfl, q' _ _ (Same.refl _) ?_⟩
        rw [List.getD_eq_getElem?_getD, List.getElem?_eq_getElem (by omega)]
        exact (.int _)
      have er6 : (List.range ys.length).map (fun i => PyData.int (st.getD i t0).2.2) = (st.map fun t => t.2.2).map PyData.int := by
        rw [hyl, List.map_map]
        refine range_map st _ _ fun i x h => ?_
        rw [List.getD_eq_getElem?_getD, h]
        rfl
      rw [er6] at ha6
      have e7 := dpa_ints' ha6
      subst e7
      refine ⟨D6, _, rfl, SqL.of e6, by show 3 ≤ sizeLine; decide, fun z hz => ?_⟩
      refine q _ _ (s4'.trans (s6.trans (same_new hz))) ?_
      unfold chainOf
      rw [hne, hin, hst, hlk]
      have g0 : st.getD 0 t0 = st[0]'(by omega) := by rw [List.getD_eq_getElem?_getD, List.getElem?_eq_getElem (by omega)]; rfl
      have g1 : st.getD (ns.length - 1) t0 = st[st.length - 1]'(by omega) := by rw [← hstl, List.getD_eq_getElem?_getD, List.getElem?_eq_getElem (by omega)]; rfl
      rw [g0, g1]
      exact e3_mk upd_same
end
end SW

namespace SW
open PySem PySem.Spec PyProof.Rows L2
abbrev s_is_ring : Stmt := topS 2
theorem sc_is_ring : FnScope ["differences", "numbers", "chain"] ["differences", "numbers"] (defScope s_is_ring) := ⟨rfl, rfl, rfl, by decide +kernel, rfl, by decide +kernel, by decide +kernel⟩

abbrev s_keeps_all : Stmt := topS 3
theorem sc_keeps_all : FnScope ["differences", "values", "worth", "u", "v", "c"] ["differences", "values"] (defScope s_keeps_all) := ⟨rfl, rfl, rfl, by decide +kernel, rfl, by decide +kernel, by decide +kernel⟩

abbrev s_l_kept : Stmt := topS 9
theorem sc_l_kept : FnScope ["differences", "values", "level", "u", "v", "c"] ["differences", "values"] (defScope s_l_kept) := ⟨rfl, rfl, rfl, by decide +kernel, rfl, by decide +kernel, by decide +kernel⟩

section
variable {P : Program} {w : World} {K : PySem.W.Frag} {mg : PySem.Str → Option Value} {base : Heap}
def spRing (K : PySem.W.Frag) : Sp := fun vs H Q _ => ∃ (a b : Addr) (ds : List Tri) (ns : List Int), vs = [.ref a, .ref b] ∧ Dp K H (.ref a) (.list (ds.map e3)) ∧ Seq K H b ns ∧ ds.length ≤ 1000 ∧ ns.length ≤ 1000 ∧ ∀ H', Same H H' → Q (.bl (ringOf (chainOf ds ns))) H'
theorem ok_is_ring (T : TxB mg) (D_is_ring : Df K mg "is_ring" s_is_ring ["differences", "numbers"]) (D_chain_sum : Df K mg "chain_sum" s_chain_sum ["differences", "numbers"]) (G_chain_sum : FnOk P w K mg base CX0 1 D_chain_sum.f D_chain_sum.fd ["differences", "numbers"] (spChain K)) : FnOk P w K mg base CX0 2 D_is_ring.f D_is_ring.fd ["differences", "numbers"] (spRing K) := by
  refine D_is_ring.F.ok sc_is_ring (fun vs H Q E h => ?_) (fun cdv A outer s H vs Q E hr h => ?_)
  · obtain ⟨a, b, ds, ns, rfl, _⟩ := h
    rfl
  · obtain ⟨a, b, ds, ns, rfl, ha, hb, hdl, hnl, q⟩ := h
    refine ⟨_, (pss_cons (ps_set (i := 2) sc_is_ring.nd rfl (.inl rfl) (pe_call G_chain_sum (hr.mono (by decide)) (by rfl) D_chain_sum.g D_chain_sum.F.kp D_chain_sum.b .nil pass0 (pa_cons (pv 0) (pa_cons (pv 1) pa_nil))))
    (pss_one (ps_ret (pe_and (pe_cmpR op_notN (pv 2) pe_non (nomark _)) (pe_and (pe_cmpR op_eq (pe_ix ix_tup (pv 2) pe_int (fun _ _ => rfl)) (pe_ix ix_tup (pv 2) pe_int (fun _ _ => rfl)) (nomark _)) (pe_one (pe_cmpR op_lt (pe_ix ix_tup (pv 2) pe_int (fun _ _ => rfl)) pe_int (nomark _)))))))), ?_⟩
    refine ⟨_, rfl, _, rfl, a, b, ds, ns, rfl, ha, hb, hdl, hnl, fun r H1 s1 hr1 => ?_⟩
    cases hc : chainOf ds ns with
    | none =>
      rw [hc] at hr1 q
      cases hr1
      exact ⟨_, rfl, rfl, _, rfl, iteF (q _ s1)⟩
    | some t =>
      rw [hc] at hr1 q
      obtain ⟨p, rfl, h3⟩ := e3_inv hr1
      refine ⟨_, rfl, rfl, _, rfl, iteT ⟨_, rfl, p, _, _, _, rfl, rfl, h3, atI_nat (j := 0) rfl, _, rfl, p, _, _, _, rfl, rfl, h3, atI_nat (j := 1) rfl, rfl, _, rfl, ite2 (fun e => ?_) (fun e => ?_)⟩⟩
      · refine ⟨_, rfl, p, _, _, _, rfl, rfl, h3, atI_nat (j := 2) rfl, _, _, rfl, rfl, ?_⟩
        have this : Q (.bl (decide (t.1 = t.2.1) && decide (t.2.2 < 0))) H1 := q _ s1
        rw [int_dec] at e
        rw [e] at this
        exact this
      · have this : Q (.bl (decide (t.1 = t.2.1) && decide (t.2.2 < 0))) H1 := q _ s1
        rw [int_dec] at e
        rw [Bool.eq_false_iff.mpr e] at this
        exact this
def wAt (vals : List Int) (z : Int) : Int := (0 :: vals).getD z.toNat 0
def keptOf (ds : List Tri) (vals : List Int) : Bool := ds.all fun d => decide (wAt vals d.1 - wAt vals d.2.1 ≤ d.2.2)
def spKeeps (K : PySem.W.Frag) : Sp := fun vs H Q _ => ∃ (a b : Addr) (ds : List Tri) (ns : List Int), vs = [.ref a, .ref b] ∧ Dp K H (.ref a) (.list (ds.map e3)) ∧ H b = some (.lst (ns.map V.int)) ∧ ds.length ≤ 1000 ∧ ns.length ≤ 1000 ∧ (∀ d, d ∈ ds → 0 ≤ d.1 ∧ d.1 ≤ ns.length ∧ 0 ≤ d.2.1 ∧ d.2.1 ≤ ns.length) ∧ ∀ H', Same H H' → Q (.bl (keptOf ds ns)) H'
theorem ok_keeps_all (T : TxB mg) (D_keeps_all : Df K mg "keeps_all" s_keeps_all ["differences", "values"]) : FnOk P w K mg base CX0 1 D_keeps_all.f D_keeps_all.fd ["differences", "values"] (spKeeps K) := by
  refine D_keeps_all.F.ok sc_keeps_all (fun vs H Q E h => ?_) (fun cdv A outer s H vs Q E hr h => ?_)
  · obtain ⟨a, b, ds, ns, rfl, _⟩ := h
    rfl
  · obtain ⟨a, b, ds, ns, rfl, ha, hb, hdl, hnl, hr3, q⟩ := h
    obtain ⟨xs, hxs, hxa⟩ := lst_of ha
    have hxl : xs.length = ds.length := by rw [dpa_len hxa, List.length_map]
    refine ⟨_, (pss_cons (ps_set (i := 2) sc_keeps_all.nd rfl (.inr rfl) (pe_lst (pa_cons pe_int (StX.pa_star (pv 1) pa_nil))))
    (pss_one (ps_ret (pe_callB (cr_all rfl) (by rfl) T.n_all (by decide +kernel) (pa_cons (pe_lc (own := [("u", 3), ("v", 4), ("c", 5)]) (g := gTup K 3 (gCons (gName 3) (gCons (gName 4) (gCons (gName 5) gNil)))) (by rfl) sc_keeps_all.nd (pi_list (pv 0)) (blkOk_by (own := [("u", 3), ("v", 4), ("c", 5)]) (N := ["differences", "values", "worth", "u", "v", "c"]) (sc := defScope s_keeps_all) (by decide +kernel)) (fun _ _ _ _ _ => pg_tup rfl (pgs_cons (pg_name (i := 3) sc_keeps_all.nd rfl (Or.inl rfl)) (pgs_cons (pg_name (i := 4) sc_keeps_all.nd rfl (Or.inl rfl)) (pgs_cons (pg_name (i := 5) sc_keeps_all.nd rfl (Or.inl rfl)) pgs_nil)))) (fun _ _ _ _ _ => pts_nil) (fun _ _ _ _ _ => (pe_cmpR op_le (pe_op op_sub (pe_ix (show IxR _ (rIxL K) from ix_list) (pv 2) (pv 3) (fun _ _ => rfl)) (pe_ix (show IxR _ (rIxL K) from ix_list) (pv 2) (pv 4) (fun _ _ => rfl))) (pv 5) (nomark _)))) pa_nil))))), ?_⟩
    refine ⟨_, rfl, b, _, rfl, .inr (SqL.of hb), ?_⟩
    refine ⟨by rw [List.append_nil, List.length_cons, List.length_map]; exact sz5 (by omega), fun p np => ?_⟩
    rw [List.append_nil, show V.int 0 :: ns.map V.int = (0 :: ns).map V.int from rfl]
    have s1 := same_new (o := .lst ((0 :: ns).map V.int)) np
    refine ⟨_, rfl, a, rfl, ⟨_, s1.seq hxs⟩, fun D hD => ?_⟩
    refine lc_data (K := K) (walk_list (K := K) (a := a) (xs := xs)) hD (fun i => .bool (decide (wAt ns (ds.getD i t0).1 - wAt ns (ds.getD i t0).2.1 ≤ (ds.getD i t0).2.2))) (by omega) (fun _ _ => rfl) (fun H s => (s1.trans s).seq hxs) (fun i x H1 H2 Q' hi s2 y q' => ?_) (fun H1 ys s2 e1 ha1 => ?_)
    · obtain ⟨rfl, hx⟩ := y
      have hi' : i < ds.length := by omega
      obtain ⟨t, g1, g2⟩ := lst_at hxa hi'
      rw [g1] at hx
      cases hx
      obtain ⟨u0, u1, v0, v1⟩ := hr3 _ (List.getElem_mem hi')
      have eg : ds.getD i t0 = ds[i] := by rw [List.getD_eq_getElem?_getD, List.getElem?_eq_getElem hi']; rfl
      have wl : SqL K _ p ((0 :: ns).map V.int) := s2.seq (SqL.of upd_same)
      have wat : ∀ z : Int, 0 ≤ z → z ≤ ns.length → atI ((0 :: ns).map V.int) z = some (.int (wAt ns z)) := fun z h0 h1 => by
        obtain ⟨j, rfl⟩ : ∃ j : Nat, z = j := ⟨z.toNat, by omega⟩
        have hj : j < (0 :: ns).length := by rw [List.length_cons]; omega
        rw [ints_at hj]
        unfold wAt
        rw [Int.toNat_natCast, List.getD_eq_getElem?_getD, List.getElem?_eq_getElem hj]
        rfl
      refine ⟨t, _, rfl, sqt_same (s1.trans s2) g2, rfl, _, _, rfl, _, _, rfl, _, _, rfl, rfl, rfl, _, rfl, _, rfl, p, _, _, _, rfl, rfl, wl, wat _ u0 u1, ?_⟩
      refine ⟨_, rfl, _, rfl, p, _, _, _, rfl, rfl, wl, wat _ v0 v1, _, _, rfl, rfl, _, rfl, _, _, rfl, rfl, q' _ _ (Same.refl _) ?_⟩
      rw [eg]
      exact .bl _
    have er : (List.range xs.length).map (fun i => PyData.bool (decide (wAt ns (ds.getD i t0).1 - wAt ns (ds.getD i t0).2.1 ≤ (ds.getD i t0).2.2))) = (ds.map fun d => decide (wAt ns d.1 - wAt ns d.2.1 ≤ d.2.2)).map PyData.bool := by
      rw [hxl, List.map_map]
      refine range_map ds _ _ fun i x h => ?_
      rw [List.getD_eq_getElem?_getD, h]
      rfl
    rw [er] at ha1
    have e2 := dpa_bls' ha1
    subst e2
    refine ⟨D, _, rfl, SqL.of e1, ?_⟩
    rw [all_range]
    exact q _ (s1.trans s2)
theorem ok_l_kept (T : TxB mg) (D_l_kept : Df K mg "_law_kept" s_l_kept ["differences", "values"]) : FnOk P w K mg base CX0 1 D_l_kept.f D_l_kept.fd ["differences", "values"] (spKeeps K) := by
  refine D_l_kept.F.ok sc_l_kept (fun vs H Q E h => ?_) (fun cdv A outer s H vs Q E hr h => ?_)
  · obtain ⟨a, b, ds, ns, rfl, _⟩ := h
    rfl
  · obtain ⟨a, b, ds, ns, rfl, ha, hb, hdl, hnl, hr3, q⟩ := h
    obtain ⟨xs, hxs, hxa⟩ := lst_of ha
    have hxl : xs.length = ds.length := by rw [dpa_len hxa, List.length_map]
    refine ⟨_, (pss_cons (ps_set (i := 2) sc_l_kept.nd rfl (.inr rfl) (pe_op op_cat (pe_lst (pa_cons pe_int pa_nil)) (pv 1)))
    (pss_one (ps_ret (pe_callB (cr_all rfl) (by rfl) T.n_all (by decide +kernel) (pa_cons (pe_lc (own := [("u", 3), ("v", 4), ("c", 5)]) (g := gTup K 3 (gCons (gName 3) (gCons (gName 4) (gCons (gName 5) gNil)))) (by rfl) sc_l_kept.nd (pi_list (pv 0)) (blkOk_by (own := [("u", 3), ("v", 4), ("c", 5)]) (N := ["differences", "values", "level", "u", "v", "c"]) (sc := defScope s_l_kept) (by decide +kernel)) (fun _ _ _ _ _ => pg_tup rfl (pgs_cons (pg_name (i := 3) sc_l_kept.nd rfl (Or.inl rfl)) (pgs_cons (pg_name (i := 4) sc_l_kept.nd rfl (Or.inl rfl)) (pgs_cons (pg_name (i := 5) sc_l_kept.nd rfl (Or.inl rfl)) pgs_nil)))) (fun _ _ _ _ _ => pts_nil) (fun _ _ _ _ _ => (pe_cmpR op_le (pe_op op_sub (pe_ix (show IxR _ (rIxL K) from ix_list) (pv 2) (pv 3) (fun _ _ => rfl)) (pe_ix (show IxR _ (rIxL K) from ix_list) (pv 2) (pv 4) (fun _ _ => rfl))) (pv 5) (nomark _)))) pa_nil))))), ?_⟩
    refine ⟨by show 1 ≤ sizeLine; decide, fun p0 np0 => ?_⟩
    have s0 := same_new (o := .lst [V.int 0]) np0
    refine ⟨_, rfl, _, _, _, _, rfl, rfl, upd_same, s0 _ _ hb, by rw [List.length_map]; exact sz5 (by show 1 + _ ≤ _; omega), fun p np => ?_⟩
    rw [show [V.int 0] ++ ns.map V.int = (0 :: ns).map V.int from rfl]
    have s1 := s0.trans (same_new (o := .lst ((0 :: ns).map V.int)) np)
    refine ⟨_, rfl, a, rfl, ⟨_, s1.seq hxs⟩, fun D hD => ?_⟩
    refine lc_data (K := K) (walk_list (K := K) (a := a) (xs := xs)) hD (fun i => .bool (decide (wAt ns (ds.getD i t0).1 - wAt ns (ds.getD i t0).2.1 ≤ (ds.getD i t0).2.2))) (by omega) (fun _ _ => rfl) (fun H s => (s1.trans s).seq hxs) (fun i x H1 H2 Q' hi s2 y q' => ?_) (fun H1 ys s2 e1 ha1 => ?_)
    · obtain ⟨rfl, hx⟩ := y
      have hi' : i < ds.length := by omega
      obtain ⟨t, g1, g2⟩ := lst_at hxa hi'
      rw [g1] at hx
      cases hx
      obtain ⟨u0, u1, v0, v1⟩ := hr3 _ (List.getElem_mem hi')
      have eg : ds.getD i t0 = ds[i] := by rw [List.getD_eq_getElem?_getD, List.getElem?_eq_getElem hi']; rfl
      have wl : SqL K _ p ((0 :: ns).map V.int) := s2.seq (SqL.of upd_same)
      have wat : ∀ z : Int, 0 ≤ z → z ≤ ns.length → atI ((0 :: ns).map V.int) z = some (.int (wAt ns z)) := fun z h0 h1 => by
        obtain ⟨j, rfl⟩ : ∃ j : Nat, z = j := ⟨z.toNat, by omega⟩
        have hj : j < (0 :: ns).length := by rw [List.length_cons]; omega
        rw [ints_at hj]
        unfold wAt
        rw [Int.toNat_natCast, List.getD_eq_getElem?_getD, List.getElem?_eq_getElem hj]
        rfl
      refine ⟨t, _, rfl, sqt_same (s1.trans s2) g2, rfl, _, _, rfl, _, _, rfl, _, _, rfl, rfl, rfl, _, rfl, _, rfl, p, _, _, _, rfl, rfl, wl, wat _ u0 u1, ?_⟩
      refine ⟨_, rfl, _, rfl, p, _, _, _, rfl, rfl, wl, wat _ v0 v1, _, _, rfl, rfl, _, rfl, _, _, rfl, rfl, q' _ _ (Same.refl _) ?_⟩
      rw [eg]
      exact .bl _
    have er : (List.range xs.length).map (fun i => PyData.bool (decide (wAt ns (ds.getD i t0).1 - wAt ns (ds.getD i t0).2.1 ≤ (ds.getD i t0).2.2))) = (ds.map fun d => decide (wAt ns d.1 - wAt ns d.2.1 ≤ d.2.2)).map PyData.bool := by
      rw [hxl, List.map_map]
      refine range_map ds _ _ fun i x h => ?_
      rw [List.getD_eq_getElem?_getD, h]
      rfl
    rw [er] at ha1
    have e2 := dpa_bls' ha1
    subst e2
    refine ⟨D, _, rfl, SqL.of e1, ?_⟩
    rw [all_range]
    exact q _ (s1.trans s2)
end
end SW

namespace SW
open PySem PySem.Spec PyProof.Rows L2
abbrev s_l_is_integer : Stmt := topS 7
theorem sc_l_is_integer : FnScope ["value"] ["value"] (defScope s_l_is_integer) := ⟨rfl, rfl, rfl, by decide +kernel, rfl, by decide +kernel, by decide +kernel⟩

abbrev s_l_same : Stmt := topS 15
theorem sc_l_same : FnScope ["actual", "expected"] ["actual", "expected"] (defScope s_l_same) := ⟨rfl, rfl, rfl, by decide +kernel, rfl, by decide +kernel, by decide +kernel⟩

abbrev s_l_tells : Stmt := topS 17
theorem sc_l_tells : FnScope ["value", "expected"] ["value", "expected"] (defScope s_l_tells) := ⟨rfl, rfl, rfl, by decide +kernel, rfl, by decide +kernel, by decide +kernel⟩

abbrev s_l_is_triple : Stmt := topS 16
theorem sc_l_is_triple : FnScope ["actual", "expected", "k"] ["actual", "expected"] (defScope s_l_is_triple) := ⟨rfl, rfl, rfl, by decide +kernel, rfl, by decide +kernel, by decide +kernel⟩

section
variable {P : Program} {w : World} {K : PySem.W.Frag} {mg : PySem.Str → Option Value} {base : Heap}
theorem kit_int {K : PySem.W.Frag} : PySem.W.kitOne K (.type "int") (.type "int") = some true := kit_ty (by decide +kernel)
theorem kit_intb {K : PySem.W.Frag} : PySem.W.kitOne K (.type "int") (.type "bool") = some false := kit_ty (by decide +kernel)
theorem kit_boolb {K : PySem.W.Frag} : PySem.W.kitOne K (.type "bool") (.type "bool") = some true := kit_ty (by decide +kernel)
theorem kit_tup {K : PySem.W.Frag} : PySem.W.kitOne K (.type "tuple") (.type "tuple") = some true := kit_ty (by decide +kernel)
theorem sqt_ty {K : PySem.W.Frag} {H : Hp} {a : Addr} {xs : List V} (h : SqT K H a xs) : TyX K H (.ref a) (.type "tuple") := by
  rcases h with (h | ⟨o, h⟩) | ⟨o, its, n, h1, h2, _⟩
  · exact .base (.tup h)
  · exact .fTuple h
  · exact .kTuple h1 h2
def spIsInt : Sp := fun vs H Q _ => ∃ z : Int, vs = [.int z] ∧ Q (.bl true) H
theorem ok_l_is_integer (T : TxB mg) (D_l_is_integer : Df K mg "_law_is_integer" s_l_is_integer ["value"]) : FnOk P w K mg base CX0 1 D_l_is_integer.f D_l_is_integer.fd ["value"] spIsInt := by
  refine D_l_is_integer.F.ok sc_l_is_integer (fun vs H Q E h => ?_) (fun cdv A outer s H vs Q E hr h => ?_)
  · obtain ⟨z, rfl, _⟩ := h
    rfl
  · obtain ⟨z, rfl, q⟩ := h
    refine ⟨_, (pss_one (ps_ret (pe_and (pe_callB call_isi (by rfl) T.n_isinstance (by decide +kernel) (pa_cons (pv 0) (pa_cons (pe_bltn (v := .ty "int") (u := .type "int") (by rfl) T.n_int (by decide +kernel) rfl) pa_nil))) (pe_one (pe_not (pe_callB call_isi (by rfl) T.n_isinstance (by decide +kernel) (pa_cons (pv 0) (pa_cons (pe_bltn (v := .ty "bool") (u := .type "bool") (by rfl) T.n_bool (by decide +kernel) rfl) pa_nil)))))))), ?_⟩
    exact ⟨_, rfl, _, _, _, _, true, rfl, .ty "int", .base (.int _), kit_int, _, rfl, iteT ⟨_, rfl, _, _, _, _, false, rfl, .ty "bool", .base (.int _), kit_intb, _, rfl, q⟩⟩
def spSameI : Sp := fun vs H Q _ => ∃ z : Int, vs = [.int z, .int z] ∧ Q (.bl true) H
theorem ok_l_same (T : TxB mg) (D_l_same : Df K mg "_law_same" s_l_same ["actual", "expected"]) (D_l_is_integer : Df K mg "_law_is_integer" s_l_is_integer ["value"]) (G_l_is_integer : FnOk P w K mg base CX0 1 D_l_is_integer.f D_l_is_integer.fd ["value"] spIsInt) : FnOk P w K mg base CX0 2 D_l_same.f D_l_same.fd ["actual", "expected"] spSameI := by
  refine D_l_same.F.ok sc_l_same (fun vs H Q E h => ?_) (fun cdv A outer s H vs Q E hr h => ?_)
  · obtain ⟨z, rfl, _⟩ := h
    rfl
  · obtain ⟨z, rfl, q⟩ := h
    refine ⟨_, (pss_one (ps_ret (pe_and (pe_call G_l_is_integer (hr.mono (by decide)) (by rfl) D_l_is_integer.g D_l_is_integer.F.kp D_l_is_integer.b .nil pass0 (pa_cons (pv 0) pa_nil)) (pe_one (pe_cmpR op_eq (pv 0) (pv 1) (nomark _)))))), ?_⟩
    refine ⟨_, rfl, z, rfl, _, rfl, iteT ⟨_, rfl, _, rfl, rfl, ?_⟩⟩
    rw [decide_eq_true rfl]
    exact q
def spTells : Sp := fun vs H Q _ => ∃ z : Bool, vs = [.bl z, .bl z] ∧ Q (.bl true) H
theorem ok_l_tells (T : TxB mg) (D_l_tells : Df K mg "_law_tells" s_l_tells ["value", "expected"]) : FnOk P w K mg base CX0 1 D_l_tells.f D_l_tells.fd ["value", "expected"] spTells := by
  refine D_l_tells.F.ok sc_l_tells (fun vs H Q E h => ?_) (fun cdv A outer s H vs Q E hr h => ?_)
  · obtain ⟨z, rfl, _⟩ := h
    rfl
  · obtain ⟨z, rfl, q⟩ := h
    refine ⟨_, (pss_one (ps_ret (pe_and (pe_callB call_isi (by rfl) T.n_isinstance (by decide +kernel) (pa_cons (pv 0) (pa_cons (pe_bltn (v := .ty "bool") (u := .type "bool") (by rfl) T.n_bool (by decide +kernel) rfl) pa_nil))) (pe_one (pe_cmpR op_eq (pv 0) (pv 1) (nomark _)))))), ?_⟩
    refine ⟨_, rfl, _, _, _, _, true, rfl, .ty "bool", .base (.bl _), kit_boolb, _, rfl, iteT ⟨_, rfl, _, rfl, rfl, ?_⟩⟩
    rw [decide_eq_true rfl]
    exact q
def spTriple (K : PySem.W.Frag) : Sp := fun vs H Q _ => ∃ (u v : V) (c : Option Tri), vs = [u, v] ∧ Dp K H u (optD c) ∧ Dp K H v (optD c) ∧ ∀ H', Same H H' → Q (.bl true) H'
theorem ok_l_is_triple (T : TxB mg) (D_l_is_triple : Df K mg "_law_is_triple" s_l_is_triple ["actual", "expected"]) (D_l_same : Df K mg "_law_same" s_l_same ["actual", "expected"]) (G_l_same : FnOk P w K mg base CX0 2 D_l_same.f D_l_same.fd ["actual", "expected"] spSameI) : FnOk P w K mg base CX0 3 D_l_is_triple.f D_l_is_triple.fd ["actual", "expected"] (spTriple K) := by
  refine D_l_is_triple.F.ok sc_l_is_triple (fun vs H Q E h => ?_) (fun cdv A outer s H vs Q E hr h => ?_)
  · obtain ⟨u, v, c, rfl, _⟩ := h
    rfl
  · obtain ⟨u, v, c, rfl, hu, hv, q⟩ := h
    refine ⟨_, (pss_cons (ps_if (pt_cmpR op_isN (pv 1) pe_non (nomark _))
    (pss_one (ps_ret (pe_cmpR op_isN (pv 0) pe_non (nomark _))))
    pss_nil)
    (pss_cons (ps_if (PW.pt (pw_or (pt_not (pt_val (pe_callB call_isi (by rfl) T.n_isinstance (by decide +kernel) (pa_cons (pv 0) (pa_cons (pe_bltn (v := .ty "tuple") (u := .type "tuple") (by rfl) T.n_tuple (by decide +kernel) rfl) pa_nil))))) (pw_or1 (pt_cmpR op_ne (pe_callB call_len_seq (by rfl) T.n_len PySem.boot_len (pa_cons (pv 0) pa_nil)) pe_int (nomark _)))))
    (pss_one (ps_ret pe_bl))
    pss_nil)
    (pss_one (ps_ret (pe_callB (cr_all rfl) (by rfl) T.n_all (by decide +kernel) (pa_cons (pe_lc (own := [("k", 2)]) (g := gName 2) (by rfl) sc_l_is_triple.nd (pi_range1 (by rfl) T.n_range (pa_cons pe_int pa_nil)) (blkOk_by (own := [("k", 2)]) (N := ["actual", "expected", "k"]) (sc := defScope s_l_is_triple) (by decide +kernel)) (fun _ _ _ _ _ => pg_name (i := 2) sc_l_is_triple.nd rfl (Or.inl rfl)) (fun _ _ _ _ _ => pts_nil) (fun _ _ _ _ _ => (pe_call G_l_same (hr.mono (by decide)) (by rfl) D_l_same.g D_l_same.F.kp D_l_same.b .nil pass0 (pa_cons (pe_ix (show IxR _ (rIxT K) from ix_tup) (pv 0) (pv 2) (fun _ _ => rfl)) (pa_cons (pe_ix (show IxR _ (rIxT K) from ix_tup) (pv 1) (pv 2) (fun _ _ => rfl)) pa_nil))))) pa_nil)))))), ?_⟩
    cases c with
    | none =>
      cases hu
      cases hv
      exact ⟨_, rfl, rfl, _, rfl, iteT ⟨_, rfl, rfl, q _ (Same.refl _)⟩⟩
    | some t =>
      obtain ⟨pu, rfl, hu2⟩ := e3_inv hu
      obtain ⟨pv, rfl, hv2⟩ := e3_inv hv
      refine ⟨_, rfl, rfl, _, rfl, iteF ?_⟩
      refine ⟨_, rfl, _, _, _, _, true, rfl, .ty "tuple", sqt_ty hu2, kit_tup, _, rfl, iteF ⟨_, rfl, pu, _, rfl, .inr hu2, rfl, _, rfl, iteF ?_⟩⟩
      refine ⟨3, rfl, by decide, by decide, fun D hD => ?_⟩
      refine lc_data (K := K) (walk_range (lo := 0) (n := 3)) hD (fun i => .bool true) (by decide) (fun _ _ => rfl) (fun H s => trivial) (fun i x H1 H2 Q' hi s1 y q' => ?_) (fun H1 ys s1 e1 ha1 => ?_)
      · obtain ⟨rfl, rfl⟩ := y
        have hu' := sqt_same s1 hu2
        have hv' := sqt_same s1 hv2
        refine ⟨rfl, ?_⟩
        match i, hi with
        | 0, _ => exact ⟨_, rfl, _, rfl, pu, _, _, _, rfl, rfl, hu', atI_nat (j := 0) rfl, _, rfl, _, rfl, pv, _, _, _, rfl, rfl, hv', atI_nat (j := 0) rfl, _, rfl, q' _ _ (Same.refl _) (.bl _)⟩
        | 1, _ => exact ⟨_, rfl, _, rfl, pu, _, _, _, rfl, rfl, hu', atI_nat (j := 1) rfl, _, rfl, _, rfl, pv, _, _, _, rfl, rfl, hv', atI_nat (j := 1) rfl, _, rfl, q' _ _ (Same.refl _) (.bl _)⟩
        | 2, _ => exact ⟨_, rfl, _, rfl, pu, _, _, _, rfl, rfl, hu', atI_nat (j := 2) rfl, _, rfl, _, rfl, pv, _, _, _, rfl, rfl, hv', atI_nat (j := 2) rfl, _, rfl, q' _ _ (Same.refl _) (.bl _)⟩
      · have e2 := dpa_bls' (ns := [true, true, true]) ha1
        subst e2
        exact ⟨D, _, rfl, SqL.of e1, q _ s1⟩
end
end SW

namespace SW
open PySem PySem.Spec PyProof.Rows L2
abbrev s_l_sum : Stmt := topS 8
theorem sc_l_sum : FnScope ["differences", "numbers", "total", "k"] ["differences", "numbers"] (defScope s_l_sum) := ⟨rfl, rfl, rfl, by decide +kernel, rfl, by decide +kernel, by decide +kernel⟩

/-! ### the sum of a chain, found step by step -/
theorem chain_out {ds : List Tri} {ns : List Int} {i : Nat} (hi : i < ns.length) (h : inR ds.length ns[i] = false) : chainOf ds ns = none := by
  have : ns.all (inR ds.length) = false := by
    rw [List.all_eq_false]
    exact ⟨_, List.getElem_mem hi, by rw [h]; exact Bool.false_ne_true⟩
  unfold chainOf
  rw [this, Bool.not_false, Bool.or_true]
  rfl
theorem getD_map {ds : List Tri} {ns : List Int} {i : Nat} (hi : i < ns.length) : (ns.map (tri ds)).getD i t0 = tri ds ns[i] := by
  rw [List.getD_eq_getElem?_getD, List.getElem?_map, List.getElem?_eq_getElem hi]
  rfl
theorem chain_cut {ds : List Tri} {ns : List Int} {i : Nat} (hi : i + 1 < ns.length) (h : ¬ (tri ds ns[i]).2.1 = (tri ds ns[i + 1]).1) : chainOf ds ns = none := by
  have : lnk (ns.map (tri ds)) = false := by
    unfold lnk
    rw [List.all_eq_false]
    refine ⟨i, List.mem_range.mpr (by rw [List.length_map]; omega), ?_⟩
    rw [getD_map (by omega), getD_map hi, decide_eq_false h]
    exact Bool.false_ne_true
  unfold chainOf
  rw [this]
  by_cases h2 : (ns.isEmpty || !(ns.all (inR ds.length))) = true
  · rw [if_pos h2]
  · rw [if_neg h2]
    rfl
theorem chain_all {ds : List Tri} {ns : List Int} (h0 : 0 < ns.length) (h1 : ∀ i (hi : i < ns.length), inR ds.length ns[i] = true) (h2 : ∀ i (hi : i + 1 < ns.length), (tri ds ns[i]).2.1 = (tri ds ns[i + 1]).1) :
    chainOf ds ns = some ((tri ds (ns[0])).1, (tri ds (ns[ns.length - 1])).2.1, ((ns.map (tri ds)).map fun t => t.2.2).sum) := by
  have a1 : ns.all (inR ds.length) = true := by
    rw [List.all_eq_true]
    intro x hx
    obtain ⟨i, hi, rfl⟩ := List.getElem_of_mem hx
    exact h1 i hi
  have a2 : lnk (ns.map (tri ds)) = true := by
    unfold lnk
    rw [List.all_eq_true]
    intro i hi
    have hi := List.mem_range.mp hi
    rw [List.length_map] at hi
    rw [getD_map (by omega), getD_map (by omega)]
    exact decide_eq_true (h2 i (by omega))
  have a3 : ns.isEmpty = false := by
    cases ns with
    | nil => exact absurd h0 (by decide)
    | cons _ _ => rfl
  unfold chainOf
  rw [a1, a2, a3, getD_map h0, getD_map (show ns.length - 1 < ns.length by omega)]
  rfl
section
variable {P : Program} {w : World} {K : PySem.W.Frag} {mg : PySem.Str → Option Value} {base : Heap}
def spSum (K : PySem.W.Frag) : Sp := fun vs H Q _ => ∃ (a b : Addr) (ds : List Tri) (ns : List Int), vs = [.ref a, .ref b] ∧ Dp K H (.ref a) (.list (ds.map e3)) ∧ SqL K H b (ns.map V.int) ∧ ds.length ≤ 1000 ∧ ns.length ≤ 1000 ∧ ∀ r H', Same H H' → Dp K H' r (optD (chainOf ds ns)) → Q r H'
theorem ok_l_sum (T : TxB mg) (D_l_sum : Df K mg "_law_sum" s_l_sum ["differences", "numbers"]) : FnOk P w K mg base CX0 1 D_l_sum.f D_l_sum.fd ["differences", "numbers"] (spSum K) := by
  refine D_l_sum.F.ok sc_l_sum (fun vs H Q E h => ?_) (fun cdv A outer s H vs Q E hr h => ?_)
  · obtain ⟨a, b, ds, ns, rfl, _⟩ := h
    rfl
  · obtain ⟨a, b, ds, ns, rfl, ha, hb, hdl, hnl, q⟩ := h
    obtain ⟨xs, hxs, hxa⟩ := lst_of ha
    have hxl : xs.length = ds.length := by rw [dpa_len hxa, List.length_map]
    have hml : (ns.map V.int).length = ns.length := List.length_map _
    refine ⟨_, (pss_cons (ps_if (pt_cmpR op_eq (pe_callB call_len_seq (by rfl) T.n_len PySem.boot_len (pa_cons (pv 1) pa_nil)) pe_int (nomark _))
    (pss_one (ps_ret pe_non))
    pss_nil)
    (pss_cons (ps_set (i := 2) sc_l_sum.nd rfl (.inl rfl) pe_int)
    (pss_cons (ps_for PassesOwn.never rfl (pi_range1 (by rfl) T.n_range (pa_cons (pe_callB call_len_seq (by rfl) T.n_len PySem.boot_len (pa_cons (pv 1) pa_nil)) pa_nil)) (pg_name (i := 3) sc_l_sum.nd rfl (.inl rfl))
    (pss_cons (ps_if (PW.pt (pw_or (pt_cmpR op_lt (pe_ix ix_list (pv 1) (pv 3) (fun _ _ => rfl)) pe_int (nomark _)) (pw_or1 (pt_cmpR op_ge (pe_ix ix_list (pv 1) (pv 3) (fun _ _ => rfl)) (pe_callB call_len_seq (by rfl) T.n_len PySem.boot_len (pa_cons (pv 0) pa_nil)) (nomark _)))))
    (pss_one (ps_ret pe_non))
    pss_nil)
    (pss_cons (ps_if (PW.pt (pw_and (pt_cmpR op_gt (pv 3) pe_int (nomark _)) (pw_and1 (pt_cmpR op_ne (pe_ix ix_tup (pe_ix ix_list (pv 0) (pe_ix ix_list (pv 1) (pe_op op_sub (pv 3) pe_int) (fun _ _ => rfl)) (fun _ _ => rfl)) pe_int (fun _ _ => rfl)) (pe_ix ix_tup (pe_ix ix_list (pv 0) (pe_ix ix_list (pv 1) (pv 3) (fun _ _ => rfl)) (fun _ _ => rfl)) pe_int (fun _ _ => rfl)) (nomark _)))))
    (pss_one (ps_ret pe_non))
    pss_nil)
    (pss_one (ps_set (i := 2) sc_l_sum.nd rfl (.inl rfl) (pe_op op_add (pv 2) (pe_ix ix_tup (pe_ix ix_list (pv 0) (pe_ix ix_list (pv 1) (pv 3) (fun _ _ => rfl)) (fun _ _ => rfl)) pe_int (fun _ _ => rfl))))))))
    (pss_one (ps_ret (pe_tup (pa_cons (pe_ix ix_tup (pe_ix ix_list (pv 0) (pe_ix ix_list (pv 1) pe_int (fun _ _ => rfl)) (fun _ _ => rfl)) pe_int (fun _ _ => rfl)) (pa_cons (pe_ix ix_tup (pe_ix ix_list (pv 0) (pe_ix ix_list (pv 1) (pe_un un_neg pe_int) (fun _ _ => rfl)) (fun _ _ => rfl)) pe_int (fun _ _ => rfl)) (pa_cons (pv 2) pa_nil))))))))), ?_⟩
    refine ⟨_, rfl, b, _, rfl, .inl hb, rfl, _, rfl, ite2 (fun e => ?_) (fun e => ?_)⟩
    · refine q _ _ (Same.refl _) ?_
      rw [int_dec, hml] at e
      have e := of_decide_eq_true e
      have : ns = [] := List.eq_nil_of_length_eq_zero (by omega)
      subst this
      exact .non
    have hpos : 0 < ns.length := by
      rw [int_dec, hml] at e
      cases ns with
      | nil => exact absurd rfl e
      | cons _ _ => exact Nat.succ_pos _
    clear e
    have dat : ∀ {z : Int}, inR ds.length z = true → ∃ t, atI xs z = some (.ref t) ∧ SqT K H t [.int (tri ds z).1, .int (tri ds z).2.1, .int (tri ds z).2.2] := fun h => by
      obtain ⟨j, ej, hj⟩ := inR_nat h
      obtain ⟨t, g1, g2⟩ := lst_at hxa hj
      rw [tri_get ej hj]
      exact ⟨t, at_of ej g1, g2⟩
    refine ⟨_, rfl, b, _, rfl, .inl hb, _, rfl, by omega, by rw [hml]; omega, ?_⟩
    rw [hml]
    refine for_range (lo := 0) (n := ((ns.length : Nat) : Int).toNat) (fun i σ H2 => H2 = H ∧ (∃ y3 : Option V, σ = [some (.ref a), some (.ref b), some (.int (((ns.take i).map (tri ds)).map fun t => t.2.2).sum), y3]) ∧ i ≤ ns.length ∧ (∀ j (hj : j < ns.length), j < i → inR ds.length ns[j] = true) ∧ ∀ j (hj : j + 1 < ns.length), j + 1 < i → (tri ds ns[j]).2.1 = (tri ds ns[j + 1]).1)
      ⟨rfl, ⟨_, rfl⟩, Nat.zero_le _, fun _ _ h => absurd h (Nat.not_lt_zero _), fun _ _ h => absurd h (Nat.not_lt_zero _)⟩ (fun i σ H2 hi hP => ?_) (fun σ H2 hP => ?_)
    · obtain ⟨rfl, ⟨y3, rfl⟩, hle, g1, g2⟩ := hP
      have hi' : i < ns.length := by omega
      have nat : ∀ {z : Int} {j : Nat} (ez : z = j) (hj : j < ns.length), atI (ns.map V.int) z = some (.int ns[j]) := fun ez hj => by
        rw [ez]
        exact ints_at hj
      have ei : (0 : Int) + (i : Nat) = (i : Nat) := by omega
      have bad : inR ds.length ns[i] = false → optD (chainOf ds ns) = .none := fun h => by
        rw [chain_out hi' h]
        rfl
      refine ⟨_, rfl, _, rfl, b, _, _, _, rfl, rfl, hb, nat ei hi', _, _, rfl, rfl, _, rfl, ite2 (fun e => ?_) (fun e => ?_)⟩
      · refine q _ _ (Same.refl _) ?_
        have e := of_decide_eq_true e
        rw [bad (by unfold inR; rw [decide_eq_false (show ¬ 0 ≤ ns[i] by omega)]; rfl)]
        exact .non
      refine ⟨_, rfl, _, rfl, b, _, _, _, rfl, rfl, hb, nat ei hi', _, rfl, a, _, rfl, .inl hxs, _, _, rfl, rfl, _, rfl, ite2 (fun e2 => ?_) (fun e2 => ?_)⟩
      · refine q _ _ (Same.refl _) ?_
        have e2 := of_decide_eq_true e2
        rw [bad (by unfold inR; rw [decide_eq_false (show ¬ ns[i] < ds.length by omega), Bool.and_false])]
        exact .non
      have hin : inR ds.length ns[i] = true := by
        have e : ¬ ns[i] < 0 := fun h => e (decide_eq_true h)
        have e2 : ¬ (xs.length : Int) ≤ ns[i] := fun h => e2 (decide_eq_true h)
        unfold inR
        rw [decide_eq_true (show 0 ≤ ns[i] by omega), decide_eq_true (show ns[i] < ds.length by omega)]
        rfl
      clear e e2
      obtain ⟨ti, k1, k2⟩ := dat hin
      have step : ∀ σ : L2.St, σ = [some (.ref a), some (.ref b), some (.int (((ns.take i).map (tri ds)).map fun t => t.2.2).sum), some (.int (0 + (i : Nat)))] → (∀ j (hj : j + 1 < ns.length), j + 1 < i + 1 → (tri ds ns[j]).2.1 = (tri ds ns[j + 1]).1) →
          ((((ns.take i).map (tri ds)).map fun t => t.2.2).sum + (tri ds ns[i]).2.2 = (((ns.take (i + 1)).map (tri ds)).map fun t => t.2.2).sum) := fun _ _ _ => by
        rw [List.take_succ_eq_append_getElem hi', List.map_append, List.map_append, List.sum_append]
        show _ = _ + ((tri ds ns[i]).2.2 + 0)
        omega
      have fin : (∀ j (hj : j + 1 < ns.length), j + 1 < i + 1 → (tri ds ns[j]).2.1 = (tri ds ns[j + 1]).1) → (H2 = H2 ∧ (∃ y3 : Option V, [some (.ref a), some (.ref b), some (.int ((((ns.take i).map (tri ds)).map fun t => t.2.2).sum + (tri ds ns[i]).2.2)), some (.int (0 + (i : Nat)))] = [some (.ref a), some (.ref b), some (.int (((ns.take (i + 1)).map (tri ds)).map fun t => t.2.2).sum), y3]) ∧ i + 1 ≤ ns.length ∧ (∀ j (hj : j < ns.length), j < i + 1 → inR ds.length ns[j] = true) ∧ ∀ j (hj : j + 1 < ns.length), j + 1 < i + 1 → (tri ds ns[j]).2.1 = (tri ds ns[j + 1]).1) := fun h => by
        refine ⟨rfl, ⟨_, by rw [step _ rfl h]⟩, hi', fun j hj hji => ?_, h⟩
        by_cases e : j = i
        · subst e
          exact hin
        · exact g1 j hj (by omega)
      refine ⟨_, rfl, _, _, rfl, rfl, _, rfl, ite2 (fun e => ?_) (fun e => ?_)⟩
      · have e := of_decide_eq_true e
        obtain ⟨j, rfl⟩ : ∃ j, i = j + 1 := ⟨i - 1, by omega⟩
        obtain ⟨tj, k3, k4⟩ := dat (g1 j (by omega) (by omega))
        refine ⟨_, rfl, _, rfl, _, rfl, _, _, rfl, rfl, b, _, _, _, rfl, rfl, hb, nat (j := j) (by omega) (by omega), a, _, _, _, rfl, rfl, hxs, k3, tj, _, _, _, rfl, rfl, k4, atI_nat (j := 1) rfl, ?_⟩
        refine ⟨_, rfl, _, rfl, _, rfl, b, _, _, _, rfl, rfl, hb, nat ei hi', a, _, _, _, rfl, rfl, hxs, k1, ti, _, _, _, rfl, rfl, k2, atI_nat (j := 0) rfl, rfl, _, rfl, ite2 (fun e3 => ?_) (fun e3 => ?_)⟩
        · refine q _ _ (Same.refl _) ?_
          rw [int_dec] at e3
          have e3 : ¬ (tri ds ns[j]).2.1 = (tri ds ns[j + 1]).1 := fun h => by
            rw [decide_eq_true h] at e3
            cases e3
          rw [chain_cut hi' e3]
          exact .non
        · refine ⟨_, rfl, _, rfl, _, rfl, _, rfl, b, _, _, _, rfl, rfl, hb, nat ei hi', a, _, _, _, rfl, rfl, hxs, k1, ti, _, _, _, rfl, rfl, k2, atI_nat (j := 2) rfl, _, _, rfl, rfl, ?_⟩
          refine fin fun j' hj' hlt => ?_
          by_cases ej : j' = j
          · subst ej
            rw [int_dec] at e3
            refine Classical.byContradiction fun h => e3 ?_
            rw [decide_eq_false h]
            rfl
          · exact g2 j' hj' (by omega)
      · refine ⟨_, rfl, _, rfl, _, rfl, _, rfl, b, _, _, _, rfl, rfl, hb, nat ei hi', a, _, _, _, rfl, rfl, hxs, k1, ti, _, _, _, rfl, rfl, k2, atI_nat (j := 2) rfl, _, _, rfl, rfl, ?_⟩
        refine fin fun j' hj' hlt => ?_
        have : ¬ (0 : Int) < 0 + (i : Nat) := fun h => e (decide_eq_true h)
        omega
    · obtain ⟨rfl, ⟨y3, rfl⟩, _, g1, g2⟩ := hP
      have en : ((ns.length : Nat) : Int).toNat = ns.length := by omega
      rw [en] at g1 g2 ⊢
      have hc := chain_all hpos (fun i hi => g1 i hi hi) (fun i hi => g2 i hi hi)
      obtain ⟨ta, k1, k2⟩ := dat (g1 0 hpos hpos)
      obtain ⟨tb, k3, k4⟩ := dat (g1 (ns.length - 1) (by omega) (by omega))
      refine ⟨_, rfl, _, rfl, b, _, _, _, rfl, rfl, hb, ints_at (j := 0) hpos, a, _, _, _, rfl, rfl, hxs, k1, ta, _, _, _, rfl, rfl, k2, atI_nat (j := 0) rfl, ?_⟩
      refine ⟨_, rfl, _, rfl, _, rfl, b, _, _, _, rfl, rfl, hb, at_neg1 (by rw [hml]; exact ints_get (List.getElem?_eq_getElem (by omega))), a, _, _, _, rfl, rfl, hxs, k3, tb, _, _, _, rfl, rfl, k4, atI_nat (j := 1) rfl, ?_⟩
      refine ⟨_, rfl, by show 3 ≤ sizeLine; decide, fun z hz => ?_⟩
      rw [List.take_of_length_le (Nat.le_refl _)]
      refine q _ _ (same_new hz) ?_
      rw [hc]
      exact e3_mk upd_same
end
end SW

namespace SW
open PySem PySem.Spec PyProof.Rows L2
abbrev s_l_cell : Stmt := topS 5
theorem sc_l_cell : FnScope ["script", "k"] ["script", "k"] (defScope s_l_cell) := ⟨rfl, rfl, rfl, by decide +kernel, rfl, by decide +kernel, by decide +kernel⟩

abbrev s_l_draws : Stmt := topS 6
theorem sc_l_draws : FnScope ["script", "place", "sizes", "primes", "cell", "rest", "draws", "k", "first", "mixed"] ["script", "place", "sizes"] (defScope s_l_draws) := ⟨rfl, rfl, rfl, by decide +kernel, rfl, by decide +kernel, by decide +kernel⟩

section
variable {P : Program} {w : World} {K : PySem.W.Frag} {mg : PySem.Str → Option Value} {base : Heap}
def spCell (K : PySem.W.Frag) : Sp := fun vs H Q _ => ∃ (a : Addr) (ns : List Int) (k : Int), vs = [.ref a, .int k] ∧ SqL K H a (ns.map V.int) ∧ ∀ r : Int, Q (.int r) H
theorem ok_l_cell (T : TxB mg) (D_l_cell : Df K mg "_law_cell" s_l_cell ["script", "k"]) : FnOk P w K mg base CX0 1 D_l_cell.f D_l_cell.fd ["script", "k"] (spCell K) := by
  refine D_l_cell.F.ok sc_l_cell (fun vs H Q E h => ?_) (fun cdv A outer s H vs Q E hr h => ?_)
  · obtain ⟨a, ns, k, rfl, _⟩ := h
    rfl
  · obtain ⟨a, ns, k, rfl, hS, q⟩ := h
    refine ⟨_, (pss_cons (ps_if (pt_cmpR op_gt (pe_callB call_len_seq (by rfl) T.n_len PySem.boot_len (pa_cons (pv 0) pa_nil)) pe_int (nomark _))
    (pss_one (ps_ret (pe_ix ix_list (pv 0) (pe_op op_mod (pe_callTy call_int1 (by rfl) T.n_int (by decide +kernel) (pa_cons (pv 1) pa_nil)) (pe_callB call_len_seq (by rfl) T.n_len PySem.boot_len (pa_cons (pv 0) pa_nil))) (fun _ _ => rfl))))
    pss_nil)
    (pss_one (ps_ret pe_int))), ?_⟩
    refine ⟨_, rfl, a, _, rfl, .inl hS, _, _, rfl, rfl, _, rfl, ite2 (fun e => ?_) (fun e => q 0)⟩
    have e := of_decide_eq_true e
    rw [List.length_map] at e
    refine ⟨_, rfl, _, rfl, .inl ⟨_, rfl, _, rfl, a, _, rfl, .inl hS, _, _, rfl, rfl, by rw [List.length_map]; exact e, ?_⟩⟩
    rw [List.length_map]
    have hk0 : 0 ≤ k % (ns.length : Int) := Int.emod_nonneg _ (by omega)
    have hk1 : k % (ns.length : Int) < ns.length := Int.emod_lt_of_pos _ (by omega)
    dsimp only
    generalize k % (ns.length : Int) = z at hk0 hk1
    obtain ⟨j, rfl⟩ : ∃ j : Nat, z = j := ⟨z.toNat, by omega⟩
    exact ⟨a, _, _, _, rfl, rfl, hS, ints_at (by omega), q _⟩
def primesL : List V := [.int 2147483647, .int 998244353, .int 1000000007, .int 1000000009, .int 4294967291, .int 1073741789, .int 536870909, .int 2305843009213693951]
theorem prime_at {z : Int} (h0 : 0 ≤ z) (h1 : z < 8) : ∃ p : Int, atI primesL z = some (.int p) ∧ 0 < p ∧ p < 2 ^ 62 := by
  obtain ⟨j, rfl⟩ : ∃ j : Nat, z = j := ⟨z.toNat, by omega⟩
  match j, h1 with
  | 0, _ => exact ⟨_, atI_nat rfl, by decide, by decide⟩
  | 1, _ => exact ⟨_, atI_nat rfl, by decide, by decide⟩
  | 2, _ => exact ⟨_, atI_nat rfl, by decide, by decide⟩
  | 3, _ => exact ⟨_, atI_nat rfl, by decide, by decide⟩
  | 4, _ => exact ⟨_, atI_nat rfl, by decide, by decide⟩
  | 5, _ => exact ⟨_, atI_nat rfl, by decide, by decide⟩
  | 6, _ => exact ⟨_, atI_nat rfl, by decide, by decide⟩
  | 7, _ => exact ⟨_, atI_nat rfl, by decide, by decide⟩
  | n + 8, h => exact absurd h (by omega)
/-- each draw lies below its size -/
def Below (ds ss : List Int) : Prop := ∀ (j : Nat) (d s : Int), ds[j]? = some d → ss[j]? = some s → 0 ≤ d ∧ d < s
def spDr (K : PySem.W.Frag) : Sp := fun vs H Q _ => ∃ (a z : Addr) (ns ss : List Int) (p : Int), vs = [.ref a, .int p, .ref z] ∧ SqL K H a (ns.map V.int) ∧ 0 ≤ p ∧ p ≤ 7 ∧ SqL K H z (ss.map V.int) ∧ ss.length ≤ 1000 ∧ (∀ s, s ∈ ss → 0 < s ∧ s.natAbs < 2 ^ 200) ∧
  ∀ D ds H', ds.length = ss.length → Below ds ss → Same H H' → H D = none → H' D = some (.lst (ds.map V.int)) → Q (.ref D) H'
theorem ok_l_draws (T : TxB mg) (D_l_draws : Df K mg "_law_draws" s_l_draws ["script", "place", "sizes"]) (D_l_cell : Df K mg "_law_cell" s_l_cell ["script", "k"]) (G_l_cell : FnOk P w K mg base CX0 1 D_l_cell.f D_l_cell.fd ["script", "k"] (spCell K)) : FnOk P w K mg base CX0 2 D_l_draws.f D_l_draws.fd ["script", "place", "sizes"] (spDr K) := by
  refine D_l_draws.F.ok sc_l_draws (fun vs H Q E h => ?_) (fun cdv A outer s H vs Q E hr h => ?_)
  · obtain ⟨a, z, ns, ss, p, rfl, _⟩ := h
    rfl
  · obtain ⟨a, z, ns, ss, p, rfl, hS, hp0, hp7, hz, hzl, hsz, q⟩ := h
    have hml : (ss.map V.int).length = ss.length := List.length_map _
    refine ⟨_, (pss_cons (ps_set (i := 3) sc_l_draws.nd rfl (.inl rfl) (pe_lst (pa_cons pe_int (pa_cons pe_int (pa_cons pe_int (pa_cons pe_int (pa_cons pe_int (pa_cons pe_int (pa_cons pe_int (pa_cons pe_int pa_nil))))))))))
    (pss_cons (ps_set (i := 4) sc_l_draws.nd rfl (.inl rfl) (pe_callB call_abs (by rfl) T.n_abs (by decide +kernel) (pa_cons (pe_call G_l_cell (hr.mono (by decide)) (by rfl) D_l_cell.g D_l_cell.F.kp D_l_cell.b .nil pass0 (pa_cons (pv 0) (pa_cons (pv 1) pa_nil))) pa_nil)))
    (pss_cons (ps_set (i := 5) sc_l_draws.nd rfl (.inl rfl) pe_int)
    (Evl.pss_cut (ps_if (pt_cmpR op_ge (pv 4) (pe_op op_pow pe_int pe_int) (nomark _))
    (pss_one (ps_set (i := 5) sc_l_draws.nd rfl (.inl rfl) (pv 4)))
    pss_nil)
    (pss_cons (ps_set (i := 6) sc_l_draws.nd rfl (.inl rfl) (pe_lst pa_nil))
    (pss_cons (ps_for PassesOwn.never rfl (pi_range1 (by rfl) T.n_range (pa_cons (pe_callB call_len_seq (by rfl) T.n_len PySem.boot_len (pa_cons (pv 2) pa_nil)) pa_nil)) (pg_name (i := 7) sc_l_draws.nd rfl (.inl rfl))
    (pss_one (ps_if (pt_cmpR op_gt (pv 5) pe_int (nomark _))
    (pss_cons (ps_expr (pe_bm PySem.F.plainAttrs_list PySem.F.slot_list_append PySem.F.type_list_append mt_append (pv 6) (pa_cons (pe_op op_mod (pe_callTy call_int1 (by rfl) T.n_int (by decide +kernel) (pa_cons (pv 5) pa_nil)) (pe_ix ix_list (pv 2) (pv 7) (fun _ _ => rfl))) pa_nil)))
    (pss_one (ps_set (i := 5) sc_l_draws.nd rfl (.inl rfl) (pe_op op_fdivW (pv 5) (pe_ix ix_list (pv 2) (pv 7) (fun _ _ => rfl))))))
    (pss_cons (ps_set (i := 8) sc_l_draws.nd rfl (.inl rfl) (pe_op op_mod (pe_callTy call_int1 (by rfl) T.n_int (by decide +kernel) (pa_cons (pe_op op_add (pe_op op_mul (pe_op op_add (pe_op op_add (pe_op op_add (pv 4) pe_int) (pe_op op_mul pe_int (pv 1))) (pv 7)) pe_int) (pe_op op_mul pe_int (pv 7))) pa_nil)) (pe_ix ix_list (pv 3) (pe_op op_mod (pv 7) pe_int) (fun _ _ => rfl))))
    (pss_cons (ps_set (i := 9) sc_l_draws.nd rfl (.inl rfl) (pe_op op_mod (pe_callTy call_int1 (by rfl) T.n_int (by decide +kernel) (pa_cons (pe_op op_add (pe_op op_add (pe_op op_mul (pv 8) (pv 8)) (pe_op op_mul pe_int (pv 7))) (pv 1)) pa_nil)) (pe_ix ix_list (pv 3) (pe_op op_mod (pe_op op_add (pv 7) pe_int) pe_int) (fun _ _ => rfl))))
    (pss_cons (ps_set (i := 9) sc_l_draws.nd rfl (.inl rfl) (pe_op op_mod (pe_callTy call_int1 (by rfl) T.n_int (by decide +kernel) (pa_cons (pe_op op_add (pe_op op_add (pe_op op_mul (pv 9) pe_int) (pe_op op_mul (pv 8) pe_int)) (pv 7)) pa_nil)) (pe_ix ix_list (pv 3) (pe_op op_mod (pe_op op_add (pv 7) pe_int) pe_int) (fun _ _ => rfl))))
    (pss_one (ps_expr (pe_bm PySem.F.plainAttrs_list PySem.F.slot_list_append PySem.F.type_list_append mt_append (pv 6) (pa_cons (pe_op op_mod (pe_callTy call_int1 (by rfl) T.n_int (by decide +kernel) (pa_cons (pe_op op_fdivW (pv 9) pe_int) pa_nil)) (pe_ix ix_list (pv 2) (pv 7) (fun _ _ => rfl))) pa_nil))))))))))
    (pss_one (ps_ret (pv 6))))))))), ?_⟩
    -- primes
    refine ⟨by show 8 ≤ sizeLine; decide, fun pr hpr => ?_⟩
    have s1 := same_new (o := .lst primesL) hpr
    -- cell, rest
    refine ⟨_, rfl, _, rfl, a, ns, p, rfl, s1.seq hS, fun r => ⟨r, rfl, ?_⟩⟩
    generalize (if r < 0 then -r else r) = c
    refine ⟨fun σ' H' => ∃ y5 : Int, σ' = [some (.ref a), some (.int p), some (.ref z), some (.ref pr), some (.int c), some (.int y5), none, none, none, none] ∧ H' = upd H pr (.lst primesL), ?_, ?_⟩
    · refine ⟨_, rfl, _, _, rfl, rfl, ⟨by decide, by decide, by decide⟩, _, _, rfl, rfl, _, rfl, ite2 (fun e => ?_) (fun e => ?_)⟩
      · exact ⟨_, rfl, _, rfl, rfl⟩
      · exact ⟨_, rfl, rfl⟩
    · intro σ' H' hN
      obtain ⟨y5, rfl, rfl⟩ := hN
      -- draws = []
      refine ⟨Nat.zero_le _, fun D hD => ?_⟩
      have s2 := s1.trans (same_new (o := .lst []) hD)
      have hDH : H D = none := s1.free hD
      refine ⟨_, rfl, z, _, rfl, .inl (s2.seq hz), _, rfl, by omega, by rw [hml]; omega, ?_⟩
      rw [hml]
      have ne : pr ≠ D := ne_of_none upd_same hD
      refine for_range (lo := 0) (n := ((ss.length : Nat) : Int).toNat) (fun i σ H2 => ∃ (y5 : Int) (y7 y8 y9 : Option V) (ds : List Int), σ = [some (.ref a), some (.int p), some (.ref z), some (.ref pr), some (.int c), some (.int y5), some (.ref D), y7, y8, y9] ∧ ds.length = i ∧ Below ds ss ∧ Same H H2 ∧ H2 pr = some (.lst primesL) ∧ H2 D = some (.lst (ds.map V.int)))
        ⟨y5, _, _, _, [], rfl, rfl, (fun _ _ _ h _ => nomatch h : Below [] ss), s2, (upd_ne ne).trans upd_same, upd_same⟩ (fun i σ H2 hi hP => ?_) (fun σ H2 hP => ?_)
      · obtain ⟨y5, y7, y8, y9, ds, rfl, hl, hb, s3, e3, e4⟩ := hP
        have hi' : i < ss.length := by omega
        have ei : (0 : Int) + (i : Nat) = (i : Nat) := by omega
        have hz2 := s3.seq hz
        have zat : atI (ss.map V.int) ((0 : Int) + (i : Nat)) = some (.int ss[i]) := by
          rw [ei]
          exact ints_at hi'
        obtain ⟨p0, p1⟩ := hsz _ (List.getElem_mem hi')
        have grow : ∀ d : Int, 0 ≤ d → d < ss[i] → Below (ds ++ [d]) ss := fun d d0 d1 j d' s' g1 g2 => by
          by_cases hj : j < ds.length
          · rw [List.getElem?_append_left hj] at g1
            exact hb j d' s' g1 g2
          · rw [List.getElem?_append_right (by omega)] at g1
            have hj0 : j = ds.length := by
              refine Classical.byContradiction fun hne => ?_
              obtain ⟨m, hm⟩ : ∃ m, j - ds.length = m + 1 := ⟨j - ds.length - 1, by omega⟩
              rw [hm] at g1
              cases g1
            subst hj0
            rw [Nat.sub_self] at g1
            cases g1
            have g2' : ss[ds.length]? = some ss[i] := by
              rw [hl]
              exact List.getElem?_eq_getElem hi'
            rw [g2'] at g2
            cases g2
            exact ⟨d0, d1⟩
        refine ⟨_, rfl, _, _, rfl, rfl, _, rfl, ite2 (fun e => ?_) (fun e => ?_)⟩
        · refine ⟨_, rfl, .inl ⟨rfl, _, SqL.of e4⟩, _, rfl, .inl ⟨_, rfl, _, rfl, _, rfl, z, _, _, _, rfl, rfl, hz2, zat, _, _, rfl, rfl, p0, ?_⟩⟩
          refine ⟨D, _, _, rfl, rfl, e4, by rw [List.length_map]; exact small_sz5 (by omega), ?_⟩
          have b1 : 0 ≤ y5 % ss[i] := Int.emod_nonneg _ (by omega)
          have b2 : y5 % ss[i] < ss[i] := Int.emod_lt_of_pos _ p0
          dsimp only
          generalize y5 % ss[i] = d at b1 b2
          have s4 : Same H (upd H2 D (.lst (ds.map V.int ++ [.int d]))) := same_mut s3 hDH
          refine ⟨_, rfl, _, rfl, _, rfl, z, _, _, _, rfl, rfl, s4.seq hz, zat, _, _, rfl, rfl, wide_div p0 p1 (by decide) (by decide), ?_⟩
          exact ⟨_, _, _, _, ds ++ [d], rfl, by rw [List.length_append, hl]; rfl, grow d b1 b2, s4, (upd_ne ne).trans e3, by rw [upd_same, List.map_append]; rfl⟩
        · have hp : SqL K H2 pr primesL := SqL.of e3
          have m8 : ∀ x : Int, 0 ≤ x % 8 ∧ x % 8 < 8 := fun x => ⟨Int.emod_nonneg _ (by decide), Int.emod_lt_of_pos _ (by decide)⟩
          obtain ⟨q1, qa, qb, qc⟩ := prime_at (m8 (0 + (i : Nat))).1 (m8 _).2
          obtain ⟨q2, qd, qe, qf⟩ := prime_at (m8 (0 + (i : Nat) + 3)).1 (m8 _).2
          obtain ⟨q3, qg, qh, qi⟩ := prime_at (m8 (0 + (i : Nat) + 5)).1 (m8 _).2
          refine ⟨_, rfl, _, _, rfl, rfl, _, rfl, _, _, rfl, rfl, .inl ⟨by decide, by decide⟩, _, _, rfl, rfl, _, rfl, _, _, rfl, rfl, _, _, rfl, rfl, .inr ⟨by decide, by decide⟩, _, rfl, _, _, rfl, rfl, .inl ⟨by decide, by decide⟩, _, _, rfl, rfl, .inl ⟨_, rfl, ?_⟩⟩
          refine ⟨_, rfl, _, rfl, _, _, rfl, rfl, (by show (0 : Int) < _; decide), pr, _, _, _, rfl, rfl, hp, qa, _, _, rfl, rfl, qb, ?_⟩
          have a1 := Int.emod_nonneg ((c + 1 + 31 * p + (0 + (i : Nat))) * 48271 + 69621 * (0 + (i : Nat))) (show q1 ≠ 0 by omega)
          have a2 := Int.emod_lt_of_pos ((c + 1 + 31 * p + (0 + (i : Nat))) * 48271 + 69621 * (0 + (i : Nat))) qb
          dsimp only
          generalize ((c + 1 + 31 * p + (0 + (i : Nat))) * 48271 + 69621 * (0 + (i : Nat))) % q1 = x at a1 a2
          -- mixed
          refine ⟨_, rfl, _, rfl, _, _, rfl, rfl, .inl ⟨by omega, by omega⟩, _, rfl, _, _, rfl, rfl, .inl ⟨by decide, by decide⟩, _, _, rfl, rfl, _, rfl, _, _, rfl, rfl, .inl ⟨_, rfl, ?_⟩⟩
          refine ⟨_, rfl, _, rfl, _, _, rfl, rfl, _, _, rfl, rfl, (by show (0 : Int) < _; decide), pr, _, _, _, rfl, rfl, hp, qd, _, _, rfl, rfl, qe, ?_⟩
          dsimp only
          generalize (x * x + 16807 * (0 + (i : Nat)) + p) % q2 = y
          refine ⟨_, rfl, _, _, rfl, rfl, .inr ⟨by decide, by decide⟩, _, rfl, _, _, rfl, rfl, .inr ⟨by decide, by decide⟩, _, _, rfl, rfl, _, rfl, _, _, rfl, rfl, .inl ⟨_, rfl, ?_⟩⟩
          refine ⟨_, rfl, _, rfl, _, _, rfl, rfl, _, _, rfl, rfl, (by show (0 : Int) < _; decide), pr, _, _, _, rfl, rfl, hp, qg, _, _, rfl, rfl, qh, ?_⟩
          dsimp only
          generalize (y * 69621 + x * 16807 + (0 + (i : Nat))) % q3 = u
          refine ⟨_, rfl, .inl ⟨rfl, _, SqL.of e4⟩, _, rfl, _, _, rfl, rfl, wide_div (b := 5) (by decide) (by decide) (by decide) (by decide), .inl ⟨_, rfl, ?_⟩⟩
          refine ⟨_, rfl, _, rfl, z, _, _, _, rfl, rfl, hz2, zat, _, _, rfl, rfl, p0, ?_⟩
          refine ⟨D, _, _, rfl, rfl, e4, by rw [List.length_map]; exact small_sz5 (by omega), ?_⟩
          have b1 : 0 ≤ u / 16 % ss[i] := Int.emod_nonneg _ (by omega)
          have b2 : u / 16 % ss[i] < ss[i] := Int.emod_lt_of_pos _ p0
          exact ⟨_, _, _, _, ds ++ [u / 16 % ss[i]], rfl, by rw [List.length_append, hl]; rfl, grow _ b1 b2, same_mut s3 hDH, (upd_ne ne).trans e3, by rw [upd_same, List.map_append]; rfl⟩
      · obtain ⟨y5, y7, y8, y9, ds, rfl, hl, hb, s3, e3, e4⟩ := hP
        exact ⟨_, rfl, q D ds H2 (by omega) hb s3 hDH e4⟩
end
end SW

namespace SW
open PySem PySem.Spec PyProof.Rows L2
abbrev s_l_weight : Stmt := topS 10
theorem sc_l_weight : FnScope ["draw", "kind", "rest"] ["draw"] (defScope s_l_weight) := ⟨rfl, rfl, rfl, by decide +kernel, rfl, by decide +kernel, by decide +kernel⟩

abbrev s_l_differences : Stmt := topS 11
theorem sc_l_differences : FnScope ["script", "place", "count", "many", "differences", "draws", "k"] ["script", "place", "count", "many"] (defScope s_l_differences) := ⟨rfl, rfl, rfl, by decide +kernel, rfl, by decide +kernel, by decide +kernel⟩

section
variable {P : Program} {w : World} {K : PySem.W.Frag} {mg : PySem.Str → Option Value} {base : Heap}
def Wt (r : Int) : Prop := -(10 ^ 41) < r ∧ r < 10 ^ 41
theorem wt_sign {m x : Int} (h0 : 0 ≤ m) (h1 : m < 2) (x0 : 0 ≤ x) (x1 : x < 10 ^ 40) : Wt ((1 - 2 * m) * x) := by
  have : m = 0 ∨ m = 1 := by omega
  unfold Wt
  rcases this with rfl | rfl
  · rw [show (1 - 2 * (0 : Int)) = 1 by decide, Int.one_mul]
    omega
  · rw [show (1 - 2 * (1 : Int)) = -1 by decide, Int.neg_one_mul]
    omega
def spWeight : Sp := fun vs H Q _ => ∃ d : Int, vs = [.int d] ∧ ∀ r : Int, Wt r → Q (.int r) H
theorem ok_l_weight (T : TxB mg) (D_l_weight : Df K mg "_law_weight" s_l_weight ["draw"]) : FnOk P w K mg base CX0 1 D_l_weight.f D_l_weight.fd ["draw"] spWeight := by
  refine D_l_weight.F.ok sc_l_weight (fun vs H Q E h => ?_) (fun cdv A outer s H vs Q E hr h => ?_)
  · obtain ⟨d, rfl, _⟩ := h
    rfl
  · obtain ⟨d, rfl, q⟩ := h
    refine ⟨_, (pss_cons (ps_set (i := 1) sc_l_weight.nd rfl (.inl rfl) (pe_op op_mod (pe_callTy call_int1 (by rfl) T.n_int (by decide +kernel) (pa_cons (pv 0) pa_nil)) pe_int))
    (pss_cons (ps_set (i := 2) sc_l_weight.nd rfl (.inl rfl) (pe_op op_fdivW (pv 0) pe_int))
    (pss_cons (ps_if (pt_cmpR op_eq (pv 1) pe_int (nomark _))
    (pss_one (ps_ret (pe_op op_mul (pe_op op_sub pe_int (pe_op op_mul pe_int (pe_op op_mod (pe_callTy call_int1 (by rfl) T.n_int (by decide +kernel) (pa_cons (pv 2) pa_nil)) pe_int))) (pe_op op_add (pe_op op_pow pe_int pe_int) (pe_op op_mod (pe_callTy call_int1 (by rfl) T.n_int (by decide +kernel) (pa_cons (pv 2) pa_nil)) (pe_op op_pow pe_int pe_int))))))
    pss_nil)
    (pss_cons (ps_if (pt_cmpR op_eq (pv 1) pe_int (nomark _))
    (pss_one (ps_ret (pe_op op_mul (pe_op op_sub pe_int (pe_op op_mul pe_int (pe_op op_mod (pe_callTy call_int1 (by rfl) T.n_int (by decide +kernel) (pa_cons (pv 2) pa_nil)) pe_int))) (pe_op op_mod (pe_callTy call_int1 (by rfl) T.n_int (by decide +kernel) (pa_cons (pe_op op_fdivW (pv 2) pe_int) pa_nil)) (pe_op op_pow pe_int pe_int)))))
    pss_nil)
    (pss_one (ps_ret (pe_op op_sub (pe_op op_mod (pe_callTy call_int1 (by rfl) T.n_int (by decide +kernel) (pa_cons (pv 2) pa_nil)) pe_int) pe_int))))))), ?_⟩
    refine ⟨_, rfl, .inl ⟨_, rfl, _, _, rfl, rfl, (by show (0 : Int) < _; decide), ?_⟩⟩
    refine ⟨_, rfl, _, _, rfl, rfl, wide_div (b := 5) (by decide) (by decide) (by decide) (by decide), ?_⟩
    dsimp only
    generalize d / 16 = r
    have m0 : 0 ≤ r % 2 := Int.emod_nonneg _ (by decide)
    have m1 : r % 2 < 2 := Int.emod_lt_of_pos _ (by decide)
    have sg : -2 ^ 64 < 1 - 2 * (r % 2) ∧ 1 - 2 * (r % 2) < 2 ^ 64 := ⟨by omega, by omega⟩
    refine ⟨_, rfl, rfl, _, rfl, ite2 (fun e => ?_) (fun e => ?_)⟩
    · refine ⟨_, rfl, .inl ⟨_, rfl, _, _, rfl, rfl, (by show (0 : Int) < _; decide), _, _, rfl, rfl, .inl ⟨by decide, by decide⟩, _, _, rfl, rfl, ?_⟩⟩
      refine ⟨_, _, rfl, rfl, ⟨by decide, by decide, by decide⟩, _, rfl, .inl ⟨_, rfl, ?_⟩⟩
      refine ⟨_, _, rfl, rfl, ⟨by decide, by decide, by decide⟩, _, _, rfl, rfl, (by show (0 : Int) < _; decide), _, _, rfl, rfl, _, _, rfl, rfl, .inl sg, q _ ?_⟩
      show Wt ((1 - 2 * (r % 2)) * (10 ^ 39 + r % 10 ^ 20))
      have h0 := Int.emod_nonneg r (show (10 : Int) ^ 20 ≠ 0 by decide)
      have h1 := Int.emod_lt_of_pos r (show (0 : Int) < 10 ^ 20 by decide)
      exact wt_sign m0 m1 (by omega) (by omega)
    · refine ⟨_, rfl, rfl, _, rfl, ite2 (fun e => ?_) (fun e => ?_)⟩
      · refine ⟨_, rfl, .inl ⟨_, rfl, _, _, rfl, rfl, (by show (0 : Int) < _; decide), _, _, rfl, rfl, .inl ⟨by decide, by decide⟩, _, _, rfl, rfl, ?_⟩⟩
        refine ⟨_, rfl, _, _, rfl, rfl, wide_div (b := 5) (by decide) (by decide) (by decide) (by decide), .inl ⟨_, rfl, ?_⟩⟩
        refine ⟨_, _, rfl, rfl, ⟨by decide, by decide, by decide⟩, _, _, rfl, rfl, (by show (0 : Int) < _; decide), _, _, rfl, rfl, .inl sg, q _ ?_⟩
        show Wt ((1 - 2 * (r % 2)) * (r / 2 % 10 ^ 10))
        have h0 := Int.emod_nonneg (r / 2) (show (10 : Int) ^ 10 ≠ 0 by decide)
        have h1 := Int.emod_lt_of_pos (r / 2) (show (0 : Int) < 10 ^ 10 by decide)
        exact wt_sign m0 m1 (by omega) (by omega)
      · refine ⟨_, rfl, .inl ⟨_, rfl, _, _, rfl, rfl, (by show (0 : Int) < _; decide), _, _, rfl, rfl, q _ ?_⟩⟩
        have h0 := Int.emod_nonneg r (show (13 : Int) ≠ 0 by decide)
        have h1 := Int.emod_lt_of_pos r (show (0 : Int) < 13 by decide)
        unfold Wt
        omega
/-- a difference between the ground and many numbers -/
def Ok3 (B many : Int) (d : Tri) : Prop := 0 ≤ d.1 ∧ d.1 ≤ many ∧ 0 ≤ d.2.1 ∧ d.2.1 ≤ many ∧ -B < d.2.2 ∧ d.2.2 < B
def spDiff (K : PySem.W.Frag) : Sp := fun vs H Q _ => ∃ (a : Addr) (ns : List Int) (p count many : Int), vs = [.ref a, .int p, .int count, .int many] ∧ SqL K H a (ns.map V.int) ∧ 0 ≤ p ∧ p ≤ 7 ∧ 0 ≤ count ∧ count ≤ 24 ∧ 1 ≤ many ∧ many ≤ 8 ∧
  ∀ (D : Addr) (xs : List V) (ds : List Tri) (H' : Hp), ds.length = count.toNat → (∀ d, d ∈ ds → Ok3 (10 ^ 43) many d) → Same H H' → H D = none → H' D = some (.lst xs) → DpAll K H' xs (ds.map e3) → Q (.ref D) H'
theorem ok_l_differences (T : TxB mg) (D_l_differences : Df K mg "_law_differences" s_l_differences ["script", "place", "count", "many"]) (D_l_draws : Df K mg "_law_draws" s_l_draws ["script", "place", "sizes"]) (D_l_weight : Df K mg "_law_weight" s_l_weight ["draw"]) (G_l_draws : FnOk P w K mg base CX0 2 D_l_draws.f D_l_draws.fd ["script", "place", "sizes"] (spDr K)) (G_l_weight : FnOk P w K mg base CX0 1 D_l_weight.f D_l_weight.fd ["draw"] spWeight) : FnOk P w K mg base CX0 3 D_l_differences.f D_l_differences.fd ["script", "place", "count", "many"] (spDiff K) := by
  refine D_l_differences.F.ok sc_l_differences (fun vs H Q E h => ?_) (fun cdv A outer s H vs Q E hr h => ?_)
  · obtain ⟨a, ns, p, count, many, rfl, _⟩ := h
    rfl
  · obtain ⟨a, ns, p, count, many, rfl, hS, hp0, hp7, hc0, hc1, hm0, hm1, q⟩ := h
    refine ⟨_, (pss_cons (ps_set (i := 4) sc_l_differences.nd rfl (.inl rfl) (pe_lst pa_nil))
    (pss_cons (ps_set (i := 5) sc_l_differences.nd rfl (.inl rfl) (pe_call G_l_draws (hr.mono (by decide)) (by rfl) D_l_draws.g D_l_draws.F.kp D_l_draws.b .nil pass0 (pa_cons (pv 0) (pa_cons (pv 1) (pa_cons (pe_lc (own := [("k", 6)]) (g := gName 6) (by rfl) sc_l_differences.nd (pi_range1 (by rfl) T.n_range (pa_cons (pe_op op_mul pe_int (pv 2)) pa_nil)) (blkOk_by (own := [("k", 6)]) (N := ["script", "place", "count", "many", "differences", "draws", "k"]) (sc := defScope s_l_differences) (by decide +kernel)) (fun _ _ _ _ _ => pg_name (i := 6) sc_l_differences.nd rfl (Or.inl rfl)) (fun _ _ _ _ _ => pts_nil) (fun _ _ _ _ _ => (pe_ifExp (pt_cmpR op_eq (pe_op op_mod (pv 6) pe_int) pe_int (nomark _)) (pe_op op_pow pe_int pe_int) (pe_op op_add (pv 3) pe_int)))) pa_nil)))))
    (pss_cons (ps_for PassesOwn.never rfl (pi_range1 (by rfl) T.n_range (pa_cons (pv 2) pa_nil)) (pg_name (i := 6) sc_l_differences.nd rfl (.inl rfl))
    (pss_one (ps_expr (pe_bm PySem.F.plainAttrs_list PySem.F.slot_list_append PySem.F.type_list_append mt_append (pv 4) (pa_cons (pe_tup (pa_cons (pe_ix ix_list (pv 5) (pe_op op_mul pe_int (pv 6)) (fun _ _ => rfl)) (pa_cons (pe_ix ix_list (pv 5) (pe_op op_add (pe_op op_mul pe_int (pv 6)) pe_int) (fun _ _ => rfl)) (pa_cons (pe_call G_l_weight (hr.mono (by decide)) (by rfl) D_l_weight.g D_l_weight.F.kp D_l_weight.b .nil pass0 (pa_cons (pe_ix ix_list (pv 5) (pe_op op_add (pe_op op_mul pe_int (pv 6)) pe_int) (fun _ _ => rfl)) pa_nil)) pa_nil)))) pa_nil)))))
    (pss_one (ps_ret (pv 4)))))), ?_⟩
    -- differences = []
    refine ⟨Nat.zero_le _, fun D hD => ?_⟩
    have s1 := same_new (o := .lst []) hD
    obtain ⟨n, rfl⟩ : ∃ n : Nat, count = n := ⟨count.toNat, by omega⟩
    have en : ((3 * n : Nat) : Int).toNat = 3 * n := by omega
    -- the sizes
    refine ⟨_, rfl, _, rfl, _, rfl, _, _, rfl, rfl, .inl ⟨by decide, by decide⟩, _, rfl, by omega, by omega, fun Z hZ => ?_⟩
    refine lc_data (K := K) (walk_range (lo := 0) (n := (3 * (n : Int)).toNat)) hZ (fun i => .int (if i % 3 = 2 then 10 ^ 42 else many + 1)) (by omega) (fun _ _ => rfl) (fun H s => trivial) (fun i x H1 H2 Q' hi s2 y q' => ?_) (fun H1 ys s2 e1 ha1 => ?_)
    · obtain ⟨rfl, rfl⟩ := y
      refine ⟨rfl, _, rfl, _, _, rfl, rfl, (by show (0 : Int) < _; decide), rfl, _, rfl, ite2 (fun e => ?_) (fun e => ?_)⟩
      · refine ⟨_, _, rfl, rfl, ⟨by decide, by decide, by decide⟩, q' _ _ (Same.refl _) ?_⟩
        rw [int_dec] at e
        have e := of_decide_eq_true e
        rw [if_pos (by omega)]
        exact .int _
      · refine ⟨_, rfl, _, _, rfl, rfl, q' _ _ (Same.refl _) ?_⟩
        rw [int_dec] at e
        have e : ¬ (0 + (i : Int)) % 3 = 2 := fun h => e (decide_eq_true h)
        rw [if_neg (by omega)]
        exact .int _
    · have em : (3 * (n : Int)).toNat = 3 * n := by omega
      rw [em] at ha1
      have e2 := dpa_ints' (ns := (List.range (3 * n)).map fun i => if i % 3 = 2 then 10 ^ 42 else many + 1) (by rw [List.map_map]; exact ha1)
      subst e2
      generalize hss : (List.range (3 * n)).map (fun i => if i % 3 = 2 then (10 : Int) ^ 42 else many + 1) = ss at e1
      have hsl : ss.length = 3 * n := by rw [← hss, List.length_map, List.length_range]
      have hsg : ∀ j, j < 3 * n → ss[j]? = some (if j % 3 = 2 then (10 : Int) ^ 42 else many + 1) := fun j hj => by
        rw [← hss, List.getElem?_map, List.getElem?_range hj]
        rfl
      have s3 := s1.trans s2
      refine ⟨a, Z, ns, ss, p, rfl, s3.seq hS, hp0, hp7, SqL.of e1, by omega, fun x hx => ?_, fun D2 dr H2 hl hb s4 hD2 eDr => ?_⟩
      · rw [← hss] at hx
        obtain ⟨j, _, rfl⟩ := List.mem_map.mp hx
        by_cases h : j % 3 = 2
        · rw [if_pos h]
          exact ⟨by decide, by decide⟩
        · rw [if_neg h]
          refine ⟨by omega, Nat.lt_of_lt_of_le (m := 100) (by omega) (by decide)⟩
      have hDH := hD
      have eD : H2 D = some (.lst []) := s4 _ _ (s2 _ _ upd_same)
      have nDD : D2 ≠ D := fun e => by
        rw [e, s2 _ _ upd_same] at hD2
        cases hD2
      refine ⟨_, rfl, _, rfl, by omega, by omega, ?_⟩
      refine for_range (lo := 0) (n := ((n : Nat) : Int).toNat) (fun i σ H3 => ∃ (y6 : Option V) (xs : List V) (ds : List Tri), σ = [some (.ref a), some (.int p), some (.int n), some (.int many), some (.ref D), some (.ref D2), y6] ∧ ds.length = i ∧ (∀ d, d ∈ ds → Ok3 (10 ^ 43) many d) ∧ Same H H3 ∧ H3 D2 = some (.lst (dr.map V.int)) ∧ H3 D = some (.lst xs) ∧ DpAll K H3 xs (ds.map e3))
        ⟨_, [], [], rfl, rfl, fun d h => (List.not_mem_nil h).elim, s3.trans s4, eDr, eD, .nil⟩ (fun i σ H3 hi hP => ?_) (fun σ H3 hP => ?_)
      · obtain ⟨y6, xs, ds, rfl, hdl, hok, s5, e4, e5, ha5⟩ := hP
        have hi' : i < n := by omega
        have dat : ∀ {z : Int} {j : Nat} (ez : z = j) (hj : j < 3 * n), ∃ d, dr[j]? = some d ∧ atI (dr.map V.int) z = some (.int d) := fun ez hj => by
          rw [ez]
          exact ⟨_, List.getElem?_eq_getElem (by omega), ints_at (by omega)⟩
        obtain ⟨d0, f0, g0⟩ := dat (z := 3 * (0 + (i : Int))) (j := 3 * i) (by omega) (by omega)
        obtain ⟨d1, f1, g1⟩ := dat (z := 3 * (0 + (i : Int)) + 1) (j := 3 * i + 1) (by omega) (by omega)
        obtain ⟨d2, f2, g2⟩ := dat (z := 3 * (0 + (i : Int)) + 2) (j := 3 * i + 2) (by omega) (by omega)
        have b0 := hb _ _ _ f0 (hsg _ (by omega))
        have b1 := hb _ _ _ f1 (hsg _ (by omega))
        rw [if_neg (by omega)] at b0 b1
        refine ⟨_, rfl, .inl ⟨rfl, _, SqL.of e5⟩, _, rfl, _, rfl, _, _, rfl, rfl, .inl ⟨by decide, by decide⟩, D2, _, _, _, rfl, rfl, SqL.of e4, g0, ?_⟩
        refine ⟨_, rfl, _, rfl, _, _, rfl, rfl, .inl ⟨by decide, by decide⟩, _, _, rfl, rfl, D2, _, _, _, rfl, rfl, SqL.of e4, g1, ?_⟩
        refine ⟨_, rfl, _, rfl, _, _, rfl, rfl, .inl ⟨by decide, by decide⟩, _, _, rfl, rfl, D2, _, _, _, rfl, rfl, SqL.of e4, g2, _, rfl, fun r hr => ?_⟩
        refine ⟨by show 3 ≤ sizeLine; decide, fun t ht => ?_⟩
        have s6 := same_new (o := .tup [.int d0, .int d1, .int r]) ht
        have e6 := s6 _ _ e5
        have hxl : xs.length = ds.length := by rw [dpa_len ha5, List.length_map]
        refine ⟨D, _, _, rfl, rfl, e6, small_sz5 (by omega), ?_⟩
        have ntD : t ≠ D := ne_of_none e5 ht |>.symm
        have b6 : But D (upd H3 t (.tup [.int d0, .int d1, .int r])) (upd (upd H3 t (.tup [.int d0, .int d1, .int r])) D (.lst (xs ++ [.ref t]))) := fun c o hc eo => (upd_ne hc).trans eo
        refine ⟨_, _, ds ++ [(d0, d1, r)], rfl, by rw [List.length_append, hdl]; rfl, fun d hd => ?_, same_mut (s5.trans s6) hDH, ?_, upd_same, ?_⟩
        · rcases List.mem_append.mp hd with h | h
          · exact hok d h
          · rw [List.mem_singleton.mp h]
            unfold Wt at hr
            exact ⟨b0.1, by show d0 ≤ many; omega, b1.1, by show d1 ≤ many; omega, by show _ < r; omega, by show r < _; omega⟩
        · exact (upd_ne nDD).trans (s6 _ _ e4)
        · rw [List.map_append]
          exact dpa_snoc (dpa_but e6 b6 _ _ (noLs_e3 _) (dpa_same s6 _ _ ha5)) (dp_but e6 b6 _ _ rfl (e3_mk upd_same))
      · obtain ⟨y6, xs, ds, rfl, hdl, hok, s5, e4, e5, ha5⟩ := hP
        exact ⟨_, rfl, q D xs ds H3 (by omega) hok s5 hDH e5 ha5⟩
end
end SW

namespace SW
open PySem PySem.Spec PyProof.Rows L2
abbrev s_l_raised : Stmt := topS 18
theorem sc_l_raised : FnScope ["script", "differences", "values", "draws", "k", "level", "raised", "u", "v", "c"] ["script", "differences", "values"] (defScope s_l_raised) := ⟨rfl, rfl, rfl, by decide +kernel, rfl, by decide +kernel, by decide +kernel⟩

section
variable {P : Program} {w : World} {K : PySem.W.Frag} {mg : PySem.Str → Option Value} {base : Heap}
theorem wt_at {vals : List Int} (h : ∀ x, x ∈ vals → Wt x) {z : Int} (h0 : 0 ≤ z) (h1 : z ≤ vals.length) : ∃ y, atI ((0 :: vals).map V.int) z = some (.int y) ∧ y = wAt vals z ∧ Wt y := by
  obtain ⟨j, rfl⟩ : ∃ j : Nat, z = j := ⟨z.toNat, by omega⟩
  have hj : j < (0 :: vals).length := by rw [List.length_cons]; omega
  refine ⟨_, ints_at hj, ?_, ?_⟩
  · unfold wAt
    rw [Int.toNat_natCast, List.getD_eq_getElem?_getD, List.getElem?_eq_getElem hj]
    rfl
  · rcases List.mem_cons.mp (List.getElem_mem hj) with e | m
    · rw [e]
      unfold Wt
      decide
    · exact h _ m
def spRaised (K : PySem.W.Frag) : Sp := fun vs H Q _ => ∃ (a dl vl : Addr) (ns : List Int) (ds : List Tri) (vals : List Int), vs = [.ref a, .ref dl, .ref vl] ∧ SqL K H a (ns.map V.int) ∧ Dp K H (.ref dl) (.list (ds.map e3)) ∧ H vl = some (.lst (vals.map V.int)) ∧ ds.length ≤ 100 ∧ vals.length ≤ 100 ∧ (∀ d, d ∈ ds → Ok3 (10 ^ 43) vals.length d) ∧ (∀ x, x ∈ vals → Wt x) ∧
  ∀ (D : Addr) (xs : List V) (ds' : List Tri) (H' : Hp), ds'.length = ds.length → (∀ d, d ∈ ds' → Ok3 (10 ^ 44) vals.length d) → Same H H' → H D = none → H' D = some (.lst xs) → DpAll K H' xs (ds'.map e3) → Q (.ref D) H'
theorem ok_l_raised (T : TxB mg) (D_l_raised : Df K mg "_law_raised" s_l_raised ["script", "differences", "values"]) (D_l_draws : Df K mg "_law_draws" s_l_draws ["script", "place", "sizes"]) (G_l_draws : FnOk P w K mg base CX0 2 D_l_draws.f D_l_draws.fd ["script", "place", "sizes"] (spDr K)) : FnOk P w K mg base CX0 3 D_l_raised.f D_l_raised.fd ["script", "differences", "values"] (spRaised K) := by
  refine D_l_raised.F.ok sc_l_raised (fun vs H Q E h => ?_) (fun cdv A outer s H vs Q E hr h => ?_)
  · obtain ⟨a, dl, vl, ns, ds, vals, rfl, _⟩ := h
    rfl
  · obtain ⟨a, dl, vl, ns, ds, vals, rfl, hS, hD, hv, hdl, hvl, hok, hwt, q⟩ := h
    obtain ⟨xs, hxs, hxa⟩ := lst_of hD
    have hxl : xs.length = ds.length := by rw [dpa_len hxa, List.length_map]
    refine ⟨_, (pss_cons (ps_set (i := 3) sc_l_raised.nd rfl (.inl rfl) (pe_call G_l_draws (hr.mono (by decide)) (by rfl) D_l_draws.g D_l_draws.F.kp D_l_draws.b .nil pass0 (pa_cons (pv 0) (pa_cons pe_int (pa_cons (pe_lc (own := [("k", 4)]) (g := gName 4) (by rfl) sc_l_raised.nd (pi_range1 (by rfl) T.n_range (pa_cons (pe_op op_add (pe_callB call_len_seq (by rfl) T.n_len PySem.boot_len (pa_cons (pv 1) pa_nil)) pe_int) pa_nil)) (blkOk_by (own := [("k", 4)]) (N := ["script", "differences", "values", "draws", "k", "level", "raised", "u", "v", "c"]) (sc := defScope s_l_raised) (by decide +kernel)) (fun _ _ _ _ _ => pg_name (i := 4) sc_l_raised.nd rfl (Or.inl rfl)) (fun _ _ _ _ _ => pts_nil) (fun _ _ _ _ _ => pe_int)) pa_nil)))))
    (pss_cons (ps_set (i := 5) sc_l_raised.nd rfl (.inl rfl) (pe_op op_cat (pe_lst (pa_cons pe_int pa_nil)) (pv 2)))
    (pss_cons (ps_set (i := 6) sc_l_raised.nd rfl (.inl rfl) (pe_lst pa_nil))
    (pss_cons (ps_for PassesOwn.never rfl (pi_range1 (by rfl) T.n_range (pa_cons (pe_callB call_len_seq (by rfl) T.n_len PySem.boot_len (pa_cons (pv 1) pa_nil)) pa_nil)) (pg_name (i := 4) sc_l_raised.nd rfl (.inl rfl))
    (pss_cons (ps_asg (pe_ix ix_list (pv 1) (pv 4) (fun _ _ => rfl)) (pg_tup (by rfl) (pgs_cons (pg_name (i := 7) sc_l_raised.nd rfl (.inl rfl)) (pgs_cons (pg_name (i := 8) sc_l_raised.nd rfl (.inl rfl)) (pgs_cons (pg_name (i := 9) sc_l_raised.nd rfl (.inl rfl)) pgs_nil)))))
    (pss_one (ps_expr (pe_bm PySem.F.plainAttrs_list PySem.F.slot_list_append PySem.F.type_list_append mt_append (pv 6) (pa_cons (pe_tup (pa_cons (pv 7) (pa_cons (pv 8) (pa_cons (pe_op op_add (pe_callB (call_max2 rfl) (by rfl) T.n_max (by decide +kernel) (pa_cons (pe_callTy call_int1 (by rfl) T.n_int (by decide +kernel) (pa_cons (pv 9) pa_nil)) (pa_cons (pe_callTy call_int1 (by rfl) T.n_int (by decide +kernel) (pa_cons (pe_op op_sub (pe_ix ix_list (pv 5) (pv 7) (fun _ _ => rfl)) (pe_ix ix_list (pv 5) (pv 8) (fun _ _ => rfl))) pa_nil)) pa_nil))) (pe_op op_fdivW (pe_ix ix_list (pv 3) (pv 4) (fun _ _ => rfl)) pe_int)) pa_nil)))) pa_nil))))))
    (pss_one (ps_ret (pv 6))))))), ?_⟩
    refine ⟨_, rfl, _, rfl, dl, _, rfl, .inl hxs, _, _, rfl, rfl, _, rfl, by omega, by omega, fun Z hZ => ?_⟩
    refine lc_data (K := K) (walk_range (lo := 0) (n := ((xs.length : Int) + 1).toNat)) hZ (fun i => .int 4) (by omega) (fun _ _ => rfl) (fun H s => trivial) (fun i x H1 H2 Q' hi s2 y q' => ?_) (fun H1 ys s2 e1 ha1 => ?_)
    · obtain ⟨rfl, rfl⟩ := y
      exact ⟨rfl, q' _ _ (Same.refl _) (.int _)⟩
    have em : ((xs.length : Int) + 1).toNat = ds.length + 1 := by omega
    rw [em] at ha1
    have e2 := dpa_ints' (ns := (List.range (ds.length + 1)).map fun i => 4) (by rw [List.map_map]; exact ha1)
    subst e2
    generalize hss : (List.range (ds.length + 1)).map (fun i => (4 : Int)) = ss at e1
    have hsl : ss.length = ds.length + 1 := by rw [← hss, List.length_map, List.length_range]
    have hsg : ∀ j, j < ds.length → ss[j]? = some 4 := fun j hj => by
      rw [← hss, List.getElem?_map, List.getElem?_range (by omega)]
      rfl
    refine ⟨a, Z, ns, ss, 7, rfl, s2.seq hS, by decide, by decide, SqL.of e1, by omega, fun x hx => ?_, fun D2 dr H2 hl hb s4 hD2 eDr => ?_⟩
    · rw [← hss] at hx
      obtain ⟨j, _, rfl⟩ := List.mem_map.mp hx
      exact ⟨by decide, by decide⟩
    have sA := s2.trans s4
    -- level
    refine ⟨by show 1 ≤ sizeLine; decide, fun p0 np0 => ?_⟩
    have s5 := same_new (o := .lst [V.int 0]) np0
    refine ⟨_, rfl, _, _, _, _, rfl, rfl, upd_same, s5 _ _ (sA _ _ hv), by rw [List.length_map]; exact sz5 (by show 1 + _ ≤ _; omega), fun LV np => ?_⟩
    rw [show [V.int 0] ++ vals.map V.int = (0 :: vals).map V.int from rfl]
    have s6 := s5.trans (same_new (o := .lst ((0 :: vals).map V.int)) np)
    have eL0 : (upd (upd H2 p0 (.lst [V.int 0])) LV (.lst ((0 :: vals).map V.int))) LV = some (.lst ((0 :: vals).map V.int)) := upd_same
    have eDr0 := s6 _ _ eDr
    generalize upd (upd H2 p0 (.lst [V.int 0])) LV (.lst ((0 :: vals).map V.int)) = H3 at s6 eL0 eDr0
    -- raised = []
    refine ⟨Nat.zero_le _, fun R hR => ?_⟩
    have s7 := same_new (o := .lst []) hR
    have sB := sA.trans s6
    have hRH : H R = none := sB.free hR
    have eL := s7 _ _ eL0
    have eD := s7 _ _ eDr0
    have sC := sB.trans s7
    have nL : LV ≠ R := ne_of_none eL0 hR
    have nD : D2 ≠ R := ne_of_none eDr0 hR
    refine ⟨_, rfl, dl, _, rfl, .inl (sC.seq hxs), _, rfl, by omega, by omega, ?_⟩
    rw [hxl]
    refine for_range (lo := 0) (n := ((ds.length : Nat) : Int).toNat) (fun i σ H4 => ∃ (y4 y7 y8 y9 : Option V) (xs : List V) (es : List Tri), σ = [some (.ref a), some (.ref dl), some (.ref vl), some (.ref D2), y4, some (.ref LV), some (.ref R), y7, y8, y9] ∧ es.length = i ∧ (∀ d, d ∈ es → Ok3 (10 ^ 44) vals.length d) ∧ Same H H4 ∧ H4 D2 = some (.lst (dr.map V.int)) ∧ H4 LV = some (.lst ((0 :: vals).map V.int)) ∧ H4 R = some (.lst xs) ∧ DpAll K H4 xs (es.map e3))
      ⟨_, _, _, _, [], [], rfl, rfl, fun d h => (List.not_mem_nil h).elim, sC, eD, eL, upd_same, .nil⟩ (fun i σ H4 hi hP => ?_) (fun σ H4 hP => ?_)
    · obtain ⟨y4, y7, y8, y9, zs, es, rfl, hel, hoe, s8, e4, e5, e6, ha6⟩ := hP
      have hi' : i < ds.length := by omega
      obtain ⟨t, g1, g2⟩ := lst_at hxa hi'
      obtain ⟨u0, u1, v0, v1, c0, c1⟩ := hok _ (List.getElem_mem hi')
      obtain ⟨yu, hu1, _, hu2⟩ := wt_at hwt u0 u1
      obtain ⟨yv, hv1, _, hv2⟩ := wt_at hwt v0 v1
      generalize ds[i] = d at *
      obtain ⟨u, v, c⟩ := d
      have ei : (0 : Int) + (i : Nat) = (i : Nat) := by omega
      refine ⟨_, rfl, _, rfl, dl, _, _, _, rfl, rfl, s8.seq hxs, at_of ei g1, t, _, rfl, sqt_same s8 g2, rfl, _, _, rfl, _, _, rfl, _, _, rfl, rfl, ?_⟩
      refine ⟨_, rfl, .inl ⟨rfl, _, SqL.of e6⟩, _, rfl, _, rfl, _, rfl, .inl ⟨_, rfl, ?_⟩⟩
      refine ⟨_, rfl, _, rfl, LV, _, _, _, rfl, rfl, SqL.of e5, hu1, _, rfl, _, rfl, LV, _, _, _, rfl, rfl, SqL.of e5, hv1, _, _, rfl, rfl, .inl ⟨_, rfl, ?_⟩⟩
      have b0 := hb i dr[i] 4 (List.getElem?_eq_getElem (by omega)) (hsg _ hi')
      refine ⟨_, _, rfl, _, rfl, _, rfl, D2, _, _, _, rfl, rfl, SqL.of e4, at_of ei (ints_get (List.getElem?_eq_getElem (by omega))), _, _, rfl, rfl, wide_div (b := 2) (by decide) (by decide) (by decide) (by decide), _, _, rfl, rfl, ?_⟩
      have hmx : ∃ m : Int, (if yu - yv > c then yu - yv else c) = m ∧ -(10 ^ 43) < m ∧ m < 10 ^ 43 := by
        refine ⟨_, rfl, ?_⟩
        unfold Wt at hu2 hv2
        by_cases h : yu - yv > c
        · rw [if_pos h]
          omega
        · rw [if_neg h]
          exact ⟨c0, c1⟩
      obtain ⟨m, hm, hm0, hm1⟩ := hmx
      dsimp only
      rw [hm]
      refine ⟨by show 3 ≤ sizeLine; decide, fun t ht => ?_⟩
      have s9 := same_new (o := .tup [.int u, .int v, .int (m + dr[i] / 2)]) ht
      have e9 := s9 _ _ e6
      have hzl : zs.length = es.length := by rw [dpa_len ha6, List.length_map]
      refine ⟨R, _, _, rfl, rfl, e9, small_sz5 (by omega), ?_⟩
      have b9 : But R (upd H4 t (.tup [.int u, .int v, .int (m + dr[i] / 2)])) (upd (upd H4 t (.tup [.int u, .int v, .int (m + dr[i] / 2)])) R (.lst (zs ++ [.ref t]))) := fun c o hc eo => (upd_ne hc).trans eo
      refine ⟨_, _, _, _, _, es ++ [(u, v, m + dr[i] / 2)], rfl, by rw [List.length_append, hel]; rfl, fun d hd => ?_, same_mut (s8.trans s9) hRH, (upd_ne nD).trans (s9 _ _ e4), (upd_ne nL).trans (s9 _ _ e5), upd_same, ?_⟩
      · rcases List.mem_append.mp hd with h | h
        · exact hoe d h
        · rw [List.mem_singleton.mp h]
          exact ⟨u0, u1, v0, v1, by show _ < m + dr[i] / 2; omega, by show m + dr[i] / 2 < _; omega⟩
      · rw [List.map_append]
        exact dpa_snoc (dpa_but e9 b9 _ _ (noLs_e3 _) (dpa_same s9 _ _ ha6)) (dp_but e9 b9 _ _ rfl (e3_mk upd_same))
    · obtain ⟨y4, y7, y8, y9, zs, es, rfl, hel, hoe, s8, e4, e5, e6, ha6⟩ := hP
      exact ⟨_, rfl, q R zs es H4 (by omega) hoe s8 hRH e6 ha6⟩
end
end SW

namespace SW
open PySem PySem.Spec PyProof.Rows L2
abbrev s_l_going : Stmt := topS 12
theorem sc_l_going : FnScope ["script", "differences", "many", "draws", "k", "numbers", "options", "j"] ["script", "differences", "many"] (defScope s_l_going) := ⟨rfl, rfl, rfl, by decide +kernel, rfl, by decide +kernel, by decide +kernel⟩

section
variable {P : Program} {w : World} {K : PySem.W.Frag} {mg : PySem.Str → Option Value} {base : Heap}
def spGoing (K : PySem.W.Frag) : Sp := fun vs H Q _ => ∃ (a dl : Addr) (ns : List Int) (ds : List Tri) (many : Int), vs = [.ref a, .ref dl, .int many] ∧ SqL K H a (ns.map V.int) ∧ Dp K H (.ref dl) (.list (ds.map e3)) ∧ ds.length ≤ 100 ∧ 0 < ds.length ∧
  ∀ (D : Addr) (js : List Int) (H' : Hp), 0 < js.length → js.length ≤ 30 → (∀ j, j ∈ js → 0 ≤ j ∧ j < ds.length) → Same H H' → H D = none → H' D = some (.lst (js.map V.int)) → Q (.ref D) H'
theorem ok_l_going (T : TxB mg) (D_l_going : Df K mg "_law_going" s_l_going ["script", "differences", "many"]) (D_l_draws : Df K mg "_law_draws" s_l_draws ["script", "place", "sizes"]) (G_l_draws : FnOk P w K mg base CX0 2 D_l_draws.f D_l_draws.fd ["script", "place", "sizes"] (spDr K)) : FnOk P w K mg base CX0 3 D_l_going.f D_l_going.fd ["script", "differences", "many"] (spGoing K) := by
  refine D_l_going.F.ok sc_l_going (fun vs H Q E h => ?_) (fun cdv A outer s H vs Q E hr h => ?_)
  · obtain ⟨a, dl, ns, ds, many, rfl, _⟩ := h
    rfl
  · obtain ⟨a, dl, ns, ds, many, rfl, hS, hD, hdl, hpos, q⟩ := h
    obtain ⟨xs, hxs, hxa⟩ := lst_of hD
    have hxl : xs.length = ds.length := by rw [dpa_len hxa, List.length_map]
    refine ⟨_, (pss_cons (ps_set (i := 3) sc_l_going.nd rfl (.inl rfl) (pe_call G_l_draws (hr.mono (by decide)) (by rfl) D_l_draws.g D_l_draws.F.kp D_l_draws.b .nil pass0 (pa_cons (pv 0) (pa_cons pe_int (pa_cons (pe_lc (own := [("k", 4)]) (g := gName 4) (by rfl) sc_l_going.nd (pi_range1 (by rfl) T.n_range (pa_cons pe_int pa_nil)) (blkOk_by (own := [("k", 4)]) (N := ["script", "differences", "many", "draws", "k", "numbers", "options", "j"]) (sc := defScope s_l_going) (by decide +kernel)) (fun _ _ _ _ _ => pg_name (i := 4) sc_l_going.nd rfl (Or.inl rfl)) (fun _ _ _ _ _ => pts_nil) (fun _ _ _ _ _ => pe_int)) pa_nil)))))
    (pss_cons (ps_set (i := 5) sc_l_going.nd rfl (.inr rfl) (pe_lst pa_nil))
    (pss_cons (ps_for PassesOwn.never rfl (pi_range1 (by rfl) T.n_range (pa_cons (pe_op op_add pe_int (pe_op op_mod (pe_callTy call_int1 (by rfl) T.n_int (by decide +kernel) (pa_cons (pe_ix ix_list (pv 3) pe_int (fun _ _ => rfl)) pa_nil)) (pe_ix ix_list (pe_lst (pa_cons pe_int (pa_cons pe_int pa_nil))) (pe_op op_mod (pe_callTy call_int1 (by rfl) T.n_int (by decide +kernel) (pa_cons (pe_ix ix_list (pv 3) pe_int (fun _ _ => rfl)) pa_nil)) pe_int) (fun _ _ => rfl)))) pa_nil)) (pg_name (i := 4) sc_l_going.nd rfl (.inr rfl))
    (pss_cons (ps_setLc (i := 6) (own := [("j", 7)]) (g := gName 7) (by rfl) sc_l_going.nd rfl rfl (sw_true rfl rfl rfl (by decide +kernel)) (pi_range1 (by rfl) T.n_range (pa_cons (pe_callB call_len_seq (by rfl) T.n_len PySem.boot_len (pa_cons (pv 1) pa_nil)) pa_nil)) (blkOk_by (own := [("j", 7)]) (N := ["script", "differences", "many", "draws", "k", "numbers", "options", "j"]) (sc := defScope s_l_going) (by decide +kernel)) (fun _ _ _ _ _ => pg_name (i := 7) sc_l_going.nd rfl (Or.inl rfl)) (fun _ _ _ _ _ => pts_one (PW.pt (pw_or (pt_cmpR op_eq (pv 4) pe_int (nomark _)) (pw_or1 (pt_cmpR op_eq (pe_ix (show IxR _ (rIxT K) from ix_tup) (pe_ix (show IxR _ (rIxL K) from ix_list) (pv 1) (pv 7) (fun _ _ => rfl)) pe_int (fun _ _ => rfl)) (pe_ix (show IxR _ (rIxT K) from ix_tup) (pe_ix (show IxR _ (rIxL K) from ix_list) (pv 1) (pe_ix (show IxR _ (rIxL K) from ix_list) (pv 5) (pe_un un_neg pe_int) (fun _ _ => rfl)) (fun _ _ => rfl)) pe_int (fun _ _ => rfl)) (nomark _)))))) (fun _ _ _ _ _ => (pv 7)))
    (pss_cons (ps_if (pt_cmpR op_eq (pe_callB call_len_seq (by rfl) T.n_len PySem.boot_len (pa_cons (pv 6) pa_nil)) pe_int (nomark _))
    (pss_one ps_break)
    pss_nil)
    (pss_one (ps_expr (pe_bm PySem.F.plainAttrs_list PySem.F.slot_list_append PySem.F.type_list_append mt_append (pv 5) (pa_cons (pe_ix ix_list (pv 6) (pe_op op_mod (pe_callTy call_int1 (by rfl) T.n_int (by decide +kernel) (pa_cons (pe_ix ix_list (pv 3) (pv 4) (fun _ _ => rfl)) pa_nil)) (pe_callB call_len_seq (by rfl) T.n_len PySem.boot_len (pa_cons (pv 6) pa_nil))) (fun _ _ => rfl)) pa_nil)))))))
    (pss_one (ps_ret (pv 5)))))), ?_⟩
    refine ⟨_, rfl, 31, rfl, by decide, by decide, fun Z hZ => ?_⟩
    refine lc_data (K := K) (walk_range (lo := 0) (n := 31)) hZ (fun i => .int 1000) (by decide) (fun _ _ => rfl) (fun H s => trivial) (fun i x H1 H2 Q' hi s2 y q' => ?_) (fun H1 ys s2 e1 ha1 => ?_)
    · obtain ⟨rfl, rfl⟩ := y
      exact ⟨rfl, q' _ _ (Same.refl _) (.int _)⟩
    have e2 := dpa_ints' (ns := (List.range 31).map fun i => 1000) (by rw [List.map_map]; exact ha1)
    subst e2
    generalize hss : (List.range 31).map (fun i => (1000 : Int)) = ss at e1
    have hsl : ss.length = 31 := by rw [← hss, List.length_map, List.length_range]
    refine ⟨a, Z, ns, ss, 2, rfl, s2.seq hS, by decide, by decide, SqL.of e1, by omega, fun x hx => ?_, fun D2 dr H2 hl hb s4 hD2 eDr => ?_⟩
    · rw [← hss] at hx
      obtain ⟨j, _, rfl⟩ := List.mem_map.mp hx
      exact ⟨by decide, by decide⟩
    have sA := s2.trans s4
    have drl : dr.length = 31 := by omega
    -- numbers = []
    refine ⟨Nat.zero_le _, fun N hN => ?_⟩
    have s5 := same_new (o := .lst []) hN
    have hNH : H N = none := sA.free hN
    have eD := s5 _ _ eDr
    have nD : D2 ≠ N := ne_of_none eDr hN
    -- the range
    refine ⟨_, rfl, D2, _, _, _, rfl, rfl, SqL.of eD, ints_at (j := 30) (by omega), .inl ⟨_, rfl, by show 2 ≤ sizeLine; decide, fun p2 hp2 => ?_⟩⟩
    have s6 := same_new (o := .lst [.int 12, .int 30]) hp2
    refine ⟨_, rfl, D2, _, _, _, rfl, rfl, SqL.of (s6 _ _ eD), ints_at (j := 29) (by omega), .inl ⟨_, rfl, _, _, rfl, rfl, (by show (0 : Int) < _; decide), ?_⟩⟩
    have bnd : ∃ b : Int, atI [V.int 12, V.int 30] (dr[29] % 2) = some (.int b) ∧ 0 < b ∧ b ≤ 30 := by
      have m0 : 0 ≤ dr[29] % 2 := Int.emod_nonneg _ (by decide)
      have m1 : dr[29] % 2 < 2 := Int.emod_lt_of_pos _ (by decide)
      generalize dr[29] % 2 = m at m0 m1
      have : m = 0 ∨ m = 1 := by omega
      rcases this with rfl | rfl
      · exact ⟨12, atI_nat (j := 0) rfl, by decide, by decide⟩
      · exact ⟨30, atI_nat (j := 1) rfl, by decide, by decide⟩
    obtain ⟨b, hb1, hb2, hb3⟩ := bnd
    refine ⟨p2, _, _, _, rfl, rfl, SqL.of upd_same, hb1, _, _, rfl, rfl, hb2, _, _, rfl, rfl, ?_⟩
    have m0 : 0 ≤ dr[30] % b := Int.emod_nonneg _ (by omega)
    have m1 : dr[30] % b < b := Int.emod_lt_of_pos _ hb2
    dsimp only
    generalize dr[30] % b = m at m0 m1
    refine ⟨_, rfl, by omega, by omega, ?_⟩
    have eD6 := s6 _ _ eD
    have eN6 := s6 _ _ (upd_same (H := H2) (a := N) (o := .lst []))
    have sC := (sA.trans s5).trans s6
    refine for_range (lo := 0) (n := (1 + m).toNat) (D := { nx := tRet (tVar 5) { nx := fun x H' => Q V.non H', rt := Q }, rt := Q }) (fun i σ H4 => ∃ (y4 y6 y7 : Option V) (js : List Int), σ = [some (.ref a), some (.ref dl), some (.int many), some (.ref D2), y4, some (.ref N), y6, y7] ∧ js.length = i ∧ (∀ j, j ∈ js → 0 ≤ j ∧ j < ds.length) ∧ Same H H4 ∧ H4 D2 = some (.lst (dr.map V.int)) ∧ H4 N = some (.lst (js.map V.int)))
      ⟨_, _, _, [], rfl, rfl, fun d h => (List.not_mem_nil h).elim, sC, eD6, eN6⟩ (fun i σ H4 hi hP => ?_) (fun σ H4 hP => ?_)
    · obtain ⟨y4, y6, y7, js, rfl, hjl, hok, s8, e4, e5⟩ := hP
      have hi' : i < 30 := by omega
      have ei : (0 : Int) + (i : Nat) = (i : Nat) := by omega
      -- options
      refine ⟨_, rfl, dl, _, rfl, .inl (s8.seq hxs), _, rfl, by omega, by omega, fun O hO => ?_⟩
      refine lc_range (lo := 0) (n := ((xs.length : Nat) : Int).toNat) (fun t H5 => Same H4 H5 ∧ ∃ os : List Int, H5 O = some (.lst (os.map V.int)) ∧ os.length ≤ t ∧ (∀ j, j ∈ os → 0 ≤ j ∧ j < ds.length) ∧ (i = 0 → os.length = t)) ⟨same_new hO, [], upd_same, Nat.le_refl _, fun j h => (List.not_mem_nil h).elim, fun _ => rfl⟩ (fun t H5 ht hP => ?_) (fun H5 hP => ?_)
      · obtain ⟨s9, os, eO, hol, hoo, hoi⟩ := hP
        have ht' : t < ds.length := by omega
        have et : (0 : Int) + (t : Nat) = (t : Nat) := by omega
        have add : ∃ acc, H5 O = some (.lst acc) ∧ acc.length < sizeLine ∧ (Same H4 (upd H5 O (.lst (acc ++ [.int (0 + (t : Nat))]))) ∧ ∃ os : List Int, (upd H5 O (.lst (acc ++ [.int (0 + (t : Nat))]))) O = some (.lst (os.map V.int)) ∧ os.length ≤ t + 1 ∧ (∀ j, j ∈ os → 0 ≤ j ∧ j < ds.length) ∧ (i = 0 → os.length = t + 1)) := by
          refine ⟨_, eO, by rw [List.length_map]; exact small_sz5 (by omega), same_mut s9 hO, os ++ [(0 : Int) + (t : Nat)], by rw [upd_same, List.map_append]; rfl, by rw [List.length_append]; exact Nat.succ_le_succ hol, fun j hj => ?_, fun h0 => by rw [List.length_append, hoi h0]; rfl⟩
          rcases List.mem_append.mp hj with h | h
          · exact hoo j h
          · rw [List.mem_singleton.mp h]
            omega
        refine ⟨rfl, _, rfl, rfl, _, rfl, ite2 (fun e => ?_) (fun e => ?_)⟩
        · exact ⟨_, rfl, add⟩
        · have hi0 : i ≠ 0 := fun h => by
            subst h
            exact e (decide_eq_true rfl)
          obtain ⟨t1, g1, g2⟩ := lst_at hxa ht'
          have hlast : (js.map V.int)[(js.map V.int).length - 1]? = some (.int js[js.length - 1]) := by
            rw [List.length_map]
            exact ints_get (List.getElem?_eq_getElem (by omega))
          obtain ⟨l0, l1⟩ := hok _ (List.getElem_mem (show js.length - 1 < js.length by omega))
          generalize js[js.length - 1] = lz at hlast l0 l1
          obtain ⟨lj, rfl⟩ : ∃ j : Nat, lz = j := ⟨lz.toNat, by omega⟩
          obtain ⟨t2, g3, g4⟩ := lst_at hxa (j := lj) (by omega)
          refine ⟨_, rfl, _, rfl, dl, _, _, _, rfl, rfl, (s8.trans s9).seq hxs, at_of et g1, t1, _, _, _, rfl, rfl, sqt_same (s8.trans s9) g2, atI_nat (j := 0) rfl, ?_⟩
          refine ⟨_, rfl, _, rfl, _, rfl, N, _, _, _, rfl, rfl, SqL.of (s9 _ _ e5), at_neg1 hlast, dl, _, _, _, rfl, rfl, (s8.trans s9).seq hxs, atI_nat g3, t2, _, _, _, rfl, rfl, sqt_same (s8.trans s9) g4, atI_nat (j := 1) rfl, rfl, _, rfl, ite2 (fun e => ?_) (fun e => ?_)⟩
          · exact ⟨_, rfl, add⟩
          · exact ⟨s9, os, eO, Nat.le_succ_of_le hol, hoo, fun h => absurd h hi0⟩
      · obtain ⟨s9, os, eO, hol, hoo, hoi⟩ := hP
        have e9 := s9 _ _ e5
        have nON : O ≠ N := fun e => by
          rw [e, e5] at hO
          cases hO
        refine ⟨_, rfl, O, _, rfl, .inl (SqL.of eO), rfl, _, rfl, ite2 (fun e => ?_) (fun e => ?_)⟩
        · -- break
          rw [List.length_map, int_dec] at e
          have e := of_decide_eq_true e
          have hi0 : i ≠ 0 := fun h => by
            have := hoi h
            omega
          exact ⟨_, rfl, q N js H5 (by omega) (by omega) hok (s8.trans s9) hNH e9⟩
        · rw [List.length_map, int_dec] at e
          have hop : 0 < os.length := by
            rcases Nat.eq_zero_or_pos os.length with h | h
            · exact absurd (decide_eq_true (by omega)) e
            · exact h
          refine ⟨_, rfl, .inl ⟨rfl, _, SqL.of e9⟩, _, rfl, _, rfl, _, rfl, D2, _, _, _, rfl, rfl, SqL.of (s9 _ _ e4), at_of ei (ints_get (List.getElem?_eq_getElem (by omega))), .inl ⟨_, rfl, _, rfl, O, _, rfl, .inl (SqL.of eO), _, _, rfl, rfl, by rw [List.length_map]; omega, ?_⟩⟩
          rw [List.length_map]
          have k0 : 0 ≤ dr[i] % (os.length : Int) := Int.emod_nonneg _ (by omega)
          have k1 : dr[i] % (os.length : Int) < os.length := Int.emod_lt_of_pos _ (by omega)
          dsimp only
          generalize dr[i] % (os.length : Int) = z at k0 k1
          obtain ⟨j, rfl⟩ : ∃ j : Nat, z = j := ⟨z.toNat, by omega⟩
          have hj : j < os.length := by omega
          refine ⟨O, _, _, _, rfl, rfl, SqL.of eO, ints_at hj, N, _, _, rfl, rfl, e9, by rw [List.length_map]; exact small_sz5 (by omega), ?_⟩
          refine ⟨_, _, _, js ++ [os[j]], rfl, by rw [List.length_append, hjl]; rfl, fun x hx => ?_, same_mut (s8.trans s9) hNH, (upd_ne nD).trans (s9 _ _ e4), by rw [upd_same, List.map_append]; rfl⟩
          rcases List.mem_append.mp hx with h | h
          · exact hok x h
          · rw [List.mem_singleton.mp h]
            exact hoo _ (List.getElem_mem hj)
    · obtain ⟨y4, y6, y7, js, rfl, hjl, hok, s8, e4, e5⟩ := hP
      exact ⟨_, rfl, q N js H4 (by omega) (by omega) hok s8 hNH e5⟩
end
end SW

namespace SW
open PySem PySem.Spec PyProof.Rows L2
abbrev s_l_path : Stmt := topS 13
theorem sc_l_path : FnScope ["script", "differences", "many", "closed", "draws", "k", "weights", "draw", "nodes", "count", "edges", "target", "total", "edge", "numbers", "at"] ["script", "differences", "many", "closed"] (defScope s_l_path) := ⟨rfl, rfl, rfl, by decide +kernel, rfl, by decide +kernel, by decide +kernel⟩

section
variable {P : Program} {w : World} {K : PySem.W.Frag} {mg : PySem.Str → Option Value} {base : Heap}
theorem sum_wt : ∀ xs : List Int, (∀ x, x ∈ xs → Wt x) → -((xs.length : Int) * 10 ^ 41) ≤ xs.sum ∧ xs.sum ≤ (xs.length : Int) * 10 ^ 41
  | [], _ => by decide
  | x :: r, h => by
    have h1 := h x List.mem_cons_self
    have h2 := sum_wt r fun y hy => h y (List.mem_cons_of_mem _ hy)
    unfold Wt at h1
    rw [List.sum_cons, List.length_cons]
    omega
theorem target_at {wz z : Int} (hw : Wt wz) (h0 : 0 ≤ z) (h1 : z < 6) : ∃ t, atI [V.int (-1), .int 0, .int 1, .int (-2), .int wz, .int (-1)] z = some (.int t) ∧ Wt t := by
  obtain ⟨j, rfl⟩ : ∃ j : Nat, z = j := ⟨z.toNat, by omega⟩
  have sm : ∀ t : Int, -3 < t → t < 3 → Wt t := fun t h h' => by
    unfold Wt
    omega
  match j, h1 with
  | 0, _ => exact ⟨_, atI_nat rfl, sm _ (by decide) (by decide)⟩
  | 1, _ => exact ⟨_, atI_nat rfl, sm _ (by decide) (by decide)⟩
  | 2, _ => exact ⟨_, atI_nat rfl, sm _ (by decide) (by decide)⟩
  | 3, _ => exact ⟨_, atI_nat rfl, sm _ (by decide) (by decide)⟩
  | 4, _ => exact ⟨_, atI_nat rfl, hw⟩
  | 5, _ => exact ⟨_, atI_nat rfl, sm _ (by decide) (by decide)⟩
  | n + 6, h => exact absurd h (by omega)
theorem getD_get {ns : List Int} {j : Nat} (h : j < ns.length) : ns.getD j 0 = ns[j] := by
  rw [List.getD_eq_getElem?_getD, List.getElem?_eq_getElem h]
  rfl
/-- a list of differences and one of numbers, in a pair -/
def Pair (K : PySem.W.Frag) (many : Int) (H H' : Hp) (v : V) : Prop := ∃ (T DL NL : Addr) (xs : List V) (ds : List Tri) (js : List Int), v = .ref T ∧ Same H H' ∧ H' T = some (.tup [.ref DL, .ref NL]) ∧ H' DL = some (.lst xs) ∧ DpAll K H' xs (ds.map e3) ∧ H' NL = some (.lst (js.map V.int)) ∧ ds.length ≤ 50 ∧ (∀ d, d ∈ ds → Ok3 (10 ^ 43) many d) ∧ js.length ≤ 40 ∧ ∀ j, j ∈ js → -(10 ^ 6) < j ∧ j < 10 ^ 6
def spPath (K : PySem.W.Frag) : Sp := fun vs H Q _ => ∃ (a dl : Addr) (ns : List Int) (xs : List V) (ds : List Tri) (many : Int) (b : Bool), vs = [.ref a, .ref dl, .int many, .bl b] ∧ SqL K H a (ns.map V.int) ∧ H dl = some (.lst xs) ∧ DpAll K H xs (ds.map e3) ∧ ds.length ≤ 30 ∧ (∀ d, d ∈ ds → Ok3 (10 ^ 43) many d) ∧ 1 ≤ many ∧ many ≤ 8 ∧ ∀ v H', Pair K many H H' v → Q v H'
theorem ok_l_path (T : TxB mg) (D_l_path : Df K mg "_law_path" s_l_path ["script", "differences", "many", "closed"]) (D_l_draws : Df K mg "_law_draws" s_l_draws ["script", "place", "sizes"]) (D_l_weight : Df K mg "_law_weight" s_l_weight ["draw"]) (G_l_draws : FnOk P w K mg base CX0 2 D_l_draws.f D_l_draws.fd ["script", "place", "sizes"] (spDr K)) (G_l_weight : FnOk P w K mg base CX0 1 D_l_weight.f D_l_weight.fd ["draw"] spWeight) : FnOk P w K mg base CX0 3 D_l_path.f D_l_path.fd ["script", "differences", "many", "closed"] (spPath K) := by
  refine D_l_path.F.ok sc_l_path (fun vs H Q E h => ?_) (fun cdv A outer s H vs Q E hr h => ?_)
  · obtain ⟨a, dl, ns, xs, ds, many, b, rfl, _⟩ := h
    rfl
  · obtain ⟨a, dl, ns, xs, ds, many, b, rfl, hS, hD, hxa, hdl, hok, hm0, hm1, q⟩ := h
    have hxl : xs.length = ds.length := by rw [dpa_len hxa, List.length_map]
    refine ⟨_, (pss_cons (ps_set (i := 4) sc_l_path.nd rfl (.inl rfl) (pe_call G_l_draws (hr.mono (by decide)) (by rfl) D_l_draws.g D_l_draws.F.kp D_l_draws.b .nil pass0 (pa_cons (pv 0) (pa_cons pe_int (pa_cons (pe_op op_cat (pe_lst (pa_cons pe_int (pa_cons pe_int (pa_cons pe_int pa_nil)))) (pe_lc (own := [("k", 5)]) (g := gName 5) (by rfl) sc_l_path.nd (pi_range1 (by rfl) T.n_range (pa_cons pe_int pa_nil)) (blkOk_by (own := [("k", 5)]) (N := ["script", "differences", "many", "closed", "draws", "k", "weights", "draw", "nodes", "count", "edges", "target", "total", "edge", "numbers", "at"]) (sc := defScope s_l_path) (by decide +kernel)) (fun _ _ _ _ _ => pg_name (i := 5) sc_l_path.nd rfl (Or.inl rfl)) (fun _ _ _ _ _ => pts_nil) (fun _ _ _ _ _ => (pe_op op_add (pv 2) pe_int)))) pa_nil)))))
    (pss_cons (ps_set (i := 6) sc_l_path.nd rfl (.inr rfl) (pe_lc (own := [("draw", 7)]) (g := gName 7) (by rfl) sc_l_path.nd (pi_list (pe_call G_l_draws (hr.mono (by decide)) (by rfl) D_l_draws.g D_l_draws.F.kp D_l_draws.b .nil pass0 (pa_cons (pv 0) (pa_cons pe_int (pa_cons (pe_lc (own := [("k", 5)]) (g := gName 5) (by rfl) sc_l_path.nd (pi_range1 (by rfl) T.n_range (pa_cons pe_int pa_nil)) (blkOk_by (own := [("k", 5)]) (N := ["script", "differences", "many", "closed", "draws", "k", "weights", "draw", "nodes", "count", "edges", "target", "total", "edge", "numbers", "at"]) (sc := defScope s_l_path) (by decide +kernel)) (fun _ _ _ _ _ => pg_name (i := 5) sc_l_path.nd rfl (Or.inl rfl)) (fun _ _ _ _ _ => pts_nil) (fun _ _ _ _ _ => (pe_op op_pow pe_int pe_int))) pa_nil))))) (blkOk_by (own := [("draw", 7)]) (N := ["script", "differences", "many", "closed", "draws", "k", "weights", "draw", "nodes", "count", "edges", "target", "total", "edge", "numbers", "at"]) (sc := defScope s_l_path) (by decide +kernel)) (fun _ _ _ _ _ => pg_name (i := 7) sc_l_path.nd rfl (Or.inl rfl)) (fun _ _ _ _ _ => pts_nil) (fun _ _ _ _ _ => (pe_call G_l_weight (hr.mono (by decide)) (by rfl) D_l_weight.g D_l_weight.F.kp D_l_weight.b .nil pass0 (pa_cons (pv 7) pa_nil)))))
    (pss_cons (ps_set (i := 8) sc_l_path.nd rfl (.inr rfl) (pe_slice sl_list (pv 4) (po_some pe_int) (po_some (pe_op op_add pe_int (pe_ix ix_list (pv 4) pe_int (fun _ _ => rfl))))))
    (pss_cons (ps_if (pt_val (pv 3))
    (pss_one (ps_set (i := 8) sc_l_path.nd rfl (.inr rfl) (pe_op op_cat (pv 8) (pe_slice sl_list (pv 8) po_none (po_some pe_int)))))
    (pss_one (ps_set (i := 8) sc_l_path.nd rfl (.inr rfl) (pe_op op_cat (pe_lst (pa_cons pe_int pa_nil)) (pv 8)))))
    (pss_cons (ps_set (i := 9) sc_l_path.nd rfl (.inr rfl) (pe_op op_sub (pe_callB call_len_seq (by rfl) T.n_len PySem.boot_len (pa_cons (pv 8) pa_nil)) pe_int))
    (pss_cons (ps_setLc (i := 10) (own := [("k", 5)]) (g := gName 5) (by rfl) sc_l_path.nd rfl rfl (sw_true rfl rfl rfl (by decide +kernel)) (pi_range1 (by rfl) T.n_range (pa_cons (pv 9) pa_nil)) (blkOk_by (own := [("k", 5)]) (N := ["script", "differences", "many", "closed", "draws", "k", "weights", "draw", "nodes", "count", "edges", "target", "total", "edge", "numbers", "at"]) (sc := defScope s_l_path) (by decide +kernel)) (fun _ _ _ _ _ => pg_name (i := 5) sc_l_path.nd rfl (Or.inl rfl)) (fun _ _ _ _ _ => pts_nil) (fun _ _ _ _ _ => (pe_tup (pa_cons (pe_ix (show IxR _ (rIxL K) from ix_list) (pv 8) (pv 5) (fun _ _ => rfl)) (pa_cons (pe_ix (show IxR _ (rIxL K) from ix_list) (pv 8) (pe_op op_add (pv 5) pe_int) (fun _ _ => rfl)) (pa_cons (pe_ix (show IxR _ (rIxL K) from ix_list) (pv 6) (pv 5) (fun _ _ => rfl)) pa_nil))))))
    (pss_cons (ps_if (pt_val (pv 3))
    (pss_cons (ps_set (i := 11) sc_l_path.nd rfl (.inl rfl) (pe_ix ix_list (pe_lst (pa_cons (pe_un un_neg pe_int) (pa_cons pe_int (pa_cons pe_int (pa_cons (pe_un un_neg pe_int) (pa_cons (pe_ix ix_list (pv 6) pe_int (fun _ _ => rfl)) (pa_cons (pe_un un_neg pe_int) pa_nil))))))) (pe_ix ix_list (pv 4) pe_int (fun _ _ => rfl)) (fun _ _ => rfl)))
    (pss_cons (ps_set (i := 12) sc_l_path.nd rfl (.inl rfl) (pe_callB (cr_sum rfl) (by rfl) T.n_sum (by decide +kernel) (pa_cons (pe_lc (own := [("edge", 13)]) (g := gName 13) (by rfl) sc_l_path.nd (pi_list (pe_slice sl_list (pv 10) (po_some pe_int) po_none)) (blkOk_by (own := [("edge", 13)]) (N := ["script", "differences", "many", "closed", "draws", "k", "weights", "draw", "nodes", "count", "edges", "target", "total", "edge", "numbers", "at"]) (sc := defScope s_l_path) (by decide +kernel)) (fun _ _ _ _ _ => pg_name (i := 13) sc_l_path.nd rfl (Or.inl rfl)) (fun _ _ _ _ _ => pts_nil) (fun _ _ _ _ _ => (pe_ix (show IxR _ (rIxT K) from ix_tup) (pv 13) pe_int (fun _ _ => rfl)))) pa_nil)))
    (pss_one (ps_asg (pe_tup (pa_cons (pe_ix ix_tup (pe_ix ix_list (pv 10) pe_int (fun _ _ => rfl)) pe_int (fun _ _ => rfl)) (pa_cons (pe_ix ix_tup (pe_ix ix_list (pv 10) pe_int (fun _ _ => rfl)) pe_int (fun _ _ => rfl)) (pa_cons (pe_op op_sub (pv 11) (pv 12)) pa_nil)))) (pg_sub (pv 10) pe_int set_list)))))
    pss_nil)
    (pss_cons (ps_setLc (i := 14) (own := [("k", 5)]) (g := gName 5) (by rfl) sc_l_path.nd rfl rfl (sw_true rfl rfl rfl (by decide +kernel)) (pi_range1 (by rfl) T.n_range (pa_cons (pv 9) pa_nil)) (blkOk_by (own := [("k", 5)]) (N := ["script", "differences", "many", "closed", "draws", "k", "weights", "draw", "nodes", "count", "edges", "target", "total", "edge", "numbers", "at"]) (sc := defScope s_l_path) (by decide +kernel)) (fun _ _ _ _ _ => pg_name (i := 5) sc_l_path.nd rfl (Or.inl rfl)) (fun _ _ _ _ _ => pts_nil) (fun _ _ _ _ _ => (pe_op op_sub (pe_op op_sub (pe_op op_add (pe_callB (show CallR _ _ (rLenK K) from call_len_seq) (by rfl) T.n_len PySem.boot_len (pa_cons (pv 1) pa_nil)) (pv 9)) pe_int) (pv 5))))
    (pss_cons (ps_if (pt_val (pv 3))
    (pss_cons (ps_set (i := 15) sc_l_path.nd rfl (.inl rfl) (pe_op op_mod (pe_callTy call_int1 (by rfl) T.n_int (by decide +kernel) (pa_cons (pe_ix ix_list (pv 4) pe_int (fun _ _ => rfl)) pa_nil)) (pv 9)))
    (pss_one (ps_set (i := 14) sc_l_path.nd rfl (.inl rfl) (pe_op op_cat (pe_slice sl_list (pv 14) (po_some (pv 15)) po_none) (pe_slice sl_list (pv 14) po_none (po_some (pv 15)))))))
    pss_nil)
    (pss_one (ps_ret (pe_tup (pa_cons (pe_op op_cat (pv 1) (pe_revL (pv 10))) (pa_cons (pv 14) pa_nil)))))))))))))), ?_⟩
    -- the sizes
    refine ⟨_, rfl, by show 3 ≤ sizeLine; decide, fun p1 np1 => ?_⟩
    generalize hG1 : upd H p1 _ = H1
    obtain ⟨s1, e1⟩ := new_of np1 hG1
    refine ⟨8, rfl, by decide, by decide, fun Z hZ => ?_⟩
    refine lc_data (K := K) (walk_range (lo := 0) (n := 8)) hZ (fun i => .int (many + 1)) (by decide) (fun _ _ => rfl) (fun H s => trivial) (fun i x H1 H2 Q' hi s2 y q' => ?_) (fun H2 ys s2 e2 ha2 => ?_)
    · obtain ⟨rfl, rfl⟩ := y
      exact ⟨rfl, _, rfl, _, _, rfl, rfl, q' _ _ (Same.refl _) (.int _)⟩
    have e2' := dpa_ints' (ns := (List.range 8).map fun i => many + 1) (by rw [List.map_map]; exact ha2)
    subst e2'
    generalize hss : (List.range 8).map (fun i => many + 1) = s0 at e2
    have hsl : s0.length = 8 := by rw [← hss, List.length_map, List.length_range]
    have hs0 : ∀ x, x ∈ s0 → x = many + 1 := fun x hx => by
      rw [← hss] at hx
      obtain ⟨j, _, rfl⟩ := List.mem_map.mp hx
      rfl
    refine ⟨_, _, _, _, rfl, rfl, s2 _ _ e1, e2, by rw [List.length_map, hsl]; decide, fun p2 np2 => ?_⟩
    generalize hG3 : upd H2 p2 _ = H3
    obtain ⟨s3, e3a⟩ := new_of np2 hG3
    have eS : [V.int 8, V.int 6, V.int 5] ++ s0.map V.int = ([8, 6, 5] ++ s0).map V.int := rfl
    rw [eS] at e3a
    have sA := s1.trans (s2.trans s3)
    refine ⟨a, p2, ns, [8, 6, 5] ++ s0, 3, rfl, sA.seq hS, by decide, by decide, SqL.of e3a, by rw [List.length_append, hsl]; decide, fun x hx => ?_, fun D2 dr H4 hl hb s4 hD2 eDr => ?_⟩
    · rcases List.mem_append.mp hx with h | h
      · have : x = 8 ∨ x = 6 ∨ x = 5 := by simpa using h
        rcases this with rfl | rfl | rfl <;> exact ⟨by decide, by decide⟩
      · have := hs0 x h
        exact ⟨by omega, Nat.lt_of_lt_of_le (m := 100) (by omega) (by decide)⟩
    have drl : dr.length = 11 := by rw [hl, List.length_append, hsl]; rfl
    have sB := sA.trans s4
    obtain ⟨b00, b01⟩ := hb 0 dr[0] 8 (List.getElem?_eq_getElem (by omega)) rfl
    obtain ⟨b10, b11⟩ := hb 1 dr[1] 6 (List.getElem?_eq_getElem (by omega)) rfl
    obtain ⟨b20, b21⟩ := hb 2 dr[2] 5 (List.getElem?_eq_getElem (by omega)) rfl
    have bnd : ∀ j (h : j < dr.length), 3 ≤ j → 0 ≤ dr[j] ∧ dr[j] ≤ many := fun j hj h3 => by
      have hg : ([8, 6, 5] ++ s0)[j]? = some (many + 1) := by
        rw [List.getElem?_append_right h3]
        have hj2 : j - [(8 : Int), 6, 5].length < s0.length := by show j - 3 < _; omega
        rw [List.getElem?_eq_getElem hj2, hs0 _ (List.getElem_mem hj2)]
      have := hb j dr[j] _ (List.getElem?_eq_getElem hj) hg
      omega
    -- the weights
    refine ⟨_, rfl, 9, rfl, by decide, by decide, fun Z2 hZ2 => ?_⟩
    refine lc_data (K := K) (walk_range (lo := 0) (n := 9)) hZ2 (fun i => .int (10 ^ 42)) (by decide) (fun _ _ => rfl) (fun H s => trivial) (fun i x H1 H2 Q' hi s2 y q' => ?_) (fun H5 ys s5 e5 ha5 => ?_)
    · obtain ⟨rfl, rfl⟩ := y
      exact ⟨rfl, _, _, rfl, rfl, ⟨by decide, by decide, by decide⟩, q' _ _ (Same.refl _) (.int _)⟩
    have e5' := dpa_ints' (ns := (List.range 9).map fun i => 10 ^ 42) (by rw [List.map_map]; exact ha5)
    subst e5'
    generalize hsw : (List.range 9).map (fun i => (10 : Int) ^ 42) = sw at e5
    have hswl : sw.length = 9 := by rw [← hsw, List.length_map, List.length_range]
    have sC := sB.trans s5
    refine ⟨a, Z2, ns, sw, 4, rfl, sC.seq hS, by decide, by decide, SqL.of e5, by omega, fun x hx => ?_, fun D3 dw H6 hl6 hb6 s6 hD6 eDw => ?_⟩
    · rw [← hsw] at hx
      obtain ⟨j, _, rfl⟩ := List.mem_map.mp hx
      exact ⟨by decide, by decide⟩
    refine ⟨D3, rfl, ⟨_, SqL.of eDw⟩, fun WA hWA => ?_⟩
    refine lc_list (K := K) (a := D3) (xs := dw.map V.int) (fun i H7 => Same H6 H7 ∧ ∃ ws : List Int, H7 WA = some (.lst (ws.map V.int)) ∧ ws.length = i ∧ ∀ x, x ∈ ws → Wt x) ⟨same_new hWA, [], upd_same, rfl, fun x h => (List.not_mem_nil h).elim⟩ (fun i H7 _ h => h.1.seq (SqL.of eDw)) (fun i x H7 hx hP => ?_) (fun H7 hP => ?_)
    · obtain ⟨s7, ws, eW, hwl, hww⟩ := hP
      rw [List.getElem?_map] at hx
      cases hni : dw[i]? with
      | none =>
        rw [hni] at hx
        cases hx
      | some n =>
        rw [hni] at hx
        cases hx
        have hlt := (List.getElem?_eq_some_iff.mp hni).1
        refine ⟨rfl, _, rfl, n, rfl, fun r hr => ⟨_, eW, by rw [List.length_map]; exact small_sz5 (by omega), same_mut s7 hWA, ws ++ [r], by rw [upd_same, List.map_append]; rfl, by rw [List.length_append, hwl]; rfl, fun x hx => ?_⟩⟩
        rcases List.mem_append.mp hx with h | h
        · exact hww x h
        · rw [List.mem_singleton.mp h]
          exact hr
    obtain ⟨s7, ws, eW, hwl, hww⟩ := hP
    have hwl : ws.length = 9 := by rw [hwl, List.length_map, hl6, hswl]
    have sD := sC.trans (s6.trans s7)
    have eD7 := (s5.trans (s6.trans s7)) _ _ eDr
    -- nodes
    refine ⟨_, rfl, _, rfl, _, rfl, D2, _, _, _, rfl, rfl, SqL.of eD7, ints_at (j := 0) (by omega), _, _, rfl, rfl, _, rfl, D2, _, rfl, SqL.of eD7, fun N0 nN0 => ?_⟩
    obtain ⟨m, hm⟩ : ∃ m : Nat, dr[0] = m := ⟨dr[0].toNat, by omega⟩
    have ecut : cutV (dr.map V.int) (some 3) (some ((4 : Int) + dr[0])) = ((dr.drop 3).take (m + 1)).map V.int := by
      rw [show (4 : Int) + dr[0] = ((4 + m : Nat) : Int) by omega]
      have := cutv_part (dr.map V.int) 3 (4 + m) (by omega)
      rw [show 4 + m - 3 = m + 1 by omega, ← List.map_drop, ← List.map_take] at this
      exact this
    rw [ecut]
    generalize hnd : (dr.drop 3).take (m + 1) = nd
    have hndl : nd.length = m + 1 := by
      rw [← hnd, List.length_take, List.length_drop]
      omega
    have hndb : ∀ x, x ∈ nd → 0 ≤ x ∧ x ≤ many := fun x hx => by
      rw [← hnd] at hx
      have hx := List.mem_of_mem_take hx
      obtain ⟨j, hj, rfl⟩ := List.getElem_of_mem hx
      rw [List.getElem_drop]
      rw [List.length_drop] at hj
      exact bnd (3 + j) (by omega) (by omega)
    generalize hG8 : upd H7 N0 _ = H8
    obtain ⟨s8, eN0⟩ := new_of nN0 hG8
    cases b with
    | true =>
      refine ⟨_, rfl, _, rfl, iteT ?_⟩
      refine ⟨_, rfl, _, rfl, _, rfl, N0, _, rfl, SqL.of eN0, fun N1 nN1 => ?_⟩
      rw [show cutV (nd.map V.int) none (some 1) = (nd.take 1).map V.int by rw [List.map_take]; exact cutv_first (nd.map V.int) 1]
      generalize hG9 : upd H8 N1 _ = H9
      obtain ⟨s9, eN1⟩ := new_of nN1 hG9
      refine ⟨_, _, _, _, rfl, rfl, s9 _ _ eN0, eN1, by rw [List.length_map, List.length_map, List.length_take]; exact sz5 (by omega), fun NA nNA => ?_⟩
      rw [show nd.map V.int ++ (nd.take 1).map V.int = (nd ++ nd.take 1).map V.int from (List.map_append).symm]
      have hn2l : (nd ++ nd.take 1).length = m + 2 := by
        rw [List.length_append, List.length_take]
        omega
      have hn2b : ∀ x, x ∈ nd ++ nd.take 1 → 0 ≤ x ∧ x ≤ many := fun x hx => by
        rcases List.mem_append.mp hx with h | h
        · exact hndb x h
        · exact hndb x (List.mem_of_mem_take h)
      generalize nd ++ nd.take 1 = n2 at hn2l hn2b

      generalize hG10 : upd H9 NA _ = H10
      obtain ⟨s10, eNA⟩ := new_of nNA hG10
      -- count
      refine ⟨_, rfl, NA, _, rfl, .inl (SqL.of eNA), _, _, rfl, rfl, ?_⟩
      have ec : (((n2.map V.int).length : Nat) : Int) - 1 = ((m + 1 : Nat) : Int) := by
        rw [List.length_map, hn2l]
        omega
      dsimp only
      rw [ec]
      have sE := sD.trans (s8.trans (s9.trans s10))
      have eW10 := (s8.trans (s9.trans s10)) _ _ eW
      have eD10 := (s8.trans (s9.trans s10)) _ _ eD7
      -- edges
      refine ⟨_, rfl, _, rfl, by omega, by omega, fun EA hEA => ?_⟩
      refine lc_data (K := K) (walk_range (lo := 0) (n := ((m + 1 : Nat) : Int).toNat)) hEA (fun i => e3 (n2.getD i 0, n2.getD (i + 1) 0, ws.getD i 0)) (by omega) (fun _ _ => rfl) (fun H s => trivial) (fun i x Ha Hb Q' hi s2 y q' => ?_) (fun H11 zs s11 e11 ha11 => ?_)
      · obtain ⟨rfl, rfl⟩ := y
        have ei : (0 : Int) + (i : Nat) = (i : Nat) := by omega
        refine ⟨rfl, _, rfl, _, rfl, NA, _, _, _, rfl, rfl, SqL.of (s2 _ _ eNA), at_of ei (ints_get (List.getElem?_eq_getElem (show i < n2.length by omega))), ?_⟩
        refine ⟨_, rfl, _, rfl, _, _, rfl, rfl, NA, _, _, _, rfl, rfl, SqL.of (s2 _ _ eNA), at_of (show (0 : Int) + (i : Nat) + 1 = ((i + 1 : Nat) : Int) by omega) (ints_get (List.getElem?_eq_getElem (show i + 1 < n2.length by omega))), ?_⟩
        refine ⟨_, rfl, _, rfl, WA, _, _, _, rfl, rfl, SqL.of (s2 _ _ eW10), at_of ei (ints_get (List.getElem?_eq_getElem (show i < ws.length by omega))), by show 3 ≤ sizeLine; decide, fun t ht => ?_⟩
        refine q' _ _ (same_new ht) ?_
        rw [getD_get (show i < n2.length by omega), getD_get (show i + 1 < n2.length by omega), getD_get (show i < ws.length by omega)]
        exact e3_mk upd_same
      have em : ((m + 1 : Nat) : Int).toNat = m + 1 := by omega
      rw [em] at ha11
      have haE : DpAll K H11 zs (((List.range (m + 1)).map fun i => ((n2.getD i 0, n2.getD (i + 1) 0, ws.getD i 0) : Tri)).map e3) := by
        rw [List.map_map]
        exact ha11
      clear ha11
      generalize hes : (List.range (m + 1)).map (fun i => ((n2.getD i 0, n2.getD (i + 1) 0, ws.getD i 0) : Tri)) = es at haE
      have hesl : es.length = m + 1 := by rw [← hes, List.length_map, List.length_range]
      have heso : ∀ d, d ∈ es → 0 ≤ d.1 ∧ d.1 ≤ many ∧ 0 ≤ d.2.1 ∧ d.2.1 ≤ many ∧ Wt d.2.2 := fun d hd => by
        rw [← hes] at hd
        obtain ⟨j, hj, rfl⟩ := List.mem_map.mp hd
        have hj := List.mem_range.mp hj
        have h1 := hn2b _ (List.getElem_mem (show j < n2.length by omega))
        have h2 := hn2b _ (List.getElem_mem (show j + 1 < n2.length by omega))
        have h3 := hww _ (List.getElem_mem (show j < ws.length by omega))
        rw [getD_get (show j < n2.length by omega), getD_get (show j + 1 < n2.length by omega), getD_get (show j < ws.length by omega)]
        exact ⟨h1.1, h1.2, h2.1, h2.2, h3⟩
      have hzl : zs.length = es.length := by rw [dpa_len haE, List.length_map]
      have sF := sE.trans s11
      have eD11 := s11 _ _ eD10
      have eW11 := s11 _ _ eW10

      -- the first edge anew
      refine ⟨_, rfl, _, rfl, iteT ?_⟩
      refine ⟨_, rfl, _, rfl, _, rfl, WA, _, _, _, rfl, rfl, SqL.of eW11, ints_at (j := 8) (by omega), _, rfl, by show 6 ≤ sizeLine; decide, fun p3 np3 => ?_⟩
      generalize hG12 : upd H11 p3 _ = H12
      obtain ⟨s12, e12⟩ := new_of np3 hG12
      obtain ⟨tz, ht1, ht2⟩ := target_at (hww _ (List.getElem_mem (show 8 < ws.length by omega))) b10 b11
      refine ⟨_, rfl, D2, _, _, _, rfl, rfl, SqL.of (s12 _ _ eD11), ints_at (j := 1) (by omega), p3, _, _, _, rfl, rfl, SqL.of e12, ht1, ?_⟩
      have e11b := s12 _ _ e11
      refine ⟨_, rfl, _, rfl, EA, _, rfl, SqL.of e11b, fun p4 np4 => ?_⟩
      rw [show cutV zs (some 1) none = zs.drop 1 from cutv_from zs 1]
      generalize hG13 : upd H12 p4 _ = H13
      obtain ⟨s13, e13⟩ := new_of np4 hG13
      have haE13 := dpa_same (s12.trans s13) _ _ haE
      have hdr : DpAll K H13 (zs.drop 1) ((es.drop 1).map e3) := by
        rw [List.map_drop]
        exact dpa_drop 1 haE13
      refine ⟨p4, rfl, ⟨_, SqL.of e13⟩, fun SA hSA => ?_⟩
      refine lc_data (K := K) (walk_list (K := K) (a := p4) (xs := zs.drop 1)) hSA (fun i => .int ((es.drop 1).getD i t0).2.2) (by rw [List.length_drop]; omega) (fun _ _ => rfl) (fun H s => s.seq (SqL.of e13)) (fun i x Ha Hb Q' hi s2 y q' => ?_) (fun H14 ys s14 e14 ha14 => ?_)
      · obtain ⟨rfl, hx⟩ := y
        have hi' : i < (es.drop 1).length := by
          rw [List.length_drop] at hi ⊢
          omega
        obtain ⟨t, g1, g2⟩ := lst_at hdr hi'
        rw [g1] at hx
        cases hx
        refine ⟨rfl, _, rfl, t, _, _, _, rfl, rfl, sqt_same s2 g2, atI_nat (j := 2) rfl, q' _ _ (Same.refl _) ?_⟩
        rw [List.getD_eq_getElem?_getD, List.getElem?_eq_getElem hi']
        exact .int _
      have er14 : (List.range (zs.drop 1).length).map (fun i => PyData.int ((es.drop 1).getD i t0).2.2) = ((es.drop 1).map fun d => d.2.2).map PyData.int := by
        rw [show (zs.drop 1).length = (es.drop 1).length by rw [List.length_drop, List.length_drop, hzl], List.map_map]
        refine range_map (es.drop 1) _ _ fun i x h => ?_
        rw [List.getD_eq_getElem?_getD, h]
        rfl
      rw [er14] at ha14
      have e14' := dpa_ints' ha14
      subst e14'
      refine ⟨SA, _, rfl, SqL.of e14, ?_⟩
      have hsum := sum_wt ((es.drop 1).map fun d => d.2.2) fun x hx => by
        obtain ⟨d, hd, rfl⟩ := List.mem_map.mp hx
        exact (heso d (List.mem_of_mem_drop hd)).2.2.2.2
      rw [List.length_map, List.length_drop] at hsum
      generalize ((es.drop 1).map fun d => d.2.2).sum = tot at hsum
      have e14b := s14 _ _ (s13 _ _ e11b)
      have haE14 := dpa_same s14 _ _ haE13
      obtain ⟨te, g1, g2⟩ := lst_at haE14 (show 0 < es.length by omega)
      obtain ⟨u0, u1, v0, v1, _⟩ := heso _ (List.getElem_mem (show 0 < es.length by omega))
      generalize hd0 : es[0] = d0 at g2 u0 u1 v0 v1
      refine ⟨_, rfl, EA, _, _, _, rfl, rfl, SqL.of e14b, atI_nat (j := 0) g1, te, _, _, _, rfl, rfl, g2, atI_nat (j := 0) rfl, ?_⟩
      refine ⟨_, rfl, EA, _, _, _, rfl, rfl, SqL.of e14b, atI_nat (j := 0) g1, te, _, _, _, rfl, rfl, g2, atI_nat (j := 1) rfl, ?_⟩
      refine ⟨_, rfl, _, rfl, _, _, rfl, rfl, by show 3 ≤ sizeLine; decide, fun t1 nt1 => ?_⟩
      generalize hG15 : upd H14 t1 _ = H15
      obtain ⟨s15, e15⟩ := new_of nt1 hG15
      have e15b := s15 _ _ e14b
      have hEA10 : H10 EA = none := hEA
      refine ⟨_, rfl, EA, _, 0, 0, rfl, rfl, e15b, ixN_nat (show 0 < zs.length by omega), ?_⟩
      have b16 : But EA H15 (upd H15 EA (.lst (zs.set 0 (.ref t1)))) := fun c o hc eo => (upd_ne hc).trans eo
      have haE16 : DpAll K (upd H15 EA (.lst (zs.set 0 (.ref t1)))) (zs.set 0 (.ref t1)) ((es.set 0 (d0.1, d0.2.1, tz - tot)).map e3) := by
        rw [List.map_set]
        exact dpa_set (dpa_but e15b b16 _ _ (noLs_e3 _) (dpa_same s15 _ _ haE14)) (dp_but e15b b16 _ _ rfl (e3_mk e15))
      have s16 : Same H10 (upd H15 EA (.lst (zs.set 0 (.ref t1)))) := same_mut (s11.trans (s12.trans (s13.trans (s14.trans s15)))) hEA
      have e16 : (upd H15 EA (.lst (zs.set 0 (.ref t1)))) EA = some (.lst (zs.set 0 (.ref t1))) := upd_same
      generalize upd H15 EA (.lst (zs.set 0 (.ref t1))) = HF at haE16 s16 e16
      have hfo : ∀ d, d ∈ es.set 0 (d0.1, d0.2.1, tz - tot) → Ok3 (10 ^ 43) many d := fun d hd => by
        unfold Wt at ht2
        rcases List.mem_or_eq_of_mem_set hd with h | h
        · obtain ⟨x1, x2, x3, x4, x5⟩ := heso d h
          unfold Wt at x5
          exact ⟨x1, x2, x3, x4, by omega, by omega⟩
        · rw [h]
          exact ⟨u0, u1, v0, v1, by show _ < tz - tot; omega, by show tz - tot < _; omega⟩
      have hfl : (es.set 0 (d0.1, d0.2.1, tz - tot)).length = m + 1 := by rw [List.length_set, hesl]
      generalize es.set 0 (d0.1, d0.2.1, tz - tot) = fs at haE16 hfo hfl
      generalize zs.set 0 (.ref t1) = zf at haE16 e16

      have hzf : zf.length = fs.length := by rw [dpa_len haE16, List.length_map]
      have sG := sE.trans s16
      have eDl := sG _ _ hD
      -- numbers
      refine ⟨_, rfl, _, rfl, by omega, by omega, fun NB hNB => ?_⟩
      refine lc_data (K := K) (walk_range (lo := 0) (n := ((m + 1 : Nat) : Int).toNat)) hNB (fun i => .int (((ds.length : Nat) : Int) + ((m + 1 : Nat) : Int) - 1 - (i : Nat))) (by omega) (fun _ _ => rfl) (fun H s => trivial) (fun i x Ha Hb Q' hi s2 y q' => ?_) (fun H17 ys s17 e17 ha17 => ?_)
      · obtain ⟨rfl, rfl⟩ := y
        refine ⟨rfl, _, rfl, dl, _, rfl, .inl (SqL.of (s2 _ _ eDl)), _, rfl, _, _, rfl, rfl, _, _, rfl, rfl, _, rfl, _, _, rfl, rfl, q' _ _ (Same.refl _) ?_⟩
        rw [hxl, show (0 : Int) + (i : Nat) = (i : Nat) by omega]
        exact .int _
      have e17' := dpa_ints' (ns := (List.range ((m + 1 : Nat) : Int).toNat).map fun i => ((ds.length : Nat) : Int) + ((m + 1 : Nat) : Int) - 1 - (i : Nat)) (by rw [List.map_map]; exact ha17)
      subst e17'
      generalize hjs : (List.range ((m + 1 : Nat) : Int).toNat).map (fun i => ((ds.length : Nat) : Int) + ((m + 1 : Nat) : Int) - 1 - (i : Nat)) = js at e17
      have hjl : js.length = m + 1 := by
        rw [← hjs, List.length_map, List.length_range]
        omega
      have hjb : ∀ j, j ∈ js → -(10 ^ 6) < j ∧ j < 10 ^ 6 := fun j hj => by
        rw [← hjs] at hj
        obtain ⟨i, hi, rfl⟩ := List.mem_map.mp hj
        have hi := List.mem_range.mp hi
        omega
      have sH := sG.trans s17
      have e16b := s17 _ _ e16
      have haE17 := dpa_same s17 _ _ haE16
      have eDl17 := s17 _ _ eDl

      refine ⟨_, rfl, _, rfl, iteT ?_⟩
      have eD17 := (s16.trans s17) _ _ eD10
      refine ⟨_, rfl, D2, _, _, _, rfl, rfl, SqL.of eD17, ints_at (j := 2) (by omega), .inl ⟨_, rfl, _, rfl, _, _, rfl, rfl, by omega, ?_⟩⟩
      have k0 : 0 ≤ dr[2] % ((m + 1 : Nat) : Int) := Int.emod_nonneg _ (by omega)
      dsimp only
      generalize dr[2] % ((m + 1 : Nat) : Int) = z at k0
      obtain ⟨at_, rfl⟩ : ∃ j : Nat, z = j := ⟨z.toNat, by omega⟩
      refine ⟨_, rfl, _, rfl, _, rfl, NB, _, rfl, SqL.of e17, fun q1 nq1 => ?_⟩
      rw [cutv_from, ← List.map_drop]
      generalize hG18 : upd H17 q1 _ = H18
      obtain ⟨s18, e18⟩ := new_of nq1 hG18
      refine ⟨_, rfl, _, rfl, _, rfl, NB, _, rfl, SqL.of (s18 _ _ e17), fun q2 nq2 => ?_⟩
      rw [cutv_first, ← List.map_take]
      generalize hG19 : upd H18 q2 _ = H19
      obtain ⟨s19, e19⟩ := new_of nq2 hG19
      refine ⟨_, _, _, _, rfl, rfl, s19 _ _ e18, e19, by rw [List.length_map, List.length_map, List.length_drop, List.length_take]; exact sz5 (by omega), fun NC nNC => ?_⟩
      rw [← List.map_append]
      generalize hG20 : upd H19 NC _ = H20
      obtain ⟨s20, e20⟩ := new_of nNC hG20
      have hkl : (js.drop at_ ++ js.take at_).length ≤ 40 := by
        rw [List.length_append, List.length_drop, List.length_take]
        omega
      have hkb : ∀ j, j ∈ js.drop at_ ++ js.take at_ → -(10 ^ 6) < j ∧ j < 10 ^ 6 := fun j hj => by
        rcases List.mem_append.mp hj with h | h
        · exact hjb j (List.mem_of_mem_drop h)
        · exact hjb j (List.mem_of_mem_take h)
      generalize js.drop at_ ++ js.take at_ = ks at e20 hkl hkb
      have sI := s18.trans (s19.trans s20)
      have sJ := sH.trans sI
      have e16c := sI _ _ e16b
      have haE20 := dpa_same sI _ _ haE17
      have eDl20 := sI _ _ eDl17

      refine ⟨_, rfl, _, rfl, EA, _, rfl, SqL.of e16c, fun r1 nr1 => ?_⟩
      generalize hG21 : upd H20 r1 _ = H21
      obtain ⟨s21, e21⟩ := new_of nr1 hG21
      refine ⟨_, _, _, _, rfl, rfl, s21 _ _ eDl20, e21, by rw [List.length_reverse]; exact sz5 (by omega), fun r2 nr2 => ?_⟩
      generalize hG22 : upd H21 r2 _ = H22
      obtain ⟨s22, e22⟩ := new_of nr2 hG22
      refine ⟨_, rfl, by show 2 ≤ sizeLine; decide, fun TT nTT => ?_⟩
      generalize hG23 : upd H22 TT _ = H23
      obtain ⟨s23, e23⟩ := new_of nTT hG23
      have sK := s21.trans (s22.trans s23)
      refine q _ _ ⟨TT, r2, NC, _, ds ++ fs.reverse, ks, rfl, sJ.trans sK, e23, s23 _ _ e22, ?_, sK _ _ e20, ?_, fun d hd => ?_, hkl, hkb⟩
      · rw [List.map_append, List.map_reverse]
        exact dpa_app (dpa_same (sJ.trans sK) _ _ hxa) (dpa_rev (dpa_same sK _ _ haE20))
      · rw [List.length_append, List.length_reverse]
        omega
      · rcases List.mem_append.mp hd with h | h
        · exact hok d h
        · exact hfo d (List.mem_reverse.mp h)
    | false =>
      refine ⟨_, rfl, _, rfl, iteF ?_⟩
      refine ⟨by show 1 ≤ sizeLine; decide, fun N1 nN1 => ?_⟩
      generalize hG9 : upd H8 N1 _ = H9
      obtain ⟨s9, eN1⟩ := new_of nN1 hG9
      refine ⟨_, rfl, _, _, _, _, rfl, rfl, eN1, s9 _ _ eN0, by rw [List.length_map]; exact sz5 (by show 1 + _ ≤ _; omega), fun NA nNA => ?_⟩
      rw [show [V.int 0] ++ nd.map V.int = (0 :: nd).map V.int from rfl]
      have hn2l : (0 :: nd).length = m + 2 := by
        rw [List.length_cons]
        omega
      have hn2b : ∀ x, x ∈ 0 :: nd → 0 ≤ x ∧ x ≤ many := fun x hx => by
        rcases List.mem_cons.mp hx with h | h
        · rw [h]
          omega
        · exact hndb x h
      generalize 0 :: nd = n2 at hn2l hn2b

      generalize hG10 : upd H9 NA _ = H10
      obtain ⟨s10, eNA⟩ := new_of nNA hG10
      -- count
      refine ⟨_, rfl, NA, _, rfl, .inl (SqL.of eNA), _, _, rfl, rfl, ?_⟩
      have ec : (((n2.map V.int).length : Nat) : Int) - 1 = ((m + 1 : Nat) : Int) := by
        rw [List.length_map, hn2l]
        omega
      dsimp only
      rw [ec]
      have sE := sD.trans (s8.trans (s9.trans s10))
      have eW10 := (s8.trans (s9.trans s10)) _ _ eW
      have eD10 := (s8.trans (s9.trans s10)) _ _ eD7
      -- edges
      refine ⟨_, rfl, _, rfl, by omega, by omega, fun EA hEA => ?_⟩
      refine lc_data (K := K) (walk_range (lo := 0) (n := ((m + 1 : Nat) : Int).toNat)) hEA (fun i => e3 (n2.getD i 0, n2.getD (i + 1) 0, ws.getD i 0)) (by omega) (fun _ _ => rfl) (fun H s => trivial) (fun i x Ha Hb Q' hi s2 y q' => ?_) (fun H11 zs s11 e11 ha11 => ?_)
      · obtain ⟨rfl, rfl⟩ := y
        have ei : (0 : Int) + (i : Nat) = (i : Nat) := by omega
        refine ⟨rfl, _, rfl, _, rfl, NA, _, _, _, rfl, rfl, SqL.of (s2 _ _ eNA), at_of ei (ints_get (List.getElem?_eq_getElem (show i < n2.length by omega))), ?_⟩
        refine ⟨_, rfl, _, rfl, _, _, rfl, rfl, NA, _, _, _, rfl, rfl, SqL.of (s2 _ _ eNA), at_of (show (0 : Int) + (i : Nat) + 1 = ((i + 1 : Nat) : Int) by omega) (ints_get (List.getElem?_eq_getElem (show i + 1 < n2.length by omega))), ?_⟩
        refine ⟨_, rfl, _, rfl, WA, _, _, _, rfl, rfl, SqL.of (s2 _ _ eW10), at_of ei (ints_get (List.getElem?_eq_getElem (show i < ws.length by omega))), by show 3 ≤ sizeLine; decide, fun t ht => ?_⟩
        refine q' _ _ (same_new ht) ?_
        rw [getD_get (show i < n2.length by omega), getD_get (show i + 1 < n2.length by omega), getD_get (show i < ws.length by omega)]
        exact e3_mk upd_same
      have em : ((m + 1 : Nat) : Int).toNat = m + 1 := by omega
      rw [em] at ha11
      have haE : DpAll K H11 zs (((List.range (m + 1)).map fun i => ((n2.getD i 0, n2.getD (i + 1) 0, ws.getD i 0) : Tri)).map e3) := by
        rw [List.map_map]
        exact ha11
      clear ha11
      generalize hes : (List.range (m + 1)).map (fun i => ((n2.getD i 0, n2.getD (i + 1) 0, ws.getD i 0) : Tri)) = es at haE
      have hesl : es.length = m + 1 := by rw [← hes, List.length_map, List.length_range]
      have heso : ∀ d, d ∈ es → 0 ≤ d.1 ∧ d.1 ≤ many ∧ 0 ≤ d.2.1 ∧ d.2.1 ≤ many ∧ Wt d.2.2 := fun d hd => by
        rw [← hes] at hd
        obtain ⟨j, hj, rfl⟩ := List.mem_map.mp hd
        have hj := List.mem_range.mp hj
        have h1 := hn2b _ (List.getElem_mem (show j < n2.length by omega))
        have h2 := hn2b _ (List.getElem_mem (show j + 1 < n2.length by omega))
        have h3 := hww _ (List.getElem_mem (show j < ws.length by omega))
        rw [getD_get (show j < n2.length by omega), getD_get (show j + 1 < n2.length by omega), getD_get (show j < ws.length by omega)]
        exact ⟨h1.1, h1.2, h2.1, h2.2, h3⟩
      have hzl : zs.length = es.length := by rw [dpa_len haE, List.length_map]
      have sF := sE.trans s11
      have eD11 := s11 _ _ eD10
      have eW11 := s11 _ _ eW10

      refine ⟨_, rfl, _, rfl, iteF ?_⟩
      have haE16 := haE
      have s16 := s11
      have e16 := e11
      have hfo : ∀ d, d ∈ es → Ok3 (10 ^ 43) many d := fun d h => by
        obtain ⟨x1, x2, x3, x4, x5⟩ := heso d h
        unfold Wt at x5
        exact ⟨x1, x2, x3, x4, by omega, by omega⟩
      have hfl := hesl
      clear haE eW11 heso
      generalize H11 = HF at haE16 s16 e16
      generalize es = fs at haE16 hfo hfl
      generalize zs = zf at haE16 e16

      have hzf : zf.length = fs.length := by rw [dpa_len haE16, List.length_map]
      have sG := sE.trans s16
      have eDl := sG _ _ hD
      -- numbers
      refine ⟨_, rfl, _, rfl, by omega, by omega, fun NB hNB => ?_⟩
      refine lc_data (K := K) (walk_range (lo := 0) (n := ((m + 1 : Nat) : Int).toNat)) hNB (fun i => .int (((ds.length : Nat) : Int) + ((m + 1 : Nat) : Int) - 1 - (i : Nat))) (by omega) (fun _ _ => rfl) (fun H s => trivial) (fun i x Ha Hb Q' hi s2 y q' => ?_) (fun H17 ys s17 e17 ha17 => ?_)
      · obtain ⟨rfl, rfl⟩ := y
        refine ⟨rfl, _, rfl, dl, _, rfl, .inl (SqL.of (s2 _ _ eDl)), _, rfl, _, _, rfl, rfl, _, _, rfl, rfl, _, rfl, _, _, rfl, rfl, q' _ _ (Same.refl _) ?_⟩
        rw [hxl, show (0 : Int) + (i : Nat) = (i : Nat) by omega]
        exact .int _
      have e17' := dpa_ints' (ns := (List.range ((m + 1 : Nat) : Int).toNat).map fun i => ((ds.length : Nat) : Int) + ((m + 1 : Nat) : Int) - 1 - (i : Nat)) (by rw [List.map_map]; exact ha17)
      subst e17'
      generalize hjs : (List.range ((m + 1 : Nat) : Int).toNat).map (fun i => ((ds.length : Nat) : Int) + ((m + 1 : Nat) : Int) - 1 - (i : Nat)) = js at e17
      have hjl : js.length = m + 1 := by
        rw [← hjs, List.length_map, List.length_range]
        omega
      have hjb : ∀ j, j ∈ js → -(10 ^ 6) < j ∧ j < 10 ^ 6 := fun j hj => by
        rw [← hjs] at hj
        obtain ⟨i, hi, rfl⟩ := List.mem_map.mp hj
        have hi := List.mem_range.mp hi
        omega
      have sH := sG.trans s17
      have e16b := s17 _ _ e16
      have haE17 := dpa_same s17 _ _ haE16
      have eDl17 := s17 _ _ eDl

      refine ⟨_, rfl, _, rfl, iteF ?_⟩
      have sJ := sH
      have e16c := e16b
      have haE20 := haE17
      have eDl20 := eDl17
      have e20 := e17
      have hkl : js.length ≤ 40 := by omega
      have hkb := hjb
      generalize H17 = H20 at sJ e16c haE20 eDl20 e20
      generalize NB = NC at e20
      generalize js = ks at e20 hkl hkb

      refine ⟨_, rfl, _, rfl, EA, _, rfl, SqL.of e16c, fun r1 nr1 => ?_⟩
      generalize hG21 : upd H20 r1 _ = H21
      obtain ⟨s21, e21⟩ := new_of nr1 hG21
      refine ⟨_, _, _, _, rfl, rfl, s21 _ _ eDl20, e21, by rw [List.length_reverse]; exact sz5 (by omega), fun r2 nr2 => ?_⟩
      generalize hG22 : upd H21 r2 _ = H22
      obtain ⟨s22, e22⟩ := new_of nr2 hG22
      refine ⟨_, rfl, by show 2 ≤ sizeLine; decide, fun TT nTT => ?_⟩
      generalize hG23 : upd H22 TT _ = H23
      obtain ⟨s23, e23⟩ := new_of nTT hG23
      have sK := s21.trans (s22.trans s23)
      refine q _ _ ⟨TT, r2, NC, _, ds ++ fs.reverse, ks, rfl, sJ.trans sK, e23, s23 _ _ e22, ?_, sK _ _ e20, ?_, fun d hd => ?_, hkl, hkb⟩
      · rw [List.map_append, List.map_reverse]
        exact dpa_app (dpa_same (sJ.trans sK) _ _ hxa) (dpa_rev (dpa_same sK _ _ haE20))
      · rw [List.length_append, List.length_reverse]
        omega
      · rcases List.mem_append.mp hd with h | h
        · exact hok d h
        · exact hfo d (List.mem_reverse.mp h)
end
end SW

namespace SW
open PySem PySem.Spec PyProof.Rows L2
abbrev s_l_drawn : Stmt := topS 14
theorem sc_l_drawn : FnScope ["script", "shape", "differences", "many", "draws", "draw", "numbers", "at"] ["script", "shape", "differences", "many"] (defScope s_l_drawn) := ⟨rfl, rfl, rfl, by decide +kernel, rfl, by decide +kernel, by decide +kernel⟩

section
variable {P : Program} {w : World} {K : PySem.W.Frag} {mg : PySem.Str → Option Value} {base : Heap}
def spDrawn (K : PySem.W.Frag) : Sp := fun vs H Q _ => ∃ (a sh dl : Addr) (ns ss : List Int) (xs : List V) (ds : List Tri) (many : Int), vs = [.ref a, .ref sh, .ref dl, .int many] ∧ SqL K H a (ns.map V.int) ∧ SqL K H sh (ss.map V.int) ∧ 0 < ss.length ∧ H dl = some (.lst xs) ∧ DpAll K H xs (ds.map e3) ∧ ds.length ≤ 30 ∧ (∀ d, d ∈ ds → Ok3 (10 ^ 43) many d) ∧ 1 ≤ many ∧ many ≤ 8 ∧ ∀ v H', Pair K many H H' v → Q v H'
theorem ok_l_drawn (T : TxB mg) (D_l_drawn : Df K mg "_law_drawn" s_l_drawn ["script", "shape", "differences", "many"]) (D_l_draws : Df K mg "_law_draws" s_l_draws ["script", "place", "sizes"]) (D_l_path : Df K mg "_law_path" s_l_path ["script", "differences", "many", "closed"]) (D_l_going : Df K mg "_law_going" s_l_going ["script", "differences", "many"]) (G_l_draws : FnOk P w K mg base CX0 2 D_l_draws.f D_l_draws.fd ["script", "place", "sizes"] (spDr K)) (G_l_path : FnOk P w K mg base CX0 3 D_l_path.f D_l_path.fd ["script", "differences", "many", "closed"] (spPath K)) (G_l_going : FnOk P w K mg base CX0 3 D_l_going.f D_l_going.fd ["script", "differences", "many"] (spGoing K)) : FnOk P w K mg base CX0 4 D_l_drawn.f D_l_drawn.fd ["script", "shape", "differences", "many"] (spDrawn K) := by
  refine D_l_drawn.F.ok sc_l_drawn (fun vs H Q E h => ?_) (fun cdv A outer s H vs Q E hr h => ?_)
  · obtain ⟨a, sh, dl, ns, ss, xs, ds, many, rfl, _⟩ := h
    rfl
  · obtain ⟨a, sh, dl, ns, ss, xs, ds, many, rfl, hS, hSh, hsl, hD, hxa, hdl, hok, hm0, hm1, q⟩ := h
    have hxl : xs.length = ds.length := by rw [dpa_len hxa, List.length_map]
    refine ⟨_, (pss_cons (ps_set (i := 4) sc_l_drawn.nd rfl (.inl rfl) (pe_call G_l_draws (hr.mono (by decide)) (by rfl) D_l_draws.g D_l_draws.F.kp D_l_draws.b .nil pass0 (pa_cons (pv 0) (pa_cons pe_int (pa_cons (pe_lst (pa_cons pe_int (pa_cons pe_int (pa_cons pe_int (pa_cons pe_int (pa_cons pe_int (pa_cons pe_int (pa_cons pe_int pa_nil)))))))) pa_nil)))))
    (pss_cons (ps_if (PW.pt (pw_or (pt_cmpR op_eq (pe_ix ix_list (pv 1) pe_int (fun _ _ => rfl)) pe_int (nomark _)) (pw_or1 (pt_cmpR op_eq (pe_callB call_len_seq (by rfl) T.n_len PySem.boot_len (pa_cons (pv 2) pa_nil)) pe_int (nomark _)))))
    (pss_one (ps_ret (pe_tup (pa_cons (pv 2) (pa_cons (pe_lc (own := [("draw", 5)]) (g := gName 5) (by rfl) sc_l_drawn.nd (pi_list (pe_slice sl_list (pv 4) (po_some pe_int) (po_some (pe_op op_add pe_int (pe_op op_mod (pe_callTy call_int1 (by rfl) T.n_int (by decide +kernel) (pa_cons (pe_ix ix_list (pv 4) pe_int (fun _ _ => rfl)) pa_nil)) pe_int))))) (blkOk_by (own := [("draw", 5)]) (N := ["script", "shape", "differences", "many", "draws", "draw", "numbers", "at"]) (sc := defScope s_l_drawn) (by decide +kernel)) (fun _ _ _ _ _ => pg_name (i := 5) sc_l_drawn.nd rfl (Or.inl rfl)) (fun _ _ _ _ _ => pts_nil) (fun _ _ _ _ _ => (pe_op op_sub (pe_op op_mod (pe_callTy call_int1 (by rfl) T.n_int (by decide +kernel) (pa_cons (pv 5) pa_nil)) (pe_op op_add (pe_callB (show CallR _ _ (rLenK K) from call_len_seq) (by rfl) T.n_len PySem.boot_len (pa_cons (pv 2) pa_nil)) pe_int)) pe_int))) pa_nil)))))
    pss_nil)
    (pss_cons (ps_if (pt_cmpR op_gt (pe_ix ix_list (pv 1) pe_int (fun _ _ => rfl)) pe_int (nomark _))
    (pss_one (ps_ret (pe_call G_l_path (hr.mono (by decide)) (by rfl) D_l_path.g D_l_path.F.kp D_l_path.b .nil pass0 (pa_cons (pv 0) (pa_cons (pv 2) (pa_cons (pv 3) (pa_cons (pe_cmpR op_lt (pe_ix ix_list (pv 1) pe_int (fun _ _ => rfl)) pe_int (nomark _)) pa_nil)))))))
    pss_nil)
    (pss_cons (ps_set (i := 6) sc_l_drawn.nd rfl (.inl rfl) (pe_call G_l_going (hr.mono (by decide)) (by rfl) D_l_going.g D_l_going.F.kp D_l_going.b .nil pass0 (pa_cons (pv 0) (pa_cons (pv 2) (pa_cons (pv 3) pa_nil)))))
    (pss_cons (ps_set (i := 7) sc_l_drawn.nd rfl (.inl rfl) (pe_op op_mod (pe_callTy call_int1 (by rfl) T.n_int (by decide +kernel) (pa_cons (pe_ix ix_list (pv 4) pe_int (fun _ _ => rfl)) pa_nil)) (pe_callB call_len_seq (by rfl) T.n_len PySem.boot_len (pa_cons (pv 6) pa_nil))))
    (pss_cons (ps_if (pt_cmpR op_eq (pe_ix ix_list (pv 1) pe_int (fun _ _ => rfl)) pe_int (nomark _))
    (pss_one (ps_asg (pe_op op_sub (pe_op op_mod (pe_callTy call_int1 (by rfl) T.n_int (by decide +kernel) (pa_cons (pe_ix ix_list (pv 4) pe_int (fun _ _ => rfl)) pa_nil)) (pe_op op_add (pe_callB call_len_seq (by rfl) T.n_len PySem.boot_len (pa_cons (pv 2) pa_nil)) pe_int)) pe_int) (pg_sub (pv 6) (pv 7) set_list)))
    pss_nil)
    (pss_cons (ps_if (pt_cmpR op_eq (pe_ix ix_list (pv 1) pe_int (fun _ _ => rfl)) pe_int (nomark _))
    (pss_one (ps_set (i := 6) sc_l_drawn.nd rfl (.inl rfl) (pe_op op_cat (pe_slice sl_list (pv 6) po_none (po_some (pv 7))) (pe_slice sl_list (pv 6) (po_some (pe_op op_add (pv 7) pe_int)) po_none))))
    pss_nil)
    (pss_one (ps_ret (pe_tup (pa_cons (pv 2) (pa_cons (pv 6) pa_nil)))))))))))), ?_⟩
    refine ⟨_, rfl, by show 7 ≤ sizeLine; decide, fun Z nZ => ?_⟩
    generalize hG1 : upd H Z _ = H1
    obtain ⟨s1, e1⟩ := new_of nZ hG1
    refine ⟨a, Z, ns, [60, 100, 100, 100, 100, 100, 100], 5, rfl, s1.seq hS, by decide, by decide, SqL.of e1, by decide, fun x hx => ?_, fun D2 dr H2 hl hb s2 hD2 eDr => ?_⟩
    · have : x = 60 ∨ x = 100 := by simpa using hx
      rcases this with rfl | rfl <;> exact ⟨by decide, by decide⟩
    have drl : dr.length = 7 := hl
    obtain ⟨b00, b01⟩ := hb 0 dr[0] 60 (List.getElem?_eq_getElem (by omega)) rfl
    obtain ⟨b10, b11⟩ := hb 1 dr[1] 100 (List.getElem?_eq_getElem (by omega)) rfl
    have sA := s1.trans s2
    have hSh2 := sA.seq hSh
    have hD2' := sA _ _ hD
    have sh0 : atI (ss.map V.int) 0 = some (.int ss[0]) := ints_at (j := 0) hsl
    generalize ss[0] = shape at sh0
    -- drawn numbers
    have fin : ∀ (H3 : Hp) (NL : Addr) (js : List Int), Same H H3 → H3 NL = some (.lst (js.map V.int)) → js.length ≤ 40 → (∀ j, j ∈ js → -(10 ^ 6) < j ∧ j < 10 ^ 6) → ∀ TT, H3 TT = none → Q (.ref TT) (upd H3 TT (.tup [.ref dl, .ref NL])) := fun H3 NL js s3 eN hjl hjb TT nTT => by
      have s4 := same_new (o := .tup [.ref dl, .ref NL]) nTT
      exact q _ _ ⟨TT, dl, NL, xs, ds, js, rfl, s3.trans s4, upd_same, s4 _ _ (s3 _ _ hD), dpa_same (s3.trans s4) _ _ hxa, s4 _ _ eN, by omega, hok, hjl, hjb⟩
    have m0 : 0 ≤ dr[0] % 6 := Int.emod_nonneg _ (by decide)
    have m1 : dr[0] % 6 < 6 := Int.emod_lt_of_pos _ (by decide)
    obtain ⟨m, hm⟩ : ∃ m : Nat, dr[0] % 6 = m := ⟨(dr[0] % 6).toNat, by omega⟩
    have cutm : cutV (dr.map V.int) (some (1 : Int)) (some ((1 : Int) + dr[0] % 6)) = ((dr.drop 1).take m).map V.int := by
      rw [hm, show (1 : Int) + (m : Nat) = ((1 + m : Nat) : Int) by omega]
      have := cutv_part (dr.map V.int) 1 (1 + m) (by omega)
      rw [show 1 + m - 1 = m by omega, ← List.map_drop, ← List.map_take] at this
      exact this
    have hpl : ((dr.drop 1).take m).length ≤ 6 := by
      rw [List.length_take, List.length_drop]
      omega
    generalize (dr.drop 1).take m = pd at cutm hpl
    refine ⟨_, rfl, sh, _, _, _, rfl, rfl, hSh2, sh0, rfl, _, rfl, ite2 (fun e => ?_) (fun e => ?_)⟩
    ·
      refine ⟨_, rfl, _, rfl, _, rfl, _, rfl, D2, _, _, _, rfl, rfl, SqL.of eDr, ints_at (j := 0) (by omega), .inl ⟨_, rfl, _, _, rfl, rfl, (by show (0 : Int) < _; decide), _, _, rfl, rfl, _, rfl, D2, _, rfl, SqL.of eDr, fun N0 nN0 => ?_⟩⟩
      rw [cutm]
      generalize hG3 : upd H2 N0 _ = H3
      obtain ⟨s3, e3a⟩ := new_of nN0 hG3
      refine ⟨N0, rfl, ⟨_, SqL.of e3a⟩, fun NB hNB => ?_⟩
      refine lc_data (K := K) (walk_list (K := K) (a := N0) (xs := pd.map V.int)) hNB (fun i => .int (pd.getD i 0 % (((ds.length : Nat) : Int) + 4) - 2)) (by rw [List.length_map]; omega) (fun _ _ => rfl) (fun H s => s.seq (SqL.of e3a)) (fun i x Ha Hb Q' hi s4 y q' => ?_) (fun H4 ys s4 e4 ha4 => ?_)
      · obtain ⟨rfl, hx⟩ := y
        rw [List.length_map] at hi
        rw [ints_get (List.getElem?_eq_getElem hi)] at hx
        cases hx
        refine ⟨rfl, _, rfl, .inl ⟨_, rfl, _, rfl, dl, _, rfl, .inl (SqL.of (s4 _ _ (s3 _ _ hD2'))), _, _, rfl, rfl, _, _, rfl, rfl, by omega, _, _, rfl, rfl, q' _ _ (Same.refl _) ?_⟩⟩
        rw [getD_get hi, hxl]
        exact .int _
      rw [List.length_map] at ha4
      have e4' := dpa_ints' (ns := (List.range pd.length).map fun i => pd.getD i 0 % (((ds.length : Nat) : Int) + 4) - 2) (by rw [List.map_map]; exact ha4)
      subst e4'
      refine ⟨by show 2 ≤ sizeLine; decide, fun TT nTT => ?_⟩
      refine fin _ _ _ (sA.trans (s3.trans s4)) e4 (by rw [List.length_map, List.length_range]; omega) (fun j hj => ?_) _ nTT
      obtain ⟨k, hk, rfl⟩ := List.mem_map.mp hj
      have r0 := Int.emod_nonneg (pd.getD k 0) (show ((ds.length : Nat) : Int) + 4 ≠ 0 by omega)
      have r1 := Int.emod_lt_of_pos (pd.getD k 0) (show 0 < ((ds.length : Nat) : Int) + 4 by omega)
      omega
    refine ⟨_, rfl, dl, _, rfl, .inl (SqL.of hD2'), rfl, _, rfl, ite2 (fun e2 => ?_) (fun e2 => ?_)⟩
    ·
      refine ⟨_, rfl, _, rfl, _, rfl, _, rfl, D2, _, _, _, rfl, rfl, SqL.of eDr, ints_at (j := 0) (by omega), .inl ⟨_, rfl, _, _, rfl, rfl, (by show (0 : Int) < _; decide), _, _, rfl, rfl, _, rfl, D2, _, rfl, SqL.of eDr, fun N0 nN0 => ?_⟩⟩
      rw [cutm]
      generalize hG3 : upd H2 N0 _ = H3
      obtain ⟨s3, e3a⟩ := new_of nN0 hG3
      refine ⟨N0, rfl, ⟨_, SqL.of e3a⟩, fun NB hNB => ?_⟩
      refine lc_data (K := K) (walk_list (K := K) (a := N0) (xs := pd.map V.int)) hNB (fun i => .int (pd.getD i 0 % (((ds.length : Nat) : Int) + 4) - 2)) (by rw [List.length_map]; omega) (fun _ _ => rfl) (fun H s => s.seq (SqL.of e3a)) (fun i x Ha Hb Q' hi s4 y q' => ?_) (fun H4 ys s4 e4 ha4 => ?_)
      · obtain ⟨rfl, hx⟩ := y
        rw [List.length_map] at hi
        rw [ints_get (List.getElem?_eq_getElem hi)] at hx
        cases hx
        refine ⟨rfl, _, rfl, .inl ⟨_, rfl, _, rfl, dl, _, rfl, .inl (SqL.of (s4 _ _ (s3 _ _ hD2'))), _, _, rfl, rfl, _, _, rfl, rfl, by omega, _, _, rfl, rfl, q' _ _ (Same.refl _) ?_⟩⟩
        rw [getD_get hi, hxl]
        exact .int _
      rw [List.length_map] at ha4
      have e4' := dpa_ints' (ns := (List.range pd.length).map fun i => pd.getD i 0 % (((ds.length : Nat) : Int) + 4) - 2) (by rw [List.map_map]; exact ha4)
      subst e4'
      refine ⟨by show 2 ≤ sizeLine; decide, fun TT nTT => ?_⟩
      refine fin _ _ _ (sA.trans (s3.trans s4)) e4 (by rw [List.length_map, List.length_range]; omega) (fun j hj => ?_) _ nTT
      obtain ⟨k, hk, rfl⟩ := List.mem_map.mp hj
      have r0 := Int.emod_nonneg (pd.getD k 0) (show ((ds.length : Nat) : Int) + 4 ≠ 0 by omega)
      have r1 := Int.emod_lt_of_pos (pd.getD k 0) (show 0 < ((ds.length : Nat) : Int) + 4 by omega)
      omega
    have hpos : 0 < ds.length := by
      rw [hxl, int_dec] at e2
      rcases Nat.eq_zero_or_pos ds.length with h | h
      · exact absurd (decide_eq_true (by omega)) e2
      · exact h
    refine ⟨_, rfl, sh, _, _, _, rfl, rfl, hSh2, sh0, _, _, rfl, rfl, _, rfl, ite2 (fun e3 => ?_) (fun e3 => ?_)⟩
    · refine ⟨_, rfl, _, rfl, _, rfl, _, rfl, sh, _, _, _, rfl, rfl, hSh2, sh0, _, _, rfl, rfl, a, dl, ns, xs, ds, many, _, rfl, sA.seq hS, hD2', dpa_same sA _ _ hxa, hdl, hok, hm0, hm1, fun v H' hp => q _ _ ?_⟩
      obtain ⟨T1, DL, NL, xs', ds', js, e, s', r⟩ := hp
      exact ⟨T1, DL, NL, xs', ds', js, e, sA.trans s', r⟩
    refine ⟨_, rfl, _, rfl, _, rfl, a, dl, ns, ds, many, rfl, sA.seq hS, .lst (SqL.of hD2') (dpa_same sA _ _ hxa), by omega, hpos, fun NL js H3 j0 j30 hjb s3 hN3 eN => ?_⟩
    have sB := sA.trans s3
    have eDr3 := s3 _ _ eDr
    have eD3 := s3 _ _ hD2'
    have hjb' : ∀ j, j ∈ js → -(10 ^ 6) < j ∧ j < 10 ^ 6 := fun j hj => by
      have := hjb j hj
      omega
    have hSh3 := sB.seq hSh
    refine ⟨_, rfl, D2, _, _, _, rfl, rfl, SqL.of eDr3, ints_at (j := 0) (by omega), .inl ⟨_, rfl, _, rfl, NL, _, rfl, .inl (SqL.of eN), _, _, rfl, rfl, by rw [List.length_map]; omega, ?_⟩⟩
    rw [List.length_map]
    have k0 : 0 ≤ dr[0] % (js.length : Int) := Int.emod_nonneg _ (by omega)
    have k1 : dr[0] % (js.length : Int) < js.length := Int.emod_lt_of_pos _ (by omega)
    dsimp only
    generalize dr[0] % (js.length : Int) = z at k0 k1
    obtain ⟨at_, rfl⟩ : ∃ j : Nat, z = j := ⟨z.toNat, by omega⟩
    refine ⟨_, rfl, sh, _, _, _, rfl, rfl, hSh3, sh0, rfl, _, rfl, ite2 (fun e4 => ?_) (fun e4 => ?_)⟩
    · have e4' : shape = 2 := by
        rw [int_dec] at e4
        exact of_decide_eq_true e4
      subst e4'
      refine ⟨_, rfl, D2, _, _, _, rfl, rfl, SqL.of eDr3, ints_at (j := 1) (by omega), .inl ⟨_, rfl, _, rfl, dl, _, rfl, .inl (SqL.of eD3), _, _, rfl, rfl, _, _, rfl, rfl, by omega, _, _, rfl, rfl, ?_⟩⟩
      refine ⟨_, rfl, _, rfl, NL, _, _, at_, rfl, rfl, eN, by rw [List.length_map]; exact ixN_nat (by omega), ?_⟩
      have r0 := Int.emod_nonneg dr[1] (show ((xs.length : Nat) : Int) + 2 ≠ 0 by omega)
      have r1 := Int.emod_lt_of_pos dr[1] (show 0 < ((xs.length : Nat) : Int) + 2 by omega)
      dsimp only
      generalize dr[1] % (((xs.length : Nat) : Int) + 2) = y at r0 r1
      rw [← List.map_set]
      have s5 : Same H (upd H3 NL (.lst ((js.set at_ (y - 1)).map V.int))) := same_mut sB (sA.free hN3)
      refine ⟨_, rfl, sh, _, _, _, rfl, rfl, s5.seq hSh, sh0, rfl, _, rfl, iteF ?_⟩
      refine ⟨_, rfl, _, rfl, by show 2 ≤ sizeLine; decide, fun TT nTT => ?_⟩
      refine fin _ _ _ s5 upd_same (by rw [List.length_set]; omega) (fun j hj => ?_) _ nTT
      rcases List.mem_or_eq_of_mem_set hj with h | h
      · exact hjb' j h
      · rw [h]
        omega
    · refine ⟨_, rfl, sh, _, _, _, rfl, rfl, hSh3, sh0, rfl, _, rfl, ite2 (fun e5 => ?_) (fun e5 => ?_)⟩
      · refine ⟨_, rfl, _, rfl, _, rfl, NL, _, rfl, SqL.of eN, fun q1 nq1 => ?_⟩
        rw [cutv_first, ← List.map_take]
        generalize hG18 : upd H3 q1 _ = H18
        obtain ⟨s18, e18⟩ := new_of nq1 hG18
        refine ⟨_, rfl, _, rfl, _, _, rfl, rfl, _, rfl, NL, _, rfl, SqL.of (s18 _ _ eN), fun q2 nq2 => ?_⟩
        rw [show (at_ : Int) + 1 = ((at_ + 1 : Nat) : Int) by omega, cutv_from, ← List.map_drop]
        generalize hG19 : upd H18 q2 _ = H19
        obtain ⟨s19, e19⟩ := new_of nq2 hG19
        refine ⟨_, _, _, _, rfl, rfl, s19 _ _ e18, e19, by rw [List.length_map, List.length_map, List.length_drop, List.length_take]; exact sz5 (by omega), fun NC nNC => ?_⟩
        rw [← List.map_append]
        generalize hG20 : upd H19 NC _ = H20
        obtain ⟨s20, e20⟩ := new_of nNC hG20
        refine ⟨_, rfl, _, rfl, by show 2 ≤ sizeLine; decide, fun TT nTT => ?_⟩
        refine fin _ _ _ (sB.trans (s18.trans (s19.trans s20))) e20 (by rw [List.length_append, List.length_drop, List.length_take]; omega) (fun j hj => ?_) _ nTT
        rcases List.mem_append.mp hj with h | h
        · exact hjb' j (List.mem_of_mem_take h)
        · exact hjb' j (List.mem_of_mem_drop h)
      · refine ⟨_, rfl, _, rfl, by show 2 ≤ sizeLine; decide, fun TT nTT => ?_⟩
        exact fin _ _ _ sB eN (by omega) hjb' _ nTT
end
end SW

namespace SW
open PySem PySem.Spec PyProof.Rows L2
abbrev s_law : Stmt := topS 19
theorem sc_law : FnScope ["script", "shape", "many", "count", "differences", "numbers", "values", "draw", "k", "at", "u", "v", "c", "given", "before", "due", "kept"] ["script"] (defScope s_law) := ⟨rfl, rfl, rfl, by decide +kernel, rfl, by decide +kernel, by decide +kernel⟩

section
variable {P : Program} {w : World} {K : PySem.W.Frag} {mg : PySem.Str → Option Value} {base : Heap}
def spLaw (K : PySem.W.Frag) : Sp := fun vs H Q _ => ∃ (a : Addr) (ns : List Int), vs = [.ref a] ∧ SqL K H a (ns.map V.int) ∧ ns.length ≤ 63 ∧ ∀ H', Q (.bl true) H'
/-- what stands while the law runs -/
structure St5 (K : PySem.W.Frag) (H : Hp) (SH DL NL VL : Addr) (ss js vals : List Int) (xs : List V) (ds : List Tri) : Prop where
  sh : H SH = some (.lst (ss.map V.int))
  nl : H NL = some (.lst (js.map V.int))
  vl : H VL = some (.lst (vals.map V.int))
  dl : H DL = some (.lst xs)
  da : DpAll K H xs (ds.map e3)
  le : ds.length ≤ 50
  ok : ∀ d, d ∈ ds → Ok3 (10 ^ 44) vals.length d
theorem St5.same {K : PySem.W.Frag} {H H' : Hp} {SH DL NL VL : Addr} {ss js vals : List Int} {xs : List V} {ds : List Tri} (a : St5 K H SH DL NL VL ss js vals xs ds) (s : Same H H') : St5 K H' SH DL NL VL ss js vals xs ds :=
  ⟨s _ _ a.sh, s _ _ a.nl, s _ _ a.vl, s _ _ a.dl, dpa_same s _ _ a.da, a.le, a.ok⟩
theorem ok_low {many : Int} {d : Tri} (h : Ok3 (10 ^ 43) many d) : Ok3 (10 ^ 44) many d := by
  obtain ⟨h1, h2, h3, h4, h5, h6⟩ := h
  exact ⟨h1, h2, h3, h4, by omega, by omega⟩
def numP (b : Bool) (js : List Int) : PyData := if b then .tuple (js.map PyData.int) else .list (js.map PyData.int)
def allD (b : Bool) (ds : List Tri) (js vals : List Int) : PyData := .list [.list [.list (ds.map e3), numP b js], .list (vals.map PyData.int)]
theorem smI_int {z : Int} (h : -(10 ^ 50) < z ∧ z < 10 ^ 50) : smI (.int z) = true := by
  unfold smI
  exact decide_eq_true (by omega)
theorem allD_sm {b : Bool} {ds : List Tri} {js vals : List Int} (h1 : ∀ d, d ∈ ds → Ok3 (10 ^ 44) vals.length d) (h2 : ∀ j, j ∈ js → -(10 ^ 6) < j ∧ j < 10 ^ 6) (h3 : ∀ x, x ∈ vals → Wt x) (hv : vals.length ≤ 100) : smI (allD b ds js vals) = true := by
  have a1 : smIs (ds.map e3) = true := smIs_map e3 ds fun d hd => by
    obtain ⟨q1, q2, q3, q4, q5, q6⟩ := h1 d hd
    show (smI (.int d.1) && (smI (.int d.2.1) && (smI (.int d.2.2) && true))) = true
    rw [smI_int (by omega), smI_int (by omega), smI_int (by omega)]
    rfl
  have a2 : smIs (js.map PyData.int) = true := smIs_map _ js fun j hj => smI_int (by have := h2 j hj; omega)
  have a3 : smIs (vals.map PyData.int) = true := smIs_map _ vals fun x hx => smI_int (by have := h3 x hx; unfold Wt at this; omega)
  have a4 : smI (numP b js) = true := by
    unfold numP
    cases b
    · exact a2
    · exact a2
  show ((smIs (ds.map e3) && (smI (numP b js) && true)) && (smIs (vals.map PyData.int) && true)) = true
  rw [a1, a4, a3]
  rfl
theorem allD_sh {b : Bool} {ds : List Tri} {js vals : List Int} (h1 : ds.length ≤ 50) (h2 : js.length ≤ 40) (h3 : vals.length ≤ 100) : shW (allD b ds js vals) ≤ sizeLine := by
  have a1 := shWs_map e3 250 ds fun d _ => by show 70 + 10 + (70 + 10 + (70 + 10 + 0)) + 10 ≤ 250; decide
  have a2 := shWs_map PyData.int 70 js fun d _ => Nat.le_refl _
  have a3 := shWs_map PyData.int 70 vals fun d _ => Nat.le_refl _
  have a4 : shW (numP b js) = shWs (js.map PyData.int) + 10 := by cases b <;> rfl
  have a5 : shW (allD b ds js vals) = ((shWs (ds.map e3) + 10) + 10 + (shW (numP b js) + 10 + 0) + 10) + 10 + (shWs (vals.map PyData.int) + 10 + 10 + 0) + 10 := rfl
  rw [a5, a4]
  exact sz5 (by omega)
theorem allD_dp {b : Bool} {ds : List Tri} {js vals : List Int} : (allD b ds js vals).depth ≤ 60 := by
  have a1 := depth_map e3 1 ds fun d _ => by show max 0 (max 0 (max 0 0)) + 1 ≤ 1; decide
  have a2 := depth_map PyData.int 0 js fun d _ => Nat.le_refl _
  have a3 := depth_map PyData.int 0 vals fun d _ => Nat.le_refl _
  have a4 : (numP b js).depth = PyData.depthAll (js.map PyData.int) + 1 := by cases b <;> rfl
  have a5 : (allD b ds js vals).depth = max (max (PyData.depthAll (ds.map e3) + 1) (max (numP b js).depth 0) + 1) (max (PyData.depthAll (vals.map PyData.int) + 1) 0) + 1 := rfl
  rw [a5, a4]
  omega
theorem ok_law (T : TxB mg) (D_law : Df K mg "law" s_law ["script"]) (D_chain_sum : Df K mg "chain_sum" s_chain_sum ["differences", "numbers"]) (D_is_ring : Df K mg "is_ring" s_is_ring ["differences", "numbers"]) (D_keeps_all : Df K mg "keeps_all" s_keeps_all ["differences", "values"]) (D_l_cell : Df K mg "_law_cell" s_l_cell ["script", "k"]) (D_l_draws : Df K mg "_law_draws" s_l_draws ["script", "place", "sizes"]) (D_l_is_integer : Df K mg "_law_is_integer" s_l_is_integer ["value"]) (D_l_sum : Df K mg "_law_sum" s_l_sum ["differences", "numbers"]) (D_l_kept : Df K mg "_law_kept" s_l_kept ["differences", "values"]) (D_l_weight : Df K mg "_law_weight" s_l_weight ["draw"]) (D_l_differences : Df K mg "_law_differences" s_l_differences ["script", "place", "count", "many"]) (D_l_going : Df K mg "_law_going" s_l_going ["script", "differences", "many"]) (D_l_path : Df K mg "_law_path" s_l_path ["script", "differences", "many", "closed"]) (D_l_drawn : Df K mg "_law_drawn" s_l_drawn ["script", "shape", "differences", "many"]) (D_l_same : Df K mg "_law_same" s_l_same ["actual", "expected"]) (D_l_is_triple : Df K mg "_law_is_triple" s_l_is_triple ["actual", "expected"]) (D_l_tells : Df K mg "_law_tells" s_l_tells ["value", "expected"]) (D_l_raised : Df K mg "_law_raised" s_l_raised ["script", "differences", "values"]) : FnOkG P w K mg base CX0 5 D_law.f D_law.fd ["script"] (spLaw K) := by
  have G_chain_sum := ok_chain_sum (P := P) (w := w) (base := base) T D_chain_sum
  have G_is_ring := ok_is_ring T D_is_ring D_chain_sum G_chain_sum
  have G_keeps_all := ok_keeps_all (P := P) (w := w) (base := base) T D_keeps_all
  have G_l_cell := ok_l_cell (P := P) (w := w) (base := base) T D_l_cell
  have G_l_draws := ok_l_draws T D_l_draws D_l_cell G_l_cell
  have G_l_is_integer := ok_l_is_integer (P := P) (w := w) (base := base) T D_l_is_integer
  have G_l_sum := ok_l_sum (P := P) (w := w) (base := base) T D_l_sum
  have G_l_kept := ok_l_kept (P := P) (w := w) (base := base) T D_l_kept
  have G_l_weight := ok_l_weight (P := P) (w := w) (base := base) T D_l_weight
  have G_l_differences := ok_l_differences T D_l_differences D_l_draws D_l_weight G_l_draws G_l_weight
  have G_l_going := ok_l_going T D_l_going D_l_draws G_l_draws
  have G_l_path := ok_l_path T D_l_path D_l_draws D_l_weight G_l_draws G_l_weight
  have G_l_drawn := ok_l_drawn T D_l_drawn D_l_draws D_l_path D_l_going G_l_draws G_l_path G_l_going
  have G_l_same := ok_l_same T D_l_same D_l_is_integer G_l_is_integer
  have G_l_is_triple := ok_l_is_triple T D_l_is_triple D_l_same G_l_same
  have G_l_tells := ok_l_tells (P := P) (w := w) (base := base) T D_l_tells
  have G_l_raised := ok_l_raised T D_l_raised D_l_draws G_l_draws
  refine Fun.okG D_law.F sc_law (fun vs H Q E h => ?_) (fun cdv A outer s H vs Q E hg hr h => ?_)
  · obtain ⟨a, ns, rfl, _⟩ := h
    rfl
  · obtain ⟨a, ns, rfl, hS, hnl, q⟩ := h
    refine ⟨_, (pss_cons (ps_set (i := 1) sc_law.nd rfl (.inl rfl) (pe_call G_l_draws (hr.mono (by decide)) (by rfl) D_l_draws.g D_l_draws.F.kp D_l_draws.b .nil pass0 (pa_cons (pv 0) (pa_cons pe_int (pa_cons (pe_lst (pa_cons pe_int (pa_cons pe_int (pa_cons pe_int (pa_cons pe_int (pa_cons pe_int (pa_cons pe_int (pa_cons pe_int (pa_cons pe_int pa_nil))))))))) pa_nil)))))
    (pss_cons (ps_set (i := 2) sc_law.nd rfl (.inl rfl) (pe_op op_add pe_int (pe_ix ix_list (pv 1) pe_int (fun _ _ => rfl))))
    (pss_cons (ps_set (i := 3) sc_law.nd rfl (.inl rfl) (pe_ix ix_list (pv 1) pe_int (fun _ _ => rfl)))
    (Evl.pss_cut (ps_if (pt_cmpR op_eq (pe_ix ix_list (pv 1) pe_int (fun _ _ => rfl)) pe_int (nomark _))
    (pss_one (ps_set (i := 3) sc_law.nd rfl (.inl rfl) (pe_op op_add pe_int (pe_op op_mul pe_int (pe_ix ix_list (pv 1) pe_int (fun _ _ => rfl))))))
    pss_nil)
    (pss_cons (ps_set (i := 4) sc_law.nd rfl (.inl rfl) (pe_call G_l_differences (hr.mono (by decide)) (by rfl) D_l_differences.g D_l_differences.F.kp D_l_differences.b .nil pass0 (pa_cons (pv 0) (pa_cons pe_int (pa_cons (pv 3) (pa_cons (pv 2) pa_nil))))))
    (pss_cons (ps_asg (pe_call G_l_drawn (hr.mono (by decide)) (by rfl) D_l_drawn.g D_l_drawn.F.kp D_l_drawn.b .nil pass0 (pa_cons (pv 0) (pa_cons (pv 1) (pa_cons (pv 4) (pa_cons (pv 2) pa_nil))))) (pg_tup (by rfl) (pgs_cons (pg_name (i := 4) sc_law.nd rfl (.inl rfl)) (pgs_cons (pg_name (i := 5) sc_law.nd rfl (.inl rfl)) pgs_nil))))
    (pss_cons (ps_setLc (i := 6) (own := [("draw", 7)]) (g := gName 7) (by rfl) sc_law.nd rfl rfl (sw_true rfl rfl rfl (by decide +kernel)) (pi_list (pe_call G_l_draws (hr.mono (by decide)) (by rfl) D_l_draws.g D_l_draws.F.kp D_l_draws.b .nil pass0 (pa_cons (pv 0) (pa_cons pe_int (pa_cons (pe_lc (own := [("k", 8)]) (g := gName 8) (by rfl) sc_law.nd (pi_range1 (by rfl) T.n_range (pa_cons (pv 2) pa_nil)) (blkOk_by (own := [("k", 8)]) (N := ["script", "shape", "many", "count", "differences", "numbers", "values", "draw", "k", "at", "u", "v", "c", "given", "before", "due", "kept"]) (sc := defScope s_law) (by decide +kernel)) (fun _ _ _ _ _ => pg_name (i := 8) sc_law.nd rfl (Or.inl rfl)) (fun _ _ _ _ _ => pts_nil) (fun _ _ _ _ _ => (pe_op op_pow pe_int pe_int))) pa_nil))))) (blkOk_by (own := [("draw", 7)]) (N := ["script", "shape", "many", "count", "differences", "numbers", "values", "draw", "k", "at", "u", "v", "c", "given", "before", "due", "kept"]) (sc := defScope s_law) (by decide +kernel)) (fun _ _ _ _ _ => pg_name (i := 7) sc_law.nd rfl (Or.inl rfl)) (fun _ _ _ _ _ => pts_nil) (fun _ _ _ _ _ => (pe_call G_l_weight (hr.mono (by decide)) (by rfl) D_l_weight.g D_l_weight.F.kp D_l_weight.b .nil pass0 (pa_cons (pv 7) pa_nil))))
    (Evl.pss_cut (ps_if (pt_cmpR op_gt (pe_ix ix_list (pv 1) pe_int (fun _ _ => rfl)) pe_int (nomark _))
    (pss_one (ps_set (i := 4) sc_law.nd rfl (.inl rfl) (pe_call G_l_raised (hr.mono (by decide)) (by rfl) D_l_raised.g D_l_raised.F.kp D_l_raised.b .nil pass0 (pa_cons (pv 0) (pa_cons (pv 4) (pa_cons (pv 6) pa_nil))))))
    pss_nil)
    (Evl.pss_cut (ps_if (PW.pt (pw_and (pt_cmpR op_eq (pe_ix ix_list (pv 1) pe_int (fun _ _ => rfl)) pe_int (nomark _)) (pw_and1 (pt_cmpR op_gt (pe_callB call_len_seq (by rfl) T.n_len PySem.boot_len (pa_cons (pv 4) pa_nil)) pe_int (nomark _)))))
    (pss_cons (ps_set (i := 9) sc_law.nd rfl (.inl rfl) (pe_op op_mod (pe_callTy call_int1 (by rfl) T.n_int (by decide +kernel) (pa_cons (pe_ix ix_list (pv 1) pe_int (fun _ _ => rfl)) pa_nil)) (pe_callB call_len_seq (by rfl) T.n_len PySem.boot_len (pa_cons (pv 4) pa_nil))))
    (pss_cons (ps_asg (pe_ix ix_list (pv 4) (pv 9) (fun _ _ => rfl)) (pg_tup (by rfl) (pgs_cons (pg_name (i := 10) sc_law.nd rfl (.inl rfl)) (pgs_cons (pg_name (i := 11) sc_law.nd rfl (.inl rfl)) (pgs_cons (pg_name (i := 12) sc_law.nd rfl (.inl rfl)) pgs_nil)))))
    (pss_one (ps_asg (pe_tup (pa_cons (pv 10) (pa_cons (pv 11) (pa_cons (pe_op op_sub (pe_op op_sub (pe_ix ix_list (pe_op op_cat (pe_lst (pa_cons pe_int pa_nil)) (pv 6)) (pv 10) (fun _ _ => rfl)) (pe_ix ix_list (pe_op op_cat (pe_lst (pa_cons pe_int pa_nil)) (pv 6)) (pv 11) (fun _ _ => rfl))) pe_int) pa_nil)))) (pg_sub (pv 4) (pv 9) set_list)))))
    pss_nil)
    (pss_cons (ps_set (i := 13) sc_law.nd rfl (.inl rfl) (pe_lst (pa_cons (pe_callTy call_list_of (by rfl) T.n_list (by decide +kernel) (pa_cons (pv 4) pa_nil)) (pa_cons (pe_callTy call_list_of (by rfl) T.n_list (by decide +kernel) (pa_cons (pv 5) pa_nil)) pa_nil))))
    (Evl.pss_cut (ps_if (pt_cmpR op_eq (pe_ix ix_list (pv 1) pe_int (fun _ _ => rfl)) pe_int (nomark _))
    (pss_one (ps_set (i := 13) sc_law.nd rfl (.inl rfl) (pe_lst (pa_cons (pe_ix ix_list (pv 13) pe_int (fun _ _ => rfl)) (pa_cons (pe_callTy call_tuple_of (by rfl) T.n_tuple (by decide +kernel) (pa_cons (pv 5) pa_nil)) pa_nil)))))
    pss_nil)
    (pss_cons (ps_set (i := 14) sc_law.nd rfl (.inl rfl) (pe_callB (call_reprD hg hr.units) (by rfl) T.n_repr (by decide +kernel) (pa_cons (pe_lst (pa_cons (pv 13) (pa_cons (pv 6) pa_nil))) pa_nil)))
    (pss_cons (ps_set (i := 15) sc_law.nd rfl (.inl rfl) (pe_call G_l_sum (hr.mono (by decide)) (by rfl) D_l_sum.g D_l_sum.F.kp D_l_sum.b .nil pass0 (pa_cons (pv 4) (pa_cons (pv 5) pa_nil))))
    (pss_cons (ps_if (pt_not (pt_val (pe_call G_l_is_triple (hr.mono (by decide)) (by rfl) D_l_is_triple.g D_l_is_triple.F.kp D_l_is_triple.b .nil pass0 (pa_cons (pe_call G_chain_sum (hr.mono (by decide)) (by rfl) D_chain_sum.g D_chain_sum.F.kp D_chain_sum.b .nil pass0 (pa_cons (pe_ix ix_list (pv 13) pe_int (fun _ _ => rfl)) (pa_cons (pe_ix ix_list (pv 13) pe_int (fun _ _ => rfl)) pa_nil))) (pa_cons (pv 15) pa_nil)))))
    (pss_one (ps_ret pe_bl))
    pss_nil)
    (pss_cons (ps_if (pt_not (pt_val (pe_call G_l_tells (hr.mono (by decide)) (by rfl) D_l_tells.g D_l_tells.F.kp D_l_tells.b .nil pass0 (pa_cons (pe_call G_is_ring (hr.mono (by decide)) (by rfl) D_is_ring.g D_is_ring.F.kp D_is_ring.b .nil pass0 (pa_cons (pe_ix ix_list (pv 13) pe_int (fun _ _ => rfl)) (pa_cons (pe_ix ix_list (pv 13) pe_int (fun _ _ => rfl)) pa_nil))) (pa_cons (pe_and (pe_cmpR op_notN (pv 15) pe_non (nomark _)) (pe_and (pe_cmpR op_eq (pe_ix ix_tup (pv 15) pe_int (fun _ _ => rfl)) (pe_ix ix_tup (pv 15) pe_int (fun _ _ => rfl)) (nomark _)) (pe_one (pe_cmpR op_lt (pe_ix ix_tup (pv 15) pe_int (fun _ _ => rfl)) pe_int (nomark _))))) pa_nil)))))
    (pss_one (ps_ret pe_bl))
    pss_nil)
    (pss_cons (ps_set (i := 16) sc_law.nd rfl (.inl rfl) (pe_call G_l_kept (hr.mono (by decide)) (by rfl) D_l_kept.g D_l_kept.F.kp D_l_kept.b .nil pass0 (pa_cons (pv 4) (pa_cons (pv 6) pa_nil))))
    (pss_cons (ps_if (pt_not (pt_val (pe_call G_l_tells (hr.mono (by decide)) (by rfl) D_l_tells.g D_l_tells.F.kp D_l_tells.b .nil pass0 (pa_cons (pe_call G_keeps_all (hr.mono (by decide)) (by rfl) D_keeps_all.g D_keeps_all.F.kp D_keeps_all.b .nil pass0 (pa_cons (pe_ix ix_list (pv 13) pe_int (fun _ _ => rfl)) (pa_cons (pv 6) pa_nil))) (pa_cons (pv 16) pa_nil)))))
    (pss_one (ps_ret pe_bl))
    pss_nil)
    (pss_one (ps_ret (pe_cmpR op_eq (pe_callB (call_reprD hg hr.units) (by rfl) T.n_repr (by decide +kernel) (pa_cons (pe_lst (pa_cons (pv 13) (pa_cons (pv 6) pa_nil))) pa_nil)) (pv 14) (nomark _))))))))))))))))))))), ?_⟩
    -- shape
    refine ⟨_, rfl, by show 8 ≤ sizeLine; decide, fun Z nZ => ?_⟩
    generalize hG1 : upd H Z _ = H1
    obtain ⟨s1, e1⟩ := new_of nZ hG1
    refine ⟨a, Z, ns, [8, 7, 9, 2, 2, 3, 1000, 8], 0, rfl, s1.seq hS, by decide, by decide, SqL.of e1, by decide, fun x hx => ?_, fun SH ss H2 hl hb s2 hSHn eSH => ?_⟩
    · have : x = 8 ∨ x = 7 ∨ x = 9 ∨ x = 2 ∨ x = 3 ∨ x = 1000 ∨ x = 8 := by simpa using hx
      rcases this with rfl | rfl | rfl | rfl | rfl | rfl | rfl <;> exact ⟨by decide, by decide⟩
    have ssl : ss.length = 8 := hl
    obtain ⟨b10, b11⟩ := hb 1 ss[1] 7 (List.getElem?_eq_getElem (by omega)) rfl
    obtain ⟨b20, b21⟩ := hb 2 ss[2] 9 (List.getElem?_eq_getElem (by omega)) rfl
    have sA := s1.trans s2
    have at_ : ∀ {H' : Hp} (e : H' SH = some (.lst (ss.map V.int))) (j : Nat) (hj : j < ss.length), SqL K H' SH (ss.map V.int) ∧ atI (ss.map V.int) (j : Int) = some (.int ss[j]) := fun e j hj => ⟨SqL.of e, ints_at hj⟩
    refine ⟨_, rfl, SH, _, _, _, rfl, rfl, SqL.of eSH, ints_at (j := 1) (by omega), _, _, rfl, rfl, ?_⟩
    refine ⟨_, rfl, SH, _, _, _, rfl, rfl, SqL.of eSH, ints_at (j := 2) (by omega), ?_⟩
    obtain ⟨many, hmany, hm0, hm1⟩ : ∃ many : Int, (1 : Int) + ss[1] = many ∧ 1 ≤ many ∧ many ≤ 8 := ⟨_, rfl, by omega, by omega⟩
    dsimp only
    rw [hmany]
    -- count
    refine ⟨fun σ' H' => ∃ cnt : Int, (0 ≤ cnt ∧ cnt ≤ 24) ∧ σ' = [some (.ref a), some (.ref SH), some (.int many), some (.int cnt), none, none, none, none, none, none, none, none, none, none, none, none, none] ∧ H' = H2, ?_, ?_⟩
    · refine ⟨_, rfl, SH, _, _, _, rfl, rfl, SqL.of eSH, ints_at (j := 7) (by omega), rfl, _, rfl, ite2 (fun e => ?_) (fun e => ?_)⟩
      · exact ⟨_, rfl, SH, _, _, _, rfl, rfl, SqL.of eSH, ints_at (j := 2) (by omega), _, _, rfl, rfl, .inl ⟨by decide, by decide⟩, _, _, rfl, rfl, _, ⟨by omega, by omega⟩, rfl, rfl⟩
      · exact ⟨_, ⟨by omega, by omega⟩, rfl, rfl⟩
    intro σ' H' hN
    obtain ⟨cnt, ⟨c0, c1⟩, rfl, rfl⟩ := hN
    -- differences, numbers
    refine ⟨_, rfl, _, rfl, _, rfl, a, ns, 1, cnt, many, rfl, sA.seq hS, by decide, by decide, c0, c1, hm0, hm1, fun D0 xs0 ds0 H3 hl0 hok0 s3 hD0 eD0 ha0 => ?_⟩
    have sB := sA.trans s3
    have eSH3 := s3 _ _ eSH
    refine ⟨_, rfl, _, rfl, _, rfl, _, rfl, a, SH, D0, ns, ss, xs0, ds0, many, rfl, sB.seq hS, SqL.of eSH3, by omega, eD0, ha0, by omega, hok0, hm0, hm1, fun v H4 hp => ?_⟩
    obtain ⟨T1, DL, NL, xs, ds, js, rfl, s4, eT, eDL, haD, eNL, hdl, hok, hjl, hjb⟩ := hp
    refine ⟨T1, _, rfl, SqT.of eT, rfl, _, _, rfl, _, _, rfl, rfl, ?_⟩
    have sC := sB.trans s4
    have eSH4 := s4 _ _ eSH3
    -- values
    refine ⟨_, rfl, _, rfl, _, rfl, by omega, by omega, fun Z2 hZ2 => ?_⟩
    refine lc_data (K := K) (walk_range (lo := 0) (n := many.toNat)) hZ2 (fun i => .int (10 ^ 42)) (by omega) (fun _ _ => rfl) (fun H s => trivial) (fun i x H1 H2 Q' hi s2 y q' => ?_) (fun H5 ys s5 e5 ha5 => ?_)
    · obtain ⟨rfl, rfl⟩ := y
      exact ⟨rfl, _, _, rfl, rfl, ⟨by decide, by decide, by decide⟩, q' _ _ (Same.refl _) (.int _)⟩
    have e5' := dpa_ints' (ns := (List.range many.toNat).map fun i => 10 ^ 42) (by rw [List.map_map]; exact ha5)
    subst e5'
    generalize hsw : (List.range many.toNat).map (fun i => (10 : Int) ^ 42) = sw at e5
    have hswl : sw.length = many.toNat := by rw [← hsw, List.length_map, List.length_range]
    have sD := sC.trans s5
    refine ⟨a, Z2, ns, sw, 6, rfl, sD.seq hS, by decide, by decide, SqL.of e5, by omega, fun x hx => ?_, fun D3 dw H6 hl6 hb6 s6 hD6 eDw => ?_⟩
    · rw [← hsw] at hx
      obtain ⟨j, _, rfl⟩ := List.mem_map.mp hx
      exact ⟨by decide, by decide⟩
    refine ⟨D3, rfl, ⟨_, SqL.of eDw⟩, fun VL hVL => ?_⟩
    refine lc_list (K := K) (a := D3) (xs := dw.map V.int) (fun i H7 => Same H6 H7 ∧ ∃ ws : List Int, H7 VL = some (.lst (ws.map V.int)) ∧ ws.length = i ∧ ∀ x, x ∈ ws → Wt x) ⟨same_new hVL, [], upd_same, rfl, fun x h => (List.not_mem_nil h).elim⟩ (fun i H7 _ h => h.1.seq (SqL.of eDw)) (fun i x H7 hx hP => ?_) (fun H7 hP => ?_)
    · obtain ⟨s7, ws, eW, hwl, hww⟩ := hP
      rw [List.getElem?_map] at hx
      cases hni : dw[i]? with
      | none =>
        rw [hni] at hx
        cases hx
      | some n =>
        rw [hni] at hx
        cases hx
        have hlt := (List.getElem?_eq_some_iff.mp hni).1
        refine ⟨rfl, _, rfl, n, rfl, fun r hr => ⟨_, eW, by rw [List.length_map]; exact small_sz5 (by omega), same_mut s7 hVL, ws ++ [r], by rw [upd_same, List.map_append]; rfl, by rw [List.length_append, hwl]; rfl, fun x hx => ?_⟩⟩
        rcases List.mem_append.mp hx with h | h
        · exact hww x h
        · rw [List.mem_singleton.mp h]
          exact hr
    obtain ⟨s7, vals, eVL, hwl, hww⟩ := hP
    have hvl : (vals.length : Int) = many := by
      rw [hwl, List.length_map]
      omega
    have sE := sD.trans (s6.trans s7)
    have sF := s5.trans (s6.trans s7)
    have st : St5 K H7 SH DL NL VL ss js vals xs ds := ⟨sF _ _ eSH4, sF _ _ eNL, eVL, sF _ _ eDL, dpa_same sF _ _ haD, hdl, fun d hd => by rw [hvl]; exact ok_low (hok d hd)⟩
    -- raised
    refine ⟨fun σ' H' => ∃ (DL : Addr) (xs : List V) (ds : List Tri), σ' = [some (.ref a), some (.ref SH), some (.int many), some (.int cnt), some (.ref DL), some (.ref NL), some (.ref VL), none, none, none, none, none, none, none, none, none, none] ∧ St5 K H' SH DL NL VL ss js vals xs ds ∧ (0 < ss[5] → DL ≠ NL ∧ DL ≠ VL ∧ DL ≠ SH), ?_, ?_⟩
    · refine ⟨_, rfl, SH, _, _, _, rfl, rfl, SqL.of st.sh, ints_at (j := 5) (by omega), _, _, rfl, rfl, _, rfl, ite2 (fun e => ?_) (fun e => ?_)⟩
      · refine ⟨_, rfl, _, rfl, _, rfl, a, DL, VL, ns, ds, vals, rfl, sE.seq hS, .lst (SqL.of st.dl) st.da, st.vl, by omega, by omega, fun d hd => by rw [hvl]; exact hok d hd, hww, fun R xr dr H8 hrl hro s8 hRn eR haR => ?_⟩
        refine ⟨R, xr, dr, rfl, ⟨s8 _ _ st.sh, s8 _ _ st.nl, s8 _ _ st.vl, eR, haR, by omega, hro⟩, fun _ => ⟨?_, ?_, ?_⟩⟩
        · exact (ne_of_none st.nl hRn).symm
        · exact (ne_of_none st.vl hRn).symm
        · exact (ne_of_none st.sh hRn).symm
      · exact ⟨DL, xs, ds, rfl, st, fun h => absurd (decide_eq_true h) e⟩
    clear st eT eDL haD hdl hok eSH eSH3 eSH4 eD0 ha0 hok0 s3 s4 s5 s6 s7 sA sB sC sD sE sF
    intro σ' H' hN
    clear eNL eVL e5 eDw ha5 hb6 hD6 hVL hZ2 hD0
    obtain ⟨DL, xs, ds, rfl, st, hne⟩ := hN
    -- one difference lowered
    refine ⟨fun σ' H' => ∃ (y9 y10 y11 y12 : Option V) (xs : List V) (ds : List Tri), σ' = [some (.ref a), some (.ref SH), some (.int many), some (.int cnt), some (.ref DL), some (.ref NL), some (.ref VL), none, none, y9, y10, y11, y12, none, none, none, none] ∧ St5 K H' SH DL NL VL ss js vals xs ds, ?_, ?_⟩
    · have hxl : xs.length = ds.length := by rw [dpa_len st.da, List.length_map]
      refine ⟨_, rfl, SH, _, _, _, rfl, rfl, SqL.of st.sh, ints_at (j := 5) (by omega), rfl, _, rfl, ite2 (fun e => ?_) (fun e => ?_)⟩
      · have e5 : ss[5] = 2 := by
          rw [int_dec] at e
          exact of_decide_eq_true e
        obtain ⟨n1, n2, n3⟩ := hne (by omega)
        refine ⟨_, rfl, DL, _, rfl, .inl (SqL.of st.dl), _, _, rfl, rfl, _, rfl, ite2 (fun e2 => ?_) (fun e2 => ?_)⟩
        · have e2 := of_decide_eq_true e2
          refine ⟨_, rfl, SH, _, _, _, rfl, rfl, SqL.of st.sh, ints_at (j := 6) (by omega), .inl ⟨_, rfl, _, rfl, DL, _, rfl, .inl (SqL.of st.dl), _, _, rfl, rfl, e2, ?_⟩⟩
          have k0 : 0 ≤ ss[6] % (xs.length : Int) := Int.emod_nonneg _ (by omega)
          have k1 : ss[6] % (xs.length : Int) < xs.length := Int.emod_lt_of_pos _ e2
          dsimp only
          generalize ss[6] % (xs.length : Int) = z at k0 k1
          obtain ⟨j, rfl⟩ : ∃ j : Nat, z = j := ⟨z.toNat, by omega⟩
          have hj : j < ds.length := by omega
          obtain ⟨t, g1, g2⟩ := lst_at st.da hj
          obtain ⟨u0, u1, v0, v1, _⟩ := st.ok _ (List.getElem_mem hj)
          obtain ⟨yu, hu1, _, hu2⟩ := wt_at hww u0 u1
          obtain ⟨yv, hv1, _, hv2⟩ := wt_at hww v0 v1
          generalize ds[j] = d at g2 u0 u1 v0 v1 hu1 hv1
          refine ⟨_, rfl, _, rfl, DL, _, _, _, rfl, rfl, SqL.of st.dl, atI_nat g1, t, _, rfl, g2, rfl, _, _, rfl, _, _, rfl, _, _, rfl, rfl, ?_⟩
          refine ⟨_, rfl, _, rfl, by show 1 ≤ sizeLine; decide, fun p1 n1' => ?_⟩
          generalize hGa : upd H' p1 _ = Ha
          obtain ⟨sa, ea⟩ := new_of n1' hGa
          refine ⟨_, rfl, _, _, _, _, rfl, rfl, ea, sa _ _ st.vl, by rw [List.length_map]; exact sz5 (by show 1 + _ ≤ _; omega), fun p2 n2' => ?_⟩
          generalize hGb : upd Ha p2 _ = Hb
          obtain ⟨sb, eb⟩ := new_of n2' hGb
          refine ⟨_, rfl, p2, _, _, _, rfl, rfl, SqL.of eb, hu1, ?_⟩
          refine ⟨by show 1 ≤ sizeLine; decide, fun p3 n3' => ?_⟩
          generalize hGc : upd Hb p3 _ = Hc
          obtain ⟨sc, ec⟩ := new_of n3' hGc
          refine ⟨_, rfl, _, _, _, _, rfl, rfl, ec, sc _ _ (sb _ _ (sa _ _ st.vl)), by rw [List.length_map]; exact sz5 (by show 1 + _ ≤ _; omega), fun p4 n4' => ?_⟩
          generalize hGd : upd Hc p4 _ = Hd
          obtain ⟨sd, ed⟩ := new_of n4' hGd
          refine ⟨_, rfl, p4, _, _, _, rfl, rfl, SqL.of ed, hv1, _, _, rfl, rfl, _, _, rfl, rfl, by show 3 ≤ sizeLine; decide, fun t2 n5' => ?_⟩
          generalize hGe : upd Hd t2 _ = He
          obtain ⟨se, ee⟩ := new_of n5' hGe
          have st2 := st.same (sa.trans (sb.trans (sc.trans (sd.trans se))))
          refine ⟨_, rfl, _, rfl, DL, _, _, j, rfl, rfl, st2.dl, ixN_nat (show j < xs.length by omega), ?_⟩
          have bt : But DL He (upd He DL (.lst (xs.set j (.ref t2)))) := fun c o hc eo => (upd_ne hc).trans eo
          refine ⟨_, _, _, _, xs.set j (.ref t2), ds.set j (d.1, d.2.1, yu - yv - 1), rfl, (upd_ne n3.symm).trans st2.sh, (upd_ne n1.symm).trans st2.nl, (upd_ne n2.symm).trans st2.vl, upd_same, ?_, by rw [List.length_set]; exact st.le, fun x hx => ?_⟩
          · rw [List.map_set]
            exact dpa_set (dpa_but st2.dl bt _ _ (noLs_e3 _) st2.da) (dp_but st2.dl bt _ _ rfl (e3_mk ee))
          · rcases List.mem_or_eq_of_mem_set hx with h | h
            · exact st.ok x h
            · rw [h]
              unfold Wt at hu2 hv2
              exact ⟨u0, u1, v0, v1, by show _ < yu - yv - 1; omega, by show yu - yv - 1 < _; omega⟩
        · exact ⟨_, _, _, _, xs, ds, rfl, st⟩
      · exact ⟨_, _, _, _, xs, ds, rfl, st⟩
    clear st hne
    intro σ' H' hN
    obtain ⟨y9, y10, y11, y12, xs, ds, rfl, st⟩ := hN
    -- given
    refine ⟨_, rfl, DL, _, rfl, .inl (SqL.of st.dl), fun GA nGA => ?_⟩
    generalize hGa : upd H' GA _ = Ha
    obtain ⟨sa, ea⟩ := new_of nGA hGa
    have sta := st.same sa
    refine ⟨_, rfl, NL, _, rfl, .inl (SqL.of sta.nl), fun GB nGB => ?_⟩
    generalize hGb : upd Ha GB _ = Hb
    obtain ⟨sb, eb⟩ := new_of nGB hGb
    have stb := sta.same sb
    refine ⟨by show 2 ≤ sizeLine; decide, fun GL nGL => ?_⟩
    generalize hGc : upd Hb GL _ = Hc
    obtain ⟨sc, ec⟩ := new_of nGL hGc
    have stc := stb.same sc
    have ea' := sc _ _ (sb _ _ ea)
    have eb' := sc _ _ eb
    refine ⟨fun σ' H' => ∃ (GL GB : Addr) (b : Bool), σ' = [some (.ref a), some (.ref SH), some (.int many), some (.int cnt), some (.ref DL), some (.ref NL), some (.ref VL), none, none, y9, y10, y11, y12, some (.ref GL), none, none, none] ∧ H' GL = some (.lst [.ref GA, .ref GB]) ∧ H' GA = some (.lst xs) ∧ Seq K H' GB js ∧ Dp K H' (.ref GB) (numP b js) ∧ St5 K H' SH DL NL VL ss js vals xs ds, ?_, ?_⟩
    · refine ⟨_, rfl, SH, _, _, _, rfl, rfl, SqL.of stc.sh, ints_at (j := 4) (by omega), rfl, _, rfl, ite2 (fun e => ?_) (fun e => ?_)⟩
      · refine ⟨_, rfl, GL, _, _, _, rfl, rfl, SqL.of ec, atI_nat (j := 0) rfl, _, rfl, NL, _, rfl, .inl ⟨SqL.of stc.nl, fun GT nGT => ?_⟩⟩
        generalize hGd : upd Hc GT _ = Hd
        obtain ⟨sd, ed⟩ := new_of nGT hGd
        refine ⟨by show 2 ≤ sizeLine; decide, fun G2 nG2 => ?_⟩
        generalize hGe : upd Hd G2 _ = He
        obtain ⟨se, ee⟩ := new_of nG2 hGe
        have ed' := se _ _ ed
        exact ⟨G2, GT, true, rfl, ee, se _ _ (sd _ _ ea'), .inr (SqT.of ed'), .tup (SqT.of ed') (dpa_ints js), stc.same (sd.trans se)⟩
      · exact ⟨GL, GB, false, rfl, ec, ea', .inl (SqL.of eb'), .lst (SqL.of eb') (dpa_ints js), stc⟩
    clear ec ea' eb' stc stb sta st sa sb sc hGa hGb hGc nGA nGB nGL ea eb
    intro σ' H' hN
    obtain ⟨GL, GB, b, rfl, eGL, eGA, hGB, dGB, st⟩ := hN
    -- before
    have hvl' : vals.length ≤ 100 := by omega
    have hsm := allD_sm (b := b) st.ok hjb hww hvl'
    have hsh := allD_sh (b := b) (ds := ds) (js := js) (vals := vals) st.le hjl hvl'
    have mkD : ∀ {H2 : Hp} {p : Addr}, Same H' H2 → H2 p = some (.lst [.ref GL, .ref VL]) → Dp K H2 (.ref p) (allD b ds js vals) := fun s e =>
      .lst (SqL.of e) (.cons (.lst (SqL.of (s _ _ eGL)) (.cons (.lst (SqL.of (s _ _ eGA)) (dpa_same s _ _ st.da)) (.cons (dGB.same s) .nil))) (.cons (.lst (SqL.of (s _ _ st.vl)) (dpa_ints vals)) .nil))
    refine ⟨_, rfl, _, rfl, by show 2 ≤ sizeLine; decide, fun p np => ?_⟩
    generalize hGa : upd H' p _ = Ha
    obtain ⟨sa, ea⟩ := new_of np hGa
    refine ⟨p, _, rfl, mkD sa ea, hsm, allD_dp, hsh, ?_⟩
    have sta := st.same sa
    have cA : (ds.map e3) = ds.map e3 := rfl
    have le1 : ds.length ≤ 1000 := by have := st.le; omega
    have le2 : js.length ≤ 1000 := by omega
    have sqS : ∀ {H2 : Hp}, Same H' H2 → Seq K H2 GB js := fun s => hGB.elim (fun h => .inl (s.seq h)) (fun h => .inr (sqt_same s h))
    -- due
    refine ⟨_, rfl, _, rfl, DL, NL, ds, js, rfl, .lst (SqL.of sta.dl) sta.da, SqL.of sta.nl, le1, le2, fun r Hb sb hr1 => ?_⟩
    have sB := sa.trans sb
    -- chain_sum
    refine ⟨_, rfl, GL, _, _, _, rfl, rfl, SqL.of (sB _ _ eGL), atI_nat (j := 0) rfl, _, rfl, GL, _, _, _, rfl, rfl, SqL.of (sB _ _ eGL), atI_nat (j := 1) rfl, ?_⟩
    refine ⟨GA, GB, ds, js, rfl, .lst (SqL.of (sB _ _ eGA)) (dpa_same sB _ _ st.da), sqS sB, le1, le2, fun r2 Hc sc hr2 => ?_⟩
    have hr1c := hr1.same sc
    refine ⟨_, rfl, r2, r, _, rfl, hr2, hr1c, fun Hd sd => ⟨_, rfl, iteF ?_⟩⟩
    have sD := sB.trans (sc.trans sd)
    have hr1d := hr1c.same sd
    -- is_ring
    refine ⟨_, rfl, GL, _, _, _, rfl, rfl, SqL.of (sD _ _ eGL), atI_nat (j := 0) rfl, _, rfl, GL, _, _, _, rfl, rfl, SqL.of (sD _ _ eGL), atI_nat (j := 1) rfl, ?_⟩
    refine ⟨GA, GB, ds, js, rfl, .lst (SqL.of (sD _ _ eGA)) (dpa_same sD _ _ st.da), sqS sD, le1, le2, fun He se => ?_⟩
    have sE := sD.trans se
    have hr1e := hr1d.same se
    have hrange : ∀ d, d ∈ ds → 0 ≤ d.1 ∧ d.1 ≤ vals.length ∧ 0 ≤ d.2.1 ∧ d.2.1 ≤ vals.length := fun d hd => by
      obtain ⟨h1, h2, h3, h4, _⟩ := st.ok d hd
      exact ⟨h1, h2, h3, h4⟩
    cases hc : chainOf ds js with
    | none =>
      rw [hc] at hr1e
      cases hr1e
      refine ⟨_, rfl, rfl, _, rfl, iteF ⟨false, rfl, _, rfl, iteF ?_⟩⟩
      -- kept
      have stE := st.same sE
      refine ⟨_, rfl, _, rfl, DL, VL, ds, vals, rfl, .lst (SqL.of stE.dl) stE.da, stE.vl, le1, by omega, hrange, fun Hf sf => ?_⟩
      have sF := sE.trans sf
      refine ⟨_, rfl, GL, _, _, _, rfl, rfl, SqL.of (sF _ _ eGL), atI_nat (j := 0) rfl, _, rfl, GA, VL, ds, vals, rfl, .lst (SqL.of (sF _ _ eGA)) (dpa_same sF _ _ st.da), sF _ _ st.vl, le1, by omega, hrange, fun Hg sg => ?_⟩
      have sG := sF.trans sg
      refine ⟨_, rfl, _, rfl, _, rfl, iteF ?_⟩
      -- the text again
      refine ⟨_, rfl, _, rfl, by show 2 ≤ sizeLine; decide, fun p2 np2 => ?_⟩
      generalize hGz : upd Hg p2 _ = Hz
      obtain ⟨sz_, ez⟩ := new_of np2 hGz
      refine ⟨p2, _, rfl, mkD (sG.trans sz_) ez, hsm, allD_dp, hsh, _, rfl, rfl, ?_⟩
      rw [decide_eq_true rfl]
      exact q _
    | some t =>
      rw [hc] at hr1e
      obtain ⟨pt, rfl, h3⟩ := e3_inv hr1e
      refine ⟨_, rfl, rfl, _, rfl, iteT ⟨_, rfl, pt, _, _, _, rfl, rfl, h3, atI_nat (j := 0) rfl, _, rfl, pt, _, _, _, rfl, rfl, h3, atI_nat (j := 1) rfl, rfl, _, rfl, ite2 (fun e => ?_) (fun e => ?_)⟩⟩
      · refine ⟨_, rfl, pt, _, _, _, rfl, rfl, h3, atI_nat (j := 2) rfl, _, _, rfl, rfl, ?_⟩
        rw [int_dec] at e
        have er : ringOf (some t) = decide (t.2.2 < 0) := by
          show (decide (t.1 = t.2.1) && decide (t.2.2 < 0)) = _
          rw [e]
          rfl
        rw [er]
        refine ⟨_, rfl, _, rfl, iteF ?_⟩
        -- kept
        have stE := st.same sE
        refine ⟨_, rfl, _, rfl, DL, VL, ds, vals, rfl, .lst (SqL.of stE.dl) stE.da, stE.vl, le1, by omega, hrange, fun Hf sf => ?_⟩
        have sF := sE.trans sf
        refine ⟨_, rfl, GL, _, _, _, rfl, rfl, SqL.of (sF _ _ eGL), atI_nat (j := 0) rfl, _, rfl, GA, VL, ds, vals, rfl, .lst (SqL.of (sF _ _ eGA)) (dpa_same sF _ _ st.da), sF _ _ st.vl, le1, by omega, hrange, fun Hg sg => ?_⟩
        have sG := sF.trans sg
        refine ⟨_, rfl, _, rfl, _, rfl, iteF ?_⟩
        -- the text again
        refine ⟨_, rfl, _, rfl, by show 2 ≤ sizeLine; decide, fun p2 np2 => ?_⟩
        generalize hGz : upd Hg p2 _ = Hz
        obtain ⟨sz_, ez⟩ := new_of np2 hGz
        refine ⟨p2, _, rfl, mkD (sG.trans sz_) ez, hsm, allD_dp, hsh, _, rfl, rfl, ?_⟩
        rw [decide_eq_true rfl]
        exact q _
      · rw [int_dec] at e
        have er : ringOf (some t) = false := by
          show (decide (t.1 = t.2.1) && decide (t.2.2 < 0)) = _
          rw [Bool.eq_false_iff.mpr e]
          rfl
        rw [er]
        refine ⟨_, rfl, _, rfl, iteF ?_⟩
        -- kept
        have stE := st.same sE
        refine ⟨_, rfl, _, rfl, DL, VL, ds, vals, rfl, .lst (SqL.of stE.dl) stE.da, stE.vl, le1, by omega, hrange, fun Hf sf => ?_⟩
        have sF := sE.trans sf
        refine ⟨_, rfl, GL, _, _, _, rfl, rfl, SqL.of (sF _ _ eGL), atI_nat (j := 0) rfl, _, rfl, GA, VL, ds, vals, rfl, .lst (SqL.of (sF _ _ eGA)) (dpa_same sF _ _ st.da), sF _ _ st.vl, le1, by omega, hrange, fun Hg sg => ?_⟩
        have sG := sF.trans sg
        refine ⟨_, rfl, _, rfl, _, rfl, iteF ?_⟩
        -- the text again
        refine ⟨_, rfl, _, rfl, by show 2 ≤ sizeLine; decide, fun p2 np2 => ?_⟩
        generalize hGz : upd Hg p2 _ = Hz
        obtain ⟨sz_, ez⟩ := new_of np2 hGz
        refine ⟨p2, _, rfl, mkD (sG.trans sz_) ez, hsm, allD_dp, hsh, _, rfl, rfl, ?_⟩
        rw [decide_eq_true rfl]
        exact q _
end
end SW

namespace SW
open PySem PySem.Spec PyProof.Rows L2
theorem all_mk {P : Program} {w : World} {K : PySem.W.Frag} {mg : PySem.Str → Option Value} {fa : Addr} (hfa : mg "law" = some (.ref fa)) (T : TxB mg)
  (D_law : Df K mg "law" s_law ["script"]) (hb : ∀ (s : Shared) (v : Value), BindsTo s D_law.fd ⟨[v], []⟩ [("script", v)]) (D_chain_sum : Df K mg "chain_sum" s_chain_sum ["differences", "numbers"]) (D_is_ring : Df K mg "is_ring" s_is_ring ["differences", "numbers"]) (D_keeps_all : Df K mg "keeps_all" s_keeps_all ["differences", "values"]) (D_l_cell : Df K mg "_law_cell" s_l_cell ["script", "k"]) (D_l_draws : Df K mg "_law_draws" s_l_draws ["script", "place", "sizes"]) (D_l_is_integer : Df K mg "_law_is_integer" s_l_is_integer ["value"]) (D_l_sum : Df K mg "_law_sum" s_l_sum ["differences", "numbers"]) (D_l_kept : Df K mg "_law_kept" s_l_kept ["differences", "values"]) (D_l_weight : Df K mg "_law_weight" s_l_weight ["draw"]) (D_l_differences : Df K mg "_law_differences" s_l_differences ["script", "place", "count", "many"]) (D_l_going : Df K mg "_law_going" s_l_going ["script", "differences", "many"]) (D_l_path : Df K mg "_law_path" s_l_path ["script", "differences", "many", "closed"]) (D_l_drawn : Df K mg "_law_drawn" s_l_drawn ["script", "shape", "differences", "many"]) (D_l_same : Df K mg "_law_same" s_l_same ["actual", "expected"]) (D_l_is_triple : Df K mg "_law_is_triple" s_l_is_triple ["actual", "expected"]) (D_l_tells : Df K mg "_law_tells" s_l_tells ["value", "expected"]) (D_l_raised : Df K mg "_law_raised" s_l_raised ["script", "differences", "values"]) :
    ∃ fd : FuncData, (∀ (s : Shared) (v : Value), BindsTo s fd ⟨[v], []⟩ [("script", v)]) ∧ ∀ base : Heap, K.In base → base.Ns mainGlobals mg → FnOkG P w K mg base CX0 5 fa fd ["script"] (spLaw K) := by
  have e := hfa.symm.trans D_law.g
  cases e
  exact ⟨D_law.fd, hb, fun base _ _ => ok_law T D_law D_chain_sum D_is_ring D_keeps_all D_l_cell D_l_draws D_l_is_integer D_l_sum D_l_kept D_l_weight D_l_differences D_l_going D_l_path D_l_drawn D_l_same D_l_is_triple D_l_tells D_l_raised⟩
end SW

open PySem PySem.W PyProof.Rows
set_option maxHeartbeats 0 in
theorem PySem.Challenge.cw_swornrun_k12_chains_and_rings_holds : PySem.Challenge.rw_swornrun_k12_chains_and_rings.Holds := by
  w_on; o_law; k_head; (case hw => w_witness2)
  k_fill
  refine SW.walk_ofG (l := PySem.Challenge.rw_swornrun_k12_chains_and_rings) (n := 63) (k := 5) (x := "script") (sp := fun w => SW.spLaw _) rfl (by decide) rfl ⟨rfl, by decide, by decide⟩ (fun w h Y => PySem.W.kIn_of Y) ?F (fun _ _ a ns hl _ hS => ⟨a, ns, rfl, hS, hl, fun _ => rfl⟩)
  case F =>
    intro w mg fa h KX G hmg
    refine' SW.all_mk hmg ⟨PySem.W.mg_none_of KX G ?n_len, PySem.W.mg_none_of KX G ?n_range, PySem.W.mg_none_of KX G ?n_int, PySem.W.mg_none_of KX G ?n_abs, PySem.W.mg_none_of KX G ?n_isinstance, PySem.W.mg_none_of KX G ?n_list, PySem.W.mg_none_of KX G ?n_str, PySem.W.mg_none_of KX G ?n_bool, PySem.W.mg_none_of KX G ?n_tuple, PySem.W.mg_none_of KX G ?n_min, PySem.W.mg_none_of KX G ?n_max, PySem.W.mg_none_of KX G ?n_sum, PySem.W.mg_none_of KX G ?n_sorted, PySem.W.mg_none_of KX G ?n_any, PySem.W.mg_none_of KX G ?n_all, PySem.W.mg_none_of KX G ?n_zip, PySem.W.mg_none_of KX G ?n_enumerate, PySem.W.mg_none_of KX G ?n_reversed, PySem.W.mg_none_of KX G ?n_dict, PySem.W.mg_none_of KX G ?n_set, PySem.W.mg_none_of KX G ?n_repr, PySem.W.mg_none_of KX G ?n_ord⟩ (SW.df_mk KX G ?a0 ?l0 ?c0 ?k0 (fun _ _ _ _ _ _ us hl => match us, hl with | [_], _ => rfl)) (fun s v => .of_eq rfl) (SW.df_mk KX G ?a1 ?l1 ?c1 ?k1 (fun _ _ _ _ _ _ us hl => match us, hl with | [_, _], _ => rfl)) (SW.df_mk KX G ?a2 ?l2 ?c2 ?k2 (fun _ _ _ _ _ _ us hl => match us, hl with | [_, _], _ => rfl)) (SW.df_mk KX G ?a3 ?l3 ?c3 ?k3 (fun _ _ _ _ _ _ us hl => match us, hl with | [_, _], _ => rfl)) (SW.df_mk KX G ?a4 ?l4 ?c4 ?k4 (fun _ _ _ _ _ _ us hl => match us, hl with | [_, _], _ => rfl)) (SW.df_mk KX G ?a5 ?l5 ?c5 ?k5 (fun _ _ _ _ _ _ us hl => match us, hl with | [_, _, _], _ => rfl)) (SW.df_mk KX G ?a6 ?l6 ?c6 ?k6 (fun _ _ _ _ _ _ us hl => match us, hl with | [_], _ => rfl)) (SW.df_mk KX G ?a7 ?l7 ?c7 ?k7 (fun _ _ _ _ _ _ us hl => match us, hl with | [_, _], _ => rfl)) (SW.df_mk KX G ?a8 ?l8 ?c8 ?k8 (fun _ _ _ _ _ _ us hl => match us, hl with | [_, _], _ => rfl)) (SW.df_mk KX G ?a9 ?l9 ?c9 ?k9 (fun _ _ _ _ _ _ us hl => match us, hl with | [_], _ => rfl)) (SW.df_mk KX G ?a10 ?l10 ?c10 ?k10 (fun _ _ _ _ _ _ us hl => match us, hl with | [_, _, _, _], _ => rfl)) (SW.df_mk KX G ?a11 ?l11 ?c11 ?k11 (fun _ _ _ _ _ _ us hl => match us, hl with | [_, _, _], _ => rfl)) (SW.df_mk KX G ?a12 ?l12 ?c12 ?k12 (fun _ _ _ _ _ _ us hl => match us, hl with | [_, _, _, _], _ => rfl)) (SW.df_mk KX G ?a13 ?l13 ?c13 ?k13 (fun _ _ _ _ _ _ us hl => match us, hl with | [_, _, _, _], _ => rfl)) (SW.df_mk KX G ?a14 ?l14 ?c14 ?k14 (fun _ _ _ _ _ _ us hl => match us, hl with | [_, _], _ => rfl)) (SW.df_mk KX G ?a15 ?l15 ?c15 ?k15 (fun _ _ _ _ _ _ us hl => match us, hl with | [_, _], _ => rfl)) (SW.df_mk KX G ?a16 ?l16 ?c16 ?k16 (fun _ _ _ _ _ _ us hl => match us, hl with | [_, _], _ => rfl)) (SW.df_mk KX G ?a17 ?l17 ?c17 ?k17 (fun _ _ _ _ _ _ us hl => match us, hl with | [_, _, _], _ => rfl))
    (case a0 => k_is)
    (case l0 => k_is)
    (case c0 => k_is)
    (case k0 => k_is)
    (case a1 => k_is)
    (case l1 => k_is)
    (case c1 => k_is)
    (case k1 => k_is)
    (case a2 => k_is)
    (case l2 => k_is)
    (case c2 => k_is)
    (case k2 => k_is)
    (case a3 => k_is)
    (case l3 => k_is)
    (case c3 => k_is)
    (case k3 => k_is)
    (case a4 => k_is)
    (case l4 => k_is)
    (case c4 => k_is)
    (case k4 => k_is)
    (case a5 => k_is)
    (case l5 => k_is)
    (case c5 => k_is)
    (case k5 => k_is)
    (case a6 => k_is)
    (case l6 => k_is)
    (case c6 => k_is)
    (case k6 => k_is)
    (case a7 => k_is)
    (case l7 => k_is)
    (case c7 => k_is)
    (case k7 => k_is)
    (case a8 => k_is)
    (case l8 => k_is)
    (case c8 => k_is)
    (case k8 => k_is)
    (case a9 => k_is)
    (case l9 => k_is)
    (case c9 => k_is)
    (case k9 => k_is)
    (case a10 => k_is)
    (case l10 => k_is)
    (case c10 => k_is)
    (case k10 => k_is)
    (case a11 => k_is)
    (case l11 => k_is)
    (case c11 => k_is)
    (case k11 => k_is)
    (case a12 => k_is)
    (case l12 => k_is)
    (case c12 => k_is)
    (case k12 => k_is)
    (case a13 => k_is)
    (case l13 => k_is)
    (case c13 => k_is)
    (case k13 => k_is)
    (case a14 => k_is)
    (case l14 => k_is)
    (case c14 => k_is)
    (case k14 => k_is)
    (case a15 => k_is)
    (case l15 => k_is)
    (case c15 => k_is)
    (case k15 => k_is)
    (case a16 => k_is)
    (case l16 => k_is)
    (case c16 => k_is)
    (case k16 => k_is)
    (case a17 => k_is)
    (case l17 => k_is)
    (case c17 => k_is)
    (case k17 => k_is)
    (case n_len => k_is)
    (case n_range => k_is)
    (case n_int => k_is)
    (case n_abs => k_is)
    (case n_isinstance => k_is)
    (case n_list => k_is)
    (case n_str => k_is)
    (case n_bool => k_is)
    (case n_tuple => k_is)
    (case n_min => k_is)
    (case n_max => k_is)
    (case n_sum => k_is)
    (case n_sorted => k_is)
    (case n_any => k_is)
    (case n_all => k_is)
    (case n_zip => k_is)
    (case n_enumerate => k_is)
    (case n_reversed => k_is)
    (case n_dict => k_is)
    (case n_set => k_is)
    (case n_repr => k_is)
    (case n_ord => k_is)
