import PyProof.Rows.All
import Wide.All
import OpenK.AllK
import Wide.FinOn
import HandS.ForMost
import HandS.IsInst
import HandS.Evl
import HandS.SetIn
import HandS.Walk
import HandS.Star
import HandS.Zip
import HandS.Style
import HandS.Wide
import HandS.DeepEq
import HandS.RaiseMore
import PyProof.StrLawsRepr
import HandS.TupAny
import HandS.FStr
import HandS.Deep
import KE.IntTextLaws
import PySem.Challenge.RW_swornrun_k23_papers_read_back
set_option Elab.async false
set_option linter.all false
set_option maxRecDepth 100000
set_option maxHeartbeats 4000000
namespace SW
open PySem PySem.Spec PyProof.Rows L2
def topS (i : Nat) : Stmt := PySem.Challenge.pw_swornrun_k23_papers_read_back.main.body.getD i (.Pass ⟨0, 0, 0, 0⟩)
/-- the built-in names stand for what they are -/
structure TxB (mg : PySem.Str → Option Value) : Prop where
  n_len : mg "len" = none
  n_range : mg "range" = none
  n_int : mg "int" = none
  n_abs : mg "abs" = none
  n_isinstance : mg "isinstance" = none
  n_list : mg "list" = none
  n_str : mg "str" = none
  n_bool : mg "bool" = none
  n_tuple : mg "tuple" = none
  n_min : mg "min" = none
  n_max : mg "max" = none
  n_sum : mg "sum" = none
  n_sorted : mg "sorted" = none
  n_any : mg "any" = none
  n_all : mg "all" = none
  n_zip : mg "zip" = none
  n_enumerate : mg "enumerate" = none
  n_reversed : mg "reversed" = none
  n_dict : mg "dict" = none
  n_set : mg "set" = none
  n_repr : mg "repr" = none
  n_ord : mg "ord" = none
/-- a def of the text -/
structure Df (K : PySem.W.Frag) (mg : PySem.Str → Option Value) (x : PySem.Str) (st : Stmt) (ps : List PySem.Str) where
  f : Addr
  fd : FuncData
  F : Fun K x x st f fd
  rb : ∀ us : List Value, us.length = ps.length → bindArgs fd ⟨us, []⟩ = pure (ps.zip us)
  g : mg x = some (.ref f)
theorem Df.b {K : PySem.W.Frag} {mg : PySem.Str → Option Value} {x : PySem.Str} {st : Stmt} {ps : List PySem.Str} (D : Df K mg x st ps) : Binds K D.fd ps [] := .all D.rb
/-- .. of what the head tells -/
def df_mk {x : PySem.Str} {st : Stmt} {ps : List PySem.Str} {K : PySem.W.Frag} {h : Heap} {mg : PySem.Str → Option Value} (X : K.In h) (G : h.Ns mainGlobals mg) {f : Addr} {oc : Value} {od an : Option Addr} {sl : Array (Option Value)} {kV doc pm cd ct : Value}
    (a : PySem.W.nsIn K mainGlobals x = some (some (.ref f))) (l : K.lookup f = some ⟨oc, od, .func (PySem.W.fnOf x x (defArgs st) (defBody st) (defScope st) .none kV doc pm an cd ct), sl⟩) (c : PySem.W.codeIn K cd x = true) (k : PySem.W.keepIn K (.ref f) = true)
    (hb : ∀ (kV doc pm : Value) (an : Option Addr) (cd ct : Value) (us : List Value), us.length = ps.length → bindArgs (PySem.W.fnOf x x (defArgs st) (defBody st) (defScope st) .none kV doc pm an cd ct) ⟨us, []⟩ = pure (ps.zip us)) : Df K mg x st ps :=
  ⟨f, _, fun_mk l c k, hb kV doc pm an cd ct, PySem.W.mg_of X G a⟩
theorem m_of {K : PySem.W.Frag} {h : Heap} {mg : PySem.Str → Option Value} {x : PySem.Str} {v u : Value} (X : K.In h) (G : h.Ns mainGlobals mg) (e : PySem.W.nsIn K mainGlobals x = some (some v)) (q : v = u) : mg x = some u := by
  rw [← q]
  exact PySem.W.mg_of X G e
theorem sqt_mk {K : PySem.W.Frag} {aT : Addr} {od : Option Addr} {its : Array Value} {n : Nat} {sl : Array (Option Value)} {xs : List V} (l : K.lookup aT = some ⟨.type "tuple", od, .seq its n, sl⟩) (hs : its.size ≤ sizeLine) (r : Vals xs its.toList) : ∀ H, SqT K H aT xs :=
  fun H => .inr ⟨_, its, n, l, rfl, rfl, hs, r⟩
theorem same_new {H : Hp} {p : Addr} {o : HO} (h : H p = none) : Same H (upd H p o) := fun b x e => by
  rw [upd_ne (ne_of_none e h)]
  exact e
/-- an object that H does not know has changed -/
theorem same_mut {H H' : Hp} {p : Addr} {o : HO} (s : Same H H') (h : H p = none) : Same H (upd H' p o) := fun b x e => by
  rw [upd_ne (ne_of_none e h)]
  exact s _ _ e
theorem new_of {H H1 : Hp} {p : Addr} {o : HO} (n : H p = none) (h : upd H p o = H1) : Same H H1 ∧ H1 p = some o := by
  subst h
  exact ⟨same_new n, upd_same⟩
/-- all that was tracked is as it was, but what stands at h -/
def But (h : Addr) (H H' : Hp) : Prop := ∀ b o, b ≠ h → H b = some o → H' b = some o
theorem But.refl (h : Addr) (H : Hp) : But h H H := fun _ _ _ e => e
theorem But.trans {h : Addr} {H H1 H2 : Hp} (a : But h H H1) (b : But h H1 H2) : But h H H2 := fun c o n e => b c o n (a c o n e)
theorem Same.but {h : Addr} {H H' : Hp} (a : Same H H') : But h H H' := fun c o _ e => a c o e
/-- the hand at h: the list of draws at d, and a place in it -/
structure Hand (H : Hp) (h d : Addr) (ds : List Int) : Prop where
  at_ : ∃ i : Nat, H h = some (.lst [.ref d, .int (i : Nat)])
  ds_ : H d = some (.lst (ds.map V.int))
  ne : d ≠ h
theorem Hand.same {H H' : Hp} {h d : Addr} {ds : List Int} (a : Hand H h d ds) (s : Same H H') : Hand H' h d ds := by
  obtain ⟨⟨i, h1⟩, h2, h3⟩ := a
  exact ⟨⟨i, s _ _ h1⟩, s _ _ h2, h3⟩
theorem small_sz {n : Nat} (h : n ≤ 1000) : n < sizeLine := Nat.lt_of_le_of_lt h (by decide)
theorem small_sz5 {n : Nat} (h : n ≤ 100000) : n < sizeLine := Nat.lt_of_le_of_lt h (by decide)
theorem ixN_nat {n j : Nat} (h : j < n) : ixN n (j : Int) = some j := by
  unfold ixN
  rw [if_pos (by omega), if_pos (by omega)]
  rfl
theorem hand_ne {H : Hp} {h d p : Addr} {ds : List Int} (hd : Hand H h d ds) (n : H p = none) : p ≠ h := by
  obtain ⟨⟨i, e⟩, _, _⟩ := hd
  exact (ne_of_none e n).symm
theorem hand_ne2 {H : Hp} {h d p : Addr} {ds : List Int} (hd : Hand H h d ds) (n : H p = none) : p ≠ d := (ne_of_none hd.ds_ n).symm
/-- something else than the hand and its draws has changed -/
theorem Hand.upd {H : Hp} {h d p : Addr} {o : HO} {ds : List Int} (a : Hand H h d ds) (h1 : p ≠ h) (h2 : p ≠ d) : Hand (L2.upd H p o) h d ds := by
  obtain ⟨⟨i, e1⟩, e2, e3⟩ := a
  exact ⟨⟨i, (upd_ne h1.symm).trans e1⟩, (upd_ne h2.symm).trans e2, e3⟩
theorem But.new {a : Addr} {H H' : Hp} {p : Addr} {o : HO} (b : But a H H') (n : H p = none) : But a H (L2.upd H' p o) := fun c u hc e => (upd_ne (ne_of_none e n)).trans (b c u hc e)
theorem But.free {a : Addr} {H H' : Hp} {p : Addr} (b : But a H H') (hp : p ≠ a) (n : H' p = none) : H p = none := by
  cases e : H p with
  | none => rfl
  | some u =>
    rw [b p u hp e] at n
    cases n
/-! ### written texts in a row; a text n times -/
def tStrs (ws : List PySem.Str) : TA := fun _ H Q => Q (ws.map V.str) H
theorem pa_strs {X : Cx} {es : List Expr} {ws : List PySem.Str} (h : StrEs es ws) : PA X es (tStrs ws) := by
  induction h with
  | nil => exact pa_nil
  | cons x j p _ ih => exact pa_cons pe_str ih
def rMulS : R2 := fun x y H Q => ∃ (z : PySem.Str) (n : Int), x = .str z ∧ y = .int n ∧ 0 ≤ n ∧ n ≤ 1000 ∧ z.length ≤ 1000 ∧ Q (.str (Txt.mul z n)) H
theorem op_mul_str {X : Cx} : OpR X (binaryOp .Mult) rMulS := by
  intro pins s σ H x y v u Q I rx ry h
  obtain ⟨z, n, rfl, rfl, h0, h1, hz, q⟩ := h
  obtain ⟨t, rfl⟩ := rx
  obtain ⟨t', rfl⟩ := ry
  refine SB.mul ⟨?_, ?_, ?_⟩ fun t' k => ⟨.str _, H, I.tok k, ⟨t', rfl⟩, q⟩
  · rw [Bool.or_eq_false_iff]
    exact ⟨decide_eq_false (by omega), decide_eq_false (by omega)⟩
  · intro hn _ hc
    have hd : (2 ^ 63 - 1 : Int) / 1000 ≤ (2 ^ 63 - 1) / n := by
      have : n * 9223372036854775 ≤ 2 ^ 63 - 1 := by omega
      have h2 : (9223372036854775 : Int) ≤ (2 ^ 63 - 1) / n := Int.le_ediv_of_mul_le (by omega) (by rw [Int.mul_comm]; exact this)
      have h3 : (2 ^ 63 - 1 : Int) / 1000 = 9223372036854775 := by decide
      omega
    have h3 : (2 ^ 63 - 1 : Int) / 1000 = 9223372036854775 := by decide
    omega
  · intro _ _
    have hb : z.length * n.toNat ≤ 1000 * 1000 := Nat.mul_le_mul hz (by omega)
    unfold Builtin.Str.tooLong
    refine decide_eq_false ?_
    have : (1000 * 1000 : Nat) ≤ sizeLine := by decide
    omega
theorem foldl_app {c : Nat} : ∀ (n : Nat) (a : Array Nat), ((List.replicate n #[c]).foldl (· ++ ·) a).toList = a.toList ++ List.replicate n c
  | 0, a => by simp
  | n + 1, a => by
    rw [List.replicate_succ, List.foldl_cons, foldl_app n]
    simp [List.replicate_succ]
theorem mul_one_sign (c : Nat) (n : Int) : (Txt.mul ⟨#[c]⟩ n).cps.toList = List.replicate n.toNat c := by
  unfold Txt.mul
  by_cases h1 : n < 1
  · rw [if_pos h1, show n.toNat = 0 by omega]
    rfl
  · rw [if_neg h1]
    by_cases h2 : (n == 1 || (⟨#[c]⟩ : PySem.Str).length == 0) = true
    · rw [if_pos h2]
      have h3 : n = 1 := by
        rcases Bool.or_eq_true_iff.mp h2 with h | h
        · exact eq_of_beq h
        · exact absurd (eq_of_beq h) (by show ¬ (1 : Nat) = 0; decide)
      subst h3
      rfl
    · rw [if_neg h2]
      show ((List.replicate n.toNat #[c]).foldl (· ++ ·) #[]).toList = _
      rw [foldl_app]
      rfl
theorem join_len1 : ∀ (ys : List PySem.Str), (Str.join "" ys).length = (ys.map (·.length)).sum
  | [] => rfl
  | [x] => by
    show x.length = (x.length :: []).sum
    rw [List.sum_cons]
    rfl
  | x :: y :: r => by
    show (x ++ "" ++ Str.join "" (y :: r)).length = _
    have h := join_len1 (y :: r)
    rw [TL.len_tl] at h ⊢
    rw [TL.tl_append, TL.tl_append, List.length_append, List.length_append, h, List.map_cons, List.sum_cons, TL.len_tl]
    rfl
theorem join_len (ys : List PySem.Str) : (Txt.join "" ys).length = (ys.map (·.length)).sum := by
  rw [TL.join_eq, join_len1]
theorem sum_const {ys : List PySem.Str} {b : Nat} (h : ∀ y ∈ ys, y.length ≤ b) : (ys.map (·.length)).sum ≤ ys.length * b := by
  induction ys with
  | nil => exact Nat.zero_le _
  | cons a r ih =>
    have h1 := h a List.mem_cons_self
    have h2 := ih fun y hy => h y (List.mem_cons_of_mem _ hy)
    rw [List.map_cons, List.sum_cons, List.length_cons, Nat.add_mul]
    omega
theorem str_at {z : PySem.Str} {r : Int} (h0 : 0 ≤ r) (h1 : r < z.length) : ∃ c, atI z.cps.toList r = some c := by
  obtain ⟨j, rfl⟩ : ∃ j : Nat, r = j := ⟨r.toNat, by omega⟩
  have hl : z.cps.toList.length = z.length := rfl
  have hj : j < z.cps.toList.length := by omega
  exact ⟨_, atI_nat (List.getElem?_eq_getElem hj)⟩
theorem strs_at {ws : List PySem.Str} {r : Int} (h0 : 0 ≤ r) (h1 : r < ws.length) : ∃ z, z ∈ ws ∧ atI (ws.map V.str) r = some (.str z) := by
  obtain ⟨j, rfl⟩ : ∃ j : Nat, r = j := ⟨r.toNat, by omega⟩
  have hj : j < ws.length := by omega
  refine ⟨ws[j], List.getElem_mem hj, atI_nat ?_⟩
  rw [List.getElem?_map, List.getElem?_eq_getElem hj]
  rfl
/-- a loop over a text's signs -/
theorem for_str {x : PySem.Str} {g : TG} {tb : TS} {D : Ends} {σ : L2.St} {H : Hp} (Pv : Nat → L2.St → Hp → Prop) (h0 : Pv 0 σ H)
    (hs : ∀ i c σ H, x.cps.toList[i]? = some c → Pv i σ H → g (.str ⟨#[c]⟩) σ H fun σ2 H2 => tb { D with nx := Pv (i + 1), ct := Pv (i + 1), bk := D.nx } σ2 H2) (hd : ∀ σ H, Pv x.cps.toList.length σ H → D.nx σ H) :
    ∃ W : Nat → Nat → L2.St → Hp → Prop, (∃ m, W 0 m σ H) ∧ ∀ i m σ H, W i m σ H →
      ((Its x).stop i H ∧ D.nx σ H) ∨ ((Its x).go i H ∧ ∃ N : L2.St → Hp → Prop, (∀ σ' H', N σ' H' → ∃ m', m' < m ∧ W (i + 1) m' σ' H') ∧ ∀ v H', (Its x).yld i H v H' → g v σ H' fun σ2 H2 => tb { D with nx := N, ct := N, bk := D.nx } σ2 H2) := by
  refine ⟨fun i m σ H => m = x.cps.toList.length - i ∧ i ≤ x.cps.toList.length ∧ Pv i σ H, ⟨x.cps.toList.length, by simp, Nat.zero_le _, h0⟩, ?_⟩
  rintro i m σ H ⟨rfl, hi, p⟩
  by_cases hlt : i < x.cps.toList.length
  · refine .inr ⟨hlt, Pv (i + 1), fun σ' H' p' => ⟨x.cps.toList.length - (i + 1), by omega, rfl, hlt, p'⟩, fun v H' y => ?_⟩
    obtain ⟨e, c, hc, hv⟩ := y
    subst e hv
    exact hs i c σ _ (by rw [Array.getElem?_toList]; exact hc) p
  · have e : i = x.cps.toList.length := by omega
    subst e
    exact .inl ⟨Nat.le_refl _, hd σ H p⟩
abbrev mk (l : List Nat) : PySem.Str := ⟨l.toArray⟩
theorem mk_cp (z : PySem.Str) : mk z.cps.toList = z := rfl
theorem cp_mk (l : List Nat) : (mk l).cps.toList = l := rfl
theorem flat_strs (ws : List PySem.Str) : (ws.map V.str).all flatV = true := by
  induction ws with
  | nil => rfl
  | cons a r ih =>
    rw [List.map_cons, List.all_cons, ih]
    rfl
theorem inV_strs (a : PySem.Str) (ws : List PySem.Str) : inV (.str a) (ws.map V.str) = decide (a ∈ ws) := by
  induction ws with
  | nil => rfl
  | cons b r ih =>
    show ((b == a) || inV (.str a) (r.map V.str)) = _
    rw [ih]
    by_cases e : b = a
    · subst e
      simp
    · rw [beq_eq_false_iff_ne.mpr e]
      by_cases m : a ∈ r
      · simp [m]
      · simp [m, Ne.symm e]
theorem cut2 (z : PySem.Str) (i : Nat) (h : i < z.length) : cutS z (some (i : Int)) (some ((i : Int) + 2)) = mk ((z.cps.toList.drop i).take 2) := by
  have e1 : HT.sIx z.length 0 (some (i : Int)) = i := by
    rw [HT.sIx_nat]
    omega
  have e2 : HT.sIx z.length z.length (some ((i : Int) + 2)) = min (i + 2) z.length := by
    rw [show ((i : Int) + 2) = ((i + 2 : Nat) : Int) by omega, HT.sIx_nat]
  unfold cutS
  rw [e1, e2]
  show mk _ = mk _
  congr 1
  have hl : (z.cps.toList.drop i).length = z.length - i := by
    rw [List.length_drop]
    rfl
  by_cases h2 : i + 2 ≤ z.length
  · rw [show min (i + 2) z.length - i = 2 by omega]
  · rw [Nat.min_eq_right (by omega), List.take_of_length_le (by omega), List.take_of_length_le (by omega)]
theorem cut_nat (z : PySem.Str) (i n : Nat) (h : i + n ≤ z.length) : cutS z (some (i : Int)) (some ((i + n : Nat) : Int)) = mk ((z.cps.toList.drop i).take n) := by
  have e1 : HT.sIx z.length 0 (some (i : Int)) = i := by
    rw [HT.sIx_nat]
    omega
  have e2 : HT.sIx z.length z.length (some ((i + n : Nat) : Int)) = i + n := by
    rw [HT.sIx_nat]
    omega
  unfold cutS
  rw [e1, e2, show i + n - i = n by omega]
theorem str_ne (z : PySem.Str) : (!decide (V.str z = V.str "")) = decide (z.cps.toList ≠ []) := by
  by_cases h : z.cps.toList = []
  · have e : z = "" := by
      rw [← mk_cp z, h]
      rfl
    subst e
    rfl
  · have e : ¬ V.str z = V.str "" := fun e => h (by
      injection e with e
      rw [e]
      rfl)
    rw [decide_eq_false e, decide_eq_true h]
    rfl
theorem le_dec (n m : Nat) : decide ((n : Int) ≤ (m : Int)) = decide (n ≤ m) := decide_eq_decide.mpr Int.ofNat_le
theorem str_dec (x y : PySem.Str) : decide (V.str x = V.str y) = decide (x = y) := decide_eq_decide.mpr ⟨fun h => by injection h, fun h => by rw [h]⟩
theorem sz5 {n : Nat} (h : n ≤ 100000) : n ≤ sizeLine := Nat.le_trans h (by decide)
theorem sz5' {n : Nat} (h : n ≤ 100000) : n < sizeLine := Nat.lt_of_le_of_lt h (by decide)
theorem at_nat {xs : List V} {z : Int} {j : Nat} {v : V} (e : z = (j : Int)) (h : xs[j]? = some v) : atI xs z = some v := at_of e h
end SW

namespace SW
open PySem PySem.Spec PyProof.Rows L2
theorem app_len (x y : PySem.Str) : (x ++ y).length = x.length + y.length := by
  rw [TL.len_tl, TL.tl_append, List.length_append, ← TL.len_tl, ← TL.len_tl]
theorem mul_len (n : Int) : (Txt.mul " " n).length = n.toNat := by
  rw [TL.len_tl]
  show (Txt.mul ⟨#[32]⟩ n).cps.toList.length = _
  rw [mul_one_sign, List.length_replicate]
/-! ### data: what is read stays -/
mutual
theorem dp_same {K : PySem.W.Frag} {H H' : Hp} (s : Same H H') : ∀ (d : PyData) (v : V), Dp K H v d → Dp K H' v d
  | .none, _, h => by
    cases h
    exact .non
  | .bool b, _, h => by
    cases h
    exact .bl b
  | .int i, _, h => by
    cases h
    exact .int i
  | .str x, _, h => by
    cases h
    exact .str x
  | .list ds, _, h => by
    cases h with
    | lst hs ha => exact .lst (s.seq hs) (dpa_same s ds _ ha)
  | .tuple ds, _, h => by
    cases h with
    | tup hs ha =>
      refine .tup ?_ (dpa_same s ds _ ha)
      rcases hs with (hs | ⟨o, hs⟩) | hs
      · exact .inl (.inl (s _ _ hs))
      · exact .inl (.inr ⟨o, s _ _ hs⟩)
      · exact .inr hs
  | .dict _, _, h => by cases h
theorem dpa_same {K : PySem.W.Frag} {H H' : Hp} (s : Same H H') : ∀ (ds : List PyData) (vs : List V), DpAll K H vs ds → DpAll K H' vs ds
  | [], _, h => by
    cases h
    exact .nil
  | d :: ds, _, h => by
    cases h with
    | cons h1 h2 => exact .cons (dp_same s d _ h1) (dpa_same s ds _ h2)
end
theorem sqt_same {K : PySem.W.Frag} {H H' : Hp} (s : Same H H') {a : Addr} {xs : List V} (hs : SqT K H a xs) : SqT K H' a xs := by
  rcases hs with (hs | ⟨o, hs⟩) | hs
  · exact .inl (.inl (s _ _ hs))
  · exact .inl (.inr ⟨o, s _ _ hs⟩)
  · exact .inr hs
theorem _root_.L2.Dp.same {K : PySem.W.Frag} {H H' : Hp} {d : PyData} {v : V} (h : Dp K H v d) (s : Same H H') : Dp K H' v d := dp_same s d v h
mutual
/-- no list within -/
def noL : PyData → Bool
  | .tuple ds => noLs ds
  | .list _ => false
  | .dict _ => false
  | _ => true
def noLs : List PyData → Bool
  | [] => true
  | d :: ds => noL d && noLs ds
end
mutual
theorem dp_but {K : PySem.W.Frag} {H H' : Hp} {h : Addr} {ys : List V} (hl : H h = some (.lst ys)) (s : But h H H') : ∀ (d : PyData) (v : V), noL d = true → Dp K H v d → Dp K H' v d
  | .none, _, _, e => by
    cases e
    exact .non
  | .bool b, _, _, e => by
    cases e
    exact .bl b
  | .int i, _, _, e => by
    cases e
    exact .int i
  | .str x, _, _, e => by
    cases e
    exact .str x
  | .list ds, _, n, _ => by
    unfold noL at n
    cases n
  | .tuple ds, _, n, e => by
    cases e with
    | tup hs ha =>
      refine .tup ?_ (dpa_but hl s ds _ (by unfold noL at n; exact n) ha)
      rcases hs with (hs | ⟨o, hs⟩) | hs
      · refine .inl (.inl (s _ _ (fun e => ?_) hs))
        rw [e, hl] at hs
        cases hs
      · refine .inl (.inr ⟨o, s _ _ (fun e => ?_) hs⟩)
        rw [e, hl] at hs
        cases hs
      · exact .inr hs
  | .dict _, _, _, e => by cases e
theorem dpa_but {K : PySem.W.Frag} {H H' : Hp} {h : Addr} {ys : List V} (hl : H h = some (.lst ys)) (s : But h H H') : ∀ (ds : List PyData) (vs : List V), noLs ds = true → DpAll K H vs ds → DpAll K H' vs ds
  | [], _, _, e => by
    cases e
    exact .nil
  | d :: ds, _, n, e => by
    unfold noLs at n
    rw [Bool.and_eq_true] at n
    cases e with
    | cons h1 h2 => exact .cons (dp_but hl s d _ n.1 h1) (dpa_but hl s ds _ n.2 h2)
end
theorem Hand.dp {K : PySem.W.Frag} {H H' : Hp} {h d0 : Addr} {ds : List Int} (a : Hand H h d0 ds) (s : But h H H') {d : PyData} {v : V} (n : noL d = true) (e : Dp K H v d) : Dp K H' v d := by
  obtain ⟨⟨i, hl⟩, _, _⟩ := a
  exact dp_but hl s d v n e
def isN : PyData → Bool
  | .none => true
  | _ => false
theorem dp_isN {K : PySem.W.Frag} {H : Hp} {d : PyData} {v : V} (h : Dp K H v d) : decide (v = V.non) = isN d := by
  cases h <;> rfl
theorem dp_tup2 {K : PySem.W.Frag} {H : Hp} {t : Addr} {v1 v2 : V} {d1 d2 : PyData} (h : H t = some (.tup [v1, v2])) (h1 : Dp K H v1 d1) (h2 : Dp K H v2 d2) : Dp K H (.ref t) (.tuple [d1, d2]) :=
  .tup (SqT.of h) (.cons h1 (.cons h2 .nil))
theorem dp_tup3 {K : PySem.W.Frag} {H : Hp} {t : Addr} {v1 v2 v3 : V} {d1 d2 d3 : PyData} (h : H t = some (.tup [v1, v2, v3])) (h1 : Dp K H v1 d1) (h2 : Dp K H v2 d2) (h3 : Dp K H v3 d3) : Dp K H (.ref t) (.tuple [d1, d2, d3]) :=
  .tup (SqT.of h) (.cons h1 (.cons h2 (.cons h3 .nil)))
theorem dp_tup4 {K : PySem.W.Frag} {H : Hp} {t : Addr} {v1 v2 v3 v4 : V} {d1 d2 d3 d4 : PyData} (h : H t = some (.tup [v1, v2, v3, v4])) (h1 : Dp K H v1 d1) (h2 : Dp K H v2 d2) (h3 : Dp K H v3 d3) (h4 : Dp K H v4 d4) : Dp K H (.ref t) (.tuple [d1, d2, d3, d4]) :=
  .tup (SqT.of h) (.cons h1 (.cons h2 (.cons h3 (.cons h4 .nil))))
/-! ### lists of texts, compared -/
theorem dpa_strs {K : PySem.W.Frag} {H : Hp} : ∀ ws : List PySem.Str, DpAll K H (ws.map V.str) (ws.map PyData.str)
  | [] => .nil
  | x :: r => .cons (.str x) (dpa_strs r)
theorem dp_strs {K : PySem.W.Frag} {H : Hp} {a : Addr} {ws : List PySem.Str} (h : SqL K H a (ws.map V.str)) : Dp K H (.ref a) (.list (ws.map PyData.str)) := .lst h (dpa_strs ws)
theorem vals_strs : ∀ {ws : List PySem.Str} {us : List Value} {j : Nat} {x : PySem.Str}, Vals (ws.map V.str) us → ws[j]? = some x → ∃ t, us[j]? = some (.str x t)
  | _, _, _, _, r, h => by
    obtain ⟨u, h1, h2⟩ := r.get (x := V.str _) (by rw [List.getElem?_map, h]; rfl)
    obtain ⟨t, rfl⟩ := h2
    exact ⟨t, h1⟩
/-- == of two lists of texts -/
def rEqS (K : PySem.W.Frag) : R2 := fun x y H Q => ∃ (a b : Addr) (ws vs : List PySem.Str), x = .ref a ∧ y = .ref b ∧ SqL K H a (ws.map V.str) ∧ SqL K H b (vs.map V.str) ∧ Q (.bl (decide (ws = vs))) H
theorem all_eq {ws vs : List PySem.Str} (hl : ws.length = vs.length) : ((List.range ws.length).all fun j => decide (ws[j]? = vs[j]?)) = decide (ws = vs) := by
  by_cases h : ws = vs
  · subst h
    rw [decide_eq_true rfl, List.all_eq_true]
    exact fun j _ => decide_eq_true rfl
  · rw [decide_eq_false h]
    refine Bool.eq_false_iff.mpr fun e => h ?_
    rw [List.all_eq_true] at e
    refine List.ext_getElem? fun j => ?_
    by_cases hj : j < ws.length
    · exact of_decide_eq_true (e j (List.mem_range.mpr hj))
    · rw [List.getElem?_eq_none (by omega), List.getElem?_eq_none (by omega)]
theorem op_eqS {X : Cx} (hu : X.A.units < cLine) : OpR X (compareOp .Eq) (rEqS X.K) := by
  intro pins s σ H x y v u Q I rx ry h
  obtain ⟨a, b, ws, vs, rfl, rfl, ha, hb, q⟩ := h
  cases rx
  cases ry
  obtain ⟨its, r1, p1, _⟩ := I.list ha
  obtain ⟨jts, r2, p2, _⟩ := I.list hb
  have l1 := r1.length
  have l2 := r2.length
  rw [List.length_map] at l1 l2
  by_cases hl : ws.length = vs.length
  · refine SeqAt.eq_listAt (e := fun j => decide (ws[j]? = vs[j]?)) p1.isList p2.isList (by simp only [List.size_toArray]; omega) hu (fun j h1 h2 => ?_) ?_
    · simp only [List.size_toArray] at h1 h2
      obtain ⟨t1, e1⟩ := vals_strs (x := ws[j]) r1 (List.getElem?_eq_getElem (by omega))
      obtain ⟨t2, e2⟩ := vals_strs (x := vs[j]) r2 (List.getElem?_eq_getElem (by omega))
      have f1 : its.toArray[j] = .str ws[j] t1 := by
        rw [List.getElem?_eq_getElem h1] at e1
        injection e1 with e1
      have f2 : jts.toArray[j] = .str vs[j] t2 := by
        rw [List.getElem?_eq_getElem h2] at e2
        injection e2 with e2
      rw [f1, f2]
      have e3 : decide (ws[j]? = vs[j]?) = (ws[j] == vs[j]) := by
        rw [List.getElem?_eq_getElem (by omega), List.getElem?_eq_getElem (by omega)]
        by_cases h : ws[j] = vs[j]
        · rw [h]
          simp
        · rw [decide_eq_false (fun e => h (Option.some.inj e)), beq_eq_false_iff_ne.mpr h]
      rw [e3]
      exact SeqAt.EqAt.str_str _ _ _ _
    · have e4 : ((List.range its.toArray.size).all fun j => decide (ws[j]? = vs[j]?)) = decide (ws = vs) := by
        rw [List.size_toArray, ← l1]
        exact all_eq hl
      rw [e4]
      exact ⟨.bl _, H, I, rfl, q⟩
  · refine SeqAt.eq_list_lengthsAt p1.isList p2.isList (by simp only [List.size_toArray]; exact bne_iff_ne.mpr (by omega)) hu ?_
    rw [decide_eq_false (fun e => hl (by rw [e]))] at q
    exact ⟨.bl _, H, I, rfl, q⟩
end SW

namespace SW
open PySem PySem.Spec PyProof.Rows L2
/-! ### a def that is called where no object is being shown -/
structure FnOkG (P : Program) (w : World) (K : PySem.W.Frag) (mg : PySem.Str → Option Value) (base : Heap) (CX : CXT) (k : Nat) (f : Addr) (fd : FuncData) (ps : List PySem.Str) (sp : Sp) : Prop where
  run : ∀ (A : Around) (outer : List Env) (s : Shared) (H : Hp) (args : Args) (us : List Value) (vs : List V) (Q : VK) (E : XK),
    A.guards = some [] → Room k A → Env0 P w K mg base A outer s H → BindsTo s fd args (ps.zip us) → Vals vs us → sp vs H Q E →
    codeAny (model P w) A (.call (.ref f) args) (CR CX outer P w H s Q E) s
theorem Fun.okG {P : Program} {w : World} {K : PySem.W.Frag} {mg : PySem.Str → Option Value} {base : Heap} {x qual : PySem.Str} {st : Stmt} {f : Addr} {fd : FuncData} {N ps : List PySem.Str} {k : Nat} {sp : Sp}
    (F : Fun K x qual st f fd) (S : FnScope N ps (defScope st)) (len : ∀ vs H Q E, sp vs H Q E → vs.length = ps.length)
    (hbody : ∀ (cdv : Value) (A : Around) (outer : List Env) (s : Shared) (H : Hp) (vs : List V) (Q : VK) (E : XK),
      (A.deeper (envOfC qual (defScope st) s.heap.objs.size f cdv)).guards = some [] → Room k (A.deeper (envOfC qual (defScope st) s.heap.objs.size f cdv)) → sp vs H Q E →
      ∃ t, PSs (cxOf CX0 P w K mg base N qual (defScope st) f cdv A outer s H E).nox (defBody st) t ∧ t { nx := fun _ H' => Q .non H', rt := Q } (L2.start N vs) H) :
    FnOkG P w K mg base CX0 (k + 1) f fd ps sp := by
  obtain ⟨oc, od, kV, doc, pm, an, cdv, ct, osl, rfl, lk, hcd⟩ := F.ex
  refine ⟨fun A outer s H args us vs Q E hg hr e0 hb r hsp => ?_⟩
  have hl := len vs H Q E hsp
  have KX := PySem.W.Frag.In.keeps e0.mod.kin fun b o e => (e0.bs b o e).1
  have lim := Heap.NoLimit.keeps e0.mod.nolimit fun b o e => (e0.bs b o e).1
  refine codeAny_call_function hr.depth (KX f _ lk) rfl S.co S.gen rfl (PySem.W.codeRec_of KX hcd) (hb _ _ _ _ (wpAny_newFunctionEnv_cells S.kind (fun y hy => ?_) fun env he s1 i => ?_))
  · obtain ⟨n, v⟩ := y
    rcases S.par n (List.of_mem_zip hy).1 with q | q
    · exact .inl q
    · exact .inr ⟨q, PySem.W.cellsFrom_some _ _ [] (.inl q)⟩
  · subst he
    refine ⟨lim.keeps i.toInCall.keep, codeAny_func ?_⟩
    obtain ⟨t, ht, hq⟩ := hbody cdv A outer s H vs Q E hg (hr.deeper _) hsp
    have I : L2.Inv (cxOf CX0 P w K mg base N qual (defScope st) f cdv A outer s H E) [] (L2.start N vs) H s1 := inv_start S hr.hd e0 hl r i
    refine wpAny_mono ((PSs.nox ht).run [] s1 (L2.start N vs) H _ I hq) (fun fl s' hs => ?_) fun e s' hs => hs
    have fin : ∀ {σ' : L2.St} {H' : Hp} {v : V} {u : Value}, L2.Inv (cxOf CX0 P w K mg base N qual (defScope st) f cdv A outer s H E) [] σ' H' s' → RelV v u → Q v H' → CE outer P w H s Q u s' :=
      fun J rv q => ⟨_, _, J.os, J.bare, J.base, J.hok, rv, q⟩
    cases fl with
    | next =>
      obtain ⟨σ', H', J, q⟩ := hs
      exact fin (v := .non) (u := .none) J rfl q
    | brk =>
      obtain ⟨_, _, _, q⟩ := hs
      exact q.elim
    | cont =>
      obtain ⟨_, _, _, q⟩ := hs
      exact q.elim
    | ret u =>
      obtain ⟨v, σ', H', J, rv, q⟩ := hs
      exact fin J rv q
/-- the law's own call -/
theorem law_callG {P : Program} {w : World} {K : PySem.W.Frag} {mg mb : PySem.Str → Option Value} {k : Nat} {fa a : Addr} {fd : FuncData} {x : PySem.Str} {sp : Sp} {s₁ : Shared} {vs : List Value} {ns : List Int}
    (KX : K.In s₁.heap) (hns : s₁.heap.Ns mainGlobals mg) (hb : s₁.heap.Ns builtinsNs mb) (hbb : ∀ x : PySem.Str, x ≠ Str.ofString "__name__" → mb x = bootBuiltins x) (hlim : s₁.heap.NoLimit) (hg : s₁.gens = #[])
    (ha : s₁.heap.get? a = some { cls := .type "list", data := .seq vs.toArray }) (hi : IntsAre vs ns) (hl : ns.length ≤ sizeLine) (hr : Room k callerA)
    (F : ∀ base : Heap, K.In base → base.Ns mainGlobals mg → FnOkG P w K mg base CX0 k fa fd [x] sp) (hbind : ∀ (s : Shared) (u : Value), BindsTo s fd ⟨[u], []⟩ [(x, u)])
    (hsp : ∀ H, Only H → SqL K H a (ns.map V.int) → sp [.ref a] H (fun v _ => v = .bl true) fun _ _ _ => False) :
    codeAny (model P w) callerA (.call (.ref fa) ⟨[.ref a], []⟩) (fun r s' => r = .ok (.ret (.bool true)) ∧ OldK s₁.heap s'.heap ∧ s'.os = s₁.os ∧ AllBare s'.gens) s₁ := by
  have rv := vals_ints hi
  have lenV := IntsAre.length hi
  have core : ∀ H : Hp, Only H → SqL K H a (ns.map V.int) → HOk P w H s₁.heap → (∀ b, H b ≠ none → b = a) → (H a ≠ none → List.lookup a K = none) →
      codeAny (model P w) callerA (.call (.ref fa) ⟨[.ref a], []⟩) (fun r s' => r = .ok (.ret (.bool true)) ∧ OldK s₁.heap s'.heap ∧ s'.os = s₁.os ∧ AllBare s'.gens) s₁ := by
    intro H hO hS hok hA hK
    have noA : ∀ {b : Addr} {o : Obj}, s₁.heap.get? b = some o → (∀ vs n, o.data ≠ .seq vs n) → H b = none := by
      intro b o e d
      cases hb' : H b with
      | none => rfl
      | some u =>
        have := hA b (by rw [hb']; exact fun z => nomatch z)
        subst this
        rw [ha] at e
        cases e
        exact absurd rfl (d _ _)
    have base_of : ∀ {b : Addr} {o : Obj}, s₁.heap.get? b = some o → H b = none → (hidT s₁.heap H).get? b = some o := fun e n => hidT_get e n
    have nsK : ∀ {b : Addr} {m : PySem.Str → Option Value}, s₁.heap.Ns b m → (hidT s₁.heap H).Ns b m := by
      rintro b m ⟨o, es, ep, e, d, r⟩
      exact ⟨o, es, ep, base_of e (noA e (by intro vs n; rw [d]; exact fun z => nomatch z)), d, r⟩
    have hKb : K.In (hidT s₁.heap H) := by
      intro b o e
      refine base_of (KX b o e) ?_
      cases hb' : H b with
      | none => rfl
      | some u =>
        have := hA b (by rw [hb']; exact fun z => nomatch z)
        subst this
        rw [hK (by rw [hb']; exact fun z => nomatch z)] at e
        cases e
    have hM : Mod K mg (hidT s₁.heap H) := by
      obtain ⟨mc, h1, h2⟩ := hlim
      exact ⟨hKb, nsK hns, ⟨mb, nsK hb, hbb⟩, ⟨mc, nsK h1, h2⟩⟩
    have e0 : Env0 P w K mg (hidT s₁.heap H) callerA [] s₁ H :=
      { frames := rfl, mod := hM, bs := fun b o e => of_hidT e, bsz := Nat.le_of_eq (hidT_size s₁.heap H), funs := trivial, frf := fun b hb => (List.not_mem_nil hb).elim, hok := hok, bare := AllBare.of_eq hg }
    refine codeAny_mono ((F _ hKb (nsK hns)).run callerA [] s₁ H ⟨[.ref a], []⟩ [.ref a] [.ref a] (fun v _ => v = .bl true) (fun _ _ _ => False) rfl hr e0 (hbind s₁ _) (.cons rfl .nil) (hsp H hO hS)) fun r s' h => ?_
    cases r with
    | error e => exact h.elim
    | ok fl =>
      cases fl with
      | next => exact h.elim
      | brk => exact h.elim
      | cont => exact h.elim
      | ret u =>
        obtain ⟨v, H', os, bare, un, hok', r', q⟩ := h
        subst q
        cases r'
        refine ⟨rfl, OldK.of_keep fun b o e => ?_, os, bare⟩
        cases hb' : H b with
        | none => exact un.keep b o e hb' (fun z => List.not_mem_nil z) (fun z => List.not_mem_nil z)
        | some u =>
          rcases hO b with z | ⟨ob, xs, z⟩
          · rw [hb'] at z
            cases z
          · have h1 := un.frzs b _ _ z
            have h2 := hok b _ z
            have h3 := hok' b _ h1
            have h4 := h2.1
            have h5 := h3.1
            rw [e] at h4
            cases h4
            exact h5
  cases hk : List.lookup a K with
  | none =>
    refine core (fun b => if b = a then some (.frz { cls := .type "list", data := .seq vs.toArray } (.lst (ns.map V.int))) else none) (fun b => ?_) (.inl (.inr ⟨_, if_pos rfl⟩)) (fun b u z => ?_) (fun b z => ?_) fun _ => hk
    · by_cases hb : b = a
      · exact .inr ⟨_, _, if_pos hb⟩
      · exact .inl (if_neg hb)
    · by_cases hb : b = a
      · have z' := (if_pos hb).symm.trans z
        cases z'
        subst hb
        exact ⟨ha, by rw [List.length_map]; exact hl, vs, 0, rv, ha⟩
      · have z' := (if_neg hb).symm.trans z
        cases z'
    · by_cases hb : b = a
      · exact hb
      · exact absurd (if_neg hb) z
  | some o =>
    have e := KX a o hk
    rw [ha] at e
    cases e
    refine core (fun _ => none) (fun _ => .inl rfl) (.inr ⟨_, vs.toArray, 0, hk, rfl, rfl, rfl, by rw [List.size_toArray, lenV]; exact hl, rv⟩) (fun b u z => nomatch z) (fun b z => absurd rfl z) fun z => absurd rfl z
theorem walk_ofG {l : PySem.W.OpenLaw} {n k : Nat} {q : Program} {loose : List PySem.Str} {XP : (PySem.Str → Option Value) → Heap → Prop} {YP : World → Heap → Prop} {d : DefRec} {K : Params → PySem.W.Frag} {sp : World → Sp} {x : PySem.Str}
    (hn : l.most = some n) (hn2 : n ≤ sizeLine) (hdf : d.params.defaults = []) (hr : Room k callerA) (hY : ∀ (w : World) (h : Heap), YP w h → (K w.params).In h)
    (F : ∀ (w : World) (mg : PySem.Str → Option Value) (fa : Addr) (h : Heap), (K w.params).In h → h.Ns mainGlobals mg → mg d.name = some (.ref fa) →
      ∃ fd, (∀ (s : Shared) (u : Value), BindsTo s fd ⟨[u], []⟩ [(x, u)]) ∧ ∀ base : Heap, (K w.params).In base → base.Ns mainGlobals mg → FnOkG l.prog w (K w.params) mg base CX0 k fa fd [x] (sp w))
    (hsp : ∀ (w : World) (H : Hp) (a : Addr) (ns : List Int), ns.length ≤ n → Only H → SqL (K w.params) H a (ns.map V.int) → sp w [.ref a] H (fun v _ => v = .bl true) fun _ _ _ => False) :
    PySem.W.WalkO q loose XP YP l.row.toRowW d [] fun f vs => call f vs :=
  Att.attach_call hn hdf fun w s₀ s₁ mg mb fa o pm cd doc a vs ns G Y ho hd hcd hmg hobj hints hlen hg => by
    have KX := hY w s₁.heap Y
    obtain ⟨fd, hb, hF⟩ := F w mg fa s₁.heap KX G.T.g hmg
    exact law_callG KX G.T.g G.T.b G.T.builtins G.T.nolimit hg hobj hints (Nat.le_trans hlen hn2) hr hF hb fun H hO hS => hsp w H a ns hlen hO hS
end SW

namespace SW
open PySem PySem.Spec PyProof.Rows L2
def rLenK (K : PySem.W.Frag) : List V → Hp → VK → Prop := fun xs H Q => ∃ p ys, xs = [.ref p] ∧ (SqL K H p ys ∨ SqT K H p ys) ∧ Q (.int (ys.length : Nat)) H
/-! ### data in lists -/
theorem dpa_snoc {K : PySem.W.Frag} {H : Hp} : ∀ {vs : List V} {ds : List PyData} {v : V} {d : PyData}, DpAll K H vs ds → Dp K H v d → DpAll K H (vs ++ [v]) (ds ++ [d])
  | _, _, _, _, .nil, h => .cons h .nil
  | _, _, _, _, .cons h1 h2, h => .cons h1 (dpa_snoc h2 h)
theorem dpa_len {K : PySem.W.Frag} {H : Hp} : ∀ {vs : List V} {ds : List PyData}, DpAll K H vs ds → vs.length = ds.length
  | _, _, .nil => rfl
  | _, _, .cons _ h => congrArg (· + 1) (dpa_len h)
theorem dpa_get {K : PySem.W.Frag} {H : Hp} : ∀ {vs : List V} {ds : List PyData} {j : Nat} {v : V}, DpAll K H vs ds → vs[j]? = some v → ∃ d, ds[j]? = some d ∧ Dp K H v d
  | _, _, 0, _, .cons h _, e => by
    cases e
    exact ⟨_, rfl, h⟩
  | _, _, j + 1, _, .cons _ h, e => dpa_get (j := j) h e
theorem dpa_get' {K : PySem.W.Frag} {H : Hp} : ∀ {vs : List V} {ds : List PyData} {j : Nat} {d : PyData}, DpAll K H vs ds → ds[j]? = some d → ∃ v, vs[j]? = some v ∧ Dp K H v d
  | _, _, 0, _, .cons h _, e => by
    cases e
    exact ⟨_, rfl, h⟩
  | _, _, j + 1, _, .cons _ h, e => dpa_get' (j := j) h e
theorem dpa_set {K : PySem.W.Frag} {H : Hp} : ∀ {vs : List V} {ds : List PyData} {j : Nat} {v : V} {d : PyData}, DpAll K H vs ds → Dp K H v d → DpAll K H (vs.set j v) (ds.set j d)
  | _, _, _, _, _, .nil, _ => .nil
  | _, _, 0, _, _, .cons _ h, e => .cons e h
  | _, _, j + 1, _, _, .cons h1 h, e => .cons h1 (dpa_set (j := j) h e)
theorem dpa_app {K : PySem.W.Frag} {H : Hp} : ∀ {vs us : List V} {ds es : List PyData}, DpAll K H vs ds → DpAll K H us es → DpAll K H (vs ++ us) (ds ++ es)
  | _, _, _, _, .nil, h => h
  | _, _, _, _, .cons h1 h2, h => .cons h1 (dpa_app h2 h)
theorem dpa_drop {K : PySem.W.Frag} {H : Hp} : ∀ {vs : List V} {ds : List PyData} (n : Nat), DpAll K H vs ds → DpAll K H (vs.drop n) (ds.drop n)
  | _, _, 0, h => h
  | _, _, _ + 1, .nil => .nil
  | _, _, n + 1, .cons _ h => dpa_drop n h
theorem dpa_take {K : PySem.W.Frag} {H : Hp} : ∀ {vs : List V} {ds : List PyData} (n : Nat), DpAll K H vs ds → DpAll K H (vs.take n) (ds.take n)
  | _, _, 0, _ => .nil
  | _, _, _ + 1, .nil => .nil
  | _, _, n + 1, .cons h1 h => .cons h1 (dpa_take n h)
theorem dpa_rev {K : PySem.W.Frag} {H : Hp} : ∀ {vs : List V} {ds : List PyData}, DpAll K H vs ds → DpAll K H vs.reverse ds.reverse
  | _, _, .nil => .nil
  | _, _, .cons h1 h => by
    rw [List.reverse_cons, List.reverse_cons]
    exact dpa_snoc (dpa_rev h) h1
theorem dpa_ints {K : PySem.W.Frag} {H : Hp} : ∀ ns : List Int, DpAll K H (ns.map V.int) (ns.map PyData.int)
  | [] => .nil
  | x :: r => .cons (.int x) (dpa_ints r)
theorem dpa_ints' {K : PySem.W.Frag} {H : Hp} : ∀ {vs : List V} {ns : List Int}, DpAll K H vs (ns.map PyData.int) → vs = ns.map V.int
  | _, [], .nil => rfl
  | _, _ :: _, .cons (.int x) h => congrArg (V.int x :: ·) (dpa_ints' h)
theorem dpa_bls' {K : PySem.W.Frag} {H : Hp} : ∀ {vs : List V} {ns : List Bool}, DpAll K H vs (ns.map PyData.bool) → vs = ns.map V.bl
  | _, [], .nil => rfl
  | _, _ :: _, .cons (.bl x) h => congrArg (V.bl x :: ·) (dpa_bls' h)
theorem int_dec (x y : Int) : decide (V.int x = V.int y) = decide (x = y) := decide_eq_decide.mpr ⟨fun h => by injection h, fun h => by rw [h]⟩
/-! ### parts of lists -/
theorem cutv_from (xs : List V) (n : Nat) : cutV xs (some (n : Int)) none = xs.drop n := by
  unfold cutV
  rw [HT.sIx_nat, HT.sIx_none]
  by_cases h : n ≤ xs.length
  · rw [Nat.min_eq_left h]
    exact List.take_of_length_le (by rw [List.length_drop]; exact Nat.le_refl _)
  · rw [Nat.min_eq_right (by omega), List.drop_eq_nil_of_le (Nat.le_refl _), List.drop_eq_nil_of_le (by omega)]
    exact List.take_nil
theorem cutv_first (xs : List V) (n : Nat) : cutV xs none (some (n : Int)) = xs.take n := by
  unfold cutV
  rw [HT.sIx_nat, HT.sIx_none, List.drop_zero, Nat.sub_zero]
  by_cases h : n ≤ xs.length
  · rw [Nat.min_eq_left h]
  · rw [Nat.min_eq_right (by omega), List.take_of_length_le (Nat.le_refl _), List.take_of_length_le (by omega)]
theorem cutv_part (xs : List V) (n m : Nat) (h : n ≤ m) : cutV xs (some (n : Int)) (some (m : Int)) = (xs.drop n).take (m - n) := by
  unfold cutV
  rw [HT.sIx_nat, HT.sIx_nat]
  by_cases h1 : n ≤ xs.length
  · rw [Nat.min_eq_left h1]
    by_cases h2 : m ≤ xs.length
    · rw [Nat.min_eq_left h2]
    · rw [Nat.min_eq_right (by omega), List.take_of_length_le (by rw [List.length_drop]; exact Nat.le_refl _), List.take_of_length_le (by rw [List.length_drop]; omega)]
  · rw [List.drop_eq_nil_of_le (show xs.length ≤ min n xs.length by omega), List.drop_eq_nil_of_le (show xs.length ≤ n by omega), List.take_nil, List.take_nil]
theorem at_neg1 {xs : List V} {v : V} (h : xs[xs.length - 1]? = some v) : atI xs (-1) = some v := by
  have hl : xs ≠ [] := fun e => by
    rw [e] at h
    cases h
  have e := List.dropLast_concat_getLast hl
  rw [← List.getLast?_eq_getElem?, List.getLast?_eq_getLast hl] at h
  cases h
  conv => lhs; rw [← e]
  exact atI_last _ _
/-! ### a comprehension over any walk, whose items are data without lists -/
theorem lc_data {K : PySem.W.Frag} {J : It} {n : Nat} {G : Hp → Prop} {Y : Nat → Hp → V → Hp → Prop} (w : Walk J n G Y) {g : TG} {te : TE} {vs : List Nat} {σ : L2.St} {H1 : Hp} {D : Addr} {Qd : Hp → Prop} (hD : H1 D = none) (f : Nat → PyData) (hn : n ≤ 100000)
    (hf : ∀ i, i < n → noL (f i) = true) (hG : ∀ H, Same H1 H → G H)
    (hs : ∀ (i : Nat) (x : V) (H H' : Hp) (Q : V → Hp → Prop), i < n → Same H1 H → Y i H x H' → (∀ y H4, Same H H4 → Dp K H4 y (f i) → Q y H4) → g x (wipe σ vs) H' fun σ2 H2 => wipe σ2 vs = wipe σ vs ∧ te σ2 H2 Q)
    (hd : ∀ H ys, Same H1 H → H D = some (.lst ys) → DpAll K H ys ((List.range n).map f) → Qd H) :
    ∃ W : Nat → Nat → Hp → Prop, (∃ m, W 0 m (upd H1 D (.lst []))) ∧ ∀ i m H, W i m H → (J.stop i H ∧ Qd H) ∨ (J.go i H ∧ ∃ Nx : Hp → Prop, (∀ H', Nx H' → ∃ m', m' < m ∧ W (i + 1) m' H') ∧
      ∀ x H', J.yld i H x H' → g x (wipe σ vs) H' fun σ2 H2 => wipe σ2 vs = wipe σ vs ∧ tYes σ2 H2 fun b H3 => if b = true then te σ2 H3 fun y H4 => ∃ acc, H4 D = some (.lst acc) ∧ acc.length < sizeLine ∧ Nx (upd H4 D (.lst (acc ++ [y]))) else Nx H3) := by
  let Pv : Nat → Hp → Prop := fun i H => Same H1 H ∧ ∃ ys, H D = some (.lst ys) ∧ DpAll K H ys ((List.range i).map f)
  refine ⟨fun i m H => m = n - i ∧ i ≤ n ∧ Pv i H, ⟨n, rfl, Nat.zero_le _, same_new hD, [], upd_same, .nil⟩, ?_⟩
  rintro i m H ⟨rfl, hi, s1, ys, e, ha⟩
  by_cases hlt : i < n
  · refine .inr ⟨w.goes i H hlt (hG H s1), Pv (i + 1), fun H' p => ⟨n - (i + 1), by omega, rfl, hlt, p⟩, fun x H' y => ?_⟩
    refine hs i x H H' _ hlt s1 (w.yields i H x H' hlt (hG H s1) y) fun y H4 s4 h4 => ?_
    have e4 : H4 D = some (.lst ys) := s4 _ _ e
    refine ⟨ys, e4, ?_, same_mut (s1.trans s4) hD, ys ++ [y], upd_same, ?_⟩
    · rw [dpa_len ha, List.length_map, List.length_range]
      exact small_sz5 (by omega)
    · rw [List.range_succ, List.map_append]
      have b4 : But D H4 (upd H4 D (.lst (ys ++ [y]))) := fun c o hc eo => (upd_ne hc).trans eo
      refine dpa_snoc (dpa_but e4 b4 _ _ ?_ (dpa_same s4 _ _ ha)) (dp_but e4 b4 _ _ (hf i hlt) h4)
      clear h4 e4 s4 ha
      generalize hr : List.range i = l
      have : ∀ j, j ∈ l → j < n := fun j hj => by
        rw [← hr] at hj
        have := List.mem_range.mp hj
        omega
      clear hr
      induction l with
      | nil => rfl
      | cons a r ih =>
        show (noL (f a) && noLs (r.map f)) = true
        rw [hf a (this a List.mem_cons_self), ih fun j hj => this j (List.mem_cons_of_mem _ hj)]
        rfl
  · have : i = n := by omega
    subst this
    exact .inl ⟨w.stops H (hG H s1), hd H ys s1 e ha⟩
theorem range_map {α β : Type} (xs : List α) (g : α → β) (f : Nat → β) (h : ∀ i x, xs[i]? = some x → f i = g x) : (List.range xs.length).map f = xs.map g := by
  refine List.ext_getElem? fun i => ?_
  rw [List.getElem?_map, List.getElem?_map]
  by_cases hi : i < xs.length
  · rw [List.getElem?_range hi, List.getElem?_eq_getElem hi]
    exact congrArg some (h i _ (List.getElem?_eq_getElem hi))
  · rw [List.getElem?_eq_none (by rw [List.length_range]; omega), List.getElem?_eq_none (by omega)]
    rfl
theorem ints_get {ns : List Int} {j : Nat} {n : Int} (h : ns[j]? = some n) : (ns.map V.int)[j]? = some (.int n) := by
  rw [List.getElem?_map, h]
  rfl
theorem ints_at {ns : List Int} {j : Nat} (h : j < ns.length) : atI (ns.map V.int) (j : Int) = some (.int ns[j]) := atI_nat (ints_get (List.getElem?_eq_getElem h))
end SW

namespace SW
open PySem PySem.Spec PyProof.Rows L2
/-! This text stands for SwTw and SwTg in laws whose program reads no texts (the same names: never both). -/
/-! ### a promise that nobody calls for -/
theorem fn_never {P : Program} {w : World} {K : PySem.W.Frag} {mg : PySem.Str → Option Value} {base : Heap} {k : Nat} {f : Addr} {fd : FuncData} {ps : List PySem.Str} : FnOk P w K mg base CX0 k f fd ps (fun _ _ _ _ => False) :=
  ⟨fun _ _ _ _ h => h.elim, fun _ _ _ _ _ _ _ _ _ _ _ _ _ h => h.elim⟩
theorem fn_or {P : Program} {w : World} {K : PySem.W.Frag} {mg : PySem.Str → Option Value} {base : Heap} {CX : CXT} {k : Nat} {f : Addr} {fd : FuncData} {ps : List PySem.Str} {sp1 sp2 : Sp} (F : FnOk P w K mg base CX k f fd ps sp1) (G : FnOk P w K mg base CX k f fd ps sp2) :
    FnOk P w K mg base CX k f fd ps (fun vs H Q E => sp1 vs H Q E ∨ sp2 vs H Q E) :=
  ⟨fun vs H Q E h => h.elim (F.len vs H Q E) (G.len vs H Q E), fun A outer s H args us vs Q E hr he hb hv h => h.elim (F.run A outer s H args us vs Q E hr he hb hv) (G.run A outer s H args us vs Q E hr he hb hv)⟩
/-! ### data opened -/
theorem dp_str_inv {K : PySem.W.Frag} {H : Hp} {v : V} {x : PySem.Str} (h : Dp K H v (.str x)) : v = .str x := by
  cases h
  rfl
theorem dp_int_inv {K : PySem.W.Frag} {H : Hp} {v : V} {i : Int} (h : Dp K H v (.int i)) : v = .int i := by
  cases h
  rfl
theorem dp_bl_inv {K : PySem.W.Frag} {H : Hp} {v : V} {b : Bool} (h : Dp K H v (.bool b)) : v = .bl b := by
  cases h
  rfl
theorem dp_tup_inv {K : PySem.W.Frag} {H : Hp} {v : V} {ds : List PyData} (h : Dp K H v (.tuple ds)) : ∃ a xs, v = .ref a ∧ SqT K H a xs ∧ DpAll K H xs ds := by
  cases h with
  | tup hs ha => exact ⟨_, _, rfl, hs, ha⟩
theorem dp_inv2 {K : PySem.W.Frag} {H : Hp} {v : V} {d1 d2 : PyData} (h : Dp K H v (.tuple [d1, d2])) : ∃ a v1 v2, v = .ref a ∧ SqT K H a [v1, v2] ∧ Dp K H v1 d1 ∧ Dp K H v2 d2 := by
  obtain ⟨a, xs, e, hs, ha⟩ := dp_tup_inv h
  cases ha with
  | cons h1 ha =>
    cases ha with
    | cons h2 ha =>
      cases ha
      exact ⟨a, _, _, e, hs, h1, h2⟩
theorem dp_inv3 {K : PySem.W.Frag} {H : Hp} {v : V} {d1 d2 d3 : PyData} (h : Dp K H v (.tuple [d1, d2, d3])) : ∃ a v1 v2 v3, v = .ref a ∧ SqT K H a [v1, v2, v3] ∧ Dp K H v1 d1 ∧ Dp K H v2 d2 ∧ Dp K H v3 d3 := by
  obtain ⟨a, xs, e, hs, ha⟩ := dp_tup_inv h
  cases ha with
  | cons h1 ha =>
    cases ha with
    | cons h2 ha =>
      cases ha with
      | cons h3 ha =>
        cases ha
        exact ⟨a, _, _, _, e, hs, h1, h2, h3⟩
theorem dp_inv4 {K : PySem.W.Frag} {H : Hp} {v : V} {d1 d2 d3 d4 : PyData} (h : Dp K H v (.tuple [d1, d2, d3, d4])) : ∃ a v1 v2 v3 v4, v = .ref a ∧ SqT K H a [v1, v2, v3, v4] ∧ Dp K H v1 d1 ∧ Dp K H v2 d2 ∧ Dp K H v3 d3 ∧ Dp K H v4 d4 := by
  obtain ⟨a, xs, e, hs, ha⟩ := dp_tup_inv h
  cases ha with
  | cons h1 ha =>
    cases ha with
    | cons h2 ha =>
      cases ha with
      | cons h3 ha =>
        cases ha with
        | cons h4 ha =>
          cases ha
          exact ⟨a, _, _, _, _, e, hs, h1, h2, h3, h4⟩
theorem int_at {ns : List Int} {r : Int} (h0 : 0 ≤ r) (h1 : r < ns.length) : ∃ z, z ∈ ns ∧ atI (ns.map V.int) r = some (.int z) := by
  obtain ⟨j, rfl⟩ : ∃ j : Nat, r = j := ⟨r.toNat, by omega⟩
  have hj : j < ns.length := by omega
  refine ⟨ns[j], List.getElem_mem hj, atI_nat ?_⟩
  rw [List.getElem?_map, List.getElem?_eq_getElem hj]
  rfl
theorem But.same {h : Addr} {H H1 H2 : Hp} (a : But h H H1) (b : Same H1 H2) : But h H H2 := a.trans (Same.but b)
theorem tup_at {K : PySem.W.Frag} {H : Hp} {xs : List V} {ds : List PyData} {j : Nat} {d : PyData} (ha : DpAll K H xs ds) (e : ds[j]? = some d) : ∃ v, atI xs (j : Int) = some v ∧ Dp K H v d := by
  obtain ⟨v, h1, h2⟩ := dpa_get' ha e
  exact ⟨v, atI_nat h1, h2⟩
end SW

namespace SW
open PySem PySem.Spec PyProof.Rows L2
/-! ### the shown text of small data -/
mutual
def smS : PyData → Bool
  | .none => true
  | .bool _ => true
  | .int i => decide (i.natAbs < 10 ^ 60)
  | .str x => decide ((PyData.shown (.str x)).length ≤ 70)
  | .list ds => smSs ds
  | .tuple ds => smSs ds
  | _ => false
def smSs : List PyData → Bool
  | [] => true
  | d :: r => smS d && smSs r
end
mutual
def shS : PyData → Nat
  | .list ds => shSs ds + 10
  | .tuple ds => shSs ds + 10
  | _ => 70
def shSs : List PyData → Nat
  | [] => 0
  | d :: r => shS d + 10 + shSs r
end
theorem of_len (z : String) : (Str.ofString z).length = z.toList.length := by
  rw [TL.len_tl]
  rw [TL.tl_ofString, List.length_map]
theorem int_len (i : Int) (h : i.natAbs < 10 ^ 60) : (Str.ofString (toString i)).length ≤ 70 := by
  rw [of_len]
  show (Int.repr i).toList.length ≤ 70
  have key : ∀ n : Nat, n < 10 ^ 60 → n.repr.toList.length ≤ 60 := fun n hn => by
    have := (Nat.length_repr_le_iff (n := n) (k := 60) (by decide)).mpr hn
    exact this
  cases i with
  | ofNat n =>
    have := key n (by simpa using h)
    show (Nat.repr n).toList.length ≤ 70
    omega
  | negSucc n =>
    have := key (n + 1) (by simpa using h)
    show ("-" ++ Nat.repr (n + 1)).toList.length ≤ 70
    rw [String.toList_append, List.length_append]
    have : "-".toList.length = 1 := rfl
    omega
theorem tf_len : ∀ (ts : List PySem.Str) (k : Nat) (acc : PySem.Str), (textFrom k acc ts).length ≤ acc.length + (ts.map fun t => t.length + 2).sum
  | [], _, _ => Nat.le_add_right _ _
  | t :: r, k, acc => by
    have h := tf_len r (k + 1) (acc ++ Str.ofString (if k > 0 then ", " else "") ++ t)
    show (textFrom (k + 1) (acc ++ Str.ofString (if k > 0 then ", " else "") ++ t) r).length ≤ _
    rw [app_len, app_len] at h
    rw [List.map_cons, List.sum_cons]
    have h2 : (Str.ofString (if k > 0 then ", " else "")).length ≤ 2 := by
      by_cases hk : k > 0
      · rw [if_pos hk]
        decide
      · rw [if_neg hk]
        decide
    omega
theorem jn_len (z : PySem.Str) (hz : z.length ≤ 2) : ∀ ts : List PySem.Str, (Str.join z ts).length ≤ (ts.map fun t => t.length + 2).sum
  | [] => Nat.zero_le _
  | [x] => by
    show x.length ≤ (x.length + 2) + 0
    omega
  | x :: y :: r => by
    have h := jn_len z hz (y :: r)
    show (x ++ z ++ Str.join z (y :: r)).length ≤ _
    rw [app_len, app_len, List.map_cons, List.sum_cons]
    omega
mutual
theorem smS_shown : ∀ d : PyData, smS d = true → d.showable = true ∧ d.hasDict = false ∧ d.shown.length ≤ shS d
  | .none, _ => ⟨rfl, rfl, by decide⟩
  | .bool b, _ => ⟨rfl, rfl, by cases b <;> decide⟩
  | .int i, h => by
    have h := of_decide_eq_true (by unfold smS at h; exact h)
    refine ⟨decide_eq_true ?_, rfl, int_len i h⟩
    refine Nat.lt_of_le_of_lt (m := 200) ?_ (by decide)
    by_cases h0 : i.natAbs = 0
    · rw [h0]
      decide
    · refine Nat.le_of_lt ((Nat.log2_lt h0).mpr (Nat.lt_of_lt_of_le h (by decide)))
  | .list ds, h => by
    have ⟨h1, h2, h3⟩ := smSs_shown ds (by unfold smS at h; exact h)
    refine ⟨h1, h2, ?_⟩
    show (listText (PyData.shownAll ds)).length ≤ shSs ds + 10
    unfold listText
    rw [app_len]
    have := tf_len (PyData.shownAll ds) 0 (Str.ofString "[")
    have e1 : (Str.ofString "[").length = 1 := rfl
    have e2 : (Str.ofString "]").length = 1 := rfl
    omega
  | .tuple ds, h => by
    have ⟨h1, h2, h3⟩ := smSs_shown ds (by unfold smS at h; exact h)
    refine ⟨h1, h2, ?_⟩
    show (tupleText (PyData.shownAll ds)).length ≤ shSs ds + 10
    unfold tupleText
    rw [app_len, app_len]
    have := jn_len (Str.ofString ", ") (by decide) (PyData.shownAll ds)
    have e1 : (Str.ofString "(").length = 1 := rfl
    have e2 : (Str.ofString (if ((PyData.shownAll ds).length == 1) = true then ",)" else ")")).length ≤ 2 := by
      by_cases hk : ((PyData.shownAll ds).length == 1) = true
      · rw [if_pos hk]
        decide
      · rw [if_neg hk]
        decide
    omega
  | .str x, h => ⟨rfl, rfl, of_decide_eq_true (by unfold smS at h; exact h)⟩
  | .dict _, h => by
    unfold smS at h
    cases h
theorem smSs_shown : ∀ ds : List PyData, smSs ds = true → PyData.showableAll ds = true ∧ PyData.hasDictAll ds = false ∧ ((PyData.shownAll ds).map fun t => t.length + 2).sum ≤ shSs ds
  | [], _ => ⟨rfl, rfl, Nat.le_refl _⟩
  | d :: r, h => by
    unfold smSs at h
    rw [Bool.and_eq_true] at h
    have ⟨a1, a2, a3⟩ := smS_shown d h.1
    have ⟨b1, b2, b3⟩ := smSs_shown r h.2
    refine ⟨?_, ?_, ?_⟩
    · show (d.showable && PyData.showableAll r) = true
      rw [a1, b1]
      rfl
    · show (d.hasDict || PyData.hasDictAll r) = false
      rw [a2, b2]
      rfl
    · show ((d.shown :: PyData.shownAll r).map fun t => t.length + 2).sum ≤ shS d + 10 + shSs r
      rw [List.map_cons, List.sum_cons]
      omega
end
theorem smSs_map {α : Type} (f : α → PyData) : ∀ xs : List α, (∀ x, x ∈ xs → smS (f x) = true) → smSs (xs.map f) = true
  | [], _ => rfl
  | x :: r, h => by
    show (smS (f x) && smSs (r.map f)) = true
    rw [h x List.mem_cons_self, smSs_map f r fun y hy => h y (List.mem_cons_of_mem _ hy)]
    rfl
theorem shSs_map {α : Type} (f : α → PyData) (b : Nat) : ∀ xs : List α, (∀ x, x ∈ xs → shS (f x) ≤ b) → shSs (xs.map f) ≤ xs.length * (b + 10)
  | [], _ => Nat.zero_le _
  | x :: r, h => by
    have h1 := h x List.mem_cons_self
    have h2 := shSs_map f b r fun y hy => h y (List.mem_cons_of_mem _ hy)
    show shS (f x) + 10 + shSs (r.map f) ≤ (r.length + 1) * (b + 10)
    rw [Nat.add_mul]
    omega
theorem depthS_map {α : Type} (f : α → PyData) (b : Nat) : ∀ xs : List α, (∀ x, x ∈ xs → (f x).depth ≤ b) → PyData.depthAll (xs.map f) ≤ b
  | [], _ => Nat.zero_le _
  | x :: r, h => by
    have h1 := h x List.mem_cons_self
    have h2 := depthS_map f b r fun y hy => h y (List.mem_cons_of_mem _ hy)
    show max (f x).depth (PyData.depthAll (r.map f)) ≤ b
    omega
def rReprS (K : PySem.W.Frag) : List V → Hp → VK → Prop := fun vs H Q => (∃ (a : Addr) (d : PyData), vs = [.ref a] ∧ Dp K H (.ref a) d ∧ smS d = true ∧ d.depth ≤ 60 ∧ shS d ≤ sizeLine ∧ Q (.str d.shown) H) ∨ ∃ i : Int, vs = [.int i] ∧ i.natAbs.log2 < 1920 ∧ Q (.str (toString i)) H
theorem call_reprS {X : Cx} (hg : X.A.guards = some []) (hu : X.A.units + 64 < cLine) : CallR X (.builtin "repr") (rReprS X.K) := by
  intro pins s σ H xs us Q I r h
  rcases h with ⟨a, d, rfl, hd, sm, dp, sz, q⟩ | ⟨i, h1, h2, h3⟩
  · cases r with
    | cons r1 r2 =>
      cases r2
      cases r1
      obtain ⟨as, rd⟩ := Dp.reads I d _ _ hd rfl
      have ⟨h1, h2, h3⟩ := smS_shown d sm
      exact repr_of_reads' rd h1 (PyData.noDict_hsm h2) hg (by omega) (fun _ _ e => e) (fun h' u tk hk => ⟨.str _, H, I.kept hk, ⟨u, rfl⟩, q⟩) (Nat.le_trans h3 sz)
  · exact SkE.call_repr_int pins s σ H xs us Q I r ⟨i, h1, h2, h3⟩
end SW

namespace SW
open PySem PySem.Spec PyProof.Rows L2
/-! ### the shown text of data with texts of any length -/
mutual
def smW : PyData → Bool
  | .none => true
  | .bool _ => true
  | .int i => decide (i.natAbs < 10 ^ 60)
  | .str x => x.cps.toList.all fun c => decide (c < 16 ^ 8)
  | .list ds => smWs ds
  | .tuple ds => smWs ds
  | _ => false
def smWs : List PyData → Bool
  | [] => true
  | d :: r => smW d && smWs r
end
mutual
def shW : PyData → Nat
  | .str x => 10 * x.length + 2
  | .list ds => shWs ds + 10
  | .tuple ds => shWs ds + 10
  | _ => 70
def shWs : List PyData → Nat
  | [] => 0
  | d :: r => shW d + 10 + shWs r
end
mutual
theorem smW_shown : ∀ d : PyData, smW d = true → d.showable = true ∧ d.hasDict = false ∧ d.shown.length ≤ shW d
  | .none, _ => ⟨rfl, rfl, by decide⟩
  | .bool b, _ => ⟨rfl, rfl, by cases b <;> decide⟩
  | .int i, h => by
    have h := of_decide_eq_true (by unfold smW at h; exact h)
    refine ⟨decide_eq_true ?_, rfl, int_len i h⟩
    refine Nat.lt_of_le_of_lt (m := 200) ?_ (by decide)
    by_cases h0 : i.natAbs = 0
    · rw [h0]
      decide
    · refine Nat.le_of_lt ((Nat.log2_lt h0).mpr (Nat.lt_of_lt_of_le h (by decide)))
  | .list ds, h => by
    have ⟨h1, h2, h3⟩ := smWs_shown ds (by unfold smW at h; exact h)
    refine ⟨h1, h2, ?_⟩
    show (listText (PyData.shownAll ds)).length ≤ shWs ds + 10
    unfold listText
    rw [app_len]
    have := tf_len (PyData.shownAll ds) 0 (Str.ofString "[")
    have e1 : (Str.ofString "[").length = 1 := rfl
    have e2 : (Str.ofString "]").length = 1 := rfl
    omega
  | .tuple ds, h => by
    have ⟨h1, h2, h3⟩ := smWs_shown ds (by unfold smW at h; exact h)
    refine ⟨h1, h2, ?_⟩
    show (tupleText (PyData.shownAll ds)).length ≤ shWs ds + 10
    unfold tupleText
    rw [app_len, app_len]
    have := jn_len (Str.ofString ", ") (by decide) (PyData.shownAll ds)
    have e1 : (Str.ofString "(").length = 1 := rfl
    have e2 : (Str.ofString (if ((PyData.shownAll ds).length == 1) = true then ",)" else ")")).length ≤ 2 := by
      by_cases hk : ((PyData.shownAll ds).length == 1) = true
      · rw [if_pos hk]
        decide
      · rw [if_neg hk]
        decide
    omega
  | .str x, h => by
    refine ⟨rfl, rfl, ?_⟩
    show (reprText x).length ≤ 10 * x.length + 2
    unfold smW at h
    rw [List.all_eq_true] at h
    exact StrLaws.reprText_len x fun c hc => of_decide_eq_true (h c hc)
  | .dict _, h => by
    unfold smW at h
    cases h
theorem smWs_shown : ∀ ds : List PyData, smWs ds = true → PyData.showableAll ds = true ∧ PyData.hasDictAll ds = false ∧ ((PyData.shownAll ds).map fun t => t.length + 2).sum ≤ shWs ds
  | [], _ => ⟨rfl, rfl, Nat.le_refl _⟩
  | d :: r, h => by
    unfold smWs at h
    rw [Bool.and_eq_true] at h
    have ⟨a1, a2, a3⟩ := smW_shown d h.1
    have ⟨b1, b2, b3⟩ := smWs_shown r h.2
    refine ⟨?_, ?_, ?_⟩
    · show (d.showable && PyData.showableAll r) = true
      rw [a1, b1]
      rfl
    · show (d.hasDict || PyData.hasDictAll r) = false
      rw [a2, b2]
      rfl
    · show ((d.shown :: PyData.shownAll r).map fun t => t.length + 2).sum ≤ shW d + 10 + shWs r
      rw [List.map_cons, List.sum_cons]
      omega
end
theorem smWs_map {α : Type} (f : α → PyData) : ∀ xs : List α, (∀ x, x ∈ xs → smW (f x) = true) → smWs (xs.map f) = true
  | [], _ => rfl
  | x :: r, h => by
    show (smW (f x) && smWs (r.map f)) = true
    rw [h x List.mem_cons_self, smWs_map f r fun y hy => h y (List.mem_cons_of_mem _ hy)]
    rfl
theorem shWs_map {α : Type} (f : α → PyData) (b : Nat) : ∀ xs : List α, (∀ x, x ∈ xs → shW (f x) ≤ b) → shWs (xs.map f) ≤ xs.length * (b + 10)
  | [], _ => Nat.zero_le _
  | x :: r, h => by
    have h1 := h x List.mem_cons_self
    have h2 := shWs_map f b r fun y hy => h y (List.mem_cons_of_mem _ hy)
    show shW (f x) + 10 + shWs (r.map f) ≤ (r.length + 1) * (b + 10)
    rw [Nat.add_mul]
    omega
def rReprW (K : PySem.W.Frag) : List V → Hp → VK → Prop := fun vs H Q => ∃ (a : Addr) (d : PyData), vs = [.ref a] ∧ Dp K H (.ref a) d ∧ smW d = true ∧ d.depth ≤ 60 ∧ shW d ≤ sizeLine ∧ Q (.str d.shown) H
theorem call_reprW {X : Cx} (hg : X.A.guards = some []) (hu : X.A.units + 64 < cLine) : CallR X (.builtin "repr") (rReprW X.K) := by
  intro pins s σ H xs us Q I r h
  obtain ⟨a, d, rfl, hd, sm, dp, sz, q⟩ := h
  cases r with
  | cons r1 r2 =>
    cases r2
    cases r1
    obtain ⟨as, rd⟩ := Dp.reads I d _ _ hd rfl
    have ⟨h1, h2, h3⟩ := smW_shown d sm
    exact repr_of_reads' rd h1 (PyData.noDict_hsm h2) hg (by omega) (fun _ _ e => e) (fun h' u tk hk => ⟨.str _, H, I.kept hk, ⟨u, rfl⟩, q⟩) (Nat.le_trans h3 sz)
end SW

namespace SW
open PySem PySem.Spec PyProof.Rows L2
/-! ### comprehensions by their values -/
theorem lc_vals {J : It} {n : Nat} {G : Hp → Prop} {Y : Nat → Hp → V → Hp → Prop} (w : Walk J n G Y) {g : TG} {te : TE} {vs : List Nat} {σ : L2.St} {H1 : Hp} {D : Addr} {Qd : Hp → Prop} (hD : H1 D = none) (f : Nat → V) (hn : n ≤ 100000) (hG : ∀ H, Same H1 H → G H)
    (hs : ∀ (i : Nat) (x : V) (H H' : Hp) (Q : V → Hp → Prop), i < n → Same H1 H → Y i H x H' → (∀ H4, Same H H4 → Q (f i) H4) → g x (wipe σ vs) H' fun σ2 H2 => wipe σ2 vs = wipe σ vs ∧ te σ2 H2 Q)
    (hd : ∀ H, Same H1 H → H D = some (.lst ((List.range n).map f)) → Qd H) :
    ∃ W : Nat → Nat → Hp → Prop, (∃ m, W 0 m (upd H1 D (.lst []))) ∧ ∀ i m H, W i m H → (J.stop i H ∧ Qd H) ∨ (J.go i H ∧ ∃ Nx : Hp → Prop, (∀ H', Nx H' → ∃ m', m' < m ∧ W (i + 1) m' H') ∧
      ∀ x H', J.yld i H x H' → g x (wipe σ vs) H' fun σ2 H2 => wipe σ2 vs = wipe σ vs ∧ tYes σ2 H2 fun b H3 => if b = true then te σ2 H3 fun y H4 => ∃ acc, H4 D = some (.lst acc) ∧ acc.length < sizeLine ∧ Nx (upd H4 D (.lst (acc ++ [y]))) else Nx H3) := by
  let Pv : Nat → Hp → Prop := fun i H => Same H1 H ∧ H D = some (.lst ((List.range i).map f))
  refine ⟨fun i m H => m = n - i ∧ i ≤ n ∧ Pv i H, ⟨n, rfl, Nat.zero_le _, same_new hD, upd_same⟩, ?_⟩
  rintro i m H ⟨rfl, hi, s1, e⟩
  by_cases hlt : i < n
  · refine .inr ⟨w.goes i H hlt (hG H s1), Pv (i + 1), fun H' p => ⟨n - (i + 1), by omega, rfl, hlt, p⟩, fun x H' y => ?_⟩
    refine hs i x H H' _ hlt s1 (w.yields i H x H' hlt (hG H s1) y) fun H4 s4 => ?_
    refine ⟨_, s4 _ _ e, ?_, same_mut (s1.trans s4) hD, ?_⟩
    · rw [List.length_map, List.length_range]
      exact small_sz5 (by omega)
    · rw [List.range_succ, List.map_append, upd_same]
      rfl
  · have : i = n := by omega
    subst this
    exact .inl ⟨w.stops H (hG H s1), hd H s1 e⟩
/-- over a range, each item drawn from the hand -/
theorem lc_drawn {α : Type} {K : PySem.W.Frag} {lo : Int} {n : Nat} {h d : Addr} {ds : List Int} {g : TG} {te : TE} {vs : List Nat} {σ : L2.St} {H1 : Hp} {D : Addr} {Qd : Hp → Prop} (enc : α → PyData) (R : α → Prop) (hE : ∀ e, R e → noL (enc e) = true) (hn : n ≤ 1000) (hH : Hand H1 h d ds) (hD : H1 D = none)
    (hs : ∀ (i : Nat) (x : V) (H : Hp) (Q : V → Hp → Prop), i < n → But h H1 H → Hand H h d ds → x = .int (lo + i) → (∀ y e H4, But h H H4 → Hand H4 h d ds → R e → Dp K H4 y (enc e) → Q y H4) → g x (wipe σ vs) H fun σ2 H2 => wipe σ2 vs = wipe σ vs ∧ te σ2 H2 Q)
    (hd : ∀ H ys (es : List α), But h H1 H → Hand H h d ds → H D = some (.lst ys) → D ≠ h → D ≠ d → DpAll K H ys (es.map enc) → es.length = n → (∀ e, e ∈ es → R e) → Qd H) :
    ∃ W : Nat → Nat → Hp → Prop, (∃ m, W 0 m (upd H1 D (.lst []))) ∧ ∀ i m H, W i m H → ((Itr lo n).stop i H ∧ Qd H) ∨ ((Itr lo n).go i H ∧ ∃ Nx : Hp → Prop, (∀ H', Nx H' → ∃ m', m' < m ∧ W (i + 1) m' H') ∧
      ∀ x H', (Itr lo n).yld i H x H' → g x (wipe σ vs) H' fun σ2 H2 => wipe σ2 vs = wipe σ vs ∧ tYes σ2 H2 fun b H3 => if b = true then te σ2 H3 fun y H4 => ∃ acc, H4 D = some (.lst acc) ∧ acc.length < sizeLine ∧ Nx (upd H4 D (.lst (acc ++ [y]))) else Nx H3) := by
  have w : Walk (Itr lo n) n (fun _ => True) (YFn fun i => .int (lo + i)) := walk_range
  have hDh := hand_ne hH hD
  have hDd := hand_ne2 hH hD
  let Pv : Nat → Hp → Prop := fun i H => But h H1 H ∧ Hand H h d ds ∧ ∃ (ys : List V) (es : List α), H D = some (.lst ys) ∧ DpAll K H ys (es.map enc) ∧ es.length = i ∧ ∀ e, e ∈ es → R e
  refine ⟨fun i m H => m = n - i ∧ i ≤ n ∧ Pv i H, ⟨n, rfl, Nat.zero_le _, (But.refl h H1).new hD, hH.upd hDh hDd, [], [], upd_same, .nil, rfl, fun _ h => nomatch h⟩, ?_⟩
  rintro i m H ⟨rfl, hi, b1, hh, ys, es, e, ha, hl, hR⟩
  by_cases hlt : i < n
  · refine .inr ⟨w.goes i H hlt trivial, Pv (i + 1), fun H' p => ⟨n - (i + 1), by omega, rfl, hlt, p⟩, fun x H' y => ?_⟩
    obtain ⟨rfl, hx⟩ := w.yields i H x H' hlt trivial y
    refine hs i x _ _ hlt b1 hh hx fun y e4 H4 b4 hh4 hr4 h4 => ?_
    have e5 := b4 _ _ hDh e
    obtain ⟨k, hk⟩ := hh.at_
    have all : ∀ es : List α, (∀ e, e ∈ es → R e) → noLs (es.map enc) = true := fun es => by
      induction es with
      | nil => exact fun _ => rfl
      | cons a r ih =>
        intro hr
        show (noL (enc a) && noLs (r.map enc)) = true
        rw [hE a (hr a List.mem_cons_self), ih fun e he => hr e (List.mem_cons_of_mem _ he)]
        rfl
    have hbut : But D H4 (upd H4 D (.lst (ys ++ [y]))) := fun b o hne e => (upd_ne hne).trans e
    refine ⟨ys, e5, ?_, (b1.trans b4).new hD, hh4.upd hDh hDd, ys ++ [y], es ++ [e4], upd_same, ?_, by rw [List.length_append, hl]; rfl, fun e he => ?_⟩
    · rw [dpa_len ha, List.length_map]
      exact small_sz5 (by omega)
    · rw [List.map_append]
      exact dpa_snoc (dpa_but e5 hbut _ _ (all es hR) (dpa_but hk b4 _ _ (all es hR) ha)) (dp_but e5 hbut _ _ (hE _ hr4) h4)
    · rcases List.mem_append.mp he with he | he
      · exact hR e he
      · rw [List.mem_singleton.mp he]
        exact hr4
  · have : i = n := by omega
    subst this
    exact .inl ⟨w.stops H trivial, hd H ys es b1 hh e hDh hDd ha hl hR⟩
theorem dp_mem {K : PySem.W.Frag} {H : Hp} {xs : List V} {α : Type} {es : List α} {enc : α → PyData} {j : Nat} (ha : DpAll K H xs (es.map enc)) (hj : j < es.length) : ∃ v, xs[j]? = some v ∧ Dp K H v (enc es[j]) :=
  dpa_get' (j := j) ha (by rw [List.getElem?_map, List.getElem?_eq_getElem hj]; rfl)
theorem range_fn {α β : Type} (xs : List α) (g : α → β) : (List.range xs.length).map (fun i => if h : i < xs.length then some (g xs[i]) else none) = xs.map fun x => some (g x) :=
  range_map xs (fun x => some (g x)) _ fun i x h => by
    obtain ⟨h1, h2⟩ := List.getElem?_eq_some_iff.mp h
    rw [dif_pos h1, h2]
end SW

namespace SW
open PySem PySem.Spec PyProof.Rows L2
abbrev s_l_draws : Stmt := topS 16
theorem sc_l_draws : FnScope ["script", "many", "rests", "cell", "draws", "k", "at", "mixed"] ["script", "many"] (defScope s_l_draws) := ⟨rfl, rfl, rfl, by decide +kernel, rfl, by decide +kernel, by decide +kernel⟩

abbrev s_l_take : Stmt := topS 17
theorem sc_l_take : FnScope ["hand", "many", "at", "draws"] ["hand", "many"] (defScope s_l_take) := ⟨rfl, rfl, rfl, by decide +kernel, rfl, by decide +kernel, by decide +kernel⟩

section
variable {P : Program} {w : World} {K : PySem.W.Frag} {mg : PySem.Str → Option Value} {base : Heap}
def spTake : Sp := fun vs H Q _ => ∃ (h d : Addr) (ds : List Int) (m : Int), vs = [.ref h, .int m] ∧ 0 < m ∧ Hand H h d ds ∧ ∀ r H', 0 ≤ r → r < m → But h H H' → Hand H' h d ds → (∀ b, H b = none → H' b = none) → Q (.int r) H'
theorem ok_l_take (T : TxB mg) (D_l_take : Df K mg "_law_take" s_l_take ["hand", "many"]) : FnOk P w K mg base CX0 1 D_l_take.f D_l_take.fd ["hand", "many"] spTake := by
  refine D_l_take.F.ok sc_l_take (fun vs H Q E h => ?_) (fun cdv A outer s H vs Q E hr h => ?_)
  · obtain ⟨a, d, ds, m, rfl, _⟩ := h
    rfl
  · obtain ⟨a, d, ds, m, rfl, hm, ⟨⟨i, e1⟩, e2, e3⟩, q⟩ := h
    refine ⟨_, (pss_cons (ps_set (i := 2) sc_l_take.nd rfl (.inl rfl) (pe_ix ix_list (pv 0) pe_int (fun _ _ => rfl)))
    (pss_cons (ps_asg (pe_op op_add (pv 2) pe_int) (pg_sub (pv 0) pe_int set_list))
    (pss_cons (ps_set (i := 3) sc_l_take.nd rfl (.inl rfl) (pe_ix ix_list (pv 0) pe_int (fun _ _ => rfl)))
    (pss_cons (ps_if (pt_cmpR op_ge (pv 2) (pe_callB call_len_seq (by rfl) T.n_len PySem.boot_len (pa_cons (pv 3) pa_nil)) (nomark _))
    (pss_one (ps_ret pe_int))
    pss_nil)
    (pss_one (ps_ret (pe_op op_mod (pe_op op_fdiv (pe_callTy call_int1 (by rfl) T.n_int (by decide +kernel) (pa_cons (pe_ix ix_list (pv 3) (pv 2) (fun _ _ => rfl)) pa_nil)) pe_int) (pv 1)))))))), ?_⟩
    -- at = hand[1]
    refine ⟨_, rfl, a, _, _, _, rfl, rfl, SqL.of e1, atI_nat (j := 1) rfl, ?_⟩
    -- hand[1] = at + 1
    refine ⟨_, rfl, _, _, rfl, rfl, _, rfl, a, _, 1, 1, rfl, rfl, e1, rfl, ?_⟩
    have b1 : But a H (upd H a (.lst [.ref d, .int ((i + 1 : Nat) : Int)])) := fun b o n e => by
      rw [upd_ne n]
      exact e
    have e1' : upd H a (.lst [.ref d, .int ((i + 1 : Nat) : Int)]) a = some (.lst [.ref d, .int ((i + 1 : Nat) : Int)]) := upd_same
    have e2' : upd H a (.lst [.ref d, .int ((i + 1 : Nat) : Int)]) d = some (.lst (ds.map V.int)) := b1 _ _ e3 e2
    have fin : ∀ r, 0 ≤ r → r < m → Q (.int r) (upd H a (.lst [.ref d, .int ((i + 1 : Nat) : Int)])) := fun r h1 h2 => q r _ h1 h2 b1 ⟨⟨i + 1, e1'⟩, e2', e3⟩ fun b hb => by
      rw [upd_ne (fun e => by rw [e, e1] at hb; cases hb)]
      exact hb
    refine ⟨_, rfl, a, _, _, _, rfl, rfl, SqL.of e1', atI_nat (j := 0) rfl, ?_⟩
    refine ⟨_, rfl, _, rfl, d, _, rfl, .inl (SqL.of e2'), _, _, rfl, rfl, _, rfl, ite2 (fun e => ?_) (fun e => ?_)⟩
    · exact fin 0 (Int.le_refl 0) hm
    · have e4 := of_decide_eq_false (Bool.eq_false_iff.mpr e)
      rw [List.length_map] at e4
      have hi : i < ds.length := by omega
      have g : (ds.map V.int)[i]? = some (.int ds[i]) := by
        rw [List.getElem?_map, List.getElem?_eq_getElem hi]
        rfl
      refine ⟨_, rfl, _, rfl, d, _, _, _, rfl, rfl, SqL.of e2', atI_nat g, .inl ⟨_, rfl, _, _, rfl, rfl, ⟨by decide, by decide⟩, _, rfl, _, _, rfl, rfl, hm, ?_⟩⟩
      exact fin _ (Int.emod_nonneg _ (by omega)) (Int.emod_lt_of_pos _ hm)
def spDraws (K : PySem.W.Frag) : Sp := fun vs H Q _ => ∃ (a : Addr) (ns : List Int) (m : Nat), vs = [.ref a, .int m] ∧ SqL K H a (ns.map V.int) ∧ ns.length ≤ 1000 ∧ m ≤ 5000 ∧ ∀ p (ds : List Int) H', Same H H' → H p = none → H' p = some (.lst (ds.map V.int)) → Q (.ref p) H'
theorem ok_l_draws (T : TxB mg) (D_l_draws : Df K mg "_law_draws" s_l_draws ["script", "many"]) : FnOk P w K mg base CX0 1 D_l_draws.f D_l_draws.fd ["script", "many"] (spDraws K) := by
  refine D_l_draws.F.ok sc_l_draws (fun vs H Q E h => ?_) (fun cdv A outer s H vs Q E hr h => ?_)
  · obtain ⟨a, ns, m, rfl, _⟩ := h
    rfl
  · obtain ⟨a, ns, m, rfl, hS, hn, hm, q⟩ := h
    refine ⟨_, (pss_cons (ps_setLc (i := 2) (own := [("cell", 3)]) (g := gName 3) (by rfl) sc_l_draws.nd rfl rfl (sw_true rfl rfl rfl (by decide +kernel)) (pi_list (pv 0)) (blkOk_by (own := [("cell", 3)]) (N := ["script", "many", "rests", "cell", "draws", "k", "at", "mixed"]) (sc := defScope s_l_draws) (by decide +kernel)) (fun _ _ _ _ _ => pg_name (i := 3) sc_l_draws.nd rfl (Or.inl rfl)) (fun _ _ _ _ _ => pts_nil) (fun _ _ _ _ _ => (pe_callB call_abs (by rfl) T.n_abs (by decide +kernel) (pa_cons (pe_callTy call_int1 (by rfl) T.n_int (by decide +kernel) (pa_cons (pv 3) pa_nil)) pa_nil))))
    (pss_cons (ps_set (i := 4) sc_l_draws.nd rfl (.inl rfl) (pe_lst pa_nil))
    (pss_cons (ps_for PassesOwn.never rfl (pi_range1 (by rfl) T.n_range (pa_cons (pv 1) pa_nil)) (pg_name (i := 5) sc_l_draws.nd rfl (.inl rfl))
    (pss_cons (ps_set (i := 3) sc_l_draws.nd rfl (.inl rfl) (pv 5))
    (Evl.pss_cut (ps_if (pt_cmpR op_gt (pe_callB call_len_seq (by rfl) T.n_len PySem.boot_len (pa_cons (pv 0) pa_nil)) pe_int (nomark _))
    (pss_cons (ps_set (i := 6) sc_l_draws.nd rfl (.inl rfl) (pe_op op_mod (pv 5) (pe_callB call_len_seq (by rfl) T.n_len PySem.boot_len (pa_cons (pv 0) pa_nil))))
    (pss_cons (ps_set (i := 3) sc_l_draws.nd rfl (.inl rfl) (pe_callTy call_int1 (by rfl) T.n_int (by decide +kernel) (pa_cons (pe_ix ix_list (pv 0) (pv 6) (fun _ _ => rfl)) pa_nil)))
    (pss_one (ps_if (PW.pt (pw_and (pt_cmpR op_ge (pv 3) (pe_op op_pow pe_int pe_int) (nomark _)) (pw_and1 (pt_cmpR op_gt (pe_ix ix_list (pv 2) (pv 6) (fun _ _ => rfl)) pe_int (nomark _)))))
    (pss_cons (ps_expr (pe_bm PySem.F.plainAttrs_list PySem.F.slot_list_append PySem.F.type_list_append mt_append (pv 4) (pa_cons (pe_op op_mod (pe_callTy call_int1 (by rfl) T.n_int (by decide +kernel) (pa_cons (pe_ix ix_list (pv 2) (pv 6) (fun _ _ => rfl)) pa_nil)) pe_int) pa_nil)))
    (pss_cons (ps_asg (pe_op op_fdiv (pe_callTy call_int1 (by rfl) T.n_int (by decide +kernel) (pa_cons (pe_ix ix_list (pv 2) (pv 6) (fun _ _ => rfl)) pa_nil)) pe_int) (pg_sub (pv 2) (pv 6) set_list))
    (pss_one ps_continue)))
    pss_nil))))
    pss_nil)
    (pss_cons (ps_set (i := 7) sc_l_draws.nd rfl (.inl rfl) (pe_op op_mod (pe_callTy call_int1 (by rfl) T.n_int (by decide +kernel) (pa_cons (pe_op op_add (pe_op op_add (pe_op op_mul (pv 3) pe_int) (pe_op op_mul (pv 5) pe_int)) pe_int) pa_nil)) pe_int))
    (pss_cons (ps_set (i := 7) sc_l_draws.nd rfl (.inl rfl) (pe_op op_mod (pe_callTy call_int1 (by rfl) T.n_int (by decide +kernel) (pa_cons (pe_op op_add (pe_op op_fdiv (pe_op op_mul (pv 7) (pv 7)) pe_int) (pv 7)) pa_nil)) pe_int))
    (pss_one (ps_expr (pe_bm PySem.F.plainAttrs_list PySem.F.slot_list_append PySem.F.type_list_append mt_append (pv 4) (pa_cons (pe_op op_mod (pe_callTy call_int1 (by rfl) T.n_int (by decide +kernel) (pa_cons (pe_op op_add (pe_op op_fdiv (pe_op op_mul (pv 7) (pv 7)) pe_int) (pe_op op_mul (pv 5) pe_int)) pa_nil)) pe_int) pa_nil)))))))))
    (pss_one (ps_ret (pv 4)))))), ?_⟩
    -- rests = [..]
    refine ⟨.ref a, rfl, a, rfl, ⟨_, hS⟩, fun D hD => ?_⟩
    refine lc_list (K := K) (a := a) (xs := ns.map V.int) (fun i H1 => Same H H1 ∧ ∃ rs : List Int, rs.length = i ∧ H1 D = some (.lst (rs.map V.int))) ⟨same_new hD, [], rfl, upd_same⟩ (fun i H1 _ h => h.1.seq hS) (fun i x H1 hx hP => ?_) (fun H1 hP => ?_)
    · obtain ⟨s1, rs, hl, e1⟩ := hP
      rw [List.getElem?_map] at hx
      cases hni : ns[i]? with
      | none =>
        rw [hni] at hx
        cases hx
      | some n =>
        rw [hni] at hx
        cases hx
        have hlt : i < ns.length := by
          obtain ⟨h1, _⟩ := List.getElem?_eq_some_iff.mp hni
          exact h1
        refine ⟨rfl, ?_⟩
        refine ⟨_, rfl, .inl ⟨n, rfl, n, rfl, _, e1, ?_, same_mut s1 hD, rs ++ [if n < 0 then -n else n], ?_, ?_⟩⟩
        · rw [List.length_map, hl]
          exact small_sz5 (by omega)
        · rw [List.length_append, hl]
          rfl
        · rw [upd_same, List.map_append]
          rfl
    obtain ⟨s1, rs, hl, e1⟩ := hP
    rw [List.length_map] at hl
    -- draws = []
    refine ⟨Nat.zero_le _, fun p np => ?_⟩
    have npH : H p = none := s1.free np
    have npD : D ≠ p := ne_of_none e1 np
    refine ⟨_, rfl, m, rfl, by omega, by omega, ?_⟩
    refine for_range (lo := 0) (n := (m : Int).toNat) (fun i σ H2 => ∃ (y3 y5 y6 y7 : Option V) (rs ds : List Int), σ = [some (.ref a), some (.int m), some (.ref D), y3, some (.ref p), y5, y6, y7] ∧ rs.length = ns.length ∧ ds.length = i ∧ Same H H2 ∧ H2 D = some (.lst (rs.map V.int)) ∧ H2 p = some (.lst (ds.map V.int)))
      ⟨_, _, _, _, rs, [], rfl, hl, rfl, s1.trans (same_new np), (same_new np) _ _ e1, upd_same⟩ (fun i σ H2 hi hP => ?_) (fun σ H2 hP => ?_)
    · obtain ⟨y3, y5, y6, y7, rs, ds, rfl, hl, hd, s2, e2, e3⟩ := hP
      have hA : SqL K H2 a (ns.map V.int) := s2.seq hS
      -- cell = k
      refine ⟨_, rfl, ?_⟩
      refine ⟨fun σ' H' => ∃ (c : Int) (y6 : Option V), σ' = [some (.ref a), some (.int m), some (.ref D), some (.int c), some (.ref p), some (.int (0 + i)), y6, y7] ∧ H' = H2, ?_, ?_⟩
      · refine ⟨_, rfl, a, _, rfl, .inl hA, _, _, rfl, rfl, _, rfl, ite2 (fun e => ?_) (fun e => ?_)⟩
        · have e4 := of_decide_eq_true e
          rw [List.length_map] at e4
          have hpos : 0 < ns.length := by omega
          refine ⟨_, rfl, _, rfl, a, _, rfl, .inl hA, _, _, rfl, rfl, by rw [List.length_map]; omega, ?_⟩
          rw [List.length_map]
          have hk0 : 0 ≤ ((0 : Int) + i) % (ns.length : Int) := Int.emod_nonneg _ (by omega)
          have hk1 : ((0 : Int) + i) % (ns.length : Int) < ns.length := Int.emod_lt_of_pos _ (by omega)
          dsimp only
          generalize ((0 : Int) + i) % (ns.length : Int) = k at hk0 hk1
          obtain ⟨j, rfl⟩ : ∃ j : Nat, k = j := ⟨k.toNat, by omega⟩
          have hj : j < ns.length := by omega
          have g : (ns.map V.int)[j]? = some (.int ns[j]) := by
            rw [List.getElem?_map, List.getElem?_eq_getElem hj]
            rfl
          have hj2 : j < rs.length := by omega
          have g2 : (rs.map V.int)[j]? = some (.int rs[j]) := by
            rw [List.getElem?_map, List.getElem?_eq_getElem hj2]
            rfl
          refine ⟨_, rfl, _, rfl, a, _, _, _, rfl, rfl, hA, atI_nat g, .inl ⟨_, rfl, ?_⟩⟩
          refine ⟨_, rfl, _, _, rfl, rfl, ⟨by decide, by decide, by decide⟩, _, _, rfl, rfl, _, rfl, ite2 (fun e => ?_) (fun e => ?_)⟩
          · refine ⟨_, rfl, _, rfl, D, _, _, _, rfl, rfl, SqL.of e2, atI_nat g2, _, _, rfl, rfl, _, rfl, ite2 (fun e => ?_) (fun e => ?_)⟩
            · -- draws.append(rests[at] % ..)
              refine ⟨_, rfl, .inl ⟨rfl, _, SqL.of e3⟩, _, rfl, _, rfl, D, _, _, _, rfl, rfl, SqL.of e2, atI_nat g2, .inl ⟨_, rfl, _, _, rfl, rfl, (by show (0 : Int) < _; decide), p, _, _, rfl, rfl, e3, ?_, ?_⟩⟩
              · rw [List.length_map]
                exact small_sz5 (by omega)
              have e2' : (upd H2 p (.lst (ds.map V.int ++ [.int (rs[j] % 1000003)]))) D = some (.lst (rs.map V.int)) := by
                rw [upd_ne npD]
                exact e2
              refine ⟨_, rfl, _, rfl, D, _, _, _, rfl, rfl, SqL.of e2', atI_nat g2, .inl ⟨_, rfl, _, _, rfl, rfl, ⟨by decide, by decide⟩, _, rfl, _, rfl, D, _, _, j, rfl, rfl, e2', ?_, ?_⟩⟩
              · rw [List.length_map]
                exact ixN_nat (by omega)
              refine ⟨_, _, _, _, rs.set j (rs[j] / 1000003), ds ++ [rs[j] % 1000003], rfl, by rw [List.length_set, hl], by rw [List.length_append, hd]; rfl, same_mut (same_mut s2 npH) hD, ?_, ?_⟩
              · rw [upd_same, List.map_set]
              · rw [upd_ne npD.symm, upd_same, List.map_append]
                rfl
            · exact ⟨_, _, rfl, rfl⟩
          · exact iteF ⟨_, _, rfl, rfl⟩
        · exact ⟨_, _, rfl, rfl⟩
      · intro σ' H' hN
        obtain ⟨c, y6, rfl, rfl⟩ := hN
        refine ⟨_, rfl, _, _, rfl, rfl, .inr ⟨by decide, by decide⟩, _, rfl, _, _, rfl, rfl, .inr ⟨by decide, by decide⟩, _, _, rfl, rfl, _, _, rfl, rfl, .inl ⟨_, rfl, _, _, rfl, rfl, (by show (0 : Int) < _; decide), ?_⟩⟩
        have m0 : 0 ≤ (c * 48271 + (0 + (i : Int)) * 69621 + 11) % 2147483647 := Int.emod_nonneg _ (by decide)
        have m1 : (c * 48271 + (0 + (i : Int)) * 69621 + 11) % 2147483647 < 2147483647 := Int.emod_lt_of_pos _ (by decide)
        dsimp only
        generalize (c * 48271 + (0 + (i : Int)) * 69621 + 11) % 2147483647 = x at m0 m1
        refine ⟨_, rfl, _, rfl, _, _, rfl, rfl, .inl ⟨by omega, by omega⟩, _, _, rfl, rfl, ⟨by decide, by decide⟩, _, rfl, _, _, rfl, rfl, .inl ⟨_, rfl, _, _, rfl, rfl, (by show (0 : Int) < _; decide), ?_⟩⟩
        have m2 : 0 ≤ (x * x / 4096 + x) % 2147483629 := Int.emod_nonneg _ (by decide)
        have m3 : (x * x / 4096 + x) % 2147483629 < 2147483629 := Int.emod_lt_of_pos _ (by decide)
        dsimp only
        generalize (x * x / 4096 + x) % 2147483629 = y at m2 m3
        refine ⟨_, rfl, .inl ⟨rfl, _, SqL.of e3⟩, _, rfl, _, rfl, _, _, rfl, rfl, .inl ⟨by omega, by omega⟩, _, _, rfl, rfl, ⟨by decide, by decide⟩, _, rfl, _, _, rfl, rfl, .inr ⟨by decide, by decide⟩, _, _, rfl, rfl, .inl ⟨_, rfl, _, _, rfl, rfl, (by show (0 : Int) < _; decide), p, _, _, rfl, rfl, e3, ?_, ?_⟩⟩
        · rw [List.length_map]
          exact small_sz5 (by omega)
        refine ⟨_, _, _, _, rs, ds ++ [(y * y / 4096 + (0 + (i : Int)) * 7919) % 2147483629], rfl, hl, by rw [List.length_append, hd]; rfl, same_mut s2 npH, ?_, ?_⟩
        · rw [upd_ne npD]
          exact e2
        · rw [upd_same, List.map_append]
          rfl
    · obtain ⟨y3, y5, y6, y7, rs, ds, rfl, hl, hd, s2, e2, e3⟩ := hP
      exact ⟨_, rfl, q p ds H2 s2 npH e3⟩
end
end SW

namespace SW
open PySem PySem.Spec PyProof.Rows L2
/-! ### t + u and t[a:b] of tuples, whatever object comes of it -/
section
variable {X : Cx}
def rCatB (K : PySem.W.Frag) : R2 := fun x y H Q => ∃ a b xs ys, x = .ref a ∧ y = .ref b ∧ SqT K H a xs ∧ SqT K H b ys ∧ xs.length + ys.length ≤ sizeLine ∧ ∀ p H', Same H H' → SqT K H' p (xs ++ ys) → Q (.ref p) H'
theorem op_catB : OpR X (binaryOp .Add) (rCatB X.K) := by
  intro pins s σ H x y v u Q I rx ry h
  obtain ⟨a, b, xs, ys, h1, h2, h3, h4, h5, q⟩ := h
  refine op_catA pins s σ H x y v u Q I rx ry ⟨a, b, xs, ys, h1, h2, h3, h4, h5, fun e => ?_, fun _ e => ?_, fun _ _ p np => ?_⟩
  · subst e
    exact q b H (Same.refl _) h4
  · subst e
    refine q a H (Same.refl _) ?_
    rw [List.append_nil]
    exact h3
  · exact q p _ (same_new np) (SqT.of upd_same)
def rSlB (K : PySem.W.Frag) : V → Option Int → Option Int → Hp → VK → Prop := fun x lo hi H Q => ∃ a xs, x = .ref a ∧ SqT K H a xs ∧ ∀ p H', Same H H' → SqT K H' p (cutV xs lo hi) → Q (.ref p) H'
theorem sl_tupB : SlR X (rSlB X.K) := by
  intro pins s σ H x v vl vu lo hi sl Q I rx hs pl pu h
  obtain ⟨a, xs, h1, h2, q⟩ := h
  refine sl_tupA pins s σ H x v vl vu lo hi sl Q I rx hs pl pu ⟨a, xs, h1, h2, fun e => ?_, fun _ p np => ?_⟩
  · refine q a H (Same.refl _) ?_
    unfold cutV
    rw [e.1, e.2, List.drop_zero, Nat.sub_zero, List.take_length]
    exact h2
  · exact q p _ (same_new np) (SqT.of upd_same)
end
theorem cut_m1 (xs : List V) (v : V) : cutV (xs ++ [v]) none (some (-1)) = xs := by
  unfold cutV
  have e : HT.sIx (xs ++ [v]).length (xs ++ [v]).length (some (-1)) = xs.length := by
    show (if (-1 : Int) < 0 then ((-1 : Int) + ((xs ++ [v]).length : Int)).toNat else min (-1 : Int).toNat (xs ++ [v]).length) = _
    rw [if_pos (by decide), List.length_append]
    show ((-1 : Int) + ((xs.length + 1 : Nat) : Int)).toNat = _
    omega
  rw [e, HT.sIx_none, List.drop_zero, Nat.sub_zero, List.take_left]
theorem dpa_split {K : PySem.W.Frag} {H : Hp} : ∀ {ds es : List PyData} {xs : List V}, DpAll K H xs (ds ++ es) → ∃ ys zs, xs = ys ++ zs ∧ DpAll K H ys ds ∧ DpAll K H zs es
  | [], _, xs, h => ⟨[], xs, rfl, .nil, h⟩
  | d :: ds, es, _, .cons h1 h2 => by
    obtain ⟨ys, zs, e, h3, h4⟩ := dpa_split h2
    exact ⟨_ :: ys, zs, by rw [e]; rfl, .cons h1 h3, h4⟩
end SW

namespace SW
open PySem PySem.Spec PyProof.Rows L2
/-! ### a call of a def whose promise wants the guards -/
section
variable {X : Cx} {CX : CXT} {k : Nat} {f : Addr} {fd : FuncData} {ps : List PySem.Str} {sp : Sp} {dvs : List V} {ds : List Value} {E : XK}
theorem run_fnG {pins : List (Addr × Obj)} {σ : L2.St} {H : Hp} {s : Shared} {Q : VK} {us : List Value} {vs : List V} (gd : X.A.guards = some []) (len : ∀ vs H Q E, sp vs H Q E → vs.length = ps.length) (F : FnOkG X.prog X.w X.K X.mg X.base CX k f fd ps sp) (hr : Room k X.A) (hb : Binds X.K fd ps ds) (hd : Vals dvs ds) (hx : Passes CX X E)
    (I : Inv X pins σ H s) (r : Vals vs us) (h : sp (vs ++ dvs) H Q E) : wpAny (model X.prog X.w) X.A (call (.ref f) us) (EP X pins σ Q) X.xe s := by
  have r2 : Vals (vs ++ dvs) (us ++ ds) := r.append hd
  have hl : (us ++ ds).length = ps.length := by
    rw [← r2.length]
    exact len _ _ _ _ h
  refine wpAny_call (codeAny_mono (F.run X.A X.stack s H ⟨us, []⟩ (us ++ ds) (vs ++ dvs) Q E gd hr I.env0 (hb s us I.kIn hl) r2 h) fun r s' hq => ?_)
  cases r with
  | error e => exact hx pins σ H s e s' I hq
  | ok fl =>
    cases fl with
    | ret u => exact I.after hq
    | next => exact False.elim hq
    | brk => exact False.elim hq
    | cont => exact False.elim hq
theorem pe_callG {x : PySem.Str} {p pos : Pos} {e : Expr} {es : List Expr} {t : TA} (gd : X.A.guards = some []) (len : ∀ vs H Q E, sp vs H Q E → vs.length = ps.length) (F : FnOkG X.prog X.w X.K X.mg X.base CX k f fd ps sp) (hr : Room k X.A) (hg : Gl X x) (hm : X.mg x = some (.ref f)) (hk : PySem.W.keepIn X.K (.ref f) = true) (hb : Binds X.K fd ps ds) (hd : Vals dvs ds) (hx : Passes CX X E)
    (ha : PA X (e :: es) t) (hdb : (x == ("__debug__" : PySem.Str)) = false := by decide) (he : starEach (e :: es) X.env = (false, eval e X.env) :: starEach es X.env := by rfl) (hpl : (backTo pos (starEach es X.env)).any (·.1) = false := by rfl) :
    PE X (.Call (.Name x p) (e :: es) [] pos) (tCall sp dvs E t) := by
  refine ⟨fun pins s σ H Q I h => ?_⟩
  refine wpAny_Call_Name_kw (ld_glob I hg hm ?_ hdb)
  refine PySem.W.callWith_K (h₀ := X.base) I.ok.mod.kin hk (thn (ha.run pos pins s σ H _ I h) fun us s1 ⟨vs, H1, I1, r, q⟩ => ⟨I1.kIn, ?_⟩) he hpl
  exact run_fnG gd len F hr hb hd hx I1 r q
end
end SW

namespace SW
open PySem PySem.Spec PyProof.Rows L2
/-! ### a statement that is never reached -/
theorem ps_never {X : Cx} {st : Stmt} : PS X st (fun _ _ _ => False) := ⟨fun _ _ _ _ _ _ h => h.elim⟩
/-! ### t[::-1] -/
section
variable {prog : Program} {w : World} {A : Around} {E : Value → Shared → Prop} {s : Shared}
theorem adjust_rev (n : Nat) : Builtin.Slice.sliceAdjust none none (-1) (n : Int) = ((n : Int) - 1, -1) := by
  unfold Builtin.Slice.sliceAdjust
  simp
theorem places_rev (n : Nat) : Builtin.Slice.slicePlaces ((n : Int) - 1) (-1) (-1) = n := by
  unfold Builtin.Slice.slicePlaces
  have h1 : ¬ ((-1 : Int) > 0) := by omega
  simp only [h1, if_false]
  split
  · have : ((n : Int) - 1 - -1 - 1) / (- -1) + 1 = (n : Int) := by
      rw [Int.neg_neg, Int.ediv_one]
      omega
    omega
  · omega
theorem sliceApplied_rev {sl : Addr} {vl vu vs : Value} {n : Nat} {Q : Int × Int × Nat → Shared → Prop} (hs : s.heap.IsSliceOf sl vl vu vs) (pl : IsPart vl none) (pu : IsPart vu none) (ps : IsPart vs (some (-1)))
    (h : Q ((n : Int) - 1, -1, n) s) : wpAny (model prog w) A (Builtin.Slice.sliceApplied (.ref sl) (pure (n : Int))) Q E s := by
  obtain ⟨os, hos, hcs, hds⟩ := id hs
  unfold Builtin.Slice.sliceApplied Builtin.Slice.sliceFields
  refine wpAny_bind (wpAny_bind (wpAny_field hos hds (x := vl) rfl (wpAny_bind (wpAny_field hos hds (x := vu) rfl (wpAny_bind (wpAny_field hos hds (x := vs) rfl (wpAny_pure ?_)))))))
  refine wpAny_bind (HT.slicePart_ ps ?_)
  show wpAny _ _ (if ((-1 : Int) == 0) = true then _ else _) _ _ s
  rw [if_neg (by decide)]
  refine wpAny_bind (HT.slicePart_ pl (wpAny_bind (HT.slicePart_ pu (wpAny_bind (wpAny_pure ?_)))))
  show wpAny _ _ (match Builtin.Slice.sliceAdjust none none (-1) (n : Int) with | (lo, hi) => pure (lo, (-1 : Int), Builtin.Slice.slicePlaces lo hi (-1))) _ _ s
  rw [adjust_rev n]
  show wpAny _ _ (pure ((n : Int) - 1, (-1 : Int), Builtin.Slice.slicePlaces ((n : Int) - 1) (-1) (-1))) _ _ s
  rw [places_rev]
  exact wpAny_pure h
theorem fm_congr {α β : Type} {f g : α → Option β} : ∀ {l : List α}, (∀ x, x ∈ l → f x = g x) → l.filterMap f = l.filterMap g
  | [], _ => rfl
  | a :: r, h => by
    rw [List.filterMap_cons, List.filterMap_cons, h a List.mem_cons_self, fm_congr (l := r) fun x hx => h x (List.mem_cons_of_mem _ hx)]
theorem pick_rev (xs : Array Value) : ((List.range xs.size).filterMap fun (k : Nat) => xs[(((xs.size : Int) - 1) + (k : Int) * (-1)).toNat]?).toArray = xs.toList.reverse.toArray := by
  congr 1
  have e : (List.range xs.size).filterMap (fun (k : Nat) => xs[(((xs.size : Int) - 1) + (k : Int) * (-1)).toNat]?) = (List.range xs.size).filterMap fun k => xs.toList.reverse[k]? := by
    refine fm_congr fun k hk => ?_
    have hk := List.mem_range.mp hk
    rw [show (((xs.size : Int) - 1) + (k : Int) * (-1)).toNat = xs.size - 1 - k by omega, List.getElem?_reverse (by rw [Array.length_toList]; exact hk), Array.length_toList, Array.getElem?_toList]
  rw [e]
  have g : ∀ l : List Value, (List.range l.length).filterMap (fun k => l[k]?) = l := fun l => by
    induction l with
    | nil => rfl
    | cons a r ih =>
      rw [List.length_cons, List.range_succ_eq_map, List.filterMap_cons]
      show a :: _ = _
      rw [List.filterMap_map]
      exact congrArg (a :: ·) ih
  have := g xs.toList.reverse
  rw [List.length_reverse, Array.length_toList] at this
  exact this
theorem getItem_tuple_rev {t sl : Addr} {items : Array Value} {vl vu vs : Value} {Q : Value → Shared → Prop} (ht : IsTup s.heap t items) (hs : s.heap.IsSliceOf sl vl vu vs) (pl : IsPart vl none) (pu : IsPart vu none) (ps : IsPart vs (some (-1)))
    (h : Q (.ref s.heap.objs.size) { s with heap := s.heap.push { cls := .type "tuple", data := .seq items.toList.reverse.toArray } })
    (hsz : items.size ≤ sizeLine) : wpAny (model prog w) A (getItem (.ref t) (.ref sl)) Q E s := by
  have htake : sizeOk (.seq items.toList.reverse.toArray) := by
    show items.toList.reverse.toArray.size ≤ sizeLine
    rw [List.size_toArray, List.length_reverse, Array.length_toList]
    exact hsz
  obtain ⟨os, hos, hcs, hds⟩ := id hs
  have hTs : s.TypeIs (.ref sl) "slice" := ⟨os, hos, hcs⟩
  unfold getItem
  try with_reducible refine wpAny_holding ?_
  first | refine wpAny_bind (wpAny_pure ?_) | skip
  refine wpAny_bind (wpAny_sequenceKey ht.typeIs (by decide) ?_)
  refine wpAny_bind (wpAny_callSpecial?_slot (name := Str.ofString "__getitem__") ht.typeIs PyProof.Rows.slot_tuple_getitem
    (wpAny_call_entry PyProof.Rows.slot_tuple_getitem ht.typeIs entry_tuple_getitem ?_ (args_tuple_getitem _ _)))
  show wpAny _ _ (Builtin.Tuple.tupleItemsOf (.ref t) >>= _) _ _ s
  refine wpAny_bind (tupleItemsOf_ ht ?_)
  refine wpAny_bind (wpAny_typeOf hTs ?_)
  rw [if_pos (by decide)]
  refine wpAny_bind (sliceApplied_rev hs pl pu ps ?_)
  have hno : ¬ ((((items.size : Int) - 1) == 0 && (-1 : Int) == 1 && items.size == items.size) = true) := by
    intro q
    rw [Bool.and_eq_true, Bool.and_eq_true] at q
    exact absurd q.1.2 (by decide)
  show wpAny _ _ (if (((items.size : Int) - 1) == 0 && (-1 : Int) == 1 && items.size == items.size) = true then _ else _) _ _ s
  rw [if_neg hno, pick_rev]
  first
    | exact wpAny_bind (m := Builtin.Tuple.tupleExact _) (wpAny_newObj_type (wpAny_pure ⟨_, rfl, wpAny_pure h⟩) htake)
    | exact wpAny_bind (m := Builtin.Tuple.tupleExact _) (wpAny_newObj_type (wpAny_bind (wpAny_pure (wpAny_pure ⟨_, rfl, wpAny_pure h⟩))) htake)
    | exact wpAny_bind (wpAny_bind (m := Builtin.Tuple.tupleExact _) (wpAny_newObj_type (wpAny_pure (wpAny_pure ⟨_, rfl, wpAny_pure h⟩)) htake))
    | exact wpAny_bind (wpAny_bind (m := Builtin.Tuple.tupleExact _) (wpAny_newObj_type (wpAny_pure ⟨_, rfl, wpAny_pure h⟩) htake))
end
section
variable {X : Cx}
def tRevT (K : PySem.W.Frag) (te : TE) : TE := fun σ H Q => te σ H fun x H1 => ∃ a xs, x = .ref a ∧ SqT K H1 a xs ∧ ∀ p, H1 p = none → Q (.ref p) (upd H1 p (.tup xs.reverse))
theorem pe_revT {e : Expr} {te : TE} {k : Nat} {p1 p2 p3 pos : Pos} (he : PE X e te) : PE X (.Subscript e (.Slice none none (some (.UnaryOp .USub (.Constant (.int 1) k p1) p2)) p3) pos) (tRevT X.K te) := by
  refine ⟨fun pins s σ H Q I h => ?_⟩
  refine Subscript_ (thn (he.run pins s σ H _ I h) fun v s1 ⟨x, H1, I1, r1, q1⟩ => ?_)
  obtain ⟨a, xs, ex, hx, q⟩ := q1
  subst ex
  cases r1
  have hst : PO X (some (.UnaryOp .USub (.Constant (.int 1) k p1) p2)) (tPart (tUn (rU fun i => .int (-i)) (tC (.int 1)))) := po_some (pe_un un_neg pe_int)
  refine wpAny_Slice (thn (po_none.run pins s1 σ H1 (fun o H2 => o = none ∧ H2 = H1) I1 ⟨rfl, rfl⟩) fun vl s2 ⟨l, H2, I2, pl, el, e2⟩ => ?_)
  subst el e2
  refine thn (po_none.run pins s2 σ H2 (fun o H3 => o = none ∧ H3 = H2) I2 ⟨rfl, rfl⟩) fun vu s3 ⟨u, H3, I3, pu, eu, e3⟩ => ?_
  subst eu e3
  refine thn (hst.run pins s3 σ H3 (fun o H4 => o = some (-1) ∧ H4 = H3) I3 ⟨1, rfl, -1, rfl, rfl, rfl⟩) fun vs s4 ⟨o, H4, I4, ps, eo, e4⟩ => ?_
  subst eo e4
  have I5 : Inv X pins σ H4 { s4 with heap := s4.heap.push { cls := .type "slice", data := .fields #[vl, vu, vs] } } := I4.kept (t' := s4.toks) fun b ob q => Heap.get?_push_of_some _ q
  obtain ⟨its, r, ht, hz⟩ := I5.tuple hx
  have hlen := r.length
  show wpAny (model X.prog X.w) X.A (subscriptTail e (.Slice none none (some (.UnaryOp .USub (.Constant (.int 1) k p1) p2)) p3) (.ref a) (.ref s4.heap.objs.size)) (EP X pins σ Q) X.xe { s4 with heap := s4.heap.push { cls := .type "slice", data := .fields #[vl, vu, vs] } }
  refine tail_any (ops := [.ref a, .ref s4.heap.objs.size]) ht.typeIs (PyProof.Rows.slot_tuple_getitem.lookup) ?_ (by with_unfolding_all rfl)
  refine getItem_tuple_rev ht (Heap.IsSliceOf.new _ vl vu vs) pl pu ps ?_ (by rw [List.size_toArray]; omega)
  refine ⟨.ref _, _, I5.laid (t' := s4.toks) (o := .tup xs.reverse) (fun b ob q => Heap.get?_push_of_some _ q) (Nat.le_refl _) ?_, rfl, q _ (I5.hok.fresh (Nat.le_refl _))⟩
  exact ⟨by rw [List.length_reverse]; exact hz, _, r.reverse, IsTup.new _ _⟩
end
/-! ### numbers as words -/
abbrev nz (i : Int) : PySem.Str := PySem.Str.ofString (toString i)
abbrev sDigits : PySem.Str := "0123456789"
def cD : List Nat := [48, 49, 50, 51, 52, 53, 54, 55, 56, 57]
theorem cD_eq : sDigits.cps.toList = cD := rfl
theorem digit_in : ∀ c < 58, 48 ≤ c → c ∈ cD := by decide
theorem digit_of : ∀ x ∈ cD, 48 ≤ x ∧ x ≤ 57 := by decide
theorem len_cps (z : PySem.Str) : z.length = z.cps.toList.length := rfl
theorem cps_app (x y : PySem.Str) : (x ++ y).cps.toList = x.cps.toList ++ y.cps.toList := TL.tl_append x y
theorem numL_head : ∀ (n : Nat), 1 ≤ n → (TL.numL n).head? ≠ some 48 := by
  intro n
  induction n using Nat.strongRecOn with
  | _ n ih =>
    intro h1
    by_cases h : n < 10
    · rw [TL.numL_lt h]
      intro e
      injection e with e
      omega
    · rw [TL.numL_step (by omega)]
      have h2 := ih (n / 10) (by omega) (by omega)
      obtain ⟨x, t, e⟩ := List.exists_cons_of_ne_nil (TL.numL_ne (n / 10))
      rw [e] at h2 ⊢
      exact h2
theorem nz_cps {n : Int} (h : 0 ≤ n) : (nz n).cps.toList = TL.numL n.natAbs := by
  obtain ⟨m, rfl⟩ : ∃ m : Nat, n = m := ⟨n.toNat, by omega⟩
  exact TL.tl_num m
def valN (z : PySem.Str) : Int := ((NumText.digitsVal z.cps.toList : Nat) : Int)
/-- a word that is a number -/
def isNum (z : PySem.Str) : Bool := decide (z.cps.toList ≠ []) && (decide (z.length ≤ 12) && ((!(decide (z.cps.toList.head? = some 48) && decide (z ≠ "0"))) && z.cps.toList.all fun c => decide (c ∈ cD)))
theorem isNum_digits {z : PySem.Str} (h : isNum z = true) : NumText.AllDigits z.cps.toList ∧ z.cps.toList ≠ [] ∧ z.length ≤ 12 := by
  unfold isNum at h
  rw [Bool.and_eq_true, Bool.and_eq_true, Bool.and_eq_true] at h
  obtain ⟨h1, h2, _, h3⟩ := h
  rw [List.all_eq_true] at h3
  exact ⟨fun x hx => digit_of x (of_decide_eq_true (h3 x hx)), of_decide_eq_true h1, of_decide_eq_true h2⟩
theorem isNum_int {z : PySem.Str} (h : isNum z = true) : PySem.intText? z = some (valN z) := by
  obtain ⟨h1, h2, h3⟩ := isNum_digits h
  exact intText_digits h1 h2 (by omega)
def okN (n : Int) : Prop := 0 ≤ n ∧ n < 10 ^ 12
theorem okN.log {n : Int} (h : okN n) : n.natAbs.log2 < 1920 := by
  have := h.1
  have := h.2
  by_cases h0 : n.natAbs = 0
  · rw [h0]
    decide
  · refine (Nat.log2_lt h0).mpr (Nat.lt_of_lt_of_le (show n.natAbs < 2 ^ 64 by omega) (Nat.pow_le_pow_right (by decide) (by decide)))
theorem nz_len {n : Int} (h : okN n) : (nz n).length ≤ 12 := by
  rw [len_cps, nz_cps h.1]
  exact TL.numL_len (by decide) (by have := h.1; have := h.2; omega)
theorem nz_free {n : Int} (h : okN n) {c : Nat} (hc : c < 48 ∨ 57 < c) : ¬ c ∈ (nz n).cps.toList := by
  rw [nz_cps h.1]
  exact TL.numL_free hc
theorem nz_num {n : Int} (h : okN n) : isNum (nz n) = true ∧ valN (nz n) = n := by
  have hc := nz_cps h.1
  have hd := TL.numL_digits n.natAbs
  have hl := nz_len h
  refine ⟨?_, ?_⟩
  · unfold isNum
    rw [decide_eq_true hl, decide_eq_true (show (nz n).cps.toList ≠ [] by rw [hc]; exact TL.numL_ne _)]
    have ha : ((nz n).cps.toList.all fun c => decide (c ∈ cD)) = true := by
      rw [List.all_eq_true, hc]
      intro x hx
      have := hd x hx
      exact decide_eq_true (digit_in x (by omega) this.1)
    rw [ha]
    by_cases h0 : n = 0
    · subst h0
      decide
    · have h1 := numL_head n.natAbs (by omega)
      rw [hc, decide_eq_false h1]
      rfl
  · unfold valN
    rw [hc, TL.numL_val]
    have := h.1
    omega
theorem nz_pos {n : Int} (h : okN n) (h1 : 1 ≤ n) : nz n ≠ "0" := fun e => by
  have h2 := numL_head n.natAbs (by omega)
  rw [← nz_cps h.1, e] at h2
  exact h2 rfl
/-! ### joined texts -/
theorem joinL_len (S : List Nat) : ∀ ps : List (List Nat), (TL.joinL S ps).length ≤ (ps.map (·.length)).sum + ps.length * S.length
  | [] => Nat.zero_le _
  | [p] => by
    show p.length ≤ (p.length + 0) + 1 * S.length
    omega
  | p :: q :: r => by
    have h := joinL_len S (q :: r)
    show (p ++ (S ++ TL.joinL S (q :: r))).length ≤ ((p :: q :: r).map (·.length)).sum + ((q :: r).length + 1) * S.length
    rw [List.length_append, List.length_append, List.map_cons, List.sum_cons, Nat.add_mul]
    omega
theorem joinL_mem {S : List Nat} {c : Nat} : ∀ {ps : List (List Nat)}, c ∈ TL.joinL S ps → c ∈ S ∨ ∃ p, p ∈ ps ∧ c ∈ p
  | [], h => (List.not_mem_nil h).elim
  | [p], h => .inr ⟨p, List.mem_singleton.mpr rfl, h⟩
  | p :: q :: r, h => by
    have h : c ∈ p ++ (S ++ TL.joinL S (q :: r)) := h
    rcases List.mem_append.mp h with h | h
    · exact .inr ⟨p, List.mem_cons_self, h⟩
    · rcases List.mem_append.mp h with h | h
      · exact .inl h
      · rcases joinL_mem h with h | ⟨z, h1, h2⟩
        · exact .inl h
        · exact .inr ⟨z, List.mem_cons_of_mem _ h1, h2⟩
theorem join_cps (y : PySem.Str) (ps : List PySem.Str) : (Txt.join y ps).cps.toList = TL.joinL y.cps.toList (ps.map fun z => z.cps.toList) := by
  rw [TL.join_eq]
  exact TL.tl_join y ps
theorem join_le (y : PySem.Str) (ps : List PySem.Str) : (Txt.join y ps).length ≤ (ps.map (·.length)).sum + ps.length * y.length := by
  rw [len_cps, join_cps]
  have := joinL_len y.cps.toList (ps.map fun z => z.cps.toList)
  rw [List.map_map, List.length_map] at this
  exact this
theorem join_mem {y : PySem.Str} {ps : List PySem.Str} {c : Nat} (h : c ∈ (Txt.join y ps).cps.toList) : c ∈ y.cps.toList ∨ ∃ p, p ∈ ps ∧ c ∈ p.cps.toList := by
  rw [join_cps] at h
  rcases joinL_mem h with h | ⟨p, h1, h2⟩
  · exact .inl h
  · obtain ⟨z, hz, rfl⟩ := List.mem_map.mp h1
    exact .inr ⟨z, hz, h2⟩
theorem split_sp {ps : List PySem.Str} (hne : ps ≠ []) (h : ∀ p, p ∈ ps → ¬ 32 ∈ p.cps.toList) : Txt.split (Txt.join " " ps) " " = ps :=
  TL.split_join (s := 32) (S := []) rfl (by decide +kernel) hne h
theorem split_nl {ps : List PySem.Str} (hne : ps ≠ []) (h : ∀ p, p ∈ ps → ¬ 10 ∈ p.cps.toList) : Txt.split (Txt.join "\n" ps) "\n" = ps :=
  TL.split_join (s := 10) (S := []) rfl (by decide +kernel) hne h
/-! ### tokens -/
structure Tk where
  w : PySem.Str
  d : Bool
  ns : List Int
def Tk.enc (t : Tk) : PyData := .tuple (.str t.w :: if t.d = true then [.tuple (t.ns.map .int)] else t.ns.map .int)
def kinds : List (PySem.Str × Bool × Nat) := [("on", false, 0), ("over", false, 0), ("dead", true, 0), ("pair", false, 2), ("write", false, 1), ("either", false, 1), ("all", false, 2), ("match", false, 2), ("sorted", false, 3), ("below", false, 3)]
structure Tk.ok (t : Tk) : Prop where
  kd : ∃ k, (t.w, t.d, k) ∈ kinds ∧ (t.d = false → t.ns.length = k)
  ne : t.d = true → t.ns ≠ []
  le : t.ns.length ≤ 7
  ns : ∀ n, n ∈ t.ns → okN n
def Tk.ws (t : Tk) : List PySem.Str := t.w :: t.ns.map nz
def Tk.row (t : Tk) : PySem.Str := Txt.join " " t.ws
theorem kinds_w : ∀ x, x ∈ kinds → x.1.length ≤ 6 ∧ (∀ c, c ∈ x.1.cps.toList → 97 ≤ c ∧ c ≤ 122) ∧ x.1.cps.toList ≠ [] ∧ (x.2.1 = decide (x.1 = "dead")) ∧ PyData.strOk x.1 = true := by decide +kernel
theorem Tk.ok.word {t : Tk} (h : t.ok) : t.w.length ≤ 6 ∧ (∀ c, c ∈ t.w.cps.toList → 97 ≤ c ∧ c ≤ 122) ∧ t.w.cps.toList ≠ [] ∧ (t.d = decide (t.w = "dead")) ∧ PyData.strOk t.w = true := by
  obtain ⟨k, h1, _⟩ := h.kd
  exact kinds_w _ h1
theorem Tk.ok.free {t : Tk} (h : t.ok) {c : Nat} (hc : c < 48) : ∀ z, z ∈ t.ws → ¬ c ∈ z.cps.toList := fun z hz hm => by
  rcases List.mem_cons.mp hz with rfl | hz
  · have := h.word.2.1 c hm
    omega
  · obtain ⟨n, hn, rfl⟩ := List.mem_map.mp hz
    exact nz_free (h.ns n hn) (.inl hc) hm
theorem Tk.ok.split {t : Tk} (h : t.ok) : Txt.split t.row " " = t.ws := split_sp (List.cons_ne_nil _ _) (h.free (by decide))
theorem Tk.ok.nl {t : Tk} (h : t.ok) : ¬ 10 ∈ t.row.cps.toList := fun hm => by
  rcases join_mem hm with h1 | ⟨p, h1, h2⟩
  · exact absurd h1 (by decide)
  · exact h.free (by decide) p h1 h2
theorem sum_le {α : Type} (f : α → Nat) (b : Nat) : ∀ xs : List α, (∀ x, x ∈ xs → f x ≤ b) → (xs.map f).sum ≤ xs.length * b
  | [], _ => Nat.zero_le _
  | x :: r, h => by
    have h1 := h x List.mem_cons_self
    have h2 := sum_le f b r fun y hy => h y (List.mem_cons_of_mem _ hy)
    rw [List.map_cons, List.sum_cons, List.length_cons, Nat.add_mul]
    omega
theorem Tk.ok.wlen {t : Tk} (h : t.ok) : ∀ z, z ∈ t.ws → z.length ≤ 12 := fun z hz => by
  rcases List.mem_cons.mp hz with rfl | hz
  · have := h.word.1
    omega
  · obtain ⟨n, hn, rfl⟩ := List.mem_map.mp hz
    exact nz_len (h.ns n hn)
theorem Tk.ws_len (t : Tk) : t.ws.length = t.ns.length + 1 := by
  unfold Tk.ws
  rw [List.length_cons, List.length_map]
theorem Tk.ok.sum {t : Tk} (h : t.ok) : (t.ws.map (·.length)).sum ≤ 96 := by
  have h1 := sum_le (fun z : PySem.Str => z.length) 12 t.ws h.wlen
  have h2 := h.le
  rw [t.ws_len] at h1
  omega
theorem Tk.ok.len {t : Tk} (h : t.ok) : t.row.length ≤ 104 := by
  have h1 := join_le " " t.ws
  have h2 := h.sum
  have h3 := h.le
  rw [t.ws_len] at h1
  unfold Tk.row
  have e : (" " : PySem.Str).length = 1 := rfl
  rw [e] at h1
  omega
/-- the rows of a paper -/
def pRows (ls : List PySem.Str) (x : PySem.Str) (ts : List Tk) : List PySem.Str := ("text " ++ nz (ls.length : Nat)) :: (ls ++ ("proc " ++ x) :: ts.map Tk.row)
structure LnOk (z : PySem.Str) : Prop where
  len : z.length ≤ 100
  ch : ∀ c, c ∈ z.cps.toList → c ≠ 10 ∧ c < 128
/-- what a paper is made of -/
structure PpOk (ls : List PySem.Str) (x : PySem.Str) (ts : List Tk) : Prop where
  ne : ls ≠ []
  many : ls.length ≤ 1000
  ls : ∀ z, z ∈ ls → LnOk z
  x : LnOk x
  tn : ts ≠ []
  tm : ts.length ≤ 1000
  ts : ∀ t, t ∈ ts → t.ok
theorem PpOk.ln {ls : List PySem.Str} {x : PySem.Str} {ts : List Tk} (h : PpOk ls x ts) : okN (ls.length : Nat) ∧ 1 ≤ ls.length := by
  have h1 := h.many
  have h2 : 0 < ls.length := List.length_pos_iff.mpr h.ne
  exact ⟨⟨by omega, by omega⟩, h2⟩
theorem pRows_nl {ls : List PySem.Str} {x : PySem.Str} {ts : List Tk} (h : PpOk ls x ts) : ∀ p, p ∈ pRows ls x ts → ¬ 10 ∈ p.cps.toList := fun p hp hm => by
  rcases List.mem_cons.mp hp with rfl | hp
  · rw [cps_app] at hm
    rcases List.mem_append.mp hm with h1 | h1
    · exact absurd h1 (by decide)
    · exact nz_free h.ln.1 (.inl (by decide)) h1
  · rcases List.mem_append.mp hp with hp | hp
    · exact ((h.ls p hp).ch 10 hm).1 rfl
    · rcases List.mem_cons.mp hp with rfl | hp
      · rw [cps_app] at hm
        rcases List.mem_append.mp hm with h1 | h1
        · exact absurd h1 (by decide)
        · exact (h.x.ch 10 h1).1 rfl
      · obtain ⟨t, ht, rfl⟩ := List.mem_map.mp hp
        exact (h.ts t ht).nl hm
theorem pRows_split {ls : List PySem.Str} {x : PySem.Str} {ts : List Tk} (h : PpOk ls x ts) : Txt.split (Txt.join "\n" (pRows ls x ts)) "\n" = pRows ls x ts := split_nl (List.cons_ne_nil _ _) (pRows_nl h)
theorem pRows_row {ls : List PySem.Str} {x : PySem.Str} {ts : List Tk} (h : PpOk ls x ts) : ∀ p, p ∈ pRows ls x ts → p.length ≤ 110 := fun p hp => by
  have e1 : ("text " : PySem.Str).length = 5 := rfl
  have e2 : ("proc " : PySem.Str).length = 5 := rfl
  rcases List.mem_cons.mp hp with rfl | hp
  · rw [app_len, e1]
    have := nz_len h.ln.1
    omega
  · rcases List.mem_append.mp hp with hp | hp
    · have := (h.ls p hp).len
      omega
    · rcases List.mem_cons.mp hp with rfl | hp
      · rw [app_len, e2]
        have := h.x.len
        omega
      · obtain ⟨t, ht, rfl⟩ := List.mem_map.mp hp
        have := (h.ts t ht).len
        omega
theorem pRows_len (ls : List PySem.Str) (x : PySem.Str) (ts : List Tk) : (pRows ls x ts).length = ls.length + ts.length + 2 := by
  unfold pRows
  rw [List.length_cons, List.length_append, List.length_cons, List.length_map]
  omega
theorem pRows_sum {ls : List PySem.Str} {x : PySem.Str} {ts : List Tk} (h : PpOk ls x ts) : ((pRows ls x ts).map (·.length)).sum ≤ 2002 * 110 := by
  have h1 := sum_le (fun z : PySem.Str => z.length) 110 _ (pRows_row h)
  have h2 := pRows_len ls x ts
  have h3 := h.many
  have h4 := h.tm
  exact Nat.le_trans h1 (Nat.mul_le_mul_right _ (by omega))
theorem pRows_size {ls : List PySem.Str} {x : PySem.Str} {ts : List Tk} (h : PpOk ls x ts) : (Txt.join "\n" (pRows ls x ts)).length ≤ 300000 := by
  have h1 := join_le "\n" (pRows ls x ts)
  have h2 := pRows_sum h
  have h3 := pRows_len ls x ts
  have h4 := h.many
  have h5 := h.tm
  have e : ("\n" : PySem.Str).length = 1 := rfl
  rw [e] at h1
  omega
/-! ### equal data -/
mutual
def nb : PyData → Bool
  | .int _ => true
  | .str _ => true
  | .list ds => nbs ds
  | .tuple ds => nbs ds
  | _ => false
def nbs : List PyData → Bool
  | [] => true
  | d :: r => nb d && nbs r
end
mutual
theorem eqv_nb : ∀ (d e : PyData), nb d = true → nb e = true → (PyData.eqv d e = true ↔ d = e)
  | .int i, e, _, h => by
    cases e <;> simp_all [PyData.eqv, nb]
  | .str x, e, _, h => by
    cases e <;> simp_all [PyData.eqv, nb]
  | .list ds, e, g, h => by
    cases e with
    | list es =>
      have := eqvs_nb ds es (by unfold nb at g; exact g) (by unfold nb at h; exact h)
      simp only [PyData.eqv, PyData.list.injEq]
      exact this
    | _ => simp_all [PyData.eqv, nb]
  | .tuple ds, e, g, h => by
    cases e with
    | tuple es =>
      have := eqvs_nb ds es (by unfold nb at g; exact g) (by unfold nb at h; exact h)
      simp only [PyData.eqv, PyData.tuple.injEq]
      exact this
    | _ => simp_all [PyData.eqv, nb]
  | .none, _, g, _ => by
    unfold nb at g
    cases g
  | .bool _, _, g, _ => by
    unfold nb at g
    cases g
  | .dict _, _, g, _ => by
    unfold nb at g
    cases g
theorem eqvs_nb : ∀ (ds es : List PyData), nbs ds = true → nbs es = true → (PyData.eqvAll ds es = true ↔ ds = es)
  | [], es, _, h => by
    cases es <;> simp_all [PyData.eqvAll]
  | d :: r, es, g, h => by
    cases es with
    | nil => simp_all [PyData.eqvAll]
    | cons e s =>
      unfold nbs at g h
      rw [Bool.and_eq_true] at g h
      rw [show PyData.eqvAll (d :: r) (e :: s) = (PyData.eqv d e && PyData.eqvAll r s) by rw [PyData.eqvAll], Bool.and_eq_true, eqv_nb d e g.1 h.1, eqvs_nb r s g.2 h.2, List.cons.injEq]
end
theorem nbs_all : ∀ ds : List PyData, nbs ds = true ↔ ∀ d, d ∈ ds → nb d = true
  | [] => ⟨fun _ _ h => (List.not_mem_nil h).elim, fun _ => rfl⟩
  | d :: r => by
    unfold nbs
    rw [Bool.and_eq_true, nbs_all r]
    exact ⟨fun h x hx => (List.mem_cons.mp hx).elim (fun e => e ▸ h.1) (h.2 x), fun h => ⟨h d List.mem_cons_self, fun x hx => h x (List.mem_cons_of_mem _ hx)⟩⟩
theorem nb_tk (t : Tk) : nb t.enc = true := by
  have hi : ∀ d, d ∈ t.ns.map PyData.int → nb d = true := fun d hd => by
    obtain ⟨n, _, rfl⟩ := List.mem_map.mp hd
    rfl
  unfold Tk.enc
  show nbs _ = true
  rw [nbs_all]
  intro d hd
  rcases List.mem_cons.mp hd with rfl | hd
  · rfl
  · by_cases h : t.d = true
    · rw [if_pos h] at hd
      rw [List.mem_singleton.mp hd]
      exact (nbs_all _).mpr hi
    · rw [if_neg h] at hd
      exact hi d hd
end SW

namespace SW
open PySem PySem.Spec PyProof.Rows L2
theorem units65 {k : Nat} {A : Around} (r : Room k A) : A.units + 65 < cLine := by
  have := r.un
  omega
abbrev s_write_paper : Stmt := topS 9
theorem sc_write_paper : FnScope ["paper", "rows", "written", "token"] ["paper"] (defScope s_write_paper) := ⟨rfl, rfl, rfl, by decide +kernel, rfl, by decide +kernel, by decide +kernel⟩

abbrev s_read_paper : Stmt := topS 10
theorem sc_read_paper : FnScope ["text", "rows", "many", "head", "tokens", "row", "token"] ["text"] (defScope s_read_paper) := ⟨rfl, rfl, rfl, by decide +kernel, rfl, by decide +kernel, by decide +kernel⟩

abbrev s_write_token : Stmt := topS 11
theorem sc_write_token : FnScope ["token", "numbers", "number"] ["token"] (defScope s_write_token) := ⟨rfl, rfl, rfl, by decide +kernel, rfl, by decide +kernel, by decide +kernel⟩

abbrev s_read_many : Stmt := topS 12
theorem sc_read_many : FnScope ["row", "words"] ["row"] (defScope s_read_many) := ⟨rfl, rfl, rfl, by decide +kernel, rfl, by decide +kernel, by decide +kernel⟩

abbrev s_read_token : Stmt := topS 13
theorem sc_read_token : FnScope ["row", "words", "word", "numbers", "size"] ["row"] (defScope s_read_token) := ⟨rfl, rfl, rfl, by decide +kernel, rfl, by decide +kernel, by decide +kernel⟩

abbrev s_is_number : Stmt := topS 14
theorem sc_is_number : FnScope ["word", "digit"] ["word"] (defScope s_is_number) := ⟨rfl, rfl, rfl, by decide +kernel, rfl, by decide +kernel, by decide +kernel⟩

abbrev s_Paper : Stmt := inClass (topS 8) 0
theorem sc_Paper : FnScope ["self", "text", "name", "tokens"] ["self", "text", "name", "tokens"] (defScope s_Paper) := ⟨rfl, rfl, rfl, by decide +kernel, rfl, by decide +kernel, by decide +kernel⟩
abbrev s_same : Stmt := inClass (topS 8) 1
theorem sc_same : FnScope ["self", "other"] ["self", "other"] (defScope s_same) := ⟨rfl, rfl, rfl, by decide +kernel, rfl, by decide +kernel, by decide +kernel⟩
/-- what the dict of sizes has at a word -/
def SzOk (K : PySem.W.Frag) (a : Addr) (z : PySem.Str) : Prop := ∃ r : Option Value, PySem.W.nsIn K a z = some r ∧ ((kinds.lookup z = none ∧ r = none) ∨ ∃ (d : Bool) (k : Nat) (u : Value), kinds.lookup z = some (d, k) ∧ r = some u ∧ RelV (if d = true then V.non else V.int (k : Nat)) u)
/-- the papers' file -/
structure TxP (K : PySem.W.Frag) (w : World) (mg : PySem.Str → Option Value) (C : Addr) (Kn : PySem.Str → Prop) extends TxB mg where
  aSizes : Addr
  es : Array DictEntry
  en : Nat
  m_SIZES : mg "SIZES" = some (.ref aSizes)
  kd : KDict K w aSizes es en
  sz : ∀ z, Kn z → SzOk K aSizes z
  tD : PySem.Tok
  m_DIGITS : mg "DIGITS" = some (.str sDigits tD)
  tM : PySem.Tok
  m_LONGEST : mg "LONGEST" = some (.int 12 tM)
  cl : Cls K C
  nT : NoAttr K C "text"
  nN : NoAttr K C "name"
  nK : NoAttr K C "tokens"
  mg_Paper : mg "Paper" = some (.ref C)
  kC : PySem.W.kitOne K (.ref C) (.ref C) = some true
  hc : PySem.W.findIn K (.ref C) "__class__" = some (some (.builtin "object.__class__"))
  hg : PySem.W.specialIn K (.builtin "object.__class__") "__get__" = some (some (.builtin "getset_descriptor.__get__"))
  ht : PySem.W.takesIn K (.builtin "object.__class__") = some true
  hm : PySem.W.mroIn K C (.type "object") = some true
/-! ### papers -/
def ppF (z x v : V) : List (PySem.Str × V) := putF "tokens" v (putF "name" x (putF "text" z []))
theorem ppF_eq (z x v : V) : ppF z x v = ([("text", z), ("name", x), ("tokens", v)] : List (PySem.Str × V)) := rfl
def PpAt (K : PySem.W.Frag) (C : Addr) (H : Hp) (p : Addr) (z x : PySem.Str) (ds : List PyData) : Prop := ∃ dx v, H p = some (.ins C dx (ppF (.str z) (.str x) v)) ∧ Dp K H v (.tuple ds)
theorem PpAt.same {K : PySem.W.Frag} {C : Addr} {H H' : Hp} {p : Addr} {z x : PySem.Str} {ds : List PyData} (a : PpAt K C H p z x ds) (s : Same H H') : PpAt K C H' p z x ds := by
  obtain ⟨dx, v, h1, h2⟩ := a
  exact ⟨dx, v, s _ _ h1, dp_same s _ _ h2⟩
section
variable {P : Program} {w : World} {K : PySem.W.Frag} {mg : PySem.Str → Option Value} {base : Heap} {C : Addr} {Kn : PySem.Str → Prop}
def spPaper (C : Addr) : Sp := fun vs H Q _ => ∃ (p dx : Addr) (z x v : V), vs = [.ref p, z, x, v] ∧ H p = some (.ins C dx []) ∧ ∀ H', (∀ b o, b ≠ p → H b = some o → H' b = some o) → H' p = some (.ins C dx (ppF z x v)) → Q .non H'
theorem ok_Paper {f : Addr} {fd : FuncData} (F : Fun K "__init__" "Paper.__init__" s_Paper f fd) (T : TxP K w mg C Kn) : FnOk P w K mg base CX0 1 f fd ["self", "text", "name", "tokens"] (spPaper C) := by
  refine F.ok sc_Paper (fun vs H Q E h => ?_) (fun cdv A outer s H vs Q E hr h => ?_)
  · obtain ⟨p, dx, z, x, v, rfl, _⟩ := h
    rfl
  · obtain ⟨p, dx, z, x, v, rfl, hp, q⟩ := h
    refine ⟨_, pss_cons (ps_fld (pv 0) (pv 1) rfl) (pss_cons (ps_fld (pv 0) (pv 2) rfl) (pss_one (ps_fld (pv 0) (pv 3) rfl))), ?_⟩
    refine ⟨_, rfl, _, rfl, p, C, dx, [], rfl, hp, T.cl, T.nT, (by show 0 < 1000; decide), ?_⟩
    refine ⟨_, rfl, _, rfl, p, C, dx, _, rfl, upd_same, T.cl, T.nN, (by show 1 < 1000; decide), ?_⟩
    refine ⟨_, rfl, _, rfl, p, C, dx, _, rfl, upd_same, T.cl, T.nK, (by show 2 < 1000; decide), ?_⟩
    exact q _ (fun b o hb e => (upd_ne hb).trans ((upd_ne hb).trans ((upd_ne hb).trans e))) upd_same
def spSameP (K : PySem.W.Frag) (C : Addr) : Sp := fun vs H Q _ => ∃ (p r : Addr) (z x y u : PySem.Str) (ds es : List PyData), vs = [.ref p, .ref r] ∧ PpAt K C H p z x ds ∧ PpAt K C H r y u es ∧ nbs ds = true ∧ nbs es = true ∧ SeqAt.shaped (.tuple ds) = true ∧ SeqAt.shaped (.tuple es) = true ∧
  ∀ b : Bool, (b = true ↔ z = y ∧ x = u ∧ ds = es) → Q (.bl b) H
theorem ok_same {f : Addr} {fd : FuncData} (F : Fun K "same" "Paper.same" s_same f fd) (T : TxP K w mg C Kn) : FnOk P w K mg base CX0 1 f fd ["self", "other"] (spSameP K C) := by
  refine F.ok sc_same (fun vs H Q E h => ?_) (fun cdv A outer s H vs Q E hr h => ?_)
  · obtain ⟨p, r, z, x, y, u, ds, es, rfl, _⟩ := h
    rfl
  · obtain ⟨p, r, z, x, y, u, ds, es, rfl, ⟨dx, v, hp, hv⟩, ⟨dy, v', hr', hv'⟩, b1, b2, s1, s2, q⟩ := h
    refine ⟨_, pss_cons (ps_if (pt_not (pt_val (pe_callB call_isi (by rfl) T.n_isinstance (by decide +kernel) (pa_cons (pv 1) (pa_cons (pe_glob (v := .ref C) rfl T.mg_Paper rfl) pa_nil))))) (pss_one (ps_ret pe_bl)) pss_nil)
      (pss_one (ps_ret (pe_and (pe_cmpR op_eq (pe_fld (pv 0) rfl) (pe_fld (pv 1) rfl) (nomark _)) (pe_and (pe_cmpR op_eq (pe_fld (pv 0) rfl) (pe_fld (pv 1) rfl) (nomark _)) (pe_one (pe_cmpR (op_eqD hr.units) (pe_fld (pv 0) rfl) (pe_fld (pv 1) rfl) (nomark _))))))), ?_⟩
    refine ⟨_, rfl, .ref r, .ref C, .ref C, .ref C, true, rfl, .own C, .base (.ins hr' T.cl T.hc T.hg T.ht T.hm), T.kC, true, rfl, ?_⟩
    refine ⟨_, rfl, p, C, dx, _, _, rfl, hp, T.cl, T.nT, rfl, _, rfl, r, C, dy, _, _, rfl, hr', T.cl, T.nT, rfl, rfl, _, rfl, ite2 (fun e1 => ?_) (fun e1 => ?_)⟩
    · have e1 := (V.str.inj (of_decide_eq_true e1))
      refine ⟨_, rfl, p, C, dx, _, _, rfl, hp, T.cl, T.nN, rfl, _, rfl, r, C, dy, _, _, rfl, hr', T.cl, T.nN, rfl, rfl, _, rfl, ite2 (fun e2 => ?_) (fun e2 => ?_)⟩
      · have e2 := (V.str.inj (of_decide_eq_true e2))
        refine ⟨_, rfl, p, C, dx, _, _, rfl, hp, T.cl, T.nK, rfl, _, rfl, r, C, dy, _, _, rfl, hr', T.cl, T.nK, rfl, .tuple ds, .tuple es, hv, hv', s1, s2, q _ ?_⟩
        rw [eqv_nb (.tuple ds) (.tuple es) b1 b2]
        exact ⟨fun h => ⟨e1, e2, by injection h⟩, fun h => by rw [h.2.2]⟩
      · exact q false ⟨fun h => Bool.noConfusion h, fun h => absurd (decide_eq_true (congrArg V.str h.2.1)) e2⟩
    · exact q false ⟨fun h => Bool.noConfusion h, fun h => absurd (decide_eq_true (congrArg V.str h.1)) e1⟩
/-! ### words -/
def spIsNum : Sp := fun vs H Q _ => ∃ z : PySem.Str, vs = [.str z] ∧ z.length ≤ 100000 ∧ ∀ H', Same H H' → Q (.bl (isNum z)) H'
theorem ok_is_number (T : TxP K w mg C Kn) (D_is_number : Df K mg "_is_number" s_is_number ["word"]) : FnOk P w K mg base CX0 1 D_is_number.f D_is_number.fd ["word"] spIsNum := by
  refine D_is_number.F.ok sc_is_number (fun vs H Q E h => ?_) (fun cdv A outer s H vs Q E hr h => ?_)
  · obtain ⟨z, rfl, _⟩ := h
    rfl
  · obtain ⟨z, rfl, hz, q⟩ := h
    refine ⟨_, (Evl.pss_cut (ps_if (PW.pt (pw_or (pt_not (pt_truth (pv 0) (by intro _; rfl))) (pw_or (pt_cmpR op_gt (pe_callB call_len_str (by rfl) T.n_len PySem.boot_len (pa_cons (pv 0) pa_nil)) (pe_glob (v := .int 12) rfl T.m_LONGEST ⟨_, rfl⟩) (nomark _)) (pw_or1 (PW.pt (pw_and (pt_cmpR op_eq (pe_ix ix_str (pv 0) pe_int (fun _ _ => rfl)) pe_str (nomark _)) (pw_and1 (pt_cmpR op_ne (pv 0) pe_str (nomark _)))))))))
    (pss_one (ps_ret pe_bl))
    pss_nil)
    (pss_one (ps_ret (pe_callB (cr_all rfl) (by rfl) T.n_all (by decide +kernel) (pa_cons (pe_lc (own := [("digit", 1)]) (g := gName 1) (by rfl) sc_is_number.nd (pi_str (pv 0)) (blkOk_by (own := [("digit", 1)]) (N := ["word", "digit"]) (sc := defScope s_is_number) (by decide +kernel)) (fun _ _ _ _ _ => pg_name (i := 1) sc_is_number.nd rfl (Or.inl rfl)) (fun _ _ _ _ _ => pts_nil) (fun _ _ _ _ _ => (pe_cmpR op_in_sign (pv 1) (pe_glob (v := .str sDigits) rfl T.m_DIGITS ⟨_, rfl⟩) (by rfl)))) pa_nil))))), ?_⟩
    have hsz : z.length ≤ sizeLine := Nat.le_trans hz (by decide)
    have no : isNum z = false → Q (.bl false) H := fun e => by
      have := q H (fun _ _ e => e)
      rw [e] at this
      exact this
    unfold isNum at no
    refine ⟨fun σ' H' => σ' = L2.start ["word", "digit"] [.str z] ∧ H' = H ∧ isNum z = z.cps.toList.all fun c => decide (c ∈ cD), ?_, ?_⟩
    · unfold isNum
      refine ⟨_, rfl, _, ⟨hsz, rfl⟩, ite2 (fun e => iteT ?_) (fun e => ?_)⟩
      · have h0 : z.cps.toList = [] := by
          rw [Bool.not_eq_true', bne_eq_false_iff_eq] at e
          exact List.eq_nil_of_length_eq_zero (show z.cps.toList.length = 0 by rw [← len_cps]; omega)
        refine no ?_
        rw [decide_eq_false (fun h => h h0)]
        rfl
      have h0 : z.cps.toList ≠ [] := fun h => e (by
        rw [len_cps, h]
        rfl)
      rw [decide_eq_true h0, Bool.true_and] at no ⊢
      refine ⟨_, rfl, z, rfl, hsz, _, _, rfl, rfl, _, rfl, ite2 (fun e => iteT ?_) (fun e => ?_)⟩
      · have e1 := of_decide_eq_true e
        refine no ?_
        rw [decide_eq_false (by omega)]
        rfl
      have e1 : z.length ≤ 12 := by
        have := of_decide_eq_false (Bool.eq_false_iff.mpr e)
        omega
      rw [decide_eq_true e1, Bool.true_and] at no ⊢
      have hlt : 0 < z.cps.toList.length := List.length_pos_iff.mpr h0
      have ec : z.cps.toList[0]? = some z.cps.toList[0] := List.getElem?_eq_getElem hlt
      have e4 : decide (V.str ⟨#[z.cps.toList[0]]⟩ = V.str "0") = decide (z.cps.toList.head? = some 48) := by
        rw [str_dec]
        refine decide_eq_decide.mpr ⟨fun h => ?_, fun h => ?_⟩
        · injection h with h
          have h3 : [z.cps.toList[0]] = [48] := congrArg Array.toList h
          injection h3 with h3
          rw [List.head?_eq_getElem?, ec, h3]
        · rw [List.head?_eq_getElem?, ec] at h
          injection h with h
          rw [h]
          rfl
      refine ⟨_, rfl, _, _, _, rfl, rfl, hsz, atI_nat (j := 0) ec, rfl, _, rfl, ?_⟩
      rw [e4]
      refine ite2 (fun e => ?_) (fun e => ?_)
      · rw [e, Bool.true_and] at no ⊢
        refine ⟨_, rfl, rfl, _, rfl, ite2 (fun e2 => ?_) (fun e2 => ?_)⟩
        · rw [str_dec] at e2
          refine no ?_
          rw [show decide (z ≠ "0") = true from by rw [decide_not]; exact e2]
          rfl
        · rw [str_dec] at e2
          refine ⟨rfl, rfl, ?_⟩
          rw [show decide (z ≠ "0") = false from by rw [decide_not]; exact Bool.eq_false_iff.mpr e2]
          rfl
      · rw [Bool.eq_false_iff.mpr e]
        exact iteF ⟨rfl, rfl, rfl⟩
    · intro σ' H' hN
      obtain ⟨rfl, rfl, hq⟩ := hN
      rw [hq] at q
      refine ⟨_, rfl, z, rfl, fun D nD => ?_⟩
      refine lc_vals (walk_str (z := z)) nD (fun i => .bl ((z.cps.toList[i]?).any fun c => decide (c ∈ cD))) (by show z.length ≤ _; omega) (fun _ _ => trivial) (fun i x H2 H2' Q' hi s2 y q' => ?_) (fun H2 s2 e2 => ?_)
      · obtain ⟨rfl, c, hc, rfl⟩ := y
        refine ⟨rfl, _, rfl, c, sDigits, rfl, rfl, ?_⟩
        have := q' _ (Same.refl _)
        rw [Array.getElem?_toList, hc] at this
        exact this
      · refine ⟨D, (List.range z.cps.toList.length).map fun i => (z.cps.toList[i]?).any fun c => decide (c ∈ cD), rfl, SqL.of (e2.trans ?_), ?_⟩
        · rw [List.map_map]
          rfl
        · rw [range_map z.cps.toList (fun c => decide (c ∈ cD)) _ fun i c hc => by rw [hc]; rfl]
          have := q H2 s2
          rw [show ((z.cps.toList.map fun c => decide (c ∈ cD)).all id) = z.cps.toList.all fun c => decide (c ∈ cD) by rw [List.all_map]; rfl]
          exact this
end
end SW

namespace SW
open PySem PySem.Spec PyProof.Rows L2
def oI : Option Int → V
  | none => .non
  | some i => .int i
def readMany : List PySem.Str → Option Int
  | [a, b] => if a = "text" ∧ isNum b = true ∧ b ≠ "0" then some (valN b) else none
  | _ => none
def tokOf : List PySem.Str → Option Tk
  | [] => none
  | x :: r => match kinds.lookup x with
    | none => none
    | some (d, k) => if r.all isNum = true then (if d = true then (if r = [] then none else some ⟨x, true, r.map valN⟩) else if r.length = k then some ⟨x, false, r.map valN⟩ else none) else none
theorem dpa_ints2 {K : PySem.W.Frag} {H : Hp} (xs : List Int) : DpAll K H (xs.map V.int) (xs.map PyData.int) := dpa_ints xs
section
variable {P : Program} {w : World} {K : PySem.W.Frag} {mg : PySem.Str → Option Value} {base : Heap} {C : Addr} {Kn : PySem.Str → Prop}
def spMany : Sp := fun vs H Q _ => ∃ (z : PySem.Str) (ws : List PySem.Str), vs = [.str z] ∧ z.length ≤ 100000 ∧ Txt.split z " " = ws ∧ (∀ x, x ∈ ws → x.length ≤ 100000) ∧ ws ≠ [] ∧ ∀ H', Same H H' → Q (oI (readMany ws)) H'
theorem ok_read_many (T : TxP K w mg C Kn) (D_read_many : Df K mg "_read_many" s_read_many ["row"]) (D_is_number : Df K mg "_is_number" s_is_number ["word"]) : FnOk P w K mg base CX0 2 D_read_many.f D_read_many.fd ["row"] spMany := by
  have G_is_number := ok_is_number (P := P) (w := w) (base := base) T D_is_number
  refine D_read_many.F.ok sc_read_many (fun vs H Q E h => ?_) (fun cdv A outer s H vs Q E hr h => ?_)
  · obtain ⟨z, ws, rfl, _⟩ := h
    rfl
  · obtain ⟨z, ws, rfl, hz, hs, hw, hne, q⟩ := h
    refine ⟨_, (pss_cons (ps_set (i := 1) sc_read_many.nd rfl (.inl rfl) (pe_split (pv 0) pe_str))
    (Evl.pss_cut (ps_if (PW.pt (pw_or (pt_cmpR op_ne (pe_callB call_len_seq (by rfl) T.n_len PySem.boot_len (pa_cons (pv 1) pa_nil)) pe_int (nomark _)) (pw_or (pt_cmpR op_ne (pe_ix ix_list (pv 1) pe_int (fun _ _ => rfl)) pe_str (nomark _)) (pw_or (pt_not (pt_val (pe_call G_is_number (hr.mono (by decide)) (by rfl) D_is_number.g D_is_number.F.kp D_is_number.b .nil pass0 (pa_cons (pe_ix ix_list (pv 1) pe_int (fun _ _ => rfl)) pa_nil)))) (pw_or1 (pt_cmpR op_eq (pe_ix ix_list (pv 1) pe_int (fun _ _ => rfl)) pe_str (nomark _)))))))
    (pss_one (ps_ret pe_non))
    pss_nil)
    (pss_one (ps_ret (pe_callTy call_int_str (by rfl) T.n_int (by decide +kernel) (pa_cons (pe_ix ix_list (pv 1) pe_int (fun _ _ => rfl)) pa_nil)))))), ?_⟩
    refine ⟨_, rfl, ⟨z, rfl⟩, z, " ", rfl, rfl, rfl, Nat.le_trans (Nat.add_le_add_right hz 2) (by decide), fun D nD => ?_⟩
    rw [hs]
    generalize hg : upd H D _ = H1
    obtain ⟨s1, e1⟩ := new_of nD hg
    have no : ∀ H', Same H1 H' → readMany ws = none → Q .non H' := fun H' s' e => by
      have := q H' (s1.trans s')
      rw [e] at this
      exact this
    have hl : decide (V.int ((ws.length : Nat) : Int) = V.int 2) = decide (ws.length = 2) := by
      rw [int_dec]
      exact decide_eq_decide.mpr ⟨fun h => by omega, fun h => by omega⟩
    refine ⟨fun σ' H' => σ' = [some (.str z), some (.ref D)] ∧ Same H1 H' ∧ ∃ b, ws = [("text" : PySem.Str), b] ∧ isNum b = true ∧ b ≠ "0", ?_, ?_⟩
    · refine ⟨_, rfl, D, _, rfl, .inl (SqL.of e1), rfl, _, rfl, ite2 (fun e => iteT ?_) (fun e => ?_)⟩
      · rw [List.length_map, hl] at e
        have e : ws.length ≠ 2 := by
          rw [Bool.not_eq_true', decide_eq_false_iff_not] at e
          exact e
        refine no H1 (Same.refl _) ?_
        match ws, e with
        | [], _ => rfl
        | [_], _ => rfl
        | [_, _], e => exact absurd rfl e
        | _ :: _ :: _ :: _, _ => rfl
      rw [List.length_map, hl] at e
      obtain ⟨a, b, rfl⟩ : ∃ a b, ws = [a, b] := by
        have e : ws.length = 2 := Classical.byContradiction fun h => e (by
          rw [decide_eq_false h]
          rfl)
        match ws, e with
        | [a, b], _ => exact ⟨a, b, rfl⟩
      refine ⟨_, rfl, D, _, _, _, rfl, rfl, SqL.of e1, atI_nat (j := 0) rfl, rfl, _, rfl, ite2 (fun e => iteT ?_) (fun e => ?_)⟩
      · refine no H1 (Same.refl _) (if_neg fun h => ?_)
        rw [h.1] at e
        exact absurd e (by decide +kernel)
      have ea : a = "text" := Classical.byContradiction fun h => e (by
        rw [str_dec, decide_eq_false h]
        rfl)
      subst ea
      refine ⟨_, rfl, D, _, _, _, rfl, rfl, SqL.of e1, atI_nat (j := 1) rfl, b, rfl, hw b (by simp), fun H2 s2 => ⟨_, rfl, ite2 (fun e => iteT ?_) (fun e => ?_)⟩⟩
      · refine no H2 s2 (if_neg fun h => ?_)
        rw [h.2.1] at e
        cases e
      have eb : isNum b = true := by
        cases h : isNum b with
        | true => rfl
        | false =>
          rw [h] at e
          exact absurd rfl e
      refine ⟨_, rfl, D, _, _, _, rfl, rfl, SqL.of (s2 _ _ e1), atI_nat (j := 1) rfl, rfl, _, rfl, ite2 (fun e => ?_) (fun e => ?_)⟩
      · refine no H2 s2 (if_neg fun h => h.2.2 ?_)
        rw [str_dec] at e
        exact of_decide_eq_true e
      · rw [str_dec] at e
        exact ⟨rfl, s2, b, rfl, eb, fun h => e (decide_eq_true h)⟩
    · intro σ' H' hN
      obtain ⟨rfl, s2, b, rfl, h1, h2⟩ := hN
      refine ⟨_, rfl, D, _, _, _, rfl, rfl, SqL.of (s2 _ _ e1), atI_nat (j := 1) rfl, b, _, rfl, isNum_int h1, ?_, ?_⟩
      · have := (isNum_digits h1).2.2
        omega
      · have := q H' (s1.trans s2)
        rw [show readMany [("text" : PySem.Str), b] = some (valN b) from if_pos ⟨rfl, h1, h2⟩] at this
        exact this
end
end SW

namespace SW
open PySem PySem.Spec PyProof.Rows L2
theorem opt_any {α : Type} (xs : List α) (g : α → Bool) : (List.range xs.length).map (fun i => (xs[i]?).any g) = xs.map g :=
  range_map xs g _ fun i x h => by rw [h]; rfl
theorem all_map_id {α : Type} (xs : List α) (g : α → Bool) : (xs.map g).all id = xs.all g := by
  rw [List.all_map]
  rfl
theorem tokOf_cons (x : PySem.Str) (r : List PySem.Str) : tokOf (x :: r) = match kinds.lookup x with
    | none => none
    | some (d, k) => if r.all isNum = true then (if d = true then (if r = [] then none else some ⟨x, true, r.map valN⟩) else if r.length = k then some ⟨x, false, r.map valN⟩ else none) else none := rfl
theorem tokOf_none {x : PySem.Str} (r : List PySem.Str) (h : kinds.lookup x = none) : tokOf (x :: r) = none := by
  rw [tokOf_cons, h]
theorem tokOf_some {x : PySem.Str} {d : Bool} {k : Nat} (r : List PySem.Str) (h : kinds.lookup x = some (d, k)) : tokOf (x :: r) = if r.all isNum = true then (if d = true then (if r = [] then none else some ⟨x, true, r.map valN⟩) else if r.length = k then some ⟨x, false, r.map valN⟩ else none) else none := by
  rw [tokOf_cons, h]
section
variable {P : Program} {w : World} {K : PySem.W.Frag} {mg : PySem.Str → Option Value} {base : Heap} {C : Addr} {Kn : PySem.Str → Prop}
def spTok (K : PySem.W.Frag) (Kn : PySem.Str → Prop) : Sp := fun vs H Q _ => ∃ (z x : PySem.Str) (r : List PySem.Str), vs = [.str z] ∧ z.length ≤ 100000 ∧ Txt.split z " " = x :: r ∧ (∀ y, y ∈ r → y.length ≤ 100000) ∧ r.length ≤ 90000 ∧ Kn x ∧
  (tokOf (x :: r) = none → ∀ H', Same H H' → Q .non H') ∧ ∀ t, tokOf (x :: r) = some t → ∀ v H', Same H H' → Dp K H' v t.enc → Q v H'
theorem ok_read_token (T : TxP K w mg C Kn) (D_read_token : Df K mg "_read_token" s_read_token ["row"]) (D_is_number : Df K mg "_is_number" s_is_number ["word"]) : FnOk P w K mg base CX0 2 D_read_token.f D_read_token.fd ["row"] (spTok K Kn) := by
  have G_is_number := ok_is_number (P := P) (w := w) (base := base) T D_is_number
  refine D_read_token.F.ok sc_read_token (fun vs H Q E h => ?_) (fun cdv A outer s H vs Q E hr h => ?_)
  · obtain ⟨z, x, r, rfl, _⟩ := h
    rfl
  · obtain ⟨z, x, r, rfl, hz, hs, hw, hl, hk, no, yes⟩ := h
    refine ⟨_, (pss_cons (ps_set (i := 1) sc_read_token.nd rfl (.inl rfl) (pe_split (pv 0) pe_str))
    (Evl.pss_cut (ps_if (PW.pt (pw_or (pt_cmpR (op_notIn_kd T.kd) (pe_ix ix_list (pv 1) pe_int (fun _ _ => rfl)) (pe_glob (v := .ref T.aSizes) rfl T.m_SIZES rfl) (by rfl)) (pw_or1 (pt_not (pt_val (pe_callB (cr_all rfl) (by rfl) T.n_all (by decide +kernel) (pa_cons (pe_lc (own := [("word", 2)]) (g := gName 2) (by rfl) sc_read_token.nd (pi_list (pe_slice sl_list (pv 1) (po_some pe_int) po_none)) (blkOk_by (own := [("word", 2)]) (N := ["row", "words", "word", "numbers", "size"]) (sc := defScope s_read_token) (by decide +kernel)) (fun _ _ _ _ _ => pg_name (i := 2) sc_read_token.nd rfl (Or.inl rfl)) (fun _ _ _ _ _ => pts_nil) (fun _ _ _ _ _ => (pe_call G_is_number (hr.mono (by decide)) (by rfl) D_is_number.g D_is_number.F.kp D_is_number.b .nil pass0 (pa_cons (pv 2) pa_nil)))) pa_nil)))))))
    (pss_one (ps_ret pe_non))
    pss_nil)
    (pss_cons (ps_set (i := 3) sc_read_token.nd rfl (.inl rfl) (pe_callTy call_tuple_of (by rfl) T.n_tuple (by decide +kernel) (pa_cons (pe_lc (own := [("word", 2)]) (g := gName 2) (by rfl) sc_read_token.nd (pi_list (pe_slice sl_list (pv 1) (po_some pe_int) po_none)) (blkOk_by (own := [("word", 2)]) (N := ["row", "words", "word", "numbers", "size"]) (sc := defScope s_read_token) (by decide +kernel)) (fun _ _ _ _ _ => pg_name (i := 2) sc_read_token.nd rfl (Or.inl rfl)) (fun _ _ _ _ _ => pts_nil) (fun _ _ _ _ _ => (pe_callTy call_int_str (by rfl) T.n_int (by decide +kernel) (pa_cons (pv 2) pa_nil)))) pa_nil)))
    (pss_cons (ps_set (i := 4) sc_read_token.nd rfl (.inl rfl) (pe_ix ix_kdict (pe_glob (v := .ref T.aSizes) rfl T.m_SIZES rfl) (pe_ix ix_list (pv 1) pe_int (fun _ _ => rfl)) (fun _ _ => rfl)))
    (pss_cons (ps_if (pt_cmpR op_isN (pv 4) pe_non (nomark _))
    (pss_one (ps_ret (pe_ifExp (pt_truth (pv 3) (by intro _; rfl)) (pe_tup (pa_cons (pe_ix ix_list (pv 1) pe_int (fun _ _ => rfl)) (pa_cons (pv 3) pa_nil))) pe_non)))
    pss_nil)
    (pss_one (ps_ret (pe_ifExp (pt_cmpR op_eq (pe_callB call_len_seq (by rfl) T.n_len PySem.boot_len (pa_cons (pv 3) pa_nil)) (pv 4) (nomark _)) (pe_tup (pa_cons (pe_ix ix_list (pv 1) pe_int (fun _ _ => rfl)) (StX.pa_star (pv 3) pa_nil))) pe_non)))))))), ?_⟩
    refine ⟨_, rfl, ⟨z, rfl⟩, z, " ", rfl, rfl, rfl, Nat.le_trans (Nat.add_le_add_right hz 2) (by decide), fun D nD => ?_⟩
    rw [hs]
    generalize hg : upd H D _ = H1
    obtain ⟨s1, e1⟩ := new_of nD hg
    obtain ⟨rr, hns, hsz⟩ := T.sz x hk
    refine ⟨fun σ' H' => σ' = [some (.str z), some (.ref D), none, none, none] ∧ Same H1 H' ∧ r.all isNum = true ∧ ∃ (d : Bool) (k : Nat) (u : Value), kinds.lookup x = some (d, k) ∧ rr = some u ∧ RelV (if d = true then V.non else V.int (k : Nat)) u, ?_, ?_⟩
    · refine ⟨_, rfl, D, _, _, _, rfl, rfl, SqL.of e1, atI_nat (j := 0) rfl, x, rr, rfl, rfl, hns, _, rfl, ?_⟩
      rcases hsz with ⟨h1, rfl⟩ | ⟨d, k, u, h1, rfl, h2⟩
      · exact iteT (iteT (no (tokOf_none r h1) H1 s1))
      refine iteF ?_
      refine ⟨_, rfl, 1, rfl, D, _, rfl, SqL.of e1, fun p np => ?_⟩
      have ec : cutV ((x :: r).map V.str) (some ((1 : Nat) : Int)) none = r.map V.str := cutv_from _ 1
      have ec : cutV ((x :: r).map V.str) (some 1) none = r.map V.str := ec
      rw [ec]
      generalize hg : upd H1 p _ = H2
      obtain ⟨s2, e2⟩ := new_of np hg
      refine ⟨p, rfl, ⟨_, SqL.of e2⟩, fun L nL => ?_⟩
      refine lc_vals (walk_list (K := K) (a := p) (xs := r.map V.str)) nL (fun i => .bl ((r[i]?).any isNum)) (by rw [List.length_map]; omega) (fun H' s' => SqL.of (s' _ _ e2)) (fun i y H3 H3' Q' hi s3 hy q' => ?_) (fun H3 s3 e3 => ?_)
      · obtain ⟨rfl, hy⟩ := hy
        rw [List.getElem?_map] at hy
        obtain ⟨y', h3, rfl⟩ := Option.map_eq_some_iff.mp hy
        refine ⟨rfl, _, rfl, y', rfl, hw y' (List.mem_of_getElem? h3), fun H4 s4 => ?_⟩
        have := q' H4 s4
        rw [h3] at this
        exact this
      · rw [List.length_map] at e3
        have e3 : H3 L = some (.lst ((r.map isNum).map V.bl)) := by
          rw [e3, ← opt_any r isNum, List.map_map]
          rfl
        refine ⟨L, r.map isNum, rfl, SqL.of e3, _, rfl, ?_⟩
        rw [all_map_id]
        cases hA : r.all isNum with
        | false =>
          refine iteT (no ?_ H3 ((s1.trans s2).trans s3))
          rw [tokOf_some r h1, if_neg (by rw [hA]; decide)]
        | true => exact iteF ⟨rfl, s2.trans s3, rfl, d, k, u, h1, rfl, h2⟩
    · intro σ' H' hN
      obtain ⟨rfl, s2, hA, d, k, u, h1, rfl, h2⟩ := hN
      have hn : ∀ y, y ∈ r → isNum y = true := fun y hy => List.all_eq_true.mp hA y hy
      refine ⟨_, rfl, 1, rfl, D, _, rfl, SqL.of (s2 _ _ e1), fun p np => ?_⟩
      have ec : cutV ((x :: r).map V.str) (some ((1 : Nat) : Int)) none = r.map V.str := cutv_from _ 1
      have ec : cutV ((x :: r).map V.str) (some 1) none = r.map V.str := ec
      rw [ec]
      generalize hg : upd H' p _ = H2
      obtain ⟨s3, e2⟩ := new_of np hg
      refine ⟨p, rfl, ⟨_, SqL.of e2⟩, fun L nL => ?_⟩
      refine lc_vals (walk_list (K := K) (a := p) (xs := r.map V.str)) nL (fun i => .int (((r[i]?).map valN).getD 0)) (by rw [List.length_map]; omega) (fun H' s' => SqL.of (s' _ _ e2)) (fun i y H3 H3' Q' hi s3 hy q' => ?_) (fun H3 s4 e3 => ?_)
      · obtain ⟨rfl, hy⟩ := hy
        rw [List.getElem?_map] at hy
        obtain ⟨y', h3, rfl⟩ := Option.map_eq_some_iff.mp hy
        have hm := hn y' (List.mem_of_getElem? h3)
        refine ⟨rfl, _, rfl, y', _, rfl, isNum_int hm, ?_, ?_⟩
        · have := (isNum_digits hm).2.2
          omega
        have := q' _ (Same.refl _)
        rw [h3] at this
        exact this
      · rw [List.length_map] at e3
        have e3 : H3 L = some (.lst ((r.map valN).map V.int)) := by
          rw [e3, ← range_map r valN (fun i => ((r[i]?).map valN).getD 0) fun i y h => by rw [h]; rfl, List.map_map]
          rfl
        refine ⟨L, _, rfl, .inl ⟨SqL.of e3, fun N nN => ?_⟩⟩
        generalize hg : upd H3 N _ = H4
        obtain ⟨s5, e4⟩ := new_of nN hg
        have s15 := (((s1.trans s2).trans s3).trans s4).trans s5
        have e14 := s5 _ _ (s4 _ _ (s3 _ _ (s2 _ _ e1)))
        refine ⟨_, rfl, D, _, _, _, rfl, rfl, SqL.of e14, atI_nat (j := 0) rfl, T.aSizes, x, _, rfl, rfl, ⟨T.es, T.en, u, T.kd.at_, T.kd.lit, hns, h2⟩, ?_⟩
        rw [tokOf_some r h1, if_pos hA] at no yes
        refine ⟨_, rfl, rfl, _, rfl, ?_⟩
        cases d with
        | true =>
          refine iteT ?_
          rw [if_pos rfl] at no yes
          have t4 : SqT K H4 N ((r.map valN).map V.int) := SqT.of e4
          refine ⟨_, rfl, _, .inr (.inl ⟨_, t4, rfl⟩), ?_⟩
          cases r with
          | nil => exact iteF (no (if_pos rfl) H4 s15)
          | cons y r =>
            refine iteT ?_
            refine ⟨_, rfl, D, _, _, _, rfl, rfl, SqL.of e14, atI_nat (j := 0) rfl, _, rfl, by show 2 ≤ sizeLine; decide, fun t nt => ?_⟩
            generalize hg : upd H4 t _ = H5
            obtain ⟨s6, e5⟩ := new_of nt hg
            exact yes _ (if_neg (List.cons_ne_nil _ _)) (.ref t) H5 (s15.trans s6) (dp_tup2 e5 (.str x) (dp_same s6 _ _ (.tup t4 (dpa_ints _))))
        | false =>
          refine iteF ?_
          rw [if_neg Bool.false_ne_true] at no yes
          have t4 : SqT K H4 N ((r.map valN).map V.int) := SqT.of e4
          refine ⟨_, rfl, N, _, rfl, .inr t4, _, rfl, rfl, _, rfl, ?_⟩
          rw [List.length_map, List.length_map]
          refine ite2 (fun e => ?_) (fun e => ?_)
          · have e : r.length = k := by
              have := of_decide_eq_true e
              injection this with this
              omega
            refine ⟨_, rfl, D, _, _, _, rfl, rfl, SqL.of e14, atI_nat (j := 0) rfl, _, rfl, N, _, rfl, .inl t4, ?_, fun t nt => ?_⟩
            · rw [List.append_nil, List.length_cons, List.length_map, List.length_map]
              exact Nat.le_trans (show _ ≤ 100000 by omega) (by decide)
            generalize hg : upd H4 t _ = H5
            obtain ⟨s6, e5⟩ := new_of nt hg
            refine yes _ (if_pos e) (.ref t) H5 (s15.trans s6) ?_
            refine .tup (SqT.of e5) (.cons (.str x) ?_)
            rw [List.append_nil]
            exact dpa_ints _
          · exact no (if_neg fun h => e (decide_eq_true (by rw [h]; rfl))) H4 s15
end
end SW

namespace SW
open PySem PySem.Spec PyProof.Rows L2
theorem cat1 (x : V) (ys : List V) : [x] ++ ys = x :: ys := rfl
theorem tk_map (t : Tk) : (.str t.w :: (t.ns.map fun n => V.str (nz n))) = t.ws.map V.str := by
  unfold Tk.ws
  rw [List.map_cons, List.map_map]
  rfl
/-- a token's parts -/
theorem tk_inv {K : PySem.W.Frag} {H : Hp} {v : V} {t : Tk} (h : Dp K H v t.enc) : ∃ a, v = .ref a ∧ ((t.d = true ∧ ∃ b, SqT K H a [.str t.w, .ref b] ∧ SqT K H b (t.ns.map V.int)) ∨ (t.d = false ∧ SqT K H a (.str t.w :: t.ns.map V.int))) := by
  unfold Tk.enc at h
  cases hd : t.d with
  | true =>
    rw [hd, if_pos rfl] at h
    obtain ⟨a, v1, v2, rfl, h1, h2, h3⟩ := dp_inv2 h
    cases h2
    obtain ⟨b, xs, rfl, h4, h5⟩ := dp_tup_inv h3
    exact ⟨a, rfl, .inl ⟨rfl, b, h1, (dpa_ints' h5) ▸ h4⟩⟩
  | false =>
    rw [hd, if_neg Bool.false_ne_true] at h
    obtain ⟨a, xs, rfl, h4, h5⟩ := dp_tup_inv h
    cases h5 with
    | cons h6 h7 =>
      cases h6
      exact ⟨a, rfl, .inr ⟨rfl, (dpa_ints' h7) ▸ h4⟩⟩
theorem dead_dec {t : Tk} (h : t.ok) : decide (V.str t.w = V.str "dead") = t.d := by
  rw [str_dec]
  exact h.word.2.2.2.1.symm
theorem tk_rowlen {t : Tk} (h : t.ok) : (t.ws.map (·.length)).sum + t.ws.length * (" " : PySem.Str).length ≤ 16777216 := by
  have h1 := h.sum
  have h2 := h.le
  rw [t.ws_len]
  show _ + (t.ns.length + 1) * 1 ≤ _
  omega
section
variable {P : Program} {w : World} {K : PySem.W.Frag} {mg : PySem.Str → Option Value} {base : Heap} {C : Addr} {Kn : PySem.Str → Prop}
def spWTok (K : PySem.W.Frag) : Sp := fun vs H Q _ => ∃ (v : V) (t : Tk), vs = [v] ∧ Dp K H v t.enc ∧ t.ok ∧ ∀ H', Same H H' → Q (.str t.row) H'
theorem ok_write_token (T : TxP K w mg C Kn) (D_write_token : Df K mg "_write_token" s_write_token ["token"]) : FnOk P w K mg base CX0 1 D_write_token.f D_write_token.fd ["token"] (spWTok K) := by
  refine D_write_token.F.ok sc_write_token (fun vs H Q E h => ?_) (fun cdv A outer s H vs Q E hr h => ?_)
  · obtain ⟨v, t, rfl, _⟩ := h
    rfl
  · obtain ⟨v, t, rfl, hv, ok, q⟩ := h
    refine ⟨_, (Evl.pss_cut (ps_set (i := 1) sc_write_token.nd rfl (.inl rfl) (pe_ifExp (pt_cmpR op_eq (pe_ix ix_tup (pv 0) pe_int (fun _ _ => rfl)) pe_str (nomark _)) (pe_ix ix_tup (pv 0) pe_int (fun _ _ => rfl)) (pe_slice sl_tup (pv 0) (po_some pe_int) po_none)))
    (pss_one (ps_ret (pe_join pe_str (pe_op op_cat (pe_lst (pa_cons (pe_ix ix_tup (pv 0) pe_int (fun _ _ => rfl)) pa_nil)) (pe_lc (own := [("number", 2)]) (g := gName 2) (by rfl) sc_write_token.nd (pi_tup (pv 1)) (blkOk_by (own := [("number", 2)]) (N := ["token", "numbers", "number"]) (sc := defScope s_write_token) (by decide +kernel)) (fun _ _ _ _ _ => pg_name (i := 2) sc_write_token.nd rfl (Or.inl rfl)) (fun _ _ _ _ _ => pts_nil) (fun _ _ _ _ _ => (pe_callTy call_str_int (by rfl) T.n_str (by decide +kernel) (pa_cons (pv 2) pa_nil))))))))), ?_⟩
    obtain ⟨a, rfl, ht⟩ := tk_inv hv
    refine ⟨fun σ' H' => ∃ b xs, σ' = [some (.ref a), some (.ref b), none] ∧ Same H H' ∧ SqT K H' b (t.ns.map V.int) ∧ SqT K H' a (.str t.w :: xs), ?_, ?_⟩
    · rcases ht with ⟨hd, b, h1, h2⟩ | ⟨hd, h1⟩
      · refine ⟨_, rfl, a, _, _, _, rfl, rfl, h1, atI_nat (j := 0) rfl, rfl, _, rfl, ?_⟩
        rw [dead_dec ok, hd]
        refine iteT ⟨_, rfl, a, _, _, _, rfl, rfl, h1, atI_nat (j := 1) rfl, b, _, rfl, Same.refl _, h2, h1⟩
      · refine ⟨_, rfl, a, _, _, _, rfl, rfl, h1, atI_nat (j := 0) rfl, rfl, _, rfl, ?_⟩
        rw [dead_dec ok, hd]
        refine iteF ⟨_, rfl, 1, rfl, a, _, rfl, h1, ?_, fun p np => ?_⟩
        · intro e
          have := e.1
          rw [show (some (1 : Int)) = some ((1 : Nat) : Int) from rfl, HT.sIx_nat, List.length_cons] at this
          omega
        have ec : cutV (.str t.w :: t.ns.map V.int) (some ((1 : Nat) : Int)) none = t.ns.map V.int := cutv_from _ 1
        have ec : cutV (.str t.w :: t.ns.map V.int) (some 1) none = t.ns.map V.int := ec
        rw [ec]
        generalize hg : upd H p _ = H2
        obtain ⟨s2, e2⟩ := new_of np hg
        exact ⟨p, _, rfl, s2, SqT.of e2, sqt_same s2 h1⟩
    · intro σ' H' hN
      obtain ⟨b, xs, rfl, s1, hb, ha⟩ := hN
      refine ⟨⟨_, rfl⟩, _, rfl, a, _, _, _, rfl, rfl, ha, atI_nat (j := 0) rfl, by show 1 ≤ sizeLine; decide, fun p np => ?_⟩
      generalize hg : upd H' p _ = H2
      obtain ⟨s2, e2⟩ := new_of np hg
      have hb2 := sqt_same s2 hb
      refine ⟨_, rfl, b, rfl, ⟨_, hb2⟩, fun L nL => ?_⟩
      refine lc_vals (walk_tup (K := K) (a := b) (xs := t.ns.map V.int)) nL (fun i => .str (nz ((t.ns[i]?).getD 0))) (by rw [List.length_map]; have := ok.le; omega) (fun H' s' => sqt_same s' hb2) (fun i y H3 H3' Q' hi s3 hy q' => ?_) (fun H3 s3 e3 => ?_)
      · obtain ⟨rfl, hy⟩ := hy
        rw [List.getElem?_map] at hy
        obtain ⟨n, h3, rfl⟩ := Option.map_eq_some_iff.mp hy
        refine ⟨rfl, _, rfl, n, rfl, (ok.ns n (List.mem_of_getElem? h3)).log, ?_⟩
        have := q' _ (Same.refl _)
        rw [h3] at this
        exact this
      · rw [List.length_map] at e3
        have e3 : H3 L = some (.lst (t.ns.map fun n => V.str (nz n))) := by
          rw [e3, range_map t.ns (fun n => V.str (nz n)) _ fun i y h => by rw [h]; rfl]
        have e23 := s3 _ _ e2
        refine ⟨p, L, _, _, rfl, rfl, e23, e3, ?_, fun M nM => ?_⟩
        · rw [List.length_map]
          exact Nat.le_trans (show _ ≤ 100000 by have := ok.le; show 1 + _ ≤ _; omega) (by decide)
        rw [cat1, tk_map]
        generalize hg : upd H3 M _ = H4
        obtain ⟨s4, e4⟩ := new_of nM hg
        refine ⟨" ", M, t.ws, rfl, rfl, .inl (SqL.of e4), tk_rowlen ok, ?_⟩
        exact q H4 (((s1.trans s2).trans s3).trans s4)
end
end SW

namespace SW
open PySem PySem.Spec PyProof.Rows L2
theorem empty_app (z : PySem.Str) : Str.empty ++ z = z := TL.ext_tl (by rw [TL.tl_append]; rfl)
theorem lsJoin_len {ls : List PySem.Str} {x : PySem.Str} {ts : List Tk} (h : PpOk ls x ts) : (Txt.join "\n" ls).length ≤ 101000 ∧ (ls.map (·.length)).sum + ls.length * ("\n" : PySem.Str).length ≤ 101000 := by
  have h1 := join_le "\n" ls
  have h2 := sum_le (fun z : PySem.Str => z.length) 100 ls fun z hz => (h.ls z hz).len
  have h3 := h.many
  have e : ("\n" : PySem.Str).length = 1 := rfl
  rw [e] at h1 ⊢
  omega
theorem lsJoin_split {ls : List PySem.Str} {x : PySem.Str} {ts : List Tk} (h : PpOk ls x ts) : Txt.split (Txt.join "\n" ls) "\n" = ls := split_nl h.ne fun p hp hm => ((h.ls p hp).ch 10 hm).1 rfl
theorem pRows_join {ls : List PySem.Str} {x : PySem.Str} {ts : List Tk} (h : PpOk ls x ts) : ((pRows ls x ts).map (·.length)).sum + (pRows ls x ts).length * ("\n" : PySem.Str).length ≤ 16777216 := by
  have h2 := pRows_sum h
  have h3 := pRows_len ls x ts
  have h4 := h.many
  have h5 := h.tm
  have e : ("\n" : PySem.Str).length = 1 := rfl
  rw [e]
  omega
theorem noLs_tk : ∀ ts : List Tk, noLs (ts.map Tk.enc) = true
  | [] => rfl
  | t :: r => by
    have hi : ∀ ns : List Int, noLs (ns.map PyData.int) = true := fun ns => by
      induction ns with
      | nil => rfl
      | cons a b ih => exact ih
    show (noL t.enc && noLs (r.map Tk.enc)) = true
    rw [noLs_tk r, Bool.and_true]
    unfold Tk.enc
    show noLs (_ :: _) = true
    cases t.d with
    | true =>
      rw [if_pos rfl]
      show (true && (noLs (t.ns.map PyData.int) && true)) = true
      rw [hi]
      rfl
    | false =>
      rw [if_neg Bool.false_ne_true]
      show (true && noLs (t.ns.map PyData.int)) = true
      rw [hi]
      rfl
theorem noL_tk (t : Tk) : noL t.enc = true := by
  have := noLs_tk [t]
  show noL t.enc = true
  have h : (noL t.enc && true) = true := this
  rw [Bool.and_true] at h
  exact h
section
variable {P : Program} {w : World} {K : PySem.W.Frag} {mg : PySem.Str → Option Value} {base : Heap} {C : Addr} {Kn : PySem.Str → Prop}
def spWPaper (K : PySem.W.Frag) (C : Addr) : Sp := fun vs H Q _ => ∃ (p : Addr) (ls : List PySem.Str) (x : PySem.Str) (ts : List Tk), vs = [.ref p] ∧ PpOk ls x ts ∧ PpAt K C H p (Txt.join "\n" ls) x (ts.map Tk.enc) ∧ ∀ H', Same H H' → Q (.str (Txt.join "\n" (pRows ls x ts))) H'
theorem ok_write_paper (T : TxP K w mg C Kn) (D_write_paper : Df K mg "write_paper" s_write_paper ["paper"]) (D_write_token : Df K mg "_write_token" s_write_token ["token"]) : FnOk P w K mg base CX0 2 D_write_paper.f D_write_paper.fd ["paper"] (spWPaper K C) := by
  have G_write_token := ok_write_token (P := P) (w := w) (base := base) T D_write_token
  refine D_write_paper.F.ok sc_write_paper (fun vs H Q E h => ?_) (fun cdv A outer s H vs Q E hr h => ?_)
  · obtain ⟨p, ls, x, ts, rfl, _⟩ := h
    rfl
  · obtain ⟨p, ls, x, ts, rfl, ok, ⟨dx, v, hp, hv⟩, q⟩ := h
    refine ⟨_, (pss_cons (ps_set (i := 1) sc_write_paper.nd rfl (.inl rfl) (pe_split (pe_fld (pv 0) rfl) pe_str))
    (pss_cons (ps_set (i := 2) sc_write_paper.nd rfl (.inl rfl) (pe_lst (pa_cons (pe_joined (.cons pe_str (.cons (pe_fmt (pe_callB call_len_seq (by rfl) T.n_len PySem.boot_len (pa_cons (pv 1) pa_nil))) .nil))) (StX.pa_star (pv 1) (pa_cons (pe_joined (.cons pe_str (.cons (pe_fmt (pe_fld (pv 0) rfl)) .nil))) pa_nil)))))
    (pss_one (ps_ret (pe_join pe_str (pe_op op_cat (pv 2) (pe_lc (own := [("token", 3)]) (g := gName 3) (by rfl) sc_write_paper.nd (pi_tup (pe_fld (pv 0) rfl)) (blkOk_by (own := [("token", 3)]) (N := ["paper", "rows", "written", "token"]) (sc := defScope s_write_paper) (by decide +kernel)) (fun _ _ _ _ _ => pg_name (i := 3) sc_write_paper.nd rfl (Or.inl rfl)) (fun _ _ _ _ _ => pts_nil) (fun _ _ _ _ _ => (pe_call G_write_token (hr.mono (by decide)) (by rfl) D_write_token.g D_write_token.F.kp D_write_token.b .nil pass0 (pa_cons (pv 3) pa_nil)))))))))), ?_⟩
    obtain ⟨tk, xs, rfl, htk, hxs⟩ := dp_tup_inv hv
    have hj := lsJoin_len ok
    refine ⟨_, rfl, p, C, dx, _, _, rfl, hp, T.cl, T.nT, rfl, ⟨_, rfl⟩, _, "\n", rfl, rfl, rfl, Nat.le_trans (show _ ≤ 101002 by omega) (by decide), fun D nD => ?_⟩
    rw [lsJoin_split ok]
    generalize hg : upd H D _ = H1
    obtain ⟨s1, e1⟩ := new_of nD hg
    have hlen : ((ls.map V.str).length : Int) = (ls.length : Nat) := by rw [List.length_map]
    have hnl := nz_len ok.ln.1
    have hxl := ok.x.len
    have hm := ok.many
    have e5 : ("text " : PySem.Str).length = 5 := rfl
    have e6 : ("proc " : PySem.Str).length = 5 := rfl
    have big : ∀ n : Nat, n ≤ 100000 → n ≤ sizeLine := fun n h => Nat.le_trans h (by decide)
    refine ⟨"text ", rfl, by rw [empty_app]; decide, _, rfl, D, _, rfl, .inl (SqL.of e1), .inr ⟨_, rfl, ?_, ?_⟩⟩
    · rw [hlen]
      exact ok.ln.1.log
    rw [hlen]
    refine ⟨_, rfl, ?_, ?_⟩
    · rw [empty_app, app_len, e5]
      exact big _ (by show 5 + (nz (ls.length : Nat)).length ≤ _; omega)
    rw [empty_app]
    refine ⟨_, rfl, D, _, rfl, .inr (SqL.of e1), ?_⟩
    refine ⟨"proc ", rfl, by rw [empty_app]; decide, _, rfl, p, C, dx, _, _, rfl, s1 _ _ hp, T.cl, T.nN, rfl, .inl ⟨x, rfl, big _ (by omega), x, rfl, ?_, ?_⟩⟩
    · rw [empty_app, app_len, e6]
      exact big _ (by omega)
    rw [empty_app]
    refine ⟨?_, fun W nW => ?_⟩
    · rw [List.length_cons, List.length_append, List.length_map]
      exact big _ (by show ls.length + 1 + 1 ≤ _; omega)
    generalize hg : upd H1 W _ = H2
    obtain ⟨s2, e2⟩ := new_of nW hg
    have hp2 := s2 _ _ (s1 _ _ hp)
    have ht2 := sqt_same s2 (sqt_same s1 htk)
    have hx2 := dpa_same s2 _ _ (dpa_same s1 _ _ hxs)
    have hxl : xs.length = ts.length := by rw [dpa_len hxs, List.length_map]
    refine ⟨⟨_, rfl⟩, _, rfl, _, rfl, p, C, dx, _, _, rfl, hp2, T.cl, T.nK, rfl, tk, rfl, ⟨_, ht2⟩, fun L nL => ?_⟩
    refine lc_vals (walk_tup (K := K) (a := tk) (xs := xs)) nL (fun i => .str (((ts[i]?).map Tk.row).getD "")) (by have := ok.tm; omega) (fun H' s' => sqt_same s' ht2) (fun i y H3 H3' Q' hi s3 hy q' => ?_) (fun H3 s3 e3 => ?_)
    · obtain ⟨rfl, hy⟩ := hy
      have hi' : i < ts.length := by omega
      obtain ⟨v, g1, g2⟩ := dp_mem (dpa_same s3 _ _ hx2) hi'
      rw [hy] at g1
      cases g1
      refine ⟨rfl, _, rfl, y, ts[i], rfl, g2, ok.ts _ (List.getElem_mem hi'), fun H4 s4 => ?_⟩
      have := q' H4 s4
      rw [List.getElem?_eq_getElem hi'] at this
      exact this
    · rw [hxl] at e3
      have e3 : H3 L = some (.lst (ts.map fun t => V.str t.row)) := by
        rw [e3, range_map ts (fun t => V.str t.row) _ fun i y h => by rw [h]; rfl]
      refine ⟨W, L, _, _, rfl, rfl, s3 _ _ e2, e3, ?_, fun M nM => ?_⟩
      · rw [List.length_cons, List.length_append, List.length_map, List.length_map]
        exact big _ (by have := ok.tm; show ls.length + 1 + 1 + ts.length ≤ _; omega)
      generalize hg : upd H3 M _ = H4
      obtain ⟨s4, e4⟩ := new_of nM hg
      have e4 : H4 M = some (.lst ((pRows ls x ts).map V.str)) := by
        rw [e4]
        unfold pRows
        rw [List.map_cons, List.map_append, List.map_cons, List.map_map]
        simp
        rfl
      exact ⟨"\n", M, _, rfl, rfl, .inl (SqL.of e4), pRows_join ok, q H4 (((s1.trans s2).trans s3).trans s4)⟩
end
end SW

namespace SW
open PySem PySem.Spec PyProof.Rows L2
abbrev pc : List Nat := [112, 114, 111, 99, 32]
theorem sw_proc (z : PySem.Str) : Txt.startswith z "proc " = decide (z.cps.toList.take 5 = pc) := by
  have h := TL.at_iff (x := z) (y := "proc ") (by decide) 0
  have e : (Txt.startswith z "proc " = true) ↔ StrLaws.At z "proc " z.length 0 := by
    unfold Txt.startswith StrLaws.At
    rw [Bool.and_eq_true, decide_eq_true_eq]
  have e2 : TL.pre (TL.tl "proc ") ((TL.tl z).drop 0) = decide (z.cps.toList.take 5 = pc) := by
    show ((z.cps.toList.take 5) == pc) = _
    by_cases hq : z.cps.toList.take 5 = pc
    · rw [decide_eq_true hq, hq]
      rfl
    · rw [decide_eq_false hq]
      exact beq_eq_false_iff_ne.mpr hq
  rw [e2] at h
  by_cases hq : z.cps.toList.take 5 = pc
  · rw [decide_eq_true hq] at h ⊢
    exact e.mpr (h.mpr rfl)
  · rw [decide_eq_false hq] at h ⊢
    exact Bool.eq_false_iff.mpr fun g => absurd (h.mp (e.mp g)) (by decide)
theorem proc_cps (x : PySem.Str) : (("proc " : PySem.Str) ++ x).cps.toList = pc ++ x.cps.toList := cps_app "proc " x
theorem cut5 (x : PySem.Str) : cutS (("proc " : PySem.Str) ++ x) (some ((5 : Nat) : Int)) none = x := by
  have hl : (("proc " : PySem.Str) ++ x).length = 5 + x.length := by
    rw [app_len]
    rfl
  unfold cutS
  rw [HT.sIx_nat, HT.sIx_none, hl, Nat.min_eq_left (by omega), proc_cps]
  have e : ((pc ++ x.cps.toList).drop 5).take (5 + x.length - 5) = x.cps.toList := by
    rw [show (pc ++ x.cps.toList).drop 5 = x.cps.toList from rfl]
    exact List.take_of_length_le (by rw [← len_cps]; omega)
  rw [e]
theorem join2 (a b : PySem.Str) : Txt.join " " [a, b] = a ++ (" " ++ b) := by
  rw [TL.join_eq]
  exact TL.ext_tl (by rw [TL.tl_append, TL.tl_append]; show TL.tl (a ++ " " ++ b) = _; rw [TL.tl_append, TL.tl_append, List.append_assoc])
theorem row0_eq (b : PySem.Str) : ("text " : PySem.Str) ++ b = Txt.join " " [("text" : PySem.Str), b] := by
  rw [join2]
  exact TL.ext_tl (by rw [TL.tl_append, TL.tl_append, TL.tl_append]; rfl)
theorem row0_split {n : Int} (h : okN n) : Txt.split (("text " : PySem.Str) ++ nz n) " " = [("text" : PySem.Str), nz n] := by
  rw [row0_eq]
  refine split_sp (List.cons_ne_nil _ _) fun p hp hm => ?_
  rcases List.mem_cons.mp hp with rfl | hp
  · exact absurd hm (by decide)
  · rw [List.mem_singleton.mp hp] at hm
    exact nz_free h (.inl (by decide)) hm
theorem row0_many {n : Int} (h : okN n) (h1 : 1 ≤ n) : readMany [("text" : PySem.Str), nz n] = some n := by
  obtain ⟨a, b⟩ := nz_num h
  rw [show readMany [("text" : PySem.Str), nz n] = some (valN (nz n)) from if_pos ⟨rfl, a, nz_pos h h1⟩, b]
theorem kinds_lookup : ∀ x, x ∈ kinds → kinds.lookup x.1 = some x.2 := by decide +kernel
theorem tokOf_ok {t : Tk} (h : t.ok) : tokOf t.ws = some t := by
  obtain ⟨k, h1, h2⟩ := h.kd
  have hl := kinds_lookup _ h1
  have ha : (t.ns.map nz).all isNum = true := by
    rw [List.all_eq_true]
    intro z hz
    obtain ⟨n, hn, rfl⟩ := List.mem_map.mp hz
    exact (nz_num (h.ns n hn)).1
  have hv : (t.ns.map nz).map valN = t.ns := by
    rw [List.map_map]
    have : ∀ ns : List Int, (∀ n, n ∈ ns → okN n) → ns.map (valN ∘ nz) = ns := fun ns => by
      induction ns with
      | nil => exact fun _ => rfl
      | cons a r ih =>
        intro hn
        rw [List.map_cons, ih fun n hm => hn n (List.mem_cons_of_mem _ hm)]
        show valN (nz a) :: r = _
        rw [(nz_num (hn a List.mem_cons_self)).2]
    exact this _ h.ns
  unfold Tk.ws
  rw [tokOf_some (t.ns.map nz) hl, if_pos ha, hv]
  obtain ⟨w, d, ns⟩ := t
  cases d with
  | true =>
    rw [if_pos rfl, if_neg]
    intro e
    exact h.ne rfl (List.map_eq_nil_iff.mp e)
  | false =>
    rw [if_neg Bool.false_ne_true, if_pos]
    rw [List.length_map]
    exact h2 rfl
theorem row_at {ls : List PySem.Str} {x : PySem.Str} {ts : List Tk} : (pRows ls x ts)[0]? = some ("text " ++ nz (ls.length : Nat)) ∧ (pRows ls x ts)[ls.length + 1]? = some ("proc " ++ x) ∧ ∀ (i : Nat) (t : Tk), ts[i]? = some t → (pRows ls x ts)[ls.length + 2 + i]? = some t.row := by
  unfold pRows
  refine ⟨rfl, ?_, fun i t h => ?_⟩
  · rw [List.getElem?_cons_succ, List.getElem?_append_right (Nat.le_refl _), Nat.sub_self]
    rfl
  · rw [show ls.length + 2 + i = (ls.length + 1 + i) + 1 by omega, List.getElem?_cons_succ, List.getElem?_append_right (by omega), show ls.length + 1 + i - ls.length = i + 1 by omega, List.getElem?_cons_succ, List.getElem?_map, h]
    rfl
theorem rows_cut (ls : List PySem.Str) (x : PySem.Str) (ts : List Tk) : cutV ((pRows ls x ts).map V.str) (some ((1 : Nat) : Int)) (some ((ls.length + 1 : Nat) : Int)) = ls.map V.str := by
  rw [cutv_part _ _ _ (by omega), ← List.map_drop, ← List.map_take]
  unfold pRows
  rw [List.drop_succ_cons, List.drop_zero, Nat.add_sub_cancel, List.take_left]
theorem map_atI {ws : List PySem.Str} {j : Nat} {z : PySem.Str} (h : ws[j]? = some z) : atI (ws.map V.str) (j : Int) = some (.str z) := atI_nat (by rw [List.getElem?_map, h]; rfl)
section
variable {P : Program} {w : World} {K : PySem.W.Frag} {mg : PySem.Str → Option Value} {base : Heap} {C : Addr} {Kn : PySem.Str → Prop}
structure CkP (K : PySem.W.Frag) (C : Addr) where
  f : Addr
  fd : FuncData
  F : Fun K "__init__" "Paper.__init__" s_Paper f fd
  b : Binds K fd ["self", "text", "name", "tokens"] []
  M : Mk K C f
def spRPaper (K : PySem.W.Frag) (C : Addr) (Kn : PySem.Str → Prop) : Sp := fun vs H Q _ => ∃ (ls : List PySem.Str) (x : PySem.Str) (ts : List Tk), vs = [.str (Txt.join "\n" (pRows ls x ts))] ∧ PpOk ls x ts ∧ (∀ t, t ∈ ts → Kn t.w) ∧ ∀ p H', Same H H' → H p = none → PpAt K C H' p (Txt.join "\n" ls) x (ts.map Tk.enc) → Q (.ref p) H'
theorem ok_read_paper (T : TxP K w mg C Kn) (c_Paper : CkP K C) (D_read_paper : Df K mg "read_paper" s_read_paper ["text"]) (D_read_many : Df K mg "_read_many" s_read_many ["row"]) (D_read_token : Df K mg "_read_token" s_read_token ["row"]) (D_is_number : Df K mg "_is_number" s_is_number ["word"]) : FnOk P w K mg base CX0 3 D_read_paper.f D_read_paper.fd ["text"] (spRPaper K C Kn) := by
  have G_read_many := ok_read_many (P := P) (w := w) (base := base) T D_read_many D_is_number
  have G_read_token := ok_read_token (P := P) (w := w) (base := base) T D_read_token D_is_number
  have G_Paper := ok_Paper (P := P) (w := w) (base := base) (mg := mg) c_Paper.F T
  have M_Paper := c_Paper.M
  have b_Paper := c_Paper.b
  refine D_read_paper.F.ok sc_read_paper (fun vs H Q E h => ?_) (fun cdv A outer s H vs Q E hr h => ?_)
  · obtain ⟨ls, x, ts, rfl, _⟩ := h
    rfl
  · obtain ⟨ls, x, ts, rfl, ok, hkn, q⟩ := h
    refine ⟨_, (pss_cons (ps_set (i := 1) sc_read_paper.nd rfl (.inl rfl) (pe_split (pv 0) pe_str))
    (pss_cons (ps_set (i := 2) sc_read_paper.nd rfl (.inl rfl) (pe_call G_read_many (hr.mono (by decide)) (by rfl) D_read_many.g D_read_many.F.kp D_read_many.b .nil pass0 (pa_cons (pe_ix ix_list (pv 1) pe_int (fun _ _ => rfl)) pa_nil)))
    (pss_cons (ps_if (pt_cmpR op_isN (pv 2) pe_non (nomark _))
    (pss_one ps_never)
    pss_nil)
    (pss_cons (ps_if (pt_cmpR op_lt (pe_callB call_len_seq (by rfl) T.n_len PySem.boot_len (pa_cons (pv 1) pa_nil)) (pe_op op_add (pv 2) pe_int) (nomark _))
    (pss_one ps_never)
    pss_nil)
    (pss_cons (ps_set (i := 3) sc_read_paper.nd rfl (.inl rfl) (pe_ix ix_list (pv 1) (pe_op op_add (pv 2) pe_int) (fun _ _ => rfl)))
    (pss_cons (ps_if (pt_not (pt_val (pe_m1 PySem.F.slot_str_startswith PySem.F.type_str_startswith mt_startswith (pv 3) pe_str)))
    (pss_one ps_never)
    pss_nil)
    (pss_cons (ps_if (pt_cmpR op_lt (pe_callB call_len_seq (by rfl) T.n_len PySem.boot_len (pa_cons (pv 1) pa_nil)) (pe_op op_add (pv 2) pe_int) (nomark _))
    (pss_one ps_never)
    pss_nil)
    (pss_cons (ps_set (i := 4) sc_read_paper.nd rfl (.inl rfl) (pe_lst pa_nil))
    (pss_cons (ps_for PassesOwn.never rfl (pi_range2 (by rfl) T.n_range (pa_cons (pe_op op_add (pv 2) pe_int) (pa_cons (pe_callB call_len_seq (by rfl) T.n_len PySem.boot_len (pa_cons (pv 1) pa_nil)) pa_nil))) (pg_name (i := 5) sc_read_paper.nd rfl (.inl rfl))
    (pss_cons (ps_set (i := 6) sc_read_paper.nd rfl (.inl rfl) (pe_call G_read_token (hr.mono (by decide)) (by rfl) D_read_token.g D_read_token.F.kp D_read_token.b .nil pass0 (pa_cons (pe_ix ix_list (pv 1) (pv 5) (fun _ _ => rfl)) pa_nil)))
    (pss_cons (ps_if (pt_cmpR op_isN (pv 6) pe_non (nomark _))
    (pss_one ps_never)
    pss_nil)
    (pss_one (ps_expr (pe_bm PySem.F.plainAttrs_list PySem.F.slot_list_append PySem.F.type_list_append mt_append (pv 4) (pa_cons (pv 6) pa_nil)))))))
    (pss_one (ps_ret (pe_make M_Paper G_Paper (hr.mono (by decide)) rfl T.mg_Paper b_Paper .nil pass0 (pa_cons (pe_join pe_str (pe_slice sl_list (pv 1) (po_some pe_int) (po_some (pe_op op_add (pv 2) pe_int)))) (pa_cons (pe_slice sl_str (pv 3) (po_some (pe_callB call_len_str (by rfl) T.n_len PySem.boot_len (pa_cons pe_str pa_nil))) po_none) (pa_cons (pe_callTy call_tuple_of (by rfl) T.n_tuple (by decide +kernel) (pa_cons (pv 4) pa_nil)) pa_nil))))))))))))))), ?_⟩
    have hsz := pRows_size ok
    obtain ⟨r0, r1, r2⟩ := row_at (ls := ls) (x := x) (ts := ts)
    have hrl := pRows_len ls x ts
    have hm := ok.many
    have htm := ok.tm
    have htn : 0 < ts.length := List.length_pos_iff.mpr ok.tn
    have e6 : ("proc " : PySem.Str).length = 5 := rfl
    have big : ∀ n : Nat, n ≤ 100000 → n ≤ sizeLine := fun n h => Nat.le_trans h (by decide)
    refine ⟨_, rfl, ⟨_, rfl⟩, _, "\n", rfl, rfl, rfl, Nat.le_trans (show _ ≤ 300002 by omega) (by decide), fun D nD => ?_⟩
    rw [pRows_split ok]
    generalize hrs : pRows ls x ts = rs at *
    generalize hg : upd H D _ = H1
    obtain ⟨s1, e1⟩ := new_of nD hg
    -- many
    have rl0 : (("text " : PySem.Str) ++ nz (ls.length : Nat)).length ≤ 100000 := by
      have := pRows_row ok _ (by rw [hrs]; exact List.mem_of_getElem? r0)
      omega
    refine ⟨_, rfl, D, _, _, _, rfl, rfl, SqL.of e1, map_atI r0, _, _, rfl, rl0, row0_split ok.ln.1, fun y hy => ?_, List.cons_ne_nil _ _, fun H2 s2 => ?_⟩
    · rcases List.mem_cons.mp hy with rfl | hy
      · decide
      · rw [List.mem_singleton.mp hy]
        have := nz_len ok.ln.1
        omega
    rw [row0_many ok.ln.1 (by have := ok.ln.2; omega)]
    refine ⟨_, rfl, rfl, _, rfl, iteF ?_⟩
    have e2 := s2 _ _ e1
    refine ⟨_, rfl, D, _, rfl, .inl (SqL.of e2), _, rfl, _, _, rfl, rfl, _, _, rfl, rfl, _, rfl, ?_⟩
    rw [List.length_map, hrl, decide_eq_false (by omega)]
    refine iteF ?_
    have a1 : ((ls.length : Nat) : Int) + 1 = ((ls.length + 1 : Nat) : Int) := by omega
    have hat1 : atI (rs.map V.str) (((ls.length : Nat) : Int) + 1) = some (.str ("proc " ++ x)) := by
      rw [a1]
      exact map_atI r1
    refine ⟨_, rfl, _, rfl, _, _, rfl, rfl, D, _, _, _, rfl, rfl, SqL.of e2, hat1, ?_⟩
    refine ⟨_, rfl, ⟨_, rfl⟩, _, "proc ", rfl, rfl, _, rfl, ?_⟩
    rw [sw_proc, decide_eq_true (show (("proc " : PySem.Str) ++ x).cps.toList.take 5 = pc by rw [proc_cps]; rfl)]
    refine iteF ?_
    refine ⟨_, rfl, D, _, rfl, .inl (SqL.of e2), _, rfl, _, _, rfl, rfl, _, _, rfl, rfl, _, rfl, ?_⟩
    rw [List.length_map, hrl, decide_eq_false (by omega)]
    refine iteF ?_
    -- tokens = []
    refine ⟨Nat.zero_le _, fun N nN => ?_⟩
    generalize hg : upd H2 N _ = H3
    obtain ⟨s3, e3⟩ := new_of nN hg
    have eD := s3 _ _ e2
    have nND : D ≠ N := ne_of_none e2 nN
    have s123 := (s1.trans s2).trans s3
    have nNH : H N = none := (s1.trans s2).free nN
    refine ⟨_, rfl, _, _, rfl, rfl, _, rfl, D, _, rfl, .inl (SqL.of eD), _, _, rfl, ⟨by omega, by omega, by rw [List.length_map, hrl]; omega, by rw [List.length_map, hrl]; omega⟩, ?_⟩
    rw [List.length_map, hrl]
    refine for_range (lo := (ls.length : Nat) + 2) (n := (((ls.length + ts.length + 2 : Nat) : Int) - ((ls.length : Nat) + 2)).toNat) (fun i σ H4 => ∃ (y5 y6 : Option V) (xs : List V), σ = [some (.str (Txt.join "\n" rs)), some (.ref D), some (.int (ls.length : Nat)), some (.str ("proc " ++ x)), some (.ref N), y5, y6] ∧ Same H H4 ∧ H4 D = some (.lst (rs.map V.str)) ∧ H4 N = some (.lst xs) ∧ DpAll K H4 xs ((ts.take i).map Tk.enc))
      ⟨_, _, [], rfl, s123, eD, e3, .nil⟩ (fun i σ H4 hi hP => ?_) (fun σ H4 hP => ?_)
    · obtain ⟨y5, y6, xs, rfl, s4, e4, e5, hxs⟩ := hP
      have hi' : i < ts.length := by omega
      have hti := List.getElem?_eq_getElem hi'
      have oki := ok.ts _ (List.getElem_mem hi')
      have rl := oki.len
      have a3 : ((ls.length : Nat) : Int) + 2 + (i : Nat) = ((ls.length + 2 + i : Nat) : Int) := by omega
      have hxl : xs.length = i := by
        rw [dpa_len hxs, List.length_map, List.length_take]
        omega
      have hat : atI (rs.map V.str) (((ls.length : Nat) : Int) + 2 + (i : Nat)) = some (.str ts[i].row) := by
        rw [a3]
        exact map_atI (r2 i _ hti)
      refine ⟨_, rfl, _, rfl, D, _, _, _, rfl, rfl, SqL.of e4, hat, ts[i].row, ts[i].w, ts[i].ns.map nz, rfl, by omega, oki.split, fun y hy => ?_, ?_, hkn _ (List.getElem_mem hi'), fun hno => ?_, fun t ht v H5 s5 hv => ?_⟩
      · have := oki.wlen y (List.mem_cons_of_mem _ hy)
        omega
      · rw [List.length_map]
        have := oki.le
        omega
      · have := tokOf_ok oki
        unfold Tk.ws at this
        rw [this] at hno
        cases hno
      · have := tokOf_ok oki
        unfold Tk.ws at this
        rw [this] at ht
        cases ht
        refine ⟨_, rfl, rfl, _, rfl, ?_⟩
        rw [dp_isN hv]
        refine iteF ⟨_, rfl, .inl ⟨rfl, _, SqL.of (s5 _ _ e5)⟩, _, rfl, N, _, _, rfl, rfl, s5 _ _ e5, small_sz5 (by omega), ?_⟩
        have b6 : But N H5 (upd H5 N (.lst (xs ++ [v]))) := fun b o hb e => (upd_ne hb).trans e
        refine ⟨_, _, xs ++ [v], rfl, same_mut (s4.trans s5) nNH, b6 _ _ nND (s5 _ _ e4), upd_same, ?_⟩
        rw [List.take_succ, hti]
        rw [List.map_append]
        exact dpa_snoc (dpa_but (s5 _ _ e5) b6 _ _ (noLs_tk _) (dpa_same s5 _ _ hxs)) (dp_but (s5 _ _ e5) b6 _ _ (noL_tk _) hv)
    · obtain ⟨y5, y6, xs, rfl, s4, e4, e5, hxs⟩ := hP
      have hend : (((ls.length + ts.length + 2 : Nat) : Int) - ((ls.length : Nat) + 2)).toNat = ts.length := by omega
      rw [hend, List.take_length] at hxs
      refine ⟨⟨_, rfl⟩, _, rfl, 1, rfl, _, rfl, _, _, rfl, rfl, _, rfl, D, _, rfl, SqL.of e4, fun U nU => ?_⟩
      rw [a1]
      rw [show (some (1 : Int)) = some ((1 : Nat) : Int) from rfl, ← hrs, rows_cut]
      generalize hg : upd H4 U _ = H5
      obtain ⟨s5, e6'⟩ := new_of nU hg
      refine ⟨"\n", U, ls, rfl, rfl, .inl (SqL.of e6'), Nat.le_trans (lsJoin_len ok).2 (by decide), ?_⟩
      have hN5 := s5 _ _ e5
      have hxs5 := dpa_same s5 _ _ hxs
      have s45 := s4.trans s5
      refine ⟨_, rfl, "proc ", rfl, by decide, _, rfl, _, rfl, by rw [app_len, e6]; exact big _ (by have := ok.x.len; omega), ?_⟩
      rw [show (((("proc " : PySem.Str).length : Nat) : Int)) = ((5 : Nat) : Int) from rfl, cut5]
      refine ⟨_, rfl, N, _, rfl, .inl ⟨SqL.of hN5, fun M nM => ?_⟩⟩
      generalize hg : upd H5 M _ = H6
      obtain ⟨s6, e7⟩ := new_of nM hg
      have s46 := s45.trans s6
      have hv : Dp K H6 (.ref M) (.tuple (ts.map Tk.enc)) := .tup (SqT.of e7) (dpa_same s6 _ _ hxs5)
      intro p dx np ndx ne
      refine ⟨p, dx, _, _, _, rfl, upd_same, fun H7 k e8 => ⟨rfl, ?_⟩⟩
      have npH : H p = none := s46.free np
      have s67 : Same H6 H7 := fun b o e => k b o (ne_of_none e np) ((upd_ne (ne_of_none e np)).trans ((upd_ne (ne_of_none e ndx)).trans e))
      exact q p H7 (s46.trans s67) npH ⟨dx, .ref M, e8, dp_same s67 _ _ hv⟩
end
end SW

namespace SW
open PySem PySem.Spec PyProof.Rows L2
abbrev s_l_wide : Stmt := topS 18
theorem sc_l_wide : FnScope ["hand", "many", "first"] ["hand", "many"] (defScope s_l_wide) := ⟨rfl, rfl, rfl, by decide +kernel, rfl, by decide +kernel, by decide +kernel⟩

abbrev s_l_number : Stmt := topS 19
theorem sc_l_number : FnScope ["hand"] ["hand"] (defScope s_l_number) := ⟨rfl, rfl, rfl, by decide +kernel, rfl, by decide +kernel, by decide +kernel⟩

abbrev s_l_line : Stmt := topS 20
theorem sc_l_line : FnScope ["hand", "signs", "tricky", "line", "k"] ["hand"] (defScope s_l_line) := ⟨rfl, rfl, rfl, by decide +kernel, rfl, by decide +kernel, by decide +kernel⟩

abbrev s_l_token : Stmt := topS 21
theorem sc_l_token : FnScope ["hand", "kind", "k", "many"] ["hand"] (defScope s_l_token) := ⟨rfl, rfl, rfl, by decide +kernel, rfl, by decide +kernel, by decide +kernel⟩

section
variable {P : Program} {w : World} {K : PySem.W.Frag} {mg : PySem.Str → Option Value} {base : Heap}
def spWide : Sp := fun vs H Q _ => ∃ (h d : Addr) (ds : List Int) (m : Int), vs = [.ref h, .int m] ∧ 0 < m ∧ Hand H h d ds ∧ ∀ r H', 0 ≤ r → r < m → But h H H' → Hand H' h d ds → Q (.int r) H'
theorem ok_l_wide (T : TxB mg) (D_l_wide : Df K mg "_law_wide" s_l_wide ["hand", "many"]) (D_l_take : Df K mg "_law_take" s_l_take ["hand", "many"]) : FnOk P w K mg base CX0 2 D_l_wide.f D_l_wide.fd ["hand", "many"] spWide := by
  have G_l_take := ok_l_take (P := P) (w := w) (base := base) T D_l_take
  refine D_l_wide.F.ok sc_l_wide (fun vs H Q E h => ?_) (fun cdv A outer s H vs Q E hr h => ?_)
  · obtain ⟨h, d, ds, m, rfl, _⟩ := h
    rfl
  · obtain ⟨h, d, ds, m, rfl, hm, hH, q⟩ := h
    refine ⟨_, (pss_cons (ps_set (i := 2) sc_l_wide.nd rfl (.inl rfl) (pe_call G_l_take (hr.mono (by decide)) (by rfl) D_l_take.g D_l_take.F.kp D_l_take.b .nil pass0 (pa_cons (pv 0) (pa_cons pe_int pa_nil))))
    (pss_one (ps_ret (pe_op op_mod (pe_callTy call_int1 (by rfl) T.n_int (by decide +kernel) (pa_cons (pe_op op_add (pe_op op_mul (pv 2) pe_int) (pe_call G_l_take (hr.mono (by decide)) (by rfl) D_l_take.g D_l_take.F.kp D_l_take.b .nil pass0 (pa_cons (pv 0) (pa_cons pe_int pa_nil)))) pa_nil)) (pv 1))))), ?_⟩
    refine ⟨_, rfl, h, d, ds, 100003, rfl, by decide, hH, fun r H1 r0 r1 b1 h1 _ => ?_⟩
    refine ⟨_, rfl, _, _, rfl, rfl, .inl ⟨by omega, by omega⟩, _, rfl, h, d, ds, 100003, rfl, by decide, h1, fun r2 H2 r20 r21 b2 h2 _ => ?_⟩
    refine ⟨_, _, rfl, rfl, .inl ⟨_, rfl, _, rfl, _, _, rfl, rfl, hm, ?_⟩⟩
    exact q _ H2 (Int.emod_nonneg _ (by omega)) (Int.emod_lt_of_pos _ hm) (b1.trans b2) h2
def spNumber : Sp := fun vs H Q _ => ∃ (h d : Addr) (ds : List Int), vs = [.ref h] ∧ Hand H h d ds ∧ ∀ (n : Int) H', okN n → But h H H' → Hand H' h d ds → Q (.int n) H'
theorem ok_l_number (T : TxB mg) (D_l_number : Df K mg "_law_number" s_l_number ["hand"]) (D_l_wide : Df K mg "_law_wide" s_l_wide ["hand", "many"]) (D_l_take : Df K mg "_law_take" s_l_take ["hand", "many"]) : FnOk P w K mg base CX0 3 D_l_number.f D_l_number.fd ["hand"] spNumber := by
  have G_l_take := ok_l_take (P := P) (w := w) (base := base) T D_l_take
  have G_l_wide := ok_l_wide (P := P) (w := w) (base := base) T D_l_wide D_l_take
  refine D_l_number.F.ok sc_l_number (fun vs H Q E h => ?_) (fun cdv A outer s H vs Q E hr h => ?_)
  · obtain ⟨h, d, ds, rfl, _⟩ := h
    rfl
  · obtain ⟨h, d, ds, rfl, hH, q⟩ := h
    refine ⟨_, (pss_cons (ps_if (pt_cmpR op_eq (pe_call G_l_take (hr.mono (by decide)) (by rfl) D_l_take.g D_l_take.F.kp D_l_take.b .nil pass0 (pa_cons (pv 0) (pa_cons pe_int pa_nil))) pe_int (nomark _))
    (pss_one (ps_ret (pe_op op_sub (pe_op op_sub (pe_op op_pow pe_int pe_int) pe_int) (pe_call G_l_take (hr.mono (by decide)) (by rfl) D_l_take.g D_l_take.F.kp D_l_take.b .nil pass0 (pa_cons (pv 0) (pa_cons pe_int pa_nil))))))
    pss_nil)
    (pss_one (ps_ret (pe_op op_mul (pe_call G_l_wide (hr.mono (by decide)) (by rfl) D_l_wide.g D_l_wide.F.kp D_l_wide.b .nil pass0 (pa_cons (pv 0) (pa_cons (pe_ix ix_list (pe_lst (pa_cons pe_int (pa_cons pe_int (pa_cons (pe_op op_pow pe_int pe_int) (pa_cons (pe_op op_pow pe_int pe_int) pa_nil))))) (pe_call G_l_take (hr.mono (by decide)) (by rfl) D_l_take.g D_l_take.F.kp D_l_take.b .nil pass0 (pa_cons (pv 0) (pa_cons pe_int pa_nil))) (fun _ _ => rfl)) pa_nil))) (pe_ix ix_list (pe_lst (pa_cons pe_int (pa_cons pe_int (pa_cons pe_int (pa_cons pe_int pa_nil))))) (pe_call G_l_take (hr.mono (by decide)) (by rfl) D_l_take.g D_l_take.F.kp D_l_take.b .nil pass0 (pa_cons (pv 0) (pa_cons pe_int pa_nil))) (fun _ _ => rfl)))))), ?_⟩
    refine ⟨_, rfl, h, d, ds, 9, rfl, by decide, hH, fun r H1 r0 r1 b1 h1 _ => ?_⟩
    refine ⟨rfl, _, rfl, ite2 (fun _ => ?_) (fun _ => ?_)⟩
    · refine ⟨_, _, rfl, rfl, ⟨by decide, by decide, by decide⟩, _, _, rfl, rfl, _, rfl, h, d, ds, 2, rfl, by decide, h1, fun r2 H2 r20 r21 b2 h2 _ => ⟨_, _, rfl, rfl, ?_⟩⟩
      refine q _ H2 ⟨?_, ?_⟩ (b1.trans b2) h2
      · show (0 : Int) ≤ 10 ^ 12 - 1 - r2
        omega
      · show 10 ^ 12 - 1 - r2 < (10 : Int) ^ 12
        omega
    · refine ⟨_, rfl, _, _, rfl, rfl, ⟨by decide, by decide, by decide⟩, _, _, rfl, rfl, ⟨by decide, by decide, by decide⟩, by show (4 : Nat) ≤ sizeLine; decide, fun p np => ?_⟩
      generalize hg : upd _ p _ = H2
      obtain ⟨s2, e2⟩ := new_of np hg
      have hph := hand_ne h1 np
      refine ⟨_, rfl, h, d, ds, 4, rfl, by decide, h1.same s2, fun r3 H3 r30 r31 b3 h3 _ => ?_⟩
      obtain ⟨n, hn, ha⟩ := int_at (ns := [10, 1000, 10 ^ 6, 10 ^ 9]) r30 (by show r3 < 4; exact r31)
      have hn9 : 0 < n ∧ n ≤ 10 ^ 9 := by
        simp only [List.mem_cons, List.not_mem_nil, or_false] at hn
        rcases hn with rfl | rfl | rfl | rfl <;> decide
      refine ⟨p, _, _, _, rfl, rfl, SqL.of (b3 _ _ hph e2), ha, h, d, ds, n, rfl, hn9.1, h3, fun r4 H4 r40 r41 b4 h4 => ?_⟩
      refine ⟨by show (4 : Nat) ≤ sizeLine; decide, fun p2 np2 => ?_⟩
      generalize hg : upd _ p2 _ = H5
      obtain ⟨s5, e5⟩ := new_of np2 hg
      have hph2 := hand_ne h4 np2
      refine ⟨_, rfl, h, d, ds, 4, rfl, by decide, h4.same s5, fun r6 H6 r60 r61 b6 h6 _ => ?_⟩
      obtain ⟨m, hmm, hma⟩ := int_at (ns := [1, 1, 1, 999]) r60 (by show r6 < 4; exact r61)
      refine ⟨p2, _, _, _, rfl, rfl, SqL.of (b6 _ _ hph2 e5), hma, _, _, rfl, rfl, .inl ⟨by omega, by omega⟩, ?_⟩
      refine q _ H6 ?_ (((((b1.same s2).trans b3).trans b4).same s5).trans b6) h6
      simp only [List.mem_cons, List.not_mem_nil, or_false] at hmm
      have : m = 1 ∨ m = 999 := by
        rcases hmm with h | h | h | h <;> simp [h]
      rcases this with rfl | rfl
      · exact ⟨by show 0 ≤ r4 * 1; omega, by show r4 * 1 < _; omega⟩
      · exact ⟨by show 0 ≤ r4 * 999; omega, by show r4 * 999 < _; omega⟩
theorem str_at2 {z : PySem.Str} {r : Int} (h0 : 0 ≤ r) (h1 : r < z.length) : ∃ c, c ∈ z.cps.toList ∧ atI z.cps.toList r = some c := by
  obtain ⟨j, rfl⟩ : ∃ j : Nat, r = j := ⟨r.toNat, by omega⟩
  have hl : z.cps.toList.length = z.length := rfl
  have hj : j < z.cps.toList.length := by omega
  exact ⟨_, List.getElem_mem hj, atI_nat (List.getElem?_eq_getElem hj)⟩
def lnSigns : PySem.Str := "abcdefghijklmnopqrstuvwxyz ABCXYZ 0123456789 <>=+-()[],:.;_#' "
def lnTricky : List PySem.Str := ["", "on", "over", "text 1", "proc x", "dead 0", "pair 0 1", "proc ", " ", "all 0 0", "text 0", "dead"]
theorem lnSigns_ok : ∀ c, c ∈ lnSigns.cps.toList → c ≠ 10 ∧ c < 128 := by decide +kernel
theorem lnTricky_ok : ∀ z, z ∈ lnTricky → z.length ≤ 100 ∧ ∀ c, c ∈ z.cps.toList → c ≠ 10 ∧ c < 128 := by decide +kernel
def spLine : Sp := fun vs H Q _ => ∃ (h d : Addr) (ds : List Int), vs = [.ref h] ∧ Hand H h d ds ∧ ∀ (z : PySem.Str) H', LnOk z → But h H H' → Hand H' h d ds → Q (.str z) H'
theorem ok_l_line (T : TxB mg) (D_l_line : Df K mg "_law_line" s_l_line ["hand"]) (D_l_take : Df K mg "_law_take" s_l_take ["hand", "many"]) : FnOk P w K mg base CX0 2 D_l_line.f D_l_line.fd ["hand"] spLine := by
  have G_l_take := ok_l_take (P := P) (w := w) (base := base) T D_l_take
  refine D_l_line.F.ok sc_l_line (fun vs H Q E h => ?_) (fun cdv A outer s H vs Q E hr h => ?_)
  · obtain ⟨h, d, ds, rfl, _⟩ := h
    rfl
  · obtain ⟨h, d, ds, rfl, hH, q⟩ := h
    refine ⟨_, (pss_cons (ps_set (i := 1) sc_l_line.nd rfl (.inl rfl) pe_str)
    (pss_cons (ps_set (i := 2) sc_l_line.nd rfl (.inl rfl) (pe_lst (pa_strs (.cons _ _ _ (.cons _ _ _ (.cons _ _ _ (.cons _ _ _ (.cons _ _ _ (.cons _ _ _ (.cons _ _ _ (.cons _ _ _ (.cons _ _ _ (.cons _ _ _ (.cons _ _ _ (.cons _ _ _ .nil)))))))))))))))
    (pss_cons (ps_if (pt_cmpR op_eq (pe_call G_l_take (hr.mono (by decide)) (by rfl) D_l_take.g D_l_take.F.kp D_l_take.b .nil pass0 (pa_cons (pv 0) (pa_cons pe_int pa_nil))) pe_int (nomark _))
    (pss_one (ps_ret (pe_ix ix_list (pv 2) (pe_call G_l_take (hr.mono (by decide)) (by rfl) D_l_take.g D_l_take.F.kp D_l_take.b .nil pass0 (pa_cons (pv 0) (pa_cons (pe_callB call_len_seq (by rfl) T.n_len PySem.boot_len (pa_cons (pv 2) pa_nil)) pa_nil))) (fun _ _ => rfl))))
    pss_nil)
    (pss_cons (ps_set (i := 3) sc_l_line.nd rfl (.inl rfl) pe_str)
    (pss_cons (ps_for PassesOwn.never rfl (pi_range1 (by rfl) T.n_range (pa_cons (pe_call G_l_take (hr.mono (by decide)) (by rfl) D_l_take.g D_l_take.F.kp D_l_take.b .nil pass0 (pa_cons (pv 0) (pa_cons pe_int pa_nil))) pa_nil)) (pg_name (i := 4) sc_l_line.nd rfl (.inl rfl))
    (pss_one (ps_set (i := 3) sc_l_line.nd rfl (.inl rfl) (pe_op op_add_str (pv 3) (pe_ix ix_str (pv 1) (pe_call G_l_take (hr.mono (by decide)) (by rfl) D_l_take.g D_l_take.F.kp D_l_take.b .nil pass0 (pa_cons (pv 0) (pa_cons (pe_callB call_len_str (by rfl) T.n_len PySem.boot_len (pa_cons (pv 1) pa_nil)) pa_nil))) (fun _ _ => rfl))))))
    (Evl.pss_cut (ps_if (pt_cmpR op_eq (pe_call G_l_take (hr.mono (by decide)) (by rfl) D_l_take.g D_l_take.F.kp D_l_take.b .nil pass0 (pa_cons (pv 0) (pa_cons pe_int pa_nil))) pe_int (nomark _))
    (pss_one (ps_set (i := 3) sc_l_line.nd rfl (.inl rfl) (pe_op op_add_str (pv 3) (pe_ix ix_str pe_str (pe_call G_l_take (hr.mono (by decide)) (by rfl) D_l_take.g D_l_take.F.kp D_l_take.b .nil pass0 (pa_cons (pv 0) (pa_cons pe_int pa_nil))) (fun _ _ => rfl)))))
    pss_nil)
    (pss_one (ps_ret (pv 3))))))))), ?_⟩
    refine ⟨by show (12 : Nat) ≤ sizeLine; decide, fun p np => ?_⟩
    generalize hg : upd _ p _ = H1
    obtain ⟨s1, e1⟩ := new_of np hg
    have e1 : H1 p = some (.lst (lnTricky.map V.str)) := e1
    have hph := hand_ne hH np
    refine ⟨_, rfl, h, d, ds, 3, rfl, by decide, hH.same s1, fun r H2 r0 r1 b2 h2 _ => ?_⟩
    have bb2 := (Same.but (h := h) s1).trans b2
    refine ⟨rfl, _, rfl, ite2 (fun _ => ?_) (fun _ => ?_)⟩
    · have e2 := b2 _ _ hph e1
      refine ⟨_, rfl, _, rfl, _, rfl, p, _, rfl, .inl (SqL.of e2), h, d, ds, _, rfl, by show (0 : Int) < 12; decide, h2, fun r3 H3 r30 r31 b3 h3 _ => ?_⟩
      obtain ⟨z, hz, ha⟩ := strs_at (ws := lnTricky) r30 (by show r3 < 12; exact r31)
      obtain ⟨g1, g2⟩ := lnTricky_ok z hz
      exact ⟨p, _, _, _, rfl, rfl, SqL.of (b3 _ _ hph e2), ha, q z H3 ⟨g1, g2⟩ (bb2.trans b3) h3⟩
    refine ⟨_, rfl, h, d, ds, 9, rfl, by decide, h2, fun r3 H3 r30 r31 b3 h3 _ => ⟨_, rfl, by omega, by omega, ?_⟩⟩
    have bb3 := bb2.trans b3
    refine for_range (lo := 0) (n := r3.toNat) (fun i σ H4 => ∃ (y4 : Option V) (z : PySem.Str), σ = [some (.ref h), some (.str lnSigns), some (.ref p), some (.str z), y4] ∧ z.length ≤ i ∧ (∀ c, c ∈ z.cps.toList → c ≠ 10 ∧ c < 128) ∧ But h H H4 ∧ Hand H4 h d ds)
      ⟨_, "", rfl, Nat.le_refl _, (fun c hc => by cases hc), bb3, h3⟩ (fun i σ H4 hi hP => ?_) (fun σ H4 hP => ?_)
    · obtain ⟨y4, z, rfl, hz, hc, b4, h4⟩ := hP
      refine ⟨_, rfl, _, rfl, _, rfl, _, rfl, lnSigns, rfl, by decide, h, d, ds, _, rfl, by decide, h4, fun r5 H5 r50 r51 b5 h5 _ => ?_⟩
      obtain ⟨c, hcm, ha⟩ := str_at2 (z := lnSigns) r50 r51
      refine ⟨_, _, _, rfl, rfl, by decide, ha, z, ⟨#[c]⟩, rfl, rfl, ?_, ?_⟩
      · exact Nat.le_trans (show z.length + 1 ≤ 1000 by omega) (by decide)
      · refine ⟨_, z ++ ⟨#[c]⟩, rfl, ?_, fun x hx => ?_, b4.trans b5, h5⟩
        · rw [app_len]
          show z.length + 1 ≤ i + 1
          omega
        · rw [cps_app] at hx
          rcases List.mem_append.mp hx with hx | hx
          · exact hc x hx
          · have hx : x ∈ [c] := hx
            rw [List.mem_singleton.mp hx]
            exact lnSigns_ok c hcm
    · obtain ⟨y4, z, rfl, hz, hc, b4, h4⟩ := hP
      refine ⟨fun σ' H' => ∃ (y4 : Option V) (z : PySem.Str), σ' = [some (.ref h), some (.str lnSigns), some (.ref p), some (.str z), y4] ∧ LnOk z ∧ But h H H' ∧ Hand H' h d ds, ?_, ?_⟩
      · refine ⟨_, rfl, h, d, ds, 5, rfl, by decide, h4, fun r5 H5 r50 r51 b5 h5 _ => ?_⟩
        refine ⟨rfl, _, rfl, ite2 (fun _ => ?_) (fun _ => ?_)⟩
        · refine ⟨_, rfl, _, rfl, h, d, ds, 4, rfl, by decide, h5, fun r6 H6 r60 r61 b6 h6 _ => ?_⟩
          obtain ⟨c, hcm, ha⟩ := str_at2 (z := "\t~{&") r60 (by show r6 < 4; exact r61)
          have hcc : ∀ c, c ∈ ("\t~{&" : PySem.Str).cps.toList → c ≠ 10 ∧ c < 128 := by decide +kernel
          refine ⟨_, _, _, rfl, rfl, by decide, ha, z, ⟨#[c]⟩, rfl, rfl, ?_, ?_⟩
          · exact Nat.le_trans (show z.length + 1 ≤ 1000 by omega) (by decide)
          · refine ⟨_, z ++ ⟨#[c]⟩, rfl, ⟨?_, fun x hx => ?_⟩, (b4.trans b5).trans b6, h6⟩
            · rw [app_len]
              show z.length + 1 ≤ 100
              omega
            · rw [cps_app] at hx
              rcases List.mem_append.mp hx with hx | hx
              · exact hc x hx
              · have hx : x ∈ [c] := hx
                rw [List.mem_singleton.mp hx]
                exact hcc c hcm
        · exact ⟨_, z, rfl, ⟨by omega, hc⟩, b4.trans b5, h5⟩
      · intro σ' H' hN
        obtain ⟨y4, z, rfl, hz, b6, h6⟩ := hN
        exact ⟨_, rfl, q z H' hz b6 h6⟩
end
end SW

namespace SW
open PySem PySem.Spec PyProof.Rows L2
def kindWs : List PySem.Str := ["on", "over", "dead", "pair", "write", "either", "all", "match", "sorted", "below"]
theorem kind_of : ∀ z, z ∈ kindWs → ∃ x, x ∈ kinds ∧ x.1 = z := by decide +kernel
theorem kind_facts : ∀ x, x ∈ kinds → (decide (x.1 = ("on" : PySem.Str)) || decide (x.1 = ("over" : PySem.Str))) = (!x.2.1 && decide (x.2.2 = 0)) ∧ decide (x.1 = ("dead" : PySem.Str)) = x.2.1 ∧
    decide (x.1 ∈ ([("pair" : PySem.Str), "all", "match"])) = decide (x.2.2 = 2) ∧ decide (x.1 ∈ ([("sorted" : PySem.Str), "below"])) = decide (x.2.2 = 3) ∧ (x.2.1 = false → x.2.2 = 0 ∨ x.2.2 = 1 ∨ x.2.2 = 2 ∨ x.2.2 = 3) := by decide +kernel
section
variable {P : Program} {w : World} {K : PySem.W.Frag} {mg : PySem.Str → Option Value} {base : Heap}
def spLTok (K : PySem.W.Frag) : Sp := fun vs H Q _ => ∃ (h d : Addr) (ds : List Int), vs = [.ref h] ∧ Hand H h d ds ∧ ∀ (v : V) (t : Tk) H', t.ok → But h H H' → Hand H' h d ds → Dp K H' v t.enc → Q v H'
theorem ok_l_token (T : TxB mg) (D_l_token : Df K mg "_law_token" s_l_token ["hand"]) (D_l_number : Df K mg "_law_number" s_l_number ["hand"]) (D_l_wide : Df K mg "_law_wide" s_l_wide ["hand", "many"]) (D_l_take : Df K mg "_law_take" s_l_take ["hand", "many"]) : FnOk P w K mg base CX0 4 D_l_token.f D_l_token.fd ["hand"] (spLTok K) := by
  have G_l_take := ok_l_take (P := P) (w := w) (base := base) T D_l_take
  have G_l_number := ok_l_number (P := P) (w := w) (base := base) (K := K) T D_l_number D_l_wide D_l_take
  refine D_l_token.F.ok sc_l_token (fun vs H Q E h => ?_) (fun cdv A outer s H vs Q E hr h => ?_)
  · obtain ⟨h, d, ds, rfl, _⟩ := h
    rfl
  · obtain ⟨h, d, ds, rfl, hH, q⟩ := h
    refine ⟨_, (pss_cons (ps_set (i := 1) sc_l_token.nd rfl (.inl rfl) (pe_ix ix_list (pe_lst (pa_strs (.cons _ _ _ (.cons _ _ _ (.cons _ _ _ (.cons _ _ _ (.cons _ _ _ (.cons _ _ _ (.cons _ _ _ (.cons _ _ _ (.cons _ _ _ (.cons _ _ _ .nil)))))))))))) (pe_call G_l_take (hr.mono (by decide)) (by rfl) D_l_take.g D_l_take.F.kp D_l_take.b .nil pass0 (pa_cons (pv 0) (pa_cons pe_int pa_nil))) (fun _ _ => rfl)))
    (pss_cons (ps_if (PW.pt (pw_or (pt_cmpR op_eq (pv 1) pe_str (nomark _)) (pw_or1 (pt_cmpR op_eq (pv 1) pe_str (nomark _)))))
    (pss_one (ps_ret (pe_tup (pa_cons (pv 1) pa_nil))))
    pss_nil)
    (pss_cons (ps_if (pt_cmpR op_eq (pv 1) pe_str (nomark _))
    (pss_one (ps_ret (pe_tup (pa_cons (pv 1) (pa_cons (pe_callTy call_tuple_of (by rfl) T.n_tuple (by decide +kernel) (pa_cons (pe_lc (own := [("k", 2)]) (g := gName 2) (by rfl) sc_l_token.nd (pi_range1 (by rfl) T.n_range (pa_cons (pe_op op_add pe_int (pe_op op_mul (pe_call G_l_take (hr.mono (by decide)) (by rfl) D_l_take.g D_l_take.F.kp D_l_take.b .nil pass0 (pa_cons (pv 0) (pa_cons pe_int pa_nil))) (pe_call G_l_take (hr.mono (by decide)) (by rfl) D_l_take.g D_l_take.F.kp D_l_take.b .nil pass0 (pa_cons (pv 0) (pa_cons pe_int pa_nil))))) pa_nil)) (blkOk_by (own := [("k", 2)]) (N := ["hand", "kind", "k", "many"]) (sc := defScope s_l_token) (by decide +kernel)) (fun _ _ _ _ _ => pg_name (i := 2) sc_l_token.nd rfl (Or.inl rfl)) (fun _ _ _ _ _ => pts_nil) (fun _ _ _ _ _ => (pe_call G_l_number (hr.mono (by decide)) (by rfl) D_l_number.g D_l_number.F.kp D_l_number.b .nil pass0 (pa_cons (pv 0) pa_nil)))) pa_nil)) pa_nil)))))
    pss_nil)
    (pss_cons (ps_set (i := 3) sc_l_token.nd rfl (.inl rfl) pe_int)
    (Evl.pss_cut (ps_if (pt_cmpR op_in_seq (pv 1) (pe_lst (pa_cons pe_str (pa_cons pe_str (pa_cons pe_str pa_nil)))) (by rfl))
    (pss_one (ps_set (i := 3) sc_l_token.nd rfl (.inl rfl) pe_int))
    pss_nil)
    (Evl.pss_cut (ps_if (pt_cmpR op_in_seq (pv 1) (pe_lst (pa_cons pe_str (pa_cons pe_str pa_nil))) (by rfl))
    (pss_one (ps_set (i := 3) sc_l_token.nd rfl (.inl rfl) pe_int))
    pss_nil)
    (pss_one (ps_ret (pe_op op_catT (pe_tup (pa_cons (pv 1) pa_nil)) (pe_callTy call_tuple_of (by rfl) T.n_tuple (by decide +kernel) (pa_cons (pe_lc (own := [("k", 2)]) (g := gName 2) (by rfl) sc_l_token.nd (pi_range1 (by rfl) T.n_range (pa_cons (pv 3) pa_nil)) (blkOk_by (own := [("k", 2)]) (N := ["hand", "kind", "k", "many"]) (sc := defScope s_l_token) (by decide +kernel)) (fun _ _ _ _ _ => pg_name (i := 2) sc_l_token.nd rfl (Or.inl rfl)) (fun _ _ _ _ _ => pts_nil) (fun _ _ _ _ _ => (pe_call G_l_number (hr.mono (by decide)) (by rfl) D_l_number.g D_l_number.F.kp D_l_number.b .nil pass0 (pa_cons (pv 0) pa_nil)))) pa_nil))))))))))), ?_⟩
    refine ⟨by show (10 : Nat) ≤ sizeLine; decide, fun p np => ?_⟩
    generalize hg : upd _ p _ = H1
    obtain ⟨s1, e1⟩ := new_of np hg
    have e1 : H1 p = some (.lst (kindWs.map V.str)) := e1
    have hph := hand_ne hH np
    refine ⟨_, rfl, h, d, ds, 10, rfl, by decide, hH.same s1, fun r H2 r0 r1 b2 h2 _ => ?_⟩
    have e2 : SqL K H2 p (kindWs.map V.str) := SqL.of (b2 _ _ hph e1)
    have b2 := (Same.but (h := h) s1).trans b2
    obtain ⟨z, hz, ha⟩ := strs_at (ws := kindWs) r0 (by show r < 10; exact r1)
    obtain ⟨⟨wd, dd, k⟩, hk, rfl⟩ := kind_of z hz
    obtain ⟨f1, f2, f3, f4, f5⟩ := kind_facts _ hk
    dsimp only at f1 f2 f3 f4 f5 ha
    obtain ⟨g1, g2, g3, g4, g5⟩ := kinds_w _ hk
    refine ⟨p, _, _, _, rfl, rfl, e2, ha, ?_⟩
    have okt : ∀ ns : List Int, (dd = true → ns ≠ []) → (dd = false → ns.length = k) → ns.length ≤ 7 → (∀ n, n ∈ ns → okN n) → (⟨wd, dd, ns⟩ : Tk).ok := fun ns c1 c2 c3 c4 => ⟨⟨k, hk, c2⟩, c1, c3, c4⟩
    -- kind == 'on' or kind == 'over'
    refine ⟨_, rfl, rfl, _, rfl, ?_⟩
    rw [str_dec]
    have sm : decide (wd = ("on" : PySem.Str)) = true ∨ decide (wd = ("over" : PySem.Str)) = true → dd = false ∧ k = 0 := fun hs => by
      have : (decide (wd = ("on" : PySem.Str)) || decide (wd = ("over" : PySem.Str))) = true := by
        rcases hs with hs | hs <;> rw [hs]
        · rfl
        · rw [Bool.or_true]
      rw [f1, Bool.and_eq_true, Bool.not_eq_true'] at this
      exact ⟨this.1, of_decide_eq_true this.2⟩
    have lone : dd = false ∧ k = 0 → ∀ t, H2 t = none → Q (.ref t) (upd H2 t (.tup [.str wd])) := fun hs t nt => by
      obtain ⟨rfl, rfl⟩ := hs
      generalize hg : upd _ t _ = H3
      obtain ⟨s3, e3⟩ := new_of nt hg
      exact q _ ⟨wd, false, []⟩ H3 (okt [] (fun h => nomatch h) (fun _ => rfl) (by decide) fun _ h => nomatch h) (b2.same s3) (h2.same s3) (.tup (SqT.of e3) (.cons (.str _) .nil))
    refine ite2 (fun e => iteT ⟨_, rfl, by show 1 ≤ sizeLine; decide, lone (sm (.inl e))⟩) (fun e => ?_)
    refine ⟨_, rfl, rfl, _, rfl, ?_⟩
    rw [str_dec]
    refine ite2 (fun e' => ⟨_, rfl, by show 1 ≤ sizeLine; decide, lone (sm (.inr e'))⟩) (fun e' => ?_)
    have hk0 : dd = false → k ≠ 0 := fun hd hk0 => by
      rw [hd, hk0, Bool.eq_false_iff.mpr e, Bool.eq_false_iff.mpr e'] at f1
      cases f1
    -- kind == 'dead'
    refine ⟨_, rfl, rfl, _, rfl, ?_⟩
    rw [str_dec, f2]
    cases dd with
    | true =>
      refine iteT ?_
      refine ⟨_, rfl, _, rfl, h, d, ds, 3, rfl, by decide, h2, fun r3 H3 r30 r31 b3 h3 _ => ?_⟩
      refine ⟨_, rfl, h, d, ds, 4, rfl, by decide, h3, fun r4 H4 r40 r41 b4 h4 _ => ?_⟩
      have hm : 0 ≤ r3 * r4 ∧ r3 * r4 ≤ 6 := by
        have c3 : r3 = 0 ∨ r3 = 1 ∨ r3 = 2 := by omega
        rcases c3 with rfl | rfl | rfl <;> omega
      refine ⟨_, _, rfl, rfl, .inl ⟨by omega, by omega⟩, _, _, rfl, rfl, _, rfl, by omega, by omega, fun L nL => ?_⟩
      have b24 := (b2.trans b3).trans b4
      refine lc_drawn (K := K) (lo := 0) (n := (1 + r3 * r4).toNat) (α := Int) PyData.int okN (fun _ _ => rfl) (by omega) h4 nL (fun i x H5 Q' hi b5 h5 hx q' => ?_) (fun H5 ys ns b5 h5 e5 hLh hLd ha hl hR => ?_)
      · exact ⟨rfl, _, rfl, h, d, ds, rfl, h5, fun n H6 on b6 h6 => q' _ n H6 b6 h6 on (.int n)⟩
      · refine ⟨L, ys, rfl, .inl ⟨SqL.of e5, fun N nN => ?_⟩⟩
        generalize hg : upd _ N _ = H6
        obtain ⟨s6, e6⟩ := new_of nN hg
        refine ⟨by show 2 ≤ sizeLine; decide, fun t nt => ?_⟩
        generalize hg : upd _ t _ = H7
        obtain ⟨s7, e7⟩ := new_of nt hg
        have hns : (ns : List Int) ≠ [] := fun h => by
          rw [h] at hl
          have : (0 : Nat) = (1 + r3 * r4).toNat := hl
          omega
        exact q _ ⟨wd, true, ns⟩ H7 (okt ns (fun _ => hns) (fun h => nomatch h) (by omega) hR) (((b24.trans b5).same s6).same s7) ((h5.same s6).same s7) (dp_tup2 e7 (.str _) (dp_same s7 _ _ (.tup (SqT.of e6) (dpa_same s6 _ _ ha))))
    | false =>
      refine iteF ?_
      -- many = 1
      have f5 := f5 rfl
      have hk0 := hk0 rfl
      refine ⟨fun σ' H' => ∃ m : Nat, σ' = [some (.ref h), some (.str wd), none, some (.int m)] ∧ (m = if k = 2 then 2 else 1) ∧ But h H H' ∧ Hand H' h d ds, ?_, ?_⟩
      · refine ⟨_, rfl, by show 3 ≤ sizeLine; decide, fun a na => ?_⟩
        generalize hg : upd _ a _ = H3
        obtain ⟨s3, e3⟩ := new_of na hg
        refine ⟨a, ([("pair" : PySem.Str), "all", "match"]).map V.str, rfl, .inl (SqL.of e3), rfl, flat_strs _, _, rfl, ?_⟩
        rw [inV_strs, f3]
        refine ite2 (fun e => ?_) (fun e => ?_)
        · exact ⟨2, rfl, (if_pos (of_decide_eq_true e)).symm, b2.same s3, h2.same s3⟩
        · exact ⟨1, rfl, (if_neg fun h => e (decide_eq_true h)).symm, b2.same s3, h2.same s3⟩
      · intro σ' H' hN
        obtain ⟨m, rfl, hm, b3, h3⟩ := hN
        refine ⟨fun σ' H' => ∃ m : Nat, σ' = [some (.ref h), some (.str wd), none, some (.int m)] ∧ m = k ∧ But h H H' ∧ Hand H' h d ds, ?_, ?_⟩
        · refine ⟨_, rfl, by show 2 ≤ sizeLine; decide, fun a na => ?_⟩
          generalize hg : upd _ a _ = H4
          obtain ⟨s4, e4⟩ := new_of na hg
          refine ⟨a, ([("sorted" : PySem.Str), "below"]).map V.str, rfl, .inl (SqL.of e4), rfl, flat_strs _, _, rfl, ?_⟩
          rw [inV_strs, f4]
          refine ite2 (fun e => ?_) (fun e => ?_)
          · exact ⟨3, rfl, (of_decide_eq_true e).symm, b3.same s4, h3.same s4⟩
          · have hk3 : k ≠ 3 := fun h => e (decide_eq_true h)
            refine ⟨m, rfl, ?_, b3.same s4, h3.same s4⟩
            rw [hm]
            split <;> omega
        · intro σ' H' hN
          obtain ⟨m, rfl, rfl, b4, h4⟩ := hN
          refine ⟨_, rfl, by show 1 ≤ sizeLine; decide, fun a na => ?_⟩
          generalize hg : upd _ a _ = H5
          obtain ⟨s5, e5⟩ := new_of na hg
          have h5 := h4.same s5
          have b5 := b4.same s5
          refine ⟨_, rfl, _, rfl, by omega, by omega, fun L nL => ?_⟩
          have haL : a ≠ L := ne_of_none e5 nL
          have hah : a ≠ h := hand_ne h4 na
          refine lc_drawn (K := K) (lo := 0) (n := ((m : Nat) : Int).toNat) (α := Int) PyData.int okN (fun _ _ => rfl) (by omega) h5 nL (fun i x H6 Q' hi b6 h6 hx q' => ?_) (fun H6 ys ns b6 h6 e6 hLh hLd ha hl hR => ?_)
          · exact ⟨rfl, _, rfl, h, d, ds, rfl, h6, fun n H7 on b7 h7 => q' _ n H7 b7 h7 on (.int n)⟩
          · refine ⟨L, ys, rfl, .inl ⟨SqL.of e6, fun N nN => ?_⟩⟩
            generalize hg : upd _ N _ = H7
            obtain ⟨s7, e7⟩ := new_of nN hg
            have hl : ns.length = m := by omega
            have hyl : ys.length = m := by rw [dpa_len ha, List.length_map, hl]
            have hyn : ys ≠ [] := fun h => by
              rw [h] at hyl
              have : 0 = m := hyl
              omega
            have ea := s7 _ _ (b6 _ _ hah e5)
            refine ⟨a, N, _, _, rfl, rfl, SqT.of ea, SqT.of e7, List.cons_ne_nil _ _, Nat.le_trans (show 1 + ys.length ≤ 100000 by omega) (by decide), fun h => absurd h hyn, fun _ t nt => ?_⟩
            generalize hg : upd _ t _ = H8
            obtain ⟨s8, e8⟩ := new_of nt hg
            refine q _ ⟨wd, false, ns⟩ H8 (okt ns (fun h => nomatch h) (fun _ => hl) (by omega) hR) (((b5.trans b6).same s7).same s8) ((h6.same s7).same s8) ?_
            exact .tup (SqT.of e8) (.cons (.str _) (dpa_same s8 _ _ (dpa_same s7 _ _ ha)))
end
end SW

namespace SW
open PySem PySem.Spec PyProof.Rows L2
abbrev s_l_lines : Stmt := topS 22
theorem sc_l_lines : FnScope ["hand", "many", "short", "k"] ["hand"] (defScope s_l_lines) := ⟨rfl, rfl, rfl, by decide +kernel, rfl, by decide +kernel, by decide +kernel⟩

abbrev s_l_tokens : Stmt := topS 24
theorem sc_l_tokens : FnScope ["hand", "found", "k"] ["hand"] (defScope s_l_tokens) := ⟨rfl, rfl, rfl, by decide +kernel, rfl, by decide +kernel, by decide +kernel⟩


theorem dpa_strs' {K : PySem.W.Frag} {H : Hp} : ∀ {vs : List V} {zs : List PySem.Str}, DpAll K H vs (zs.map PyData.str) → vs = zs.map V.str
  | _, [], .nil => rfl
  | _, _ :: _, .cons (.str x) h => congrArg (V.str x :: ·) (dpa_strs' h)
theorem dpa_rep {K : PySem.W.Frag} {H : Hp} {xs : List V} {ds : List PyData} (h : DpAll K H xs ds) : ∀ n : Nat, DpAll K H (List.replicate n xs).flatten (List.replicate n ds).flatten
  | 0 => .nil
  | n + 1 => by
    rw [List.replicate_succ, List.replicate_succ, List.flatten_cons, List.flatten_cons]
    exact dpa_app h (dpa_rep h n)
theorem rep_map {α β : Type} (f : α → β) (ts : List α) : ∀ n : Nat, (List.replicate n (ts.map f)).flatten = ((List.replicate n ts).flatten).map f
  | 0 => rfl
  | n + 1 => by
    rw [List.replicate_succ, List.replicate_succ, List.flatten_cons, List.flatten_cons, List.map_append, rep_map f ts n]
theorem rep_len {α : Type} (ts : List α) : ∀ n : Nat, (List.replicate n ts).flatten.length = n * ts.length
  | 0 => by simp
  | n + 1 => by
    rw [List.replicate_succ, List.flatten_cons, List.length_append, rep_len ts n, Nat.add_mul]
    omega
theorem rep_mem {α : Type} {ts : List α} {t : α} : ∀ {n : Nat}, t ∈ (List.replicate n ts).flatten → t ∈ ts
  | 0, h => (List.not_mem_nil h).elim
  | n + 1, h => by
    rw [List.replicate_succ, List.flatten_cons] at h
    exact (List.mem_append.mp h).elim id rep_mem
section
variable {P : Program} {w : World} {K : PySem.W.Frag} {mg : PySem.Str → Option Value} {base : Heap}
def spLLines : Sp := fun vs H Q _ => ∃ (h d : Addr) (ds : List Int), vs = [.ref h] ∧ Hand H h d ds ∧ ∀ (L : Addr) (ls : List PySem.Str) H', ls ≠ [] → ls.length ≤ 65 → (∀ z, z ∈ ls → LnOk z) → But h H H' → Hand H' h d ds → L ≠ h → H' L = some (.lst (ls.map V.str)) → Q (.ref L) H'
theorem ok_l_lines (T : TxB mg) (D_l_lines : Df K mg "_law_lines" s_l_lines ["hand"]) (D_l_line : Df K mg "_law_line" s_l_line ["hand"]) (D_l_take : Df K mg "_law_take" s_l_take ["hand", "many"]) : FnOk P w K mg base CX0 3 D_l_lines.f D_l_lines.fd ["hand"] spLLines := by
  have G_l_take := ok_l_take (P := P) (w := w) (base := base) T D_l_take
  have G_l_line := ok_l_line (P := P) (w := w) (base := base) (K := K) T D_l_line D_l_take
  refine D_l_lines.F.ok sc_l_lines (fun vs H Q E h => ?_) (fun cdv A outer s H vs Q E hr h => ?_)
  · obtain ⟨h, d, ds, rfl, _⟩ := h
    rfl
  · obtain ⟨h, d, ds, rfl, hH, q⟩ := h
    refine ⟨_, (pss_cons (ps_set (i := 1) sc_l_lines.nd rfl (.inl rfl) (pe_op op_add pe_int (pe_call G_l_take (hr.mono (by decide)) (by rfl) D_l_take.g D_l_take.F.kp D_l_take.b .nil pass0 (pa_cons (pv 0) (pa_cons pe_int pa_nil)))))
    (Evl.pss_cut (ps_if (pt_cmpR op_eq (pe_call G_l_take (hr.mono (by decide)) (by rfl) D_l_take.g D_l_take.F.kp D_l_take.b .nil pass0 (pa_cons (pv 0) (pa_cons pe_int pa_nil))) pe_int (nomark _))
    (pss_one (ps_set (i := 1) sc_l_lines.nd rfl (.inl rfl) (pe_op op_add pe_int (pe_call G_l_take (hr.mono (by decide)) (by rfl) D_l_take.g D_l_take.F.kp D_l_take.b .nil pass0 (pa_cons (pv 0) (pa_cons pe_int pa_nil))))))
    pss_nil)
    (pss_cons (ps_set (i := 2) sc_l_lines.nd rfl (.inr rfl) (pe_lc (own := [("k", 3)]) (g := gName 3) (by rfl) sc_l_lines.nd (pi_range1 (by rfl) T.n_range (pa_cons (pe_callB (call_min2 rfl) (by rfl) T.n_min (by decide +kernel) (pa_cons (pv 1) (pa_cons pe_int pa_nil))) pa_nil)) (blkOk_by (own := [("k", 3)]) (N := ["hand", "many", "short", "k"]) (sc := defScope s_l_lines) (by decide +kernel)) (fun _ _ _ _ _ => pg_name (i := 3) sc_l_lines.nd rfl (Or.inl rfl)) (fun _ _ _ _ _ => pts_nil) (fun _ _ _ _ _ => (pe_call G_l_line (hr.mono (by decide)) (by rfl) D_l_line.g D_l_line.F.kp D_l_line.b .nil pass0 (pa_cons (pv 0) pa_nil)))))
    (pss_one (ps_ret (pe_lc (own := [("k", 3)]) (g := gName 3) (by rfl) sc_l_lines.nd (pi_range1 (by rfl) T.n_range (pa_cons (pv 1) pa_nil)) (blkOk_by (own := [("k", 3)]) (N := ["hand", "many", "short", "k"]) (sc := defScope s_l_lines) (by decide +kernel)) (fun _ _ _ _ _ => pg_name (i := 3) sc_l_lines.nd rfl (Or.inl rfl)) (fun _ _ _ _ _ => pts_nil) (fun _ _ _ _ _ => (pe_ix (show IxR _ (rIxL K) from ix_list) (pv 2) (pe_op op_mod (pv 3) (pe_callB (show CallR _ _ (rLenK K) from call_len_seq) (by rfl) T.n_len PySem.boot_len (pa_cons (pv 2) pa_nil))) (fun _ _ => rfl))))))))), ?_⟩
    refine ⟨_, rfl, h, d, ds, 5, rfl, by decide, hH, fun r H1 r0 r1 b1 h1 _ => ⟨_, _, rfl, rfl, ?_⟩⟩
    refine ⟨fun σ' H' => ∃ m : Int, σ' = [some (.ref h), some (.int m), none, none] ∧ 1 ≤ m ∧ m ≤ 65 ∧ But h H H' ∧ Hand H' h d ds, ?_, ?_⟩
    · refine ⟨_, rfl, h, d, ds, 6, rfl, by decide, h1, fun r2 H2 r20 r21 b2 h2 _ => ?_⟩
      refine ⟨rfl, _, rfl, ite2 (fun _ => ?_) (fun _ => ?_)⟩
      · refine ⟨_, rfl, h, d, ds, 60, rfl, by decide, h2, fun r3 H3 r30 r31 b3 h3 _ => ⟨_, _, rfl, rfl, ?_⟩⟩
        exact ⟨_, rfl, by omega, by omega, (b1.trans b2).trans b3, h3⟩
      · exact ⟨_, rfl, by omega, by omega, b1.trans b2, h2⟩
    · intro σ' H' hN
      obtain ⟨m, rfl, m1, m2, b2, h2⟩ := hN
      refine ⟨_, rfl, m, 5, rfl, ?_⟩
      have hmin : ∃ k : Nat, (if (5 : Int) < m then (5 : Int) else m) = (k : Int) ∧ 1 ≤ k ∧ k ≤ 5 := by
        by_cases h : (5 : Int) < m
        · rw [if_pos h]
          exact ⟨5, rfl, by omega, by omega⟩
        · rw [if_neg h]
          exact ⟨m.toNat, by omega, by omega, by omega⟩
      obtain ⟨k, hk, k1, k5⟩ := hmin
      refine ⟨_, rfl, by omega, by omega, fun D nD => ?_⟩
      rw [hk]
      refine lc_drawn (K := K) (lo := 0) (n := ((k : Nat) : Int).toNat) (α := PySem.Str) PyData.str LnOk (fun _ _ => rfl) (by omega) h2 nD (fun i x H3 Q' hi b3 h3 hx q' => ?_) (fun H3 ys zs b3 h3 e3 hDh hDd ha hl hR => ?_)
      · exact ⟨rfl, _, rfl, h, d, ds, rfl, h3, fun z H4 oz b4 h4 => q' _ z H4 b4 h4 oz (.str z)⟩
      · have hys := dpa_strs' ha
        subst hys
        have hzl : zs.length = k := by omega
        refine ⟨_, rfl, m, rfl, by omega, by omega, fun L nL => ?_⟩
        have e3' : SqL K H3 D (zs.map V.str) := SqL.of e3
        refine lc_vals (walk_range (lo := 0) (n := m.toNat)) nL (fun i => .str (zs.getD (i % zs.length) "")) (by omega) (fun _ _ => trivial) (fun i x H4 H4' Q' hi s4 y q' => ?_) (fun H4 s4 e4 => ?_)
        · obtain ⟨rfl, rfl⟩ := y
          have hj : i % zs.length < zs.length := Nat.mod_lt _ (by omega)
          refine ⟨rfl, _, rfl, _, rfl, _, rfl, D, _, rfl, .inl (s4.seq e3'), _, _, rfl, rfl, by rw [List.length_map]; omega, D, _, ((0 : Int) + (i : Nat)) % ((zs.map V.str).length : Nat), .str (zs.getD (i % zs.length) ""), rfl, rfl, s4.seq e3', ?_, q' _ (Same.refl _)⟩
          rw [List.length_map, show ((0 : Int) + (i : Nat)) % (zs.length : Nat) = ((i % zs.length : Nat) : Int) by rw [Int.zero_add]; rfl]
          refine map_atI ?_
          rw [List.getD_eq_getElem?_getD, List.getElem?_eq_getElem hj]
          rfl
        · have e4 : H4 L = some (.lst (((List.range m.toNat).map fun i => zs.getD (i % zs.length) "").map V.str)) := by
            rw [e4, List.map_map]
            rfl
          refine q L _ H4 (fun hn => ?_) (by rw [List.length_map, List.length_range]; omega) (fun z hz => ?_) ((b2.trans b3).same s4) (h3.same s4) (hand_ne h3 nL) e4
          · have := congrArg List.length hn
            rw [List.length_map, List.length_range] at this
            have : m.toNat = 0 := this
            omega
          · obtain ⟨i, _, rfl⟩ := List.mem_map.mp hz
            have hj : i % zs.length < zs.length := Nat.mod_lt _ (by omega)
            rw [List.getD_eq_getElem?_getD, List.getElem?_eq_getElem hj]
            exact hR _ (List.getElem_mem hj)
def spLToks (K : PySem.W.Frag) : Sp := fun vs H Q _ => ∃ (h d : Addr) (ds : List Int), vs = [.ref h] ∧ Hand H h d ds ∧ ∀ (v : V) (ts : List Tk) H', ts ≠ [] → ts.length ≤ 70 → (∀ t, t ∈ ts → t.ok) → But h H H' → Hand H' h d ds → Dp K H' v (.tuple (ts.map Tk.enc)) → Q v H'
theorem ok_l_tokens (T : TxB mg) (D_l_tokens : Df K mg "_law_tokens" s_l_tokens ["hand"]) (D_l_token : Df K mg "_law_token" s_l_token ["hand"]) (D_l_number : Df K mg "_law_number" s_l_number ["hand"]) (D_l_wide : Df K mg "_law_wide" s_l_wide ["hand", "many"]) (D_l_take : Df K mg "_law_take" s_l_take ["hand", "many"]) : FnOk P w K mg base CX0 5 D_l_tokens.f D_l_tokens.fd ["hand"] (spLToks K) := by
  have G_l_take := ok_l_take (P := P) (w := w) (base := base) T D_l_take
  have G_l_token := ok_l_token (P := P) (w := w) (base := base) (K := K) T D_l_token D_l_number D_l_wide D_l_take
  refine D_l_tokens.F.ok sc_l_tokens (fun vs H Q E h => ?_) (fun cdv A outer s H vs Q E hr h => ?_)
  · obtain ⟨h, d, ds, rfl, _⟩ := h
    rfl
  · obtain ⟨h, d, ds, rfl, hH, q⟩ := h
    refine ⟨_, (pss_cons (ps_setLc (i := 1) (own := [("k", 2)]) (g := gName 2) (by rfl) sc_l_tokens.nd rfl rfl (sw_true rfl rfl rfl (by decide +kernel)) (pi_range1 (by rfl) T.n_range (pa_cons (pe_op op_add pe_int (pe_call G_l_take (hr.mono (by decide)) (by rfl) D_l_take.g D_l_take.F.kp D_l_take.b .nil pass0 (pa_cons (pv 0) (pa_cons pe_int pa_nil)))) pa_nil)) (blkOk_by (own := [("k", 2)]) (N := ["hand", "found", "k"]) (sc := defScope s_l_tokens) (by decide +kernel)) (fun _ _ _ _ _ => pg_name (i := 2) sc_l_tokens.nd rfl (Or.inl rfl)) (fun _ _ _ _ _ => pts_nil) (fun _ _ _ _ _ => (pe_call G_l_token (hr.mono (by decide)) (by rfl) D_l_token.g D_l_token.F.kp D_l_token.b .nil pass0 (pa_cons (pv 0) pa_nil))))
    (Evl.pss_cut (ps_if (pt_cmpR op_eq (pe_call G_l_take (hr.mono (by decide)) (by rfl) D_l_take.g D_l_take.F.kp D_l_take.b .nil pass0 (pa_cons (pv 0) (pa_cons pe_int pa_nil))) pe_int (nomark _))
    (pss_one (ps_set (i := 1) sc_l_tokens.nd rfl (.inl rfl) (pe_op op_rep (pv 1) (pe_op op_add pe_int (pe_call G_l_take (hr.mono (by decide)) (by rfl) D_l_take.g D_l_take.F.kp D_l_take.b .nil pass0 (pa_cons (pv 0) (pa_cons pe_int pa_nil)))))))
    pss_nil)
    (pss_one (ps_ret (pe_callTy call_tuple_of (by rfl) T.n_tuple (by decide +kernel) (pa_cons (pv 1) pa_nil)))))), ?_⟩
    refine ⟨_, rfl, h, d, ds, 7, rfl, by decide, hH, fun r H1 r0 r1 b1 h1 _ => ⟨_, _, rfl, rfl, _, rfl, by omega, by omega, fun D nD => ?_⟩⟩
    refine lc_drawn (K := K) (lo := 0) (n := (1 + r).toNat) (α := Tk) Tk.enc Tk.ok (fun t _ => noL_tk t) (by omega) h1 nD (fun i x H3 Q' hi b3 h3 hx q' => ?_) (fun H3 ys ts b3 h3 e3 hDh hDd ha hl hR => ?_)
    · exact ⟨rfl, _, rfl, h, d, ds, rfl, h3, fun v t H4 ot b4 h4 hv => q' v t H4 b4 h4 ot hv⟩
    have hyl : ys.length = ts.length := by rw [dpa_len ha, List.length_map]
    refine ⟨fun σ' H' => ∃ (F : Addr) (xs : List V) (us : List Tk), σ' = [some (.ref h), some (.ref F), none] ∧ us ≠ [] ∧ us.length ≤ 70 ∧ (∀ t, t ∈ us → t.ok) ∧ But h H H' ∧ Hand H' h d ds ∧ H' F = some (.lst xs) ∧ DpAll K H' xs (us.map Tk.enc), ?_, ?_⟩
    · have hne : ts ≠ [] := fun h => by
        have := congrArg List.length h
        have : ts.length = 0 := this
        omega
      refine ⟨_, rfl, h, d, ds, 6, rfl, by decide, h3, fun r2 H4 r20 r21 b4 h4 _ => ?_⟩
      obtain ⟨hi, hl3⟩ := h3.at_
      have ha4 := dpa_but hl3 b4 _ _ (noLs_tk _) ha
      have e4 := b4 _ _ hDh e3
      have b14 := (b1.trans b3).trans b4
      refine ⟨rfl, _, rfl, ite2 (fun _ => ?_) (fun _ => ?_)⟩
      · refine ⟨_, rfl, _, rfl, h, d, ds, 9, rfl, by decide, h4, fun r3 H5 r30 r31 b5 h5 _ => ⟨_, _, rfl, rfl, ?_⟩⟩
        obtain ⟨hi, hl4⟩ := h4.at_
        have ha5 := dpa_but hl4 b5 _ _ (noLs_tk _) ha4
        refine ⟨D, 2 + r3, ys, rfl, rfl, b5 _ _ hDh e4, by omega, by omega, ?_, fun F nF => ?_⟩
        · refine Nat.le_trans (show _ ≤ 7 * 10 from Nat.mul_le_mul (by omega) (by omega)) (by decide)
        generalize hg : upd _ F _ = H6
        obtain ⟨s6, e6⟩ := new_of nF hg
        refine ⟨F, _, (List.replicate (2 + r3).toNat ts).flatten, rfl, fun hn => ?_, ?_, fun t ht => hR t (rep_mem ht), (b14.trans b5).same s6, h5.same s6, e6, ?_⟩
        · have := congrArg List.length hn
          rw [rep_len] at this
          have h0 : (2 + r3).toNat * ts.length = 0 := this
          rcases Nat.mul_eq_zero.mp h0 with h0 | h0
          · omega
          · omega
        · rw [rep_len]
          exact Nat.le_trans (Nat.mul_le_mul (show (2 + r3).toNat ≤ 10 by omega) (show ts.length ≤ 7 by omega)) (by decide)
        · rw [← rep_map]
          exact dpa_rep (dpa_same s6 _ _ ha5) _
      · exact ⟨D, ys, ts, rfl, hne, by omega, hR, b14, h4, e4, ha4⟩
    · intro σ' H' hN
      obtain ⟨F, xs, us, rfl, u1, u2, u3, b4, h4, e4, ha4⟩ := hN
      refine ⟨_, rfl, F, _, rfl, .inl ⟨SqL.of e4, fun N nN => ?_⟩⟩
      generalize hg : upd _ N _ = H6
      obtain ⟨s6, e6⟩ := new_of nN hg
      exact q _ us H6 u1 u2 u3 (b4.same s6) (h4.same s6) (.tup (SqT.of e6) (dpa_same s6 _ _ ha4))
end
end SW

namespace SW
open PySem PySem.Spec PyProof.Rows L2
abbrev s_l_rows : Stmt := topS 23
theorem sc_l_rows : FnScope ["lines", "name", "tokens", "rows", "token", "parts", "part"] ["lines", "name", "tokens"] (defScope s_l_rows) := ⟨rfl, rfl, rfl, by decide +kernel, rfl, by decide +kernel, by decide +kernel⟩


theorem cut1 (x : V) (xs : List V) : cutV (x :: xs) (some 1) none = xs := cutv_from (x :: xs) 1
theorem not_whole1 (x : V) (xs : List V) : ¬ (HT.sIx (x :: xs).length 0 (some 1) = 0 ∧ HT.sIx (x :: xs).length (x :: xs).length none = (x :: xs).length) := fun e => by
  have := e.1
  rw [show (some (1 : Int)) = some ((1 : Nat) : Int) from rfl, HT.sIx_nat, List.length_cons] at this
  omega
section
variable {P : Program} {w : World} {K : PySem.W.Frag} {mg : PySem.Str → Option Value} {base : Heap} {C : Addr} {Kn : PySem.Str → Prop}
def spLRows (K : PySem.W.Frag) : Sp := fun vs H Q _ => ∃ (L : Addr) (ls : List PySem.Str) (x : PySem.Str) (v : V) (ts : List Tk), vs = [.ref L, .str x, v] ∧ PpOk ls x ts ∧ H L = some (.lst (ls.map V.str)) ∧ Dp K H v (.tuple (ts.map Tk.enc)) ∧ ∀ R H', Same H H' → H' R = some (.lst ((pRows ls x ts).map V.str)) → Q (.ref R) H'
theorem ok_l_rows (T : TxB mg) (D_l_rows : Df K mg "_law_rows" s_l_rows ["lines", "name", "tokens"]) : FnOk P w K mg base CX0 1 D_l_rows.f D_l_rows.fd ["lines", "name", "tokens"] (spLRows K) := by
  refine D_l_rows.F.ok sc_l_rows (fun vs H Q E h => ?_) (fun cdv A outer s H vs Q E hr h => ?_)
  · obtain ⟨L, ls, x, v, ts, rfl, _⟩ := h
    rfl
  · obtain ⟨L, ls, x, v, ts, rfl, ok, hL, hv, q⟩ := h
    refine ⟨_, (pss_cons (ps_set (i := 3) sc_l_rows.nd rfl (.inl rfl) (pe_op op_cat (pe_op op_cat (pe_lst (pa_cons (pe_op op_add_str pe_str (pe_callTy call_str_int (by rfl) T.n_str (by decide +kernel) (pa_cons (pe_callB call_len_seq (by rfl) T.n_len PySem.boot_len (pa_cons (pv 0) pa_nil)) pa_nil))) pa_nil)) (pv 0)) (pe_lst (pa_cons (pe_op op_add_str pe_str (pv 1)) pa_nil))))
    (pss_cons (ps_for PassesOwn.never rfl (pi_tup (pv 2)) (pg_name (i := 4) sc_l_rows.nd rfl (.inl rfl))
    (pss_cons (ps_set (i := 5) sc_l_rows.nd rfl (.inl rfl) (pe_slice sl_tup (pv 4) (po_some pe_int) po_none))
    (Evl.pss_cut (ps_if (pt_cmpR op_eq (pe_ix ix_tup (pv 4) pe_int (fun _ _ => rfl)) pe_str (nomark _))
    (pss_one (ps_set (i := 5) sc_l_rows.nd rfl (.inl rfl) (pe_ix ix_tup (pv 4) pe_int (fun _ _ => rfl))))
    pss_nil)
    (pss_one (ps_expr (pe_bm PySem.F.plainAttrs_list PySem.F.slot_list_append PySem.F.type_list_append mt_append (pv 3) (pa_cons (pe_join pe_str (pe_op op_cat (pe_lst (pa_cons (pe_ix ix_tup (pv 4) pe_int (fun _ _ => rfl)) pa_nil)) (pe_lc (own := [("part", 6)]) (g := gName 6) (by rfl) sc_l_rows.nd (pi_tup (pv 5)) (blkOk_by (own := [("part", 6)]) (N := ["lines", "name", "tokens", "rows", "token", "parts", "part"]) (sc := defScope s_l_rows) (by decide +kernel)) (fun _ _ _ _ _ => pg_name (i := 6) sc_l_rows.nd rfl (Or.inl rfl)) (fun _ _ _ _ _ => pts_nil) (fun _ _ _ _ _ => (pe_callTy call_str_int (by rfl) T.n_str (by decide +kernel) (pa_cons (pv 6) pa_nil)))))) pa_nil)))))))
    (pss_one (ps_ret (pv 3))))), ?_⟩
    obtain ⟨tk, xs, rfl, htk, hxs⟩ := dp_tup_inv hv
    have hm := ok.many
    have htm := ok.tm
    have hxl : xs.length = ts.length := by rw [dpa_len hxs, List.length_map]
    have hnl := nz_len ok.ln.1
    have big : ∀ n : Nat, n ≤ 100000 → n ≤ sizeLine := fun n h => Nat.le_trans h (by decide)
    have hlen : ((ls.map V.str).length : Int) = (ls.length : Nat) := by rw [List.length_map]
    refine ⟨_, rfl, L, _, rfl, .inl (SqL.of hL), _, rfl, ?_, _, _, rfl, rfl, ?_, by show 1 ≤ sizeLine; decide, fun a na => ?_⟩
    · rw [hlen]
      exact ok.ln.1.log
    · rw [hlen]
      exact big _ (by show 5 + (nz (ls.length : Nat)).length ≤ _; omega)
    rw [hlen]
    generalize hg : upd _ a _ = H1
    obtain ⟨s1, e1⟩ := new_of na hg
    refine ⟨_, rfl, a, L, _, _, rfl, rfl, e1, s1 _ _ hL, ?_, fun b nb => ?_⟩
    · rw [List.length_map]
      exact big _ (by show 1 + ls.length ≤ _; omega)
    generalize hg : upd _ b _ = H2
    obtain ⟨s2, e2⟩ := new_of nb hg
    refine ⟨_, rfl, _, _, rfl, rfl, big _ (by have := ok.x.len; show 5 + x.length ≤ _; omega), by show 1 ≤ sizeLine; decide, fun c nc => ?_⟩
    generalize hg : upd _ c _ = H3
    obtain ⟨s3, e3⟩ := new_of nc hg
    refine ⟨b, c, _, _, rfl, rfl, s3 _ _ e2, e3, ?_, fun R nR => ?_⟩
    · rw [List.length_append, List.length_map]
      exact big _ (by show 1 + ls.length + 1 ≤ _; omega)
    generalize hg : upd _ R _ = H4
    obtain ⟨s4, e4⟩ := new_of nR hg
    have s14 := ((s1.trans s2).trans s3).trans s4
    have nRH : H R = none := ((s1.trans s2).trans s3).free nR
    have e4 : H4 R = some (.lst ((("text " ++ nz (ls.length : Nat)) :: (ls ++ [("proc " ++ x : PySem.Str)])).map V.str)) := by
      rw [e4, List.map_cons, List.map_append]
      rfl
    refine ⟨_, rfl, tk, rfl, ⟨_, sqt_same s14 htk⟩, ?_⟩
    refine for_tup (K := K) (a := tk) (xs := xs) (fun i σ H5 => ∃ (y4 y5 y6 : Option V), σ = [some (.ref L), some (.str x), some (.ref tk), some (.ref R), y4, y5, y6] ∧ Same H H5 ∧ H5 R = some (.lst (((("text " ++ nz (ls.length : Nat)) :: (ls ++ [("proc " ++ x : PySem.Str)])) ++ (ts.take i).map Tk.row).map V.str)))
      ⟨_, _, _, rfl, s14, by rw [List.take_zero, List.map_nil, List.append_nil]; exact e4⟩ (fun i σ H5 _ hP => ?_) (fun i y σ H5 hy hP => ?_) (fun σ H5 hP => ?_)
    · obtain ⟨_, _, _, _, s5, _⟩ := hP
      exact sqt_same s5 htk
    · obtain ⟨y4, y5, y6, rfl, s5, e5⟩ := hP
      have hi' : i < ts.length := by
        have := (List.getElem?_eq_some_iff.mp hy).1
        omega
      obtain ⟨v', g1, g2⟩ := dp_mem (dpa_same s5 _ _ hxs) hi'
      rw [hy] at g1
      cases g1
      have oki := ok.ts _ (List.getElem_mem hi')
      generalize hti : ts[i] = t at g2 oki
      obtain ⟨ta, rfl, ht⟩ := tk_inv g2
      have hw : ∃ zs, SqT K H5 ta (.str t.w :: zs) ∧ (t.d = false → zs = t.ns.map V.int) := by
        rcases ht with ⟨hd, b, h1, _⟩ | ⟨_, h1⟩
        · exact ⟨_, h1, fun h => by rw [hd] at h; cases h⟩
        · exact ⟨_, h1, fun _ => rfl⟩
      obtain ⟨zs, hw, hzs⟩ := hw
      refine ⟨_, rfl, 1, rfl, ta, _, rfl, hw, not_whole1 _ _, fun p np => ?_⟩
      rw [cut1]
      generalize hg : upd _ p _ = H6
      obtain ⟨s6, e6⟩ := new_of np hg
      have hw6 := sqt_same s6 hw
      refine ⟨fun σ' H' => ∃ pt, σ' = [some (.ref L), some (.str x), some (.ref tk), some (.ref R), some (.ref ta), some (.ref pt), y6] ∧ Same H5 H' ∧ SqT K H' pt (t.ns.map V.int), ?_, ?_⟩
      · refine ⟨_, rfl, ta, _, _, _, rfl, rfl, hw6, atI_nat (j := 0) rfl, rfl, _, rfl, ?_⟩
        rw [dead_dec oki]
        rcases ht with ⟨hd, b, h1, h2⟩ | ⟨hd, h1⟩
        · rw [hd]
          exact iteT ⟨_, rfl, ta, _, _, _, rfl, rfl, sqt_same s6 h1, atI_nat (j := 1) rfl, b, rfl, s6, sqt_same s6 h2⟩
        · rw [hd]
          refine iteF ⟨p, rfl, s6, ?_⟩
          rw [hzs hd] at e6
          exact SqT.of e6
      · intro σ' H' hN
        obtain ⟨pt, rfl, s7, hpt⟩ := hN
        have e7 := s7 _ _ e5
        refine ⟨_, rfl, .inl ⟨rfl, _, SqL.of e7⟩, ⟨_, rfl⟩, _, rfl, ta, _, _, _, rfl, rfl, sqt_same s7 hw, atI_nat (j := 0) rfl, by show 1 ≤ sizeLine; decide, fun p2 np2 => ?_⟩
        generalize hg : upd _ p2 _ = H8
        obtain ⟨s8, e8⟩ := new_of np2 hg
        refine ⟨_, rfl, pt, rfl, ⟨_, sqt_same s8 hpt⟩, fun D nD => ?_⟩
        refine lc_vals (walk_tup (K := K) (a := pt) (xs := t.ns.map V.int)) nD (fun j => .str (nz ((t.ns[j]?).getD 0))) (by rw [List.length_map]; have := oki.le; omega) (fun H' s' => sqt_same s' (sqt_same s8 hpt)) (fun j y H9 H9' Q' hj s9 hy q' => ?_) (fun H9 s9 e9 => ?_)
        · obtain ⟨rfl, hy⟩ := hy
          rw [List.getElem?_map] at hy
          obtain ⟨n, h3, rfl⟩ := Option.map_eq_some_iff.mp hy
          refine ⟨rfl, _, rfl, n, rfl, (oki.ns n (List.mem_of_getElem? h3)).log, ?_⟩
          have := q' _ (Same.refl _)
          rw [h3] at this
          exact this
        · rw [List.length_map] at e9
          have e9 : H9 D = some (.lst (t.ns.map fun n => V.str (nz n))) := by
            rw [e9, range_map t.ns (fun n => V.str (nz n)) _ fun i y h => by rw [h]; rfl]
          refine ⟨p2, D, _, _, rfl, rfl, s9 _ _ e8, e9, ?_, fun M nM => ?_⟩
          · rw [List.length_map]
            exact big _ (by have := oki.le; show 1 + _ ≤ _; omega)
          rw [cat1, tk_map]
          generalize hg : upd _ M _ = H10
          obtain ⟨s10, e10⟩ := new_of nM hg
          refine ⟨" ", M, t.ws, rfl, rfl, .inl (SqL.of e10), tk_rowlen oki, ?_⟩
          have s710 := ((s7.trans s8).trans s9).trans s10
          refine ⟨R, _, _, rfl, rfl, s710 _ _ e5, ?_, ?_⟩
          · rw [List.length_map, List.length_append, List.length_map, List.length_cons, List.length_append, List.length_take]
            exact Nat.lt_of_le_of_lt (show _ ≤ 100000 by show ls.length + 1 + 1 + min i ts.length ≤ _; omega) (by decide)
          refine ⟨_, _, _, rfl, same_mut (s5.trans s710) nRH, ?_⟩
          rw [upd_same, List.take_succ, List.getElem?_eq_getElem hi', hti]
          simp
          rfl
    · obtain ⟨y4, y5, y6, rfl, s5, e5⟩ := hP
      refine ⟨_, rfl, q R H5 s5 ?_⟩
      rw [e5, hxl, List.take_length]
      unfold pRows
      simp
end
end SW

namespace SW
open PySem PySem.Spec PyProof.Rows L2
abbrev s_l_others : Stmt := topS 25
theorem sc_l_others : FnScope ["lines", "name", "tokens", "text", "last", "found", "k", "token", "word"] ["lines", "name", "tokens"] (defScope s_l_others) := ⟨rfl, rfl, rfl, by decide +kernel, rfl, by decide +kernel, by decide +kernel⟩

/-! ### other papers -/
structure Ot where
  z : PySem.Str
  x : PySem.Str
  us : List Tk
def Ot.enc (o : Ot) : PyData := .tuple [.str o.z, .str o.x, .tuple (o.us.map Tk.enc)]
structure Ot.ok (o : Ot) (z x : PySem.Str) (ts : List Tk) : Prop where
  ne : ¬ (o.z = z ∧ o.x = x ∧ o.us = ts)
  st : ∀ u, u ∈ o.us → PyData.strOk u.w = true
theorem map_inj' {α β : Type} {f : α → β} (hf : ∀ x y, f x = f y → x = y) : ∀ {xs ys : List α}, xs.map f = ys.map f → xs = ys
  | [], [], _ => rfl
  | [], _ :: _, h => by cases h
  | _ :: _, [], h => by cases h
  | x :: xs, y :: ys, h => by
    rw [List.map_cons, List.map_cons] at h
    injection h with h1 h2
    rw [hf _ _ h1, map_inj' hf h2]
theorem enc_inj {t u : Tk} (h : t.enc = u.enc) : t = u := by
  obtain ⟨w1, d1, n1⟩ := t
  obtain ⟨w2, d2, n2⟩ := u
  unfold Tk.enc at h
  have ii : ∀ {a b : List Int}, a.map PyData.int = b.map PyData.int → a = b := fun {a b} e => map_inj' (fun _ _ e => by injection e) e
  injection h with h
  injection h with h1 h2
  injection h1 with h1
  dsimp only at h1 h2
  subst h1
  cases d1 <;> cases d2
  · rw [if_neg Bool.false_ne_true, if_neg Bool.false_ne_true] at h2
    rw [ii h2]
  · rw [if_neg Bool.false_ne_true, if_pos rfl] at h2
    cases n1 with
    | nil => cases h2
    | cons a r =>
      injection h2 with h2 _
      cases h2
  · rw [if_pos rfl, if_neg Bool.false_ne_true] at h2
    cases n2 with
    | nil => cases h2
    | cons a r =>
      injection h2 with h2 _
      cases h2
  · rw [if_pos rfl, if_pos rfl] at h2
    injection h2 with h2 _
    injection h2 with h2
    rw [ii h2]
theorem encs_inj {ts us : List Tk} (h : ts.map Tk.enc = us.map Tk.enc) : ts = us := map_inj' (fun _ _ e => enc_inj e) h
theorem noL_ot (o : Ot) : noL o.enc = true := by
  show (true && (true && (noLs (o.us.map Tk.enc) && true))) = true
  rw [noLs_tk]
  rfl
theorem noLs_ot : ∀ os : List Ot, noLs (os.map Ot.enc) = true
  | [] => rfl
  | o :: r => by
    show (noL o.enc && noLs (r.map Ot.enc)) = true
    rw [noL_ot, noLs_ot r]
    rfl
theorem depth_ints : ∀ ns : List Int, PyData.depthAll (ns.map PyData.int) = 0
  | [] => rfl
  | n :: r => by
    show max 0 (PyData.depthAll (r.map PyData.int)) = 0
    rw [depth_ints r]
    rfl
theorem lay_ints : ∀ ns : List Int, PyData.canLayAll0 (ns.map PyData.int) = true
  | [] => rfl
  | n :: r => lay_ints r
theorem tk_shape {t : Tk} (h : PyData.strOk t.w = true) : t.enc.canLay0 = true ∧ t.enc.depth ≤ 2 := by
  unfold Tk.enc
  have h2 := depth_ints t.ns
  cases t.d with
  | true =>
    rw [if_pos rfl]
    refine ⟨?_, ?_⟩
    · show (PyData.strOk t.w && (PyData.canLayAll0 (t.ns.map PyData.int) && true)) = true
      rw [h, lay_ints]
      rfl
    · show max 0 (max (PyData.depthAll (t.ns.map PyData.int) + 1) 0) + 1 ≤ 2
      omega
  | false =>
    rw [if_neg Bool.false_ne_true]
    refine ⟨?_, ?_⟩
    · show (PyData.strOk t.w && PyData.canLayAll0 (t.ns.map PyData.int)) = true
      rw [h, lay_ints]
      rfl
    · show max 0 (PyData.depthAll (t.ns.map PyData.int)) + 1 ≤ 2
      omega
theorem tks_shape : ∀ {us : List Tk}, (∀ u, u ∈ us → PyData.strOk u.w = true) → PyData.canLayAll0 (us.map Tk.enc) = true ∧ PyData.depthAll (us.map Tk.enc) ≤ 2
  | [], _ => ⟨rfl, Nat.zero_le _⟩
  | u :: r, h => by
    obtain ⟨h1, h2⟩ := tk_shape (h u List.mem_cons_self)
    obtain ⟨h3, h4⟩ := tks_shape (us := r) fun v hv => h v (List.mem_cons_of_mem _ hv)
    refine ⟨?_, ?_⟩
    · show (u.enc.canLay0 && PyData.canLayAll0 (r.map Tk.enc)) = true
      rw [h1, h3]
      rfl
    · show max u.enc.depth (PyData.depthAll (r.map Tk.enc)) ≤ 2
      omega
theorem tks_shaped {us : List Tk} (h : ∀ u, u ∈ us → PyData.strOk u.w = true) : SeqAt.shaped (.tuple (us.map Tk.enc)) = true := by
  obtain ⟨h1, h2⟩ := tks_shape h
  unfold SeqAt.shaped
  rw [Bool.and_eq_true]
  refine ⟨h1, decide_eq_true ?_⟩
  show PyData.depthAll (us.map Tk.enc) + 1 ≤ 64
  omega
theorem tk_shaped {t : Tk} (h : PyData.strOk t.w = true) : SeqAt.shaped t.enc = true := by
  obtain ⟨h1, h2⟩ := tk_shape h
  unfold SeqAt.shaped
  rw [Bool.and_eq_true]
  exact ⟨h1, decide_eq_true (by omega)⟩
theorem nbs_tks (us : List Tk) : nbs (us.map Tk.enc) = true := (nbs_all _).mpr fun d hd => by
  obtain ⟨u, _, rfl⟩ := List.mem_map.mp hd
  exact nb_tk u
/-- what was found, at F -/
structure FI (K : PySem.W.Frag) (H0 H : Hp) (F : Addr) (ys : List V) (os : List Ot) : Prop where
  s : Same H0 H
  nF : H0 F = none
  e : H F = some (.lst ys)
  d : DpAll K H ys (os.map Ot.enc)
theorem FI.len {K : PySem.W.Frag} {H0 H : Hp} {F : Addr} {ys : List V} {os : List Ot} (f : FI K H0 H F ys os) : ys.length = os.length := by rw [dpa_len f.d, List.length_map]
theorem FI.same {K : PySem.W.Frag} {H0 H H' : Hp} {F : Addr} {ys : List V} {os : List Ot} (f : FI K H0 H F ys os) (s : Same H H') : FI K H0 H' F ys os := ⟨f.s.trans s, f.nF, s _ _ f.e, dpa_same s _ _ f.d⟩
theorem FI.add {K : PySem.W.Frag} {H0 H : Hp} {F : Addr} {ys : List V} {os : List Ot} (f : FI K H0 H F ys os) {v : V} {o : Ot} (hv : Dp K H v o.enc) : FI K H0 (upd H F (.lst (ys ++ [v]))) F (ys ++ [v]) (os ++ [o]) := by
  have b6 : But F H (upd H F (.lst (ys ++ [v]))) := fun b o hb e => (upd_ne hb).trans e
  refine ⟨same_mut f.s f.nF, f.nF, upd_same, ?_⟩
  rw [List.map_append]
  exact dpa_snoc (dpa_but f.e b6 _ _ (noLs_ot _) f.d) (dp_but f.e b6 _ _ (noL_ot _) hv)
theorem ot_dp {K : PySem.W.Frag} {H : Hp} {t : Addr} {v : V} {z x : PySem.Str} {us : List Tk} (h : H t = some (.tup [.str z, .str x, v])) (hv : Dp K H v (.tuple (us.map Tk.enc))) : Dp K H (.ref t) (Ot.enc ⟨z, x, us⟩) := dp_tup3 h (.str z) (.str x) hv
theorem set_ne {ts : List Tk} {k : Nat} {t u : Tk} (h : ts[k]? = some t) (ne : u ≠ t) : ts.take k ++ ([u] ++ ts.drop (k + 1)) ≠ ts := fun e => by
  have hk := (List.getElem?_eq_some_iff.mp h).1
  have hl : (ts.take k).length = k := by rw [List.length_take]; omega
  have := congrArg (fun l => l[k]?) e
  rw [show (ts.take k ++ ([u] ++ ts.drop (k + 1)))[k]? = some u by rw [List.getElem?_append_right (by omega), hl, Nat.sub_self]; rfl, h] at this
  exact ne (Option.some.inj this)
theorem lastL {α : Type} {ts : List α} (h : ts ≠ []) : ∃ us t, ts = us ++ [t] := ⟨ts.dropLast, ts.getLast h, (List.dropLast_concat_getLast h).symm⟩
theorem app_ne (z w : PySem.Str) (h : w.length ≠ 0) : z ++ w ≠ z := fun e => by
  have := congrArg PySem.Str.length e
  rw [app_len] at this
  omega
end SW

namespace SW
open PySem PySem.Spec PyProof.Rows L2
theorem mid_read {K : PySem.W.Frag} {σ : L2.St} {H : Hp} {Q : VK} {tX : TE} {tk : Addr} {xs : List V} {ts : List Tk} {u : Tk} {k : Nat} {z : Int} (h2 : σ[2]? = some (some (.ref tk))) (h6 : σ[6]? = some (some (.int z))) (hz : z = (k : Int)) (hS : SqT K H tk xs) (ha : DpAll K H xs (ts.map Tk.enc)) (hl : ts.length ≤ 1000)
    (hX : ∀ H1 (R : VK), Same H H1 → (∀ v H2, Same H1 H2 → Dp K H2 v u.enc → R v H2) → tX σ H1 R)
    (hQ : ∀ p H3, Same H H3 → Dp K H3 (.ref p) (.tuple ((ts.take k ++ ([u] ++ ts.drop (k + 1))).map Tk.enc)) → Q (.ref p) H3) :
    tOp (rCatB K) (tOp (rCatB K) (L2.tSl (rSlB K) (tVar 2) tNoPart (tPart (tVar 6))) (tTup (tCons tX tNil))) (L2.tSl (rSlB K) (tVar 2) (tPart (tOp (rI0 fun i j => .int (i + j)) (tVar 6) (tC (.int 1)))) tNoPart) σ H Q := by
  subst hz
  have hxl : xs.length = ts.length := by rw [dpa_len ha, List.length_map]
  have big : ∀ n : Nat, n ≤ 100000 → n ≤ sizeLine := fun n h => Nat.le_trans h (by decide)
  refine ⟨_, h2, _, h6, _, rfl, tk, xs, rfl, hS, fun p1 H1 s1 g1 => ?_⟩
  rw [cutv_first] at g1
  refine hX H1 _ s1 fun v H2 s2 hv => ?_
  refine ⟨by show 1 ≤ sizeLine; decide, fun a na => ?_⟩
  generalize hg : upd _ a _ = H3
  obtain ⟨s3, e3⟩ := new_of na hg
  have g1' := sqt_same s3 (sqt_same s2 g1)
  refine ⟨p1, a, _, _, rfl, rfl, g1', SqT.of e3, ?_, fun p2 H4 s4 g4 => ?_⟩
  · rw [List.length_take]
    exact big _ (by show min k xs.length + 1 ≤ _; omega)
  have s14 := ((s1.trans s2).trans s3).trans s4
  refine ⟨_, h2, _, h6, _, _, rfl, rfl, _, rfl, tk, xs, rfl, sqt_same s14 hS, fun p5 H5 s5 g5 => ?_⟩
  rw [show ((k : Nat) : Int) + 1 = ((k + 1 : Nat) : Int) by omega, cutv_from] at g5
  refine ⟨p2, p5, _, _, rfl, rfl, sqt_same s5 g4, g5, ?_, fun p6 H6 s6 g6 => ?_⟩
  · rw [List.length_append, List.length_take, List.length_drop]
    exact big _ (by show min k xs.length + 1 + (xs.length - (k + 1)) ≤ _; omega)
  have s16 := (s14.trans s5).trans s6
  refine hQ p6 H6 s16 (.tup g6 ?_)
  have ha' := dpa_same s16 _ _ ha
  have hv' := dp_same (((s3.trans s4).trans s5).trans s6) _ _ hv
  rw [List.map_append, List.map_append, List.map_take, List.map_drop, List.append_assoc]
  exact dpa_app (dpa_take k ha') (dpa_app (.cons hv' .nil) (dpa_drop (k + 1) ha'))
abbrev tkOn : Tk := ⟨"on", false, []⟩
abbrev tkOver : Tk := ⟨"over", false, []⟩
section
variable {P : Program} {w : World} {K : PySem.W.Frag} {mg : PySem.Str → Option Value} {base : Heap}
def spOthers (K : PySem.W.Frag) : Sp := fun vs H Q _ => ∃ (L : Addr) (ls : List PySem.Str) (x : PySem.Str) (v : V) (ts : List Tk), vs = [.ref L, .str x, v] ∧ PpOk ls x ts ∧ ts.length ≤ 70 ∧ H L = some (.lst (ls.map V.str)) ∧ Dp K H v (.tuple (ts.map Tk.enc)) ∧
  ∀ (F : Addr) (ys : List V) (os : List Ot) H', FI K H H' F ys os → (∀ o, o ∈ os → o.ok (Txt.join "\n" ls) x ts) → os.length ≤ 1000 → Q (.ref F) H'
theorem ok_l_others (T : TxB mg) (D_l_others : Df K mg "_law_others" s_l_others ["lines", "name", "tokens"]) : FnOk P w K mg base CX0 1 D_l_others.f D_l_others.fd ["lines", "name", "tokens"] (spOthers K) := by
  refine D_l_others.F.ok sc_l_others (fun vs H Q E h => ?_) (fun cdv A outer s H vs Q E hr h => ?_)
  · obtain ⟨L, ls, x, v, ts, rfl, _⟩ := h
    rfl
  · obtain ⟨L, ls, x, v, ts, rfl, ok, hts, hL, hv, q⟩ := h
    refine ⟨_, (pss_cons (ps_set (i := 3) sc_l_others.nd rfl (.inl rfl) (pe_join pe_str (pv 0)))
    (pss_cons (ps_set (i := 4) sc_l_others.nd rfl (.inl rfl) (pe_ix ix_list (pe_lst (pa_cons (pe_tup (pa_cons pe_str pa_nil)) (pa_cons (pe_tup (pa_cons pe_str pa_nil)) pa_nil))) (pe_callTy call_int1 (by rfl) T.n_int (by decide +kernel) (pa_cons (pe_cmpR (op_eqD hr.units) (pe_ix ix_tup (pv 2) (pe_un un_neg pe_int) (fun _ _ => rfl)) (pe_tup (pa_cons pe_str pa_nil)) (nomark _)) pa_nil)) (fun _ _ => rfl)))
    (pss_cons (ps_set (i := 5) sc_l_others.nd rfl (.inl rfl) (pe_lst (pa_cons (pe_tup (pa_cons (pe_op op_add_str (pv 3) pe_str) (pa_cons (pv 1) (pa_cons (pv 2) pa_nil)))) (pa_cons (pe_tup (pa_cons (pe_op op_add_str (pv 3) pe_str) (pa_cons (pv 1) (pa_cons (pv 2) pa_nil)))) (pa_cons (pe_tup (pa_cons (pv 3) (pa_cons (pe_op op_add_str (pv 1) pe_str) (pa_cons (pv 2) pa_nil)))) pa_nil)))))
    (pss_cons (ps_set (i := 5) sc_l_others.nd rfl (.inl rfl) (pe_op op_cat (pv 5) (pe_lst (pa_cons (pe_tup (pa_cons (pv 3) (pa_cons (pv 1) (pa_cons (pe_op op_catB (pv 2) (pe_tup (pa_cons (pv 4) pa_nil))) pa_nil)))) (pa_cons (pe_tup (pa_cons (pv 3) (pa_cons (pv 1) (pa_cons (pe_op op_catB (pe_slice sl_tupB (pv 2) po_none (po_some (pe_un un_neg pe_int))) (pe_tup (pa_cons (pv 4) pa_nil))) pa_nil)))) pa_nil)))))
    (pss_cons (ps_for PassesOwn.never rfl (pi_range1 (by rfl) T.n_range (pa_cons (pe_callB call_len_seq (by rfl) T.n_len PySem.boot_len (pa_cons (pv 2) pa_nil)) pa_nil)) (pg_name (i := 6) sc_l_others.nd rfl (.inl rfl))
    (pss_cons (ps_set (i := 7) sc_l_others.nd rfl (.inl rfl) (pe_ix ix_tup (pv 2) (pv 6) (fun _ _ => rfl)))
    (Evl.pss_cut (ps_if (pt_cmpR op_in_seq (pe_ix ix_tup (pv 7) pe_int (fun _ _ => rfl)) (pe_lst (pa_cons pe_str (pa_cons pe_str (pa_cons pe_str pa_nil)))) (by rfl))
    (Evl.pss_cut (ps_set (i := 8) sc_l_others.nd rfl (.inl rfl) (pe_ix ix_list (pe_lst (pa_cons pe_str (pa_cons pe_str (pa_cons pe_str pa_nil)))) (pe_bm PySem.F.plainAttrs_list PySem.F.slot_list_index PySem.F.type_list_index mt_index (pe_lst (pa_cons pe_str (pa_cons pe_str (pa_cons pe_str pa_nil)))) (pa_cons (pe_ix ix_tup (pv 7) pe_int (fun _ _ => rfl)) pa_nil)) (fun _ _ => rfl)))
    (pss_one (ps_expr (pe_bm PySem.F.plainAttrs_list PySem.F.slot_list_append PySem.F.type_list_append mt_append (pv 5) (pa_cons (pe_tup (pa_cons (pv 3) (pa_cons (pv 1) (pa_cons (pe_op op_catB (pe_op op_catB (pe_slice sl_tupB (pv 2) po_none (po_some (pv 6))) (pe_tup (pa_cons (pe_op op_catB (pe_tup (pa_cons (pv 8) pa_nil)) (pe_slice sl_tupB (pv 7) (po_some pe_int) po_none)) pa_nil))) (pe_slice sl_tupB (pv 2) (po_some (pe_op op_add (pv 6) pe_int)) po_none)) pa_nil)))) pa_nil)))))
    pss_nil)
    (Evl.pss_cut (ps_if (PW.pt (pw_and (pt_cmpR op_eq (pe_ix ix_tup (pv 7) pe_int (fun _ _ => rfl)) pe_str (nomark _)) (pw_and1 (pt_cmpR (op_neD hr.units) (pe_ix ix_tup (pv 7) pe_int (fun _ _ => rfl)) (pe_revT (pe_ix ix_tup (pv 7) pe_int (fun _ _ => rfl))) (nomark _)))))
    (pss_one (ps_expr (pe_bm PySem.F.plainAttrs_list PySem.F.slot_list_append PySem.F.type_list_append mt_append (pv 5) (pa_cons (pe_tup (pa_cons (pv 3) (pa_cons (pv 1) (pa_cons (pe_op op_catB (pe_op op_catB (pe_slice sl_tupB (pv 2) po_none (po_some (pv 6))) (pe_tup (pa_cons (pe_tup (pa_cons pe_str (pa_cons (pe_revT (pe_ix ix_tup (pv 7) pe_int (fun _ _ => rfl))) pa_nil))) pa_nil))) (pe_slice sl_tupB (pv 2) (po_some (pe_op op_add (pv 6) pe_int)) po_none)) pa_nil)))) pa_nil))))
    pss_nil)
    (pss_cons (ps_if (pt_cmpR op_eq (pe_ix ix_tup (pv 7) pe_int (fun _ _ => rfl)) pe_str (nomark _))
    (pss_cons (ps_expr (pe_bm PySem.F.plainAttrs_list PySem.F.slot_list_append PySem.F.type_list_append mt_append (pv 5) (pa_cons (pe_tup (pa_cons (pv 3) (pa_cons (pv 1) (pa_cons (pe_op op_catB (pe_op op_catB (pe_slice sl_tupB (pv 2) po_none (po_some (pv 6))) (pe_tup (pa_cons (pe_tup (pa_cons pe_str (pa_cons (pe_op op_catB (pe_slice sl_tupB (pe_ix ix_tup (pv 7) pe_int (fun _ _ => rfl)) po_none (po_some (pe_un un_neg pe_int))) (pe_tup (pa_cons (pe_op op_add (pe_ix ix_tup (pe_ix ix_tup (pv 7) pe_int (fun _ _ => rfl)) (pe_un un_neg pe_int) (fun _ _ => rfl)) pe_int) pa_nil))) pa_nil))) pa_nil))) (pe_slice sl_tupB (pv 2) (po_some (pe_op op_add (pv 6) pe_int)) po_none)) pa_nil)))) pa_nil)))
    (pss_one (ps_ret (pv 5))))
    pss_nil)
    (pss_one (ps_if (pt_cmpR op_gt (pe_callB call_len_seq (by rfl) T.n_len PySem.boot_len (pa_cons (pv 7) pa_nil)) pe_int (nomark _))
    (pss_cons (ps_expr (pe_bm PySem.F.plainAttrs_list PySem.F.slot_list_append PySem.F.type_list_append mt_append (pv 5) (pa_cons (pe_tup (pa_cons (pv 3) (pa_cons (pv 1) (pa_cons (pe_op op_catB (pe_op op_catB (pe_slice sl_tupB (pv 2) po_none (po_some (pv 6))) (pe_tup (pa_cons (pe_op op_catB (pe_slice sl_tupB (pv 7) po_none (po_some (pe_un un_neg pe_int))) (pe_tup (pa_cons (pe_op op_add (pe_ix ix_tup (pv 7) (pe_un un_neg pe_int) (fun _ _ => rfl)) pe_int) pa_nil))) pa_nil))) (pe_slice sl_tupB (pv 2) (po_some (pe_op op_add (pv 6) pe_int)) po_none)) pa_nil)))) pa_nil)))
    (pss_one (ps_ret (pv 5))))
    pss_nil)))))))
    (pss_one (ps_ret (pv 5)))))))), ?_⟩
    obtain ⟨tk, xs, rfl, htk, hxs⟩ := dp_tup_inv hv
    have hxl : xs.length = ts.length := by rw [dpa_len hxs, List.length_map]
    have big : ∀ n : Nat, n ≤ 200000 → n ≤ sizeLine := fun n h => Nat.le_trans h (by decide)
    obtain ⟨hj1, hj2⟩ := lsJoin_len ok
    have hst : ∀ u, u ∈ ts → PyData.strOk u.w = true := fun u hu => (ok.ts u hu).word.2.2.2.2
    generalize htx : Txt.join "\n" ls = tx at hj1 q
    have hxlen := ok.x.len
    refine ⟨⟨_, rfl⟩, _, rfl, "\n", L, ls, rfl, rfl, .inl (SqL.of hL), Nat.le_trans hj2 (by decide), ?_⟩
    rw [htx]
    -- last
    obtain ⟨us, tl, rfl⟩ := lastL ok.tn
    obtain ⟨xs0, zs, rfl, hx0, hzs⟩ := dpa_split (by rw [List.map_append] at hxs; exact hxs)
    obtain ⟨lv, rfl⟩ : ∃ lv, zs = [lv] := by
      cases hzs with
      | cons h1 h2 =>
        cases h2
        exact ⟨_, rfl⟩
    have hlv : Dp K H lv tl.enc := by
      cases hzs with
      | cons h1 h2 => exact h1
    refine ⟨by show 1 ≤ sizeLine; decide, fun a na => ?_⟩
    generalize hg : upd _ a _ = H1
    obtain ⟨s1, e1⟩ := new_of na hg
    refine ⟨by show 1 ≤ sizeLine; decide, fun b nb => ?_⟩
    generalize hg : upd _ b _ = H2
    obtain ⟨s2, e2⟩ := new_of nb hg
    refine ⟨by show 2 ≤ sizeLine; decide, fun c nc => ?_⟩
    generalize hg : upd _ c _ = H3
    obtain ⟨s3, e3⟩ := new_of nc hg
    have s13 := (s1.trans s2).trans s3
    have hat : atI (xs0 ++ [lv]) (-1) = some lv := atI_last _ _
    refine ⟨_, rfl, _, rfl, tk, _, _, _, rfl, rfl, sqt_same s13 htk, hat, by show 1 ≤ sizeLine; decide, fun e ne => ?_⟩
    generalize hg : upd _ e _ = H4
    obtain ⟨s4, e4⟩ := new_of ne hg
    have s14 := s13.trans s4
    have hon : Dp K H4 (.ref e) tkOn.enc := .tup (SqT.of e4) (.cons (.str _) .nil)
    refine ⟨tl.enc, tkOn.enc, dp_same s14 _ _ hlv, hon, tk_shaped (hst tl (by simp)), tk_shaped (t := tkOn) (by decide +kernel), .inr ⟨_, rfl, ?_⟩⟩
    have hla : ∃ (la : Addr) (lt : Tk), lt ≠ tl ∧ PyData.strOk lt.w = true ∧ Dp K H4 (.ref la) lt.enc ∧ atI ([V.ref a, V.ref b]) (if tl.enc.eqv tkOn.enc = true then 1 else 0) = some (.ref la) := by
      have hx := eqv_nb tl.enc tkOn.enc (nb_tk _) (nb_tk _)
      by_cases h : tl.enc.eqv tkOn.enc = true
      · have := enc_inj (hx.mp h)
        rw [if_pos h, this]
        exact ⟨b, tkOver, (fun h => absurd (congrArg Tk.w h) (by decide +kernel)), by decide +kernel, .tup (SqT.of (s4 _ _ (s3 _ _ e2))) (.cons (.str _) .nil), atI_nat (j := 1) rfl⟩
      · rw [if_neg h]
        exact ⟨a, tkOn, fun h' => h (hx.mpr (by rw [← h'])), by decide +kernel, .tup (SqT.of (s4 _ _ (s3 _ _ (s2 _ _ e1)))) (.cons (.str _) .nil), atI_nat (j := 0) rfl⟩
    obtain ⟨la, lt, ltne, ltst, hla, hlat⟩ := hla
    refine ⟨c, _, _, _, rfl, rfl, SqL.of (s4 _ _ e3), hlat, ?_⟩
    generalize hts' : us ++ [tl] = ts at *
    generalize hxs' : xs0 ++ [lv] = xs at *
    have htk4 := sqt_same s14 htk
    have hxs4 := dpa_same s14 _ _ hxs
    have hdt : ∀ {H' : Hp}, Same H4 H' → Dp K H' (.ref tk) (.tuple (ts.map Tk.enc)) := fun s' => .tup (sqt_same s' htk4) (dpa_same s' _ _ hxs4)
    -- the first three
    have sz : ∀ w : PySem.Str, w.length ≤ 10 → tx.length + w.length ≤ sizeLine := fun w hw => big _ (by omega)
    have sz2 : ∀ w : PySem.Str, w.length ≤ 10 → x.length + w.length ≤ sizeLine := fun w hw => big _ (by omega)
    refine ⟨_, rfl, _, _, rfl, rfl, sz " " (by decide), _, rfl, _, rfl, by show 3 ≤ sizeLine; decide, fun a1 n1 => ?_⟩
    generalize hg : upd _ a1 _ = G1
    obtain ⟨q1, f1⟩ := new_of n1 hg
    refine ⟨_, rfl, _, _, rfl, rfl, sz "\n" (by decide), _, rfl, _, rfl, by show 3 ≤ sizeLine; decide, fun a2 n2 => ?_⟩
    generalize hg : upd _ a2 _ = G2
    obtain ⟨q2, f2⟩ := new_of n2 hg
    refine ⟨_, rfl, _, rfl, _, _, rfl, rfl, sz2 " " (by decide), _, rfl, by show 3 ≤ sizeLine; decide, fun a3 n3 => ?_⟩
    generalize hg : upd _ a3 _ = G3
    obtain ⟨q3, f3⟩ := new_of n3 hg
    refine ⟨by show 3 ≤ sizeLine; decide, fun F0 nF0 => ?_⟩
    generalize hg : upd _ F0 _ = G4
    obtain ⟨q4, f4⟩ := new_of nF0 hg
    have q14 := ((q1.trans q2).trans q3).trans q4
    have ds1 : DpAll K G4 [.ref a1, .ref a2, .ref a3] ([(⟨tx ++ " ", x, ts⟩ : Ot), ⟨tx ++ "\n", x, ts⟩, ⟨tx, x ++ " ", ts⟩].map Ot.enc) :=
      .cons (ot_dp (q4 _ _ (q3 _ _ (q2 _ _ f1))) (hdt q14)) (.cons (ot_dp (q4 _ _ (q3 _ _ f2)) (hdt q14)) (.cons (ot_dp (q4 _ _ f3) (hdt q14)) .nil))
    -- two more
    have hlaG := dp_same q14 _ _ hla
    refine ⟨_, rfl, _, rfl, _, rfl, _, rfl, _, rfl, by show 1 ≤ sizeLine; decide, fun b1 m1 => ?_⟩
    generalize hg : upd _ b1 _ = G5
    obtain ⟨q5, f5⟩ := new_of m1 hg
    have q15 := q14.trans q5
    have htn : ts.length = us.length + 1 := by rw [← hts', List.length_append]; rfl
    refine ⟨tk, b1, _, _, rfl, rfl, sqt_same q15 htk4, SqT.of f5, big _ (by show xs.length + 1 ≤ _; omega), fun b2 G6 q6 f6 => ?_⟩
    refine ⟨by show 3 ≤ sizeLine; decide, fun a4 n4 => ?_⟩
    generalize hg : upd _ a4 _ = G7
    obtain ⟨q7, f7⟩ := new_of n4 hg
    refine ⟨_, rfl, _, rfl, _, rfl, _, rfl, _, rfl, tk, xs, rfl, sqt_same ((q15.trans q6).trans q7) htk4, fun b3 G8 q8 f8 => ?_⟩
    rw [show cutV xs none (some (-1)) = xs0 by rw [← hxs']; exact cut_m1 _ _] at f8
    refine ⟨_, rfl, by show 1 ≤ sizeLine; decide, fun b4 m4 => ?_⟩
    generalize hg : upd _ b4 _ = G9
    obtain ⟨q9, f9⟩ := new_of m4 hg
    have hx0l : xs0.length = us.length := by rw [dpa_len hx0, List.length_map]
    refine ⟨b3, b4, _, _, rfl, rfl, sqt_same q9 f8, SqT.of f9, big _ (by show xs0.length + 1 ≤ _; omega), fun b5 G10 q10 f10 => ?_⟩
    refine ⟨by show 3 ≤ sizeLine; decide, fun a5 n5 => ?_⟩
    generalize hg : upd _ a5 _ = G11
    obtain ⟨q11, f11⟩ := new_of n5 hg
    refine ⟨by show 2 ≤ sizeLine; decide, fun F1 nF1 => ?_⟩
    generalize hg : upd _ F1 _ = G12
    obtain ⟨q12, f12⟩ := new_of nF1 hg
    have q612 := (((((q6.trans q7).trans q8).trans q9).trans q10).trans q11).trans q12
    have q512 := q5.trans q612
    refine ⟨F0, F1, _, _, rfl, rfl, q512 _ _ f4, f12, by show 3 + 2 ≤ sizeLine; decide, fun F2 nF2 => ?_⟩
    generalize hg : upd _ F2 _ = G13
    obtain ⟨q13, f13⟩ := new_of nF2 hg
    have q712 := (((((q7.trans q8).trans q9).trans q10).trans q11).trans q12).trans q13
    have q1012 := ((q10.trans q11).trans q12).trans q13
    have q113 := (q14.trans q512).trans q13
    have d4 : Dp K G13 (.ref a4) (Ot.enc ⟨tx, x, ts ++ [lt]⟩) := by
      refine dp_same (((((q8.trans q9).trans q10).trans q11).trans q12).trans q13) _ _ (ot_dp f7 (.tup (sqt_same q7 f6) ?_))
      rw [List.map_append]
      exact dpa_app (dpa_same ((q15.trans q6).trans q7) _ _ hxs4) (.cons (dp_same (((q5.trans q6).trans q7)) _ _ hlaG) .nil)
    have d5 : Dp K G13 (.ref a5) (Ot.enc ⟨tx, x, us ++ [lt]⟩) := by
      refine dp_same (q12.trans q13) _ _ (ot_dp f11 (.tup (sqt_same q11 f10) ?_))
      rw [List.map_append]
      exact dpa_app (dpa_same (s14.trans (q14.trans ((((((q5.trans q6).trans q7).trans q8).trans q9).trans q10).trans q11))) _ _ hx0) (.cons (dp_same ((((((q5.trans q6).trans q7).trans q8).trans q9).trans q10).trans q11) _ _ hlaG) .nil)
    have nF2H : H F2 = none := (s14.trans (q14.trans q512)).free nF2
    have fi0 : FI K H G13 F2 _ [(⟨tx ++ " ", x, ts⟩ : Ot), ⟨tx ++ "\n", x, ts⟩, ⟨tx, x ++ " ", ts⟩, ⟨tx, x, ts ++ [lt]⟩, ⟨tx, x, us ++ [lt]⟩] :=
      ⟨s14.trans q113, nF2H, f13, dpa_app (dpa_same (q512.trans q13) _ _ ds1) (.cons d4 (.cons d5 .nil))⟩
    have st5 : ∀ u, u ∈ ts ++ [lt] → PyData.strOk u.w = true := fun u hu => by
      rcases List.mem_append.mp hu with hu | hu
      · exact hst u hu
      · rw [List.mem_singleton.mp hu]
        exact ltst
    have ok0 : ∀ o, o ∈ [(⟨tx ++ " ", x, ts⟩ : Ot), ⟨tx ++ "\n", x, ts⟩, ⟨tx, x ++ " ", ts⟩, ⟨tx, x, ts ++ [lt]⟩, ⟨tx, x, us ++ [lt]⟩] → o.ok tx x ts := fun o ho => by
      simp only [List.mem_cons, List.not_mem_nil, or_false] at ho
      rcases ho with rfl | rfl | rfl | rfl | rfl
      · exact ⟨fun h => app_ne tx " " (by decide) h.1, hst⟩
      · exact ⟨fun h => app_ne tx "\n" (by decide) h.1, hst⟩
      · exact ⟨fun h => app_ne x " " (by decide) h.2.1, hst⟩
      · refine ⟨fun h => ?_, st5⟩
        have := congrArg List.length h.2.2
        rw [List.length_append] at this
        have : ts.length + 1 = ts.length := this
        omega
      · refine ⟨fun h => ?_, fun u hu => ?_⟩
        · have h := h.2.2
          rw [← hts'] at h
          have := List.append_cancel_left h
          injection this with this
          exact ltne this
        · rcases List.mem_append.mp hu with hu | hu
          · exact hst u (by rw [← hts']; exact List.mem_append_left _ hu)
          · rw [List.mem_singleton.mp hu]
            exact ltst
    have htk13 := sqt_same (s14.trans q113) htk
    clear hts' hxs' ds1 d4 d5
    have hlen : ((xs.length : Nat) : Int) = (ts.length : Nat) := by rw [hxl]
    refine ⟨_, rfl, tk, _, rfl, .inr htk13, _, rfl, by omega, by omega, ?_⟩
    rw [hlen]
    refine for_range (lo := 0) (n := ((ts.length : Nat) : Int).toNat) (fun i σ H5 => ∃ (F la : Addr) (y6 y7 y8 : Option V) (ys : List V) (os : List Ot), σ = [some (.ref L), some (.str x), some (.ref tk), some (.str tx), some (.ref la), some (.ref F), y6, y7, y8] ∧ FI K H H5 F ys os ∧ os.length ≤ 5 + 2 * i ∧ ∀ o, o ∈ os → o.ok tx x ts)
      ⟨F2, la, _, _, _, _, _, rfl, fi0, Nat.le_refl _, ok0⟩ (fun i σ H5 hi hP => ?_) (fun σ H5 hP => ?_)
    · obtain ⟨F, la, y6, y7, y8, ys, os, rfl, fi, hol, hok⟩ := hP
      have hi' : i < ts.length := by omega
      have hti := List.getElem?_eq_getElem hi'
      generalize ts[i] = t at hti
      have htm := List.mem_of_getElem? hti
      have okt := ok.ts t htm
      have sx := hst t htm
      have hS : ∀ {H' : Hp}, FI K H H' F ys os → SqT K H' tk xs ∧ DpAll K H' xs (ts.map Tk.enc) := fun f => ⟨sqt_same f.s htk, dpa_same f.s _ _ hxs⟩
      obtain ⟨v', g1, g2⟩ := dpa_get' hxs (show (ts.map Tk.enc)[i]? = some t.enc by rw [List.getElem?_map, hti]; rfl)
      have hat : atI xs ((0 : Int) + (i : Nat)) = some v' := by
        rw [Int.zero_add]
        exact atI_nat g1
      refine ⟨_, rfl, _, rfl, tk, _, _, _, rfl, rfl, (hS fi).1, hat, ?_⟩
      obtain ⟨ta, rfl, ht⟩ := tk_inv g2
      have hw : ∃ zs, SqT K H ta (.str t.w :: zs) ∧ (t.d = false → zs = t.ns.map V.int) := by
        rcases ht with ⟨hd, b, h1, _⟩ | ⟨_, h1⟩
        · exact ⟨_, h1, fun h => by rw [hd] at h; cases h⟩
        · exact ⟨_, h1, fun _ => rfl⟩
      obtain ⟨zs, hw, hzs⟩ := hw
      have hz0 : (0 : Int) + (i : Nat) = (i : Nat) := by omega
      -- one more, behind an append
      have add : ∀ (u : Tk) {H' : Hp} {ys : List V} {os : List Ot} {n : Nat}, FI K H H' F ys os → os.length ≤ n → (∀ o, o ∈ os → o.ok tx x ts) → u ≠ t → PyData.strOk u.w = true → ∀ (p p2 : Addr) (H2 : Hp), Same H' H2 → H2 p2 = none → Dp K H2 (.ref p) (.tuple ((ts.take i ++ ([u] ++ ts.drop (i + 1))).map Tk.enc)) →
          FI K H (upd (upd H2 p2 (.tup [.str tx, .str x, .ref p])) F (.lst (ys ++ [.ref p2]))) F (ys ++ [.ref p2]) (os ++ [⟨tx, x, ts.take i ++ ([u] ++ ts.drop (i + 1))⟩]) ∧ (os ++ [(⟨tx, x, ts.take i ++ ([u] ++ ts.drop (i + 1))⟩ : Ot)]).length ≤ n + 1 ∧ ∀ o, o ∈ os ++ [(⟨tx, x, ts.take i ++ ([u] ++ ts.drop (i + 1))⟩ : Ot)] → o.ok tx x ts := fun u H' ys os n f hn hok ne su p p2 H2 s2 n2 hd => by
        have s3 := same_new (o := .tup [.str tx, .str x, .ref p]) n2
        refine ⟨FI.add ((f.same s2).same s3) (ot_dp upd_same (dp_same s3 _ _ hd)), by rw [List.length_append]; exact Nat.succ_le_succ hn, fun o ho => ?_⟩
        rcases List.mem_append.mp ho with ho | ho
        · exact hok o ho
        · rw [List.mem_singleton.mp ho]
          refine ⟨fun h => set_ne hti ne h.2.2, fun w hw => ?_⟩
          rcases List.mem_append.mp hw with hw | hw
          · exact hst w (List.mem_of_mem_take hw)
          · rcases List.mem_append.mp hw with hw | hw
            · rw [List.mem_singleton.mp hw]
              exact su
            · exact hst w (List.mem_of_mem_drop hw)
      refine ⟨fun σ' H' => ∃ (y8 : Option V) (ys : List V) (os : List Ot), σ' = [some (.ref L), some (.str x), some (.ref tk), some (.str tx), some (.ref la), some (.ref F), some (.int ((0 : Int) + (i : Nat))), some (.ref ta), y8] ∧ FI K H H' F ys os ∧ os.length ≤ 5 + 2 * i + 1 ∧ ∀ o, o ∈ os → o.ok tx x ts, ?_, ?_⟩
      · refine ⟨_, rfl, ta, _, _, _, rfl, rfl, sqt_same fi.s hw, atI_nat (j := 0) rfl, by show 3 ≤ sizeLine; decide, fun a na => ?_⟩
        generalize hg : upd _ a _ = H6
        obtain ⟨r6, f6⟩ := new_of na hg
        have fi6 := fi.same r6
        have hw6 := sqt_same fi6.s hw
        refine ⟨a, ([("pair" : PySem.Str), "write", "sorted"]).map V.str, rfl, .inl (SqL.of f6), rfl, flat_strs _, _, rfl, ?_⟩
        rw [inV_strs]
        refine ite2 (fun e => ?_) (fun e => ?_)
        · have e := of_decide_eq_true e
          have hdf : t.d = false := by
            rw [okt.word.2.2.2.1]
            refine decide_eq_false fun h => ?_
            rw [h] at e
            exact absurd e (by decide +kernel)
          have hzs := hzs hdf
          refine ⟨fun σ'' H'' => ∃ wd : PySem.Str, σ'' = [some (.ref L), some (.str x), some (.ref tk), some (.str tx), some (.ref la), some (.ref F), some (.int ((0 : Int) + (i : Nat))), some (.ref ta), some (.str wd)] ∧ Same H6 H'' ∧ wd ≠ t.w ∧ PyData.strOk wd = true, ?_, ?_⟩
          · refine ⟨by show 3 ≤ sizeLine; decide, fun b nb => ?_⟩
            generalize hg : upd _ b _ = H7
            obtain ⟨r7, f7⟩ := new_of nb hg
            refine ⟨by show 3 ≤ sizeLine; decide, fun c nc => ?_⟩
            generalize hg : upd _ c _ = H8
            obtain ⟨r8, f8⟩ := new_of nc hg
            have hb := SqL.of (K := K) (r8 _ _ f7)
            have r68 := r7.trans r8
            have hix : ∃ (j : Nat) (zj wd : PySem.Str), ([V.str "pair", V.str "write", V.str "sorted"] : List V)[j]? = some (.str zj) ∧ zj = t.w ∧ (∀ (m : Nat) (z' : V), m < j → ([V.str "pair", V.str "write", V.str "sorted"] : List V)[m]? = some z' → eqV z' (.str t.w) = false) ∧ ([V.str "all", V.str "either", V.str "below"] : List V)[j]? = some (.str wd) ∧ wd ≠ t.w ∧ PyData.strOk wd = true := by
              simp only [List.mem_cons, List.not_mem_nil, or_false] at e
              rcases e with e | e | e
              · exact ⟨0, "pair", "all", rfl, e.symm, (fun m z' h => absurd h (Nat.not_lt_zero _)), rfl, by rw [e]; decide +kernel, by decide +kernel⟩
              · refine ⟨1, "write", "either", rfl, e.symm, fun m z' h g => ?_, rfl, by rw [e]; decide +kernel, by decide +kernel⟩
                rw [e]
                have hm0 : m = 0 := by omega
                subst hm0
                cases g
                decide +kernel
              · refine ⟨2, "sorted", "below", rfl, e.symm, fun m z' h g => ?_, rfl, by rw [e]; decide +kernel, by decide +kernel⟩
                rw [e]
                have hm0 : m = 0 ∨ m = 1 := by omega
                rcases hm0 with rfl | rfl
                · cases g
                  decide +kernel
                · cases g
                  decide +kernel
            obtain ⟨j, zj, wd, h1, h2, h3, h4, h5, h6⟩ := hix
            refine ⟨.inl ⟨rfl, _, SqL.of f8⟩, _, rfl, ta, _, _, _, rfl, rfl, sqt_same r68 hw6, atI_nat (j := 0) rfl, c, _, .str t.w, j, .str zj, rfl, rfl, SqL.of f8, rfl, rfl, h1, ?_, h3, b, _, _, _, rfl, rfl, hb, atI_nat h4, wd, rfl, r68, h5, h6⟩
            rw [h2]
            show (t.w == t.w) = true
            exact beq_self_eq_true _
          · intro σ'' H'' hN
            obtain ⟨wd, rfl, r7, wne, wst⟩ := hN
            have fi7 := fi6.same r7
            have hw7 := sqt_same fi7.s hw
            refine ⟨_, rfl, .inl ⟨rfl, _, SqL.of fi7.e⟩, _, rfl, _, rfl, mid_read (K := K) (u := ⟨wd, false, t.ns⟩) rfl rfl hz0 (hS fi7).1 (hS fi7).2 (by omega) (fun H8 R s8 k => ?_) (fun p H8 s8 hd => ?_)⟩
            · refine ⟨_, rfl, by show 1 ≤ sizeLine; decide, fun a2 na2 => ?_⟩
              generalize hg : upd _ a2 _ = H9
              obtain ⟨r9, f9⟩ := new_of na2 hg
              refine ⟨_, rfl, 1, rfl, ta, _, rfl, sqt_same (s8.trans r9) hw7, fun p H10 s10 h10 => ?_⟩
              rw [cut1, hzs] at h10
              refine ⟨a2, p, _, _, rfl, rfl, SqT.of (s10 _ _ f9), h10, ?_, fun p' H11 s11 h11 => ?_⟩
              · rw [List.length_map]
                have := okt.le
                exact big _ (by show 1 + _ ≤ _; omega)
              · exact k _ H11 ((r9.trans s10).trans s11) (.tup h11 (.cons (.str wd) (dpa_ints _)))
            · refine ⟨by show 3 ≤ sizeLine; decide, fun p2 n2 => ⟨F, ys, _, rfl, rfl, ?_, ?_, ?_⟩⟩
              · exact same_new n2 _ _ (s8 _ _ fi7.e)
              · rw [fi7.len]
                exact Nat.lt_of_le_of_lt (show os.length ≤ 1000 by omega) (by decide)
              · obtain ⟨c1, c2, c3⟩ := add ⟨wd, false, t.ns⟩ fi7 hol hok (fun h => wne (congrArg Tk.w h)) wst p p2 H8 s8 n2 hd
                exact ⟨_, _, _, rfl, c1, c2, c3⟩
        · exact ⟨_, ys, os, rfl, fi6, by omega, hok⟩
      · intro σ' H' hN
        obtain ⟨y8', ys1, os1, rfl, fi1, hol1, hok1⟩ := hN
        have hS : ∀ {H' : Hp} {ys : List V} {os : List Ot}, FI K H H' F ys os → SqT K H' tk xs ∧ DpAll K H' xs (ts.map Tk.enc) := fun f => ⟨sqt_same f.s htk, dpa_same f.s _ _ hxs⟩
        refine ⟨fun σ' H' => ∃ (y8 : Option V) (ys : List V) (os : List Ot), σ' = [some (.ref L), some (.str x), some (.ref tk), some (.str tx), some (.ref la), some (.ref F), some (.int ((0 : Int) + (i : Nat))), some (.ref ta), y8] ∧ FI K H H' F ys os ∧ os.length ≤ 5 + 2 * i + 2 ∧ ∀ o, o ∈ os → o.ok tx x ts, ?_, ?_⟩
        · refine ⟨_, rfl, ta, _, _, _, rfl, rfl, sqt_same fi1.s hw, atI_nat (j := 0) rfl, rfl, _, rfl, ?_⟩
          rw [dead_dec okt]
          rcases ht with ⟨hd, b, hb1, hb2⟩ | ⟨hd, hb1⟩
          · rw [hd]
            have e1 := sqt_same fi1.s hb1
            have e2 := sqt_same fi1.s hb2
            refine iteT ⟨_, rfl, ta, _, _, _, rfl, rfl, e1, atI_nat (j := 1) rfl, _, rfl, ta, _, _, _, rfl, rfl, e1, atI_nat (j := 1) rfl, b, _, rfl, e2, fun p np => ?_⟩
            rw [← List.map_reverse]
            generalize hg : upd _ p _ = H6
            obtain ⟨r6, f6⟩ := new_of np hg
            have fi6 := fi1.same r6
            have sh : ∀ ns : List Int, SeqAt.shaped (.tuple (ns.map PyData.int)) = true := fun ns => by
              unfold SeqAt.shaped
              rw [Bool.and_eq_true]
              refine ⟨lay_ints ns, decide_eq_true ?_⟩
              show PyData.depthAll (ns.map PyData.int) + 1 ≤ 64
              rw [depth_ints]
              decide
            refine ⟨.tuple (t.ns.map .int), .tuple (t.ns.reverse.map .int), .tup (sqt_same r6 e2) (dpa_ints _), .tup (SqT.of f6) (dpa_ints _), sh _, sh _, _, rfl, ite2 (fun e => ?_) (fun e => ?_)⟩
            · have hne : t.ns.reverse ≠ t.ns := fun h => by
                rw [h, (eqv_nb (.tuple (t.ns.map .int)) (.tuple (t.ns.map .int)) ((nbs_all _).mpr fun d hd => by obtain ⟨n, _, rfl⟩ := List.mem_map.mp hd; rfl) ((nbs_all _).mpr fun d hd => by obtain ⟨n, _, rfl⟩ := List.mem_map.mp hd; rfl)).mpr rfl] at e
                cases e
              have hwd : t.w = "dead" := of_decide_eq_true (by rw [← okt.word.2.2.2.1]; exact hd)
              refine ⟨_, rfl, .inl ⟨rfl, _, SqL.of fi6.e⟩, _, rfl, _, rfl, mid_read (K := K) (u := ⟨t.w, true, t.ns.reverse⟩) rfl rfl hz0 (hS fi6).1 (hS fi6).2 (by omega) (fun H8 R s8 k => ?_) (fun p3 H8 s8 hd3 => ?_)⟩
              · refine ⟨_, rfl, ta, _, _, _, rfl, rfl, sqt_same (fi6.s.trans s8) hb1, atI_nat (j := 1) rfl, b, _, rfl, sqt_same (fi6.s.trans s8) hb2, fun p4 np4 => ?_⟩
                rw [← List.map_reverse]
                generalize hg : upd _ p4 _ = H9
                obtain ⟨r9, f9⟩ := new_of np4 hg
                refine ⟨by show 2 ≤ sizeLine; decide, fun a2 na2 => ?_⟩
                generalize hg : upd _ a2 _ = H10
                obtain ⟨r10, f10⟩ := new_of na2 hg
                refine k _ H10 (r9.trans r10) ?_
                rw [hwd]
                exact dp_tup2 f10 (.str _) (dp_same r10 _ _ (.tup (SqT.of f9) (dpa_ints _)))
              · refine ⟨by show 3 ≤ sizeLine; decide, fun p2 n2 => ⟨F, ys1, _, rfl, rfl, ?_, ?_, ?_⟩⟩
                · exact same_new n2 _ _ (s8 _ _ fi6.e)
                · rw [fi6.len]
                  exact Nat.lt_of_le_of_lt (show os1.length ≤ 1000 by omega) (by decide)
                · obtain ⟨c1, c2, c3⟩ := add ⟨t.w, true, t.ns.reverse⟩ fi6 hol1 hok1 (fun h => hne (congrArg Tk.ns h)) sx p3 p2 H8 s8 n2 hd3
                  exact ⟨_, _, _, rfl, c1, c2, c3⟩
            · exact ⟨_, ys1, os1, rfl, fi6, by omega, hok1⟩
          · rw [hd]
            exact iteF (iteF ⟨_, ys1, os1, rfl, fi1, by omega, hok1⟩)
        · intro σ' H' hN
          obtain ⟨y8'', ys2, os2, rfl, fi2, hol2, hok2⟩ := hN
          refine ⟨_, rfl, ta, _, _, _, rfl, rfl, sqt_same fi2.s hw, atI_nat (j := 0) rfl, rfl, _, rfl, ?_⟩
          rw [dead_dec okt]
          rcases ht with ⟨hd, b, hb1, hb2⟩ | ⟨hd, hb1⟩
          · rw [hd]
            refine iteT ?_
            obtain ⟨ns0, m, hns⟩ := lastL (okt.ne hd)
            rw [hns, List.map_append] at hb2
            have hb2 : SqT K H b (ns0.map V.int ++ [V.int m]) := hb2
            have hns0 : ns0.length ≤ 7 := by
              have := okt.le
              rw [hns, List.length_append] at this
              omega
            have hwd : t.w = "dead" := of_decide_eq_true (by rw [← okt.word.2.2.2.1]; exact hd)
            refine ⟨_, rfl, .inl ⟨rfl, _, SqL.of fi2.e⟩, _, rfl, _, rfl, mid_read (K := K) (u := ⟨t.w, true, ns0 ++ [m + 1]⟩) rfl rfl hz0 (hS fi2).1 (hS fi2).2 (by omega) (fun H8 R s8 k => ?_) (fun p3 H8 s8 hd3 => ?_)⟩
            · refine ⟨_, rfl, ta, _, _, _, rfl, rfl, sqt_same (fi2.s.trans s8) hb1, atI_nat (j := 1) rfl, _, rfl, _, rfl, b, _, rfl, sqt_same (fi2.s.trans s8) hb2, fun p4 H9 r9 f9 => ?_⟩
              rw [cut_m1] at f9
              have s89 := (fi2.s.trans s8).trans r9
              refine ⟨_, rfl, ta, _, _, _, rfl, rfl, sqt_same s89 hb1, atI_nat (j := 1) rfl, _, rfl, b, _, _, _, rfl, rfl, sqt_same s89 hb2, atI_last _ _, _, _, rfl, rfl, by show 1 ≤ sizeLine; decide, fun a2 na2 => ?_⟩
              generalize hg : upd _ a2 _ = H10
              obtain ⟨r10, f10⟩ := new_of na2 hg
              refine ⟨p4, a2, _, _, rfl, rfl, sqt_same r10 f9, SqT.of f10, ?_, fun p5 H11 r11 f11 => ?_⟩
              · rw [List.length_map]
                exact big _ (by show ns0.length + 1 ≤ _; omega)
              refine ⟨by show 2 ≤ sizeLine; decide, fun a3 na3 => ?_⟩
              generalize hg : upd _ a3 _ = H12
              obtain ⟨r12, f12⟩ := new_of na3 hg
              refine k _ H12 (((r9.trans r10).trans r11).trans r12) ?_
              rw [hwd]
              refine dp_tup2 f12 (.str _) (dp_same r12 _ _ (.tup f11 ?_))
              rw [List.map_append]
              exact dpa_app (dpa_ints _) (.cons (.int _) .nil)
            · refine ⟨by show 3 ≤ sizeLine; decide, fun p2 n2 => ⟨F, ys2, _, rfl, rfl, ?_, ?_, ?_⟩⟩
              · exact same_new n2 _ _ (s8 _ _ fi2.e)
              · rw [fi2.len]
                exact Nat.lt_of_le_of_lt (show os2.length ≤ 1000 by omega) (by decide)
              · obtain ⟨c1, c2, c3⟩ := add ⟨t.w, true, ns0 ++ [m + 1]⟩ fi2 hol2 hok2 (fun h => by
                  have := congrArg Tk.ns h
                  rw [hns] at this
                  have := List.append_cancel_left this
                  injection this with this
                  omega) sx p3 p2 H8 s8 n2 hd3
                exact ⟨_, rfl, q F _ _ _ c1 c3 (by omega)⟩
          · rw [hd]
            refine iteF ?_
            have hzs := hzs hd
            subst hzs
            refine ⟨_, rfl, ta, _, rfl, .inr (sqt_same fi2.s hw), _, _, rfl, rfl, _, rfl, ite2 (fun e => ?_) (fun e => ?_)⟩
            · have e := of_decide_eq_true e
              rw [List.length_cons, List.length_map] at e
              have hne : t.ns ≠ [] := fun h => by
                rw [h] at e
                exact absurd e (by decide)
              obtain ⟨ns0, m, hns⟩ := lastL hne
              rw [hns, List.map_append] at hw
              have hw : SqT K H ta ((.str t.w :: ns0.map V.int) ++ [V.int m]) := hw
              have hns0 : ns0.length ≤ 7 := by
                have := okt.le
                rw [hns, List.length_append] at this
                omega
              refine ⟨_, rfl, .inl ⟨rfl, _, SqL.of fi2.e⟩, _, rfl, _, rfl, mid_read (K := K) (u := ⟨t.w, false, ns0 ++ [m + 1]⟩) rfl rfl hz0 (hS fi2).1 (hS fi2).2 (by omega) (fun H8 R s8 k => ?_) (fun p3 H8 s8 hd3 => ?_)⟩
              · refine ⟨_, rfl, _, rfl, _, rfl, ta, _, rfl, sqt_same (fi2.s.trans s8) hw, fun p4 H9 r9 f9 => ?_⟩
                rw [cut_m1] at f9
                have s89 := (fi2.s.trans s8).trans r9
                refine ⟨_, rfl, _, rfl, ta, _, _, _, rfl, rfl, sqt_same s89 hw, atI_last _ _, _, _, rfl, rfl, by show 1 ≤ sizeLine; decide, fun a2 na2 => ?_⟩
                generalize hg : upd _ a2 _ = H10
                obtain ⟨r10, f10⟩ := new_of na2 hg
                refine ⟨p4, a2, _, _, rfl, rfl, sqt_same r10 f9, SqT.of f10, ?_, fun p5 H11 r11 f11 => ?_⟩
                · rw [List.length_cons, List.length_map]
                  exact big _ (by show ns0.length + 1 + 1 ≤ _; omega)
                refine k _ H11 ((r9.trans r10).trans r11) (.tup f11 (.cons (.str _) ?_))
                rw [if_neg Bool.false_ne_true, List.map_append]
                exact dpa_app (dpa_ints _) (.cons (.int _) .nil)
              · refine ⟨by show 3 ≤ sizeLine; decide, fun p2 n2 => ⟨F, ys2, _, rfl, rfl, ?_, ?_, ?_⟩⟩
                · exact same_new n2 _ _ (s8 _ _ fi2.e)
                · rw [fi2.len]
                  exact Nat.lt_of_le_of_lt (show os2.length ≤ 1000 by omega) (by decide)
                · obtain ⟨c1, c2, c3⟩ := add ⟨t.w, false, ns0 ++ [m + 1]⟩ fi2 hol2 hok2 (fun h => by
                    have := congrArg Tk.ns h
                    rw [hns] at this
                    have := List.append_cancel_left this
                    injection this with this
                    omega) sx p3 p2 H8 s8 n2 hd3
                  exact ⟨_, rfl, q F _ _ _ c1 c3 (by omega)⟩
            · exact ⟨F, la, _, _, _, ys2, os2, rfl, fi2, by omega, hok2⟩
    · obtain ⟨F, la, y6, y7, y8, ys, os, rfl, fi, hol, hok⟩ := hP
      exact ⟨_, rfl, q F ys os H5 fi hok (by omega)⟩
end
end SW

namespace SW
open PySem PySem.Spec PyProof.Rows L2
abbrev s_l_told : Stmt := topS 26
theorem sc_l_told : FnScope ["paper"] ["paper"] (defScope s_l_told) := ⟨rfl, rfl, rfl, by decide +kernel, rfl, by decide +kernel, by decide +kernel⟩

def toldD (z x : PySem.Str) (ts : List Tk) : PyData := .tuple [.str z, .str x, .tuple (ts.map Tk.enc)]
structure ToldOk (z x : PySem.Str) (ts : List Tk) : Prop where
  zl : z.length ≤ 101000
  zc : ∀ c, c ∈ z.cps.toList → c < 128
  x : LnOk x
  tm : ts.length ≤ 1000
  ts : ∀ t, t ∈ ts → t.ok
theorem PpOk.told {ls : List PySem.Str} {x : PySem.Str} {ts : List Tk} (h : PpOk ls x ts) : ToldOk (Txt.join "\n" ls) x ts := by
  refine ⟨(lsJoin_len h).1, fun c hc => ?_, h.x, h.tm, h.ts⟩
  rcases join_mem hc with hc | ⟨p, hp, hc⟩
  · have : c ∈ [10] := hc
    rw [List.mem_singleton.mp this]
    decide
  · exact ((h.ls p hp).ch c hc).2
theorem smW_str {z : PySem.Str} (h : ∀ c, c ∈ z.cps.toList → c < 128) : smW (.str z) = true := by
  unfold smW
  rw [List.all_eq_true]
  intro c hc
  have := h c hc
  exact decide_eq_true (by omega)
theorem Tk.ok.sm {t : Tk} (h : t.ok) : smW t.enc = true ∧ shW t.enc ≤ 1000 := by
  have hw : smW (.str t.w) = true := smW_str fun c hc => by
    have := h.word.2.1 c hc
    omega
  have hwl := h.word.1
  have hi : smWs (t.ns.map PyData.int) = true := smWs_map _ _ fun n hn => by
    have := h.ns n hn
    have h1 := this.1
    have h2 := this.2
    exact decide_eq_true (by omega)
  have hs := shWs_map PyData.int 70 t.ns fun n _ => Nat.le_refl _
  have hl := h.le
  unfold Tk.enc
  cases t.d with
  | true =>
    rw [if_pos rfl]
    refine ⟨?_, ?_⟩
    · show (smW (.str t.w) && (smWs (t.ns.map PyData.int) && true)) = true
      rw [hw, hi]
      rfl
    · show 10 * t.w.length + 2 + 10 + (shWs (t.ns.map PyData.int) + 10 + 10 + 0) + 10 ≤ 1000
      omega
  | false =>
    rw [if_neg Bool.false_ne_true]
    refine ⟨?_, ?_⟩
    · show (smW (.str t.w) && smWs (t.ns.map PyData.int)) = true
      rw [hw, hi]
      rfl
    · show 10 * t.w.length + 2 + 10 + shWs (t.ns.map PyData.int) + 10 ≤ 1000
      omega
theorem told_sm {z x : PySem.Str} {ts : List Tk} (h : ToldOk z x ts) : smW (toldD z x ts) = true ∧ (toldD z x ts).depth ≤ 60 ∧ shW (toldD z x ts) ≤ sizeLine := by
  have hx := h.x
  refine ⟨?_, ?_, ?_⟩
  · show (smW (.str z) && (smW (.str x) && (smWs (ts.map Tk.enc) && true))) = true
    rw [smW_str h.zc, smW_str fun c hc => (hx.ch c hc).2, smWs_map _ _ fun t ht => (h.ts t ht).sm.1]
    rfl
  · obtain ⟨_, h2⟩ := tks_shape (us := ts) fun u hu => (h.ts u hu).word.2.2.2.2
    show max 0 (max 0 (max (PyData.depthAll (ts.map Tk.enc) + 1) 0)) + 1 ≤ 60
    omega
  · have h1 := shWs_map Tk.enc 1000 ts fun t ht => (h.ts t ht).sm.2
    have h2 := h.zl
    have h3 := hx.len
    have h4 := h.tm
    have h5 : ts.length * (1000 + 10) ≤ 1000 * 1010 := Nat.mul_le_mul_right _ h4
    show 10 * z.length + 2 + 10 + (10 * x.length + 2 + 10 + (shWs (ts.map Tk.enc) + 10 + 10 + 0)) + 10 ≤ sizeLine
    exact Nat.le_trans (show _ ≤ 3000000 by omega) (by decide)
section
variable {P : Program} {w : World} {K : PySem.W.Frag} {mg : PySem.Str → Option Value} {base : Heap} {C : Addr} {Kn : PySem.Str → Prop}
def spTold (K : PySem.W.Frag) (C : Addr) : Sp := fun vs H Q _ => ∃ (p : Addr) (z x : PySem.Str) (ts : List Tk), vs = [.ref p] ∧ PpAt K C H p z x (ts.map Tk.enc) ∧ ToldOk z x ts ∧ ∀ H', Same H H' → Q (.str (toldD z x ts).shown) H'
theorem N_l_told : ∀ vs H Q E, spTold K C vs H Q E → vs.length = (["paper"] : List PySem.Str).length := fun vs H Q E h => by
  obtain ⟨p, z, x, ts, rfl, _⟩ := h
  rfl
theorem ok_l_told (T : TxP K w mg C Kn) (D_l_told : Df K mg "_law_told" s_l_told ["paper"]) : FnOkG P w K mg base CX0 1 D_l_told.f D_l_told.fd ["paper"] (spTold K C) := by
  refine Fun.okG D_l_told.F sc_l_told (fun vs H Q E h => N_l_told vs H Q E h) (fun cdv A outer s H vs Q E hg hr h => ?_)
  obtain ⟨p, z, x, ts, rfl, ⟨dx, v, hp, hv⟩, hok, q⟩ := h
  refine ⟨_, (pss_one (ps_ret (pe_callB (call_reprW hg hr.units) (by rfl) T.n_repr (by decide +kernel) (pa_cons (pe_tup (pa_cons (pe_fld (pv 0) rfl) (pa_cons (pe_fld (pv 0) rfl) (pa_cons (pe_fld (pv 0) rfl) pa_nil)))) pa_nil)))), ?_⟩
  refine ⟨_, rfl, p, C, dx, _, _, rfl, hp, T.cl, T.nT, rfl, _, rfl, p, C, dx, _, _, rfl, hp, T.cl, T.nN, rfl, _, rfl, p, C, dx, _, _, rfl, hp, T.cl, T.nK, rfl, by show 3 ≤ sizeLine; decide, fun t nt => ?_⟩
  generalize hg2 : upd _ t _ = H1
  obtain ⟨s1, e1⟩ := new_of nt hg2
  obtain ⟨h1, h2, h3⟩ := told_sm hok
  exact ⟨t, toldD z x ts, rfl, dp_tup3 e1 (.str z) (.str x) (dp_same s1 _ _ hv), h1, h2, h3, q H1 s1⟩
end
end SW

namespace SW
open PySem PySem.Spec PyProof.Rows L2
abbrev s_law : Stmt := topS 27
theorem sc_law : FnScope ["script", "hand", "lines", "name", "tokens", "paper", "due", "rows", "t", "text", "back", "one", "other"] ["script"] (defScope s_law) := ⟨rfl, rfl, rfl, by decide +kernel, rfl, by decide +kernel, by decide +kernel⟩

structure CkS (K : PySem.W.Frag) (C : Addr) where
  f : Addr
  fd : FuncData
  F : Fun K "same" "Paper.same" s_same f fd
  b : Binds K fd ["self", "other"] []
  M : Meth K C "same" f
def KnW (z : PySem.Str) : Prop := z ∈ kinds.map (·.1)
theorem knw_tok {t : Tk} (h : t.ok) : KnW t.w := by
  obtain ⟨k, h1, _⟩ := h.kd
  exact List.mem_map.mpr ⟨_, h1, rfl⟩
theorem pp_same {K : PySem.W.Frag} {C : Addr} {H : Hp} {p : Addr} {z x : PySem.Str} {ds : List PyData} (a : PpAt K C H p z x ds) : ∃ dx fs, H p = some (.ins C dx fs) ∧ fs.lookup ("same" : PySem.Str) = none := by
  obtain ⟨dx, v, h1, h2⟩ := a
  exact ⟨dx, _, h1, rfl⟩
section
variable {P : Program} {w : World} {K : PySem.W.Frag} {mg : PySem.Str → Option Value} {base : Heap} {C : Addr}
def spLaw (K : PySem.W.Frag) : Sp := fun vs H Q _ => ∃ (a : Addr) (ns : List Int), vs = [.ref a] ∧ SqL K H a (ns.map V.int) ∧ ns.length ≤ 63 ∧ ∀ H', Q (.bl true) H'
theorem ok_law (T : TxP K w mg C KnW) (c_Paper : CkP K C) (c_same : CkS K C) (D_law : Df K mg "law" s_law ["script"]) (D_write_paper : Df K mg "write_paper" s_write_paper ["paper"]) (D_read_paper : Df K mg "read_paper" s_read_paper ["text"]) (D_write_token : Df K mg "_write_token" s_write_token ["token"]) (D_read_many : Df K mg "_read_many" s_read_many ["row"]) (D_read_token : Df K mg "_read_token" s_read_token ["row"]) (D_is_number : Df K mg "_is_number" s_is_number ["word"]) (D_l_draws : Df K mg "_law_draws" s_l_draws ["script", "many"]) (D_l_take : Df K mg "_law_take" s_l_take ["hand", "many"]) (D_l_wide : Df K mg "_law_wide" s_l_wide ["hand", "many"]) (D_l_number : Df K mg "_law_number" s_l_number ["hand"]) (D_l_line : Df K mg "_law_line" s_l_line ["hand"]) (D_l_token : Df K mg "_law_token" s_l_token ["hand"]) (D_l_lines : Df K mg "_law_lines" s_l_lines ["hand"]) (D_l_rows : Df K mg "_law_rows" s_l_rows ["lines", "name", "tokens"]) (D_l_tokens : Df K mg "_law_tokens" s_l_tokens ["hand"]) (D_l_others : Df K mg "_law_others" s_l_others ["lines", "name", "tokens"]) (D_l_told : Df K mg "_law_told" s_l_told ["paper"]) : FnOkG P w K mg base CX0 6 D_law.f D_law.fd ["script"] (spLaw K) := by
  have G_write_paper := ok_write_paper (P := P) (w := w) (base := base) T D_write_paper D_write_token
  have G_read_paper := ok_read_paper (P := P) (w := w) (base := base) T c_Paper D_read_paper D_read_many D_read_token D_is_number
  have G_l_draws := ok_l_draws (P := P) (w := w) (base := base) T.toTxB D_l_draws
  have G_l_line := ok_l_line (P := P) (w := w) (base := base) T.toTxB D_l_line D_l_take
  have G_l_lines := ok_l_lines (P := P) (w := w) (base := base) T.toTxB D_l_lines D_l_line D_l_take
  have G_l_tokens := ok_l_tokens (P := P) (w := w) (base := base) T.toTxB D_l_tokens D_l_token D_l_number D_l_wide D_l_take
  have G_l_rows := ok_l_rows (P := P) (w := w) (base := base) T.toTxB D_l_rows
  have G_l_others := ok_l_others (P := P) (w := w) (base := base) T.toTxB D_l_others
  have G_l_told := ok_l_told (P := P) (w := w) (base := base) T D_l_told
  have N_l_told := @N_l_told K C
  have M_Paper := c_Paper.M
  have G_Paper := ok_Paper (P := P) (w := w) (base := base) (mg := mg) c_Paper.F T
  have b_Paper := c_Paper.b
  have G_same := ok_same (P := P) (w := w) (base := base) (mg := mg) c_same.F T
  have m_same := c_same.M
  have b_same := c_same.b
  refine Fun.okG D_law.F sc_law (fun vs H Q E h => ?_) (fun cdv A outer s H vs Q E hg hr h => ?_)
  · obtain ⟨a, ns, rfl, _⟩ := h
    rfl
  · obtain ⟨a, scr, rfl, hS, hnl, q⟩ := h
    refine ⟨_, (pss_cons (ps_set (i := 1) sc_law.nd rfl (.inl rfl) (pe_lst (pa_cons (pe_call G_l_draws (hr.mono (by decide)) (by rfl) D_l_draws.g D_l_draws.F.kp D_l_draws.b .nil pass0 (pa_cons (pv 0) (pa_cons pe_int pa_nil))) (pa_cons pe_int pa_nil))))
    (pss_cons (ps_set (i := 2) sc_law.nd rfl (.inl rfl) (pe_call G_l_lines (hr.mono (by decide)) (by rfl) D_l_lines.g D_l_lines.F.kp D_l_lines.b .nil pass0 (pa_cons (pv 1) pa_nil)))
    (pss_cons (ps_set (i := 3) sc_law.nd rfl (.inl rfl) (pe_call G_l_line (hr.mono (by decide)) (by rfl) D_l_line.g D_l_line.F.kp D_l_line.b .nil pass0 (pa_cons (pv 1) pa_nil)))
    (pss_cons (ps_set (i := 4) sc_law.nd rfl (.inl rfl) (pe_call G_l_tokens (hr.mono (by decide)) (by rfl) D_l_tokens.g D_l_tokens.F.kp D_l_tokens.b .nil pass0 (pa_cons (pv 1) pa_nil)))
    (pss_cons (ps_set (i := 5) sc_law.nd rfl (.inl rfl) (pe_make M_Paper G_Paper (hr.mono (by decide)) rfl T.mg_Paper b_Paper .nil pass0 (pa_cons (pe_join pe_str (pv 2)) (pa_cons (pv 3) (pa_cons (pv 4) pa_nil)))))
    (pss_cons (ps_set (i := 6) sc_law.nd rfl (.inl rfl) (pe_callB (call_reprW hg hr.units) (by rfl) T.n_repr (by decide +kernel) (pa_cons (pe_tup (pa_cons (pe_join pe_str (pv 2)) (pa_cons (pv 3) (pa_cons (pv 4) pa_nil)))) pa_nil)))
    (pss_cons (ps_set (i := 7) sc_law.nd rfl (.inl rfl) (pe_call G_l_rows (hr.mono (by decide)) (by rfl) D_l_rows.g D_l_rows.F.kp D_l_rows.b .nil pass0 (pa_cons (pv 2) (pa_cons (pv 3) (pa_cons (pv 4) pa_nil)))))
    (pss_cons (ps_for PassesOwn.never rfl (pi_range1 (by rfl) T.n_range (pa_cons pe_int pa_nil)) (pg_name (i := 8) sc_law.nd rfl (.inl rfl))
    (pss_cons (ps_set (i := 9) sc_law.nd rfl (.inl rfl) (pe_call G_write_paper (hr.mono (by decide)) (by rfl) D_write_paper.g D_write_paper.F.kp D_write_paper.b .nil pass0 (pa_cons (pv 5) pa_nil)))
    (pss_cons (ps_if (PW.pt (pw_or (pt_not (pt_val (pe_callB call_isi (by rfl) T.n_isinstance (by decide +kernel) (pa_cons (pv 9) (pa_cons (pe_bltn (v := .ty "str") (u := .type "str") (by rfl) T.n_str (by decide +kernel) rfl) pa_nil))))) (pw_or (pt_cmpR op_ne (pv 9) (pe_join pe_str (pv 7)) (nomark _)) (pw_or1 (pt_cmpR op_ne (pe_callG hg N_l_told G_l_told (hr.mono (by decide)) (by rfl) D_l_told.g D_l_told.F.kp D_l_told.b .nil pass0 (pa_cons (pv 5) pa_nil)) (pv 6) (nomark _))))))
    (pss_one (ps_ret pe_bl))
    pss_nil)
    (pss_cons (ps_set (i := 10) sc_law.nd rfl (.inl rfl) (pe_call G_read_paper (hr.mono (by decide)) (by rfl) D_read_paper.g D_read_paper.F.kp D_read_paper.b .nil pass0 (pa_cons (pv 9) pa_nil)))
    (pss_cons (ps_if (PW.pt (pw_or (pt_not (pt_val (pe_callB call_isi (by rfl) T.n_isinstance (by decide +kernel) (pa_cons (pv 10) (pa_cons (pe_glob (v := .ref C) rfl T.mg_Paper rfl) pa_nil))))) (pw_or1 (pt_cmpR op_ne (pe_callG hg N_l_told G_l_told (hr.mono (by decide)) (by rfl) D_l_told.g D_l_told.F.kp D_l_told.b .nil pass0 (pa_cons (pv 10) pa_nil)) (pv 6) (nomark _)))))
    (pss_one (ps_ret pe_bl))
    pss_nil)
    (pss_cons (ps_if (PW.pt (pw_or (pt_cmpR op_notBl (pe_meth (pv 10) T.cl m_same G_same (hr.mono (by decide)) b_same .nil pass0 (pa_cons (pv 5) pa_nil)) pe_bl (nomark _)) (pw_or (pt_cmpR op_notBl (pe_meth (pv 5) T.cl m_same G_same (hr.mono (by decide)) b_same .nil pass0 (pa_cons (pv 10) pa_nil)) pe_bl (nomark _)) (pw_or1 (pt_cmpR op_ne (pe_callG hg N_l_told G_l_told (hr.mono (by decide)) (by rfl) D_l_told.g D_l_told.F.kp D_l_told.b .nil pass0 (pa_cons (pv 10) pa_nil)) (pv 6) (nomark _))))))
    (pss_one (ps_ret pe_bl))
    pss_nil)
    (pss_one (ps_for PassesOwn.never rfl (pi_list (pe_call G_l_others (hr.mono (by decide)) (by rfl) D_l_others.g D_l_others.F.kp D_l_others.b .nil pass0 (pa_cons (pv 2) (pa_cons (pv 3) (pa_cons (pv 4) pa_nil))))) (pg_name (i := 11) sc_law.nd rfl (.inl rfl))
    (pss_cons (ps_set (i := 12) sc_law.nd rfl (.inl rfl) (pe_make M_Paper G_Paper (hr.mono (by decide)) rfl T.mg_Paper b_Paper .nil pass0 (pa_cons (pe_ix ix_tup (pv 11) pe_int (fun _ _ => rfl)) (pa_cons (pe_ix ix_tup (pv 11) pe_int (fun _ _ => rfl)) (pa_cons (pe_ix ix_tup (pv 11) pe_int (fun _ _ => rfl)) pa_nil)))))
    (pss_one (ps_if (PW.pt (pw_or (pt_cmpR op_notBl (pe_meth (pv 5) T.cl m_same G_same (hr.mono (by decide)) b_same .nil pass0 (pa_cons (pv 12) pa_nil)) pe_bl (nomark _)) (pw_or1 (pt_cmpR op_notBl (pe_meth (pv 12) T.cl m_same G_same (hr.mono (by decide)) b_same .nil pass0 (pa_cons (pv 10) pa_nil)) pe_bl (nomark _)))))
    (pss_one (ps_ret pe_bl))
    pss_nil)))))))))))
    (pss_one (ps_ret pe_bl)))))))))), ?_⟩
    -- the hand
    refine ⟨_, rfl, a, scr, 190, rfl, hS, by omega, by decide, fun D ds H1 s1 nD eD => ?_⟩
    refine ⟨by show 2 ≤ sizeLine; decide, fun h nh => ?_⟩
    generalize hG : upd H1 h _ = H2
    obtain ⟨s2, e2⟩ := new_of nh hG
    have hH : Hand H2 h D ds := ⟨⟨0, e2⟩, s2 _ _ eD, ne_of_none eD nh⟩
    -- drawn
    refine ⟨_, rfl, h, D, ds, rfl, hH, fun L ls H3 lne ll lok b3 h3 hLh eL => ?_⟩
    refine ⟨_, rfl, h, D, ds, rfl, h3, fun x H4 xok b4 h4 => ?_⟩
    refine ⟨_, rfl, h, D, ds, rfl, h4, fun v ts H5 tne tl tok b5 h5 hv => ?_⟩
    have eL5 := b5 _ _ hLh (b4 _ _ hLh eL)
    have ok : PpOk ls x ts := ⟨lne, by omega, lok, xok, tne, by omega, tok⟩
    have tok' := ok.told
    have hj := lsJoin_len ok
    have jl : (ls.map (·.length)).sum + ls.length * ("\n" : PySem.Str).length ≤ 16777216 := Nat.le_trans hj.2 (by decide)
    clear b3 b4 b5 h3 h4 h5 hH s2 s1 eL
    -- paper
    refine ⟨⟨_, rfl⟩, _, rfl, "\n", L, ls, rfl, rfl, .inl (SqL.of eL5), jl, _, rfl, _, rfl, ?_⟩
    intro p dx np ndx ne
    refine ⟨p, dx, _, _, _, rfl, upd_same, fun H6 k e6 => ⟨rfl, ?_⟩⟩
    have s6 : Same H5 H6 := fun b o e => k b o (ne_of_none e np) ((upd_ne (ne_of_none e np)).trans ((upd_ne (ne_of_none e ndx)).trans e))
    have hv6 := dp_same s6 _ _ hv
    have pp : PpAt K C H6 p (Txt.join "\n" ls) x (ts.map Tk.enc) := ⟨dx, v, e6, hv6⟩
    have eL6 := s6 _ _ eL5
    -- due
    refine ⟨⟨_, rfl⟩, _, rfl, "\n", L, ls, rfl, rfl, .inl (SqL.of eL6), jl, _, rfl, _, rfl, by show 3 ≤ sizeLine; decide, fun t nt => ?_⟩
    generalize hG : upd H6 t _ = H7
    obtain ⟨s7, e7⟩ := new_of nt hG
    obtain ⟨g1, g2, g3⟩ := told_sm tok'
    refine ⟨t, toldD (Txt.join "\n" ls) x ts, rfl, dp_tup3 e7 (.str _) (.str _) (dp_same s7 _ _ hv6), g1, g2, g3, ?_⟩
    -- rows
    refine ⟨_, rfl, _, rfl, _, rfl, L, ls, x, v, ts, rfl, ok, s7 _ _ eL6, dp_same s7 _ _ hv6, fun R H8 s8 eR => ?_⟩
    have pp8 := (pp.same s7).same s8
    have eL8 := s8 _ _ (s7 _ _ eL6)
    have hv8 := dp_same s8 _ _ (dp_same s7 _ _ hv6)
    clear s6 s7 s8 e6 e7 k pp hv6 eL6 hv eL5
    generalize htx : Txt.join "\n" ls = tx at *
    refine ⟨_, rfl, by decide, by decide, ?_⟩
    refine for_range (lo := 0) (n := 2) (fun i σ H9 => ∃ (y8 y9 y10 y11 y12 : Option V), σ = [some (.ref a), some (.ref h), some (.ref L), some (.str x), some v, some (.ref p), some (.str (toldD tx x ts).shown), some (.ref R), y8, y9, y10, y11, y12] ∧ Same H8 H9)
      ⟨_, _, _, _, _, rfl, Same.refl _⟩ (fun i σ H9 hi hP => ?_) (fun σ H9 hP => ?_)
    · obtain ⟨y8, y9, y10, y11, y12, rfl, s9⟩ := hP
      -- text
      refine ⟨_, rfl, p, ls, x, ts, rfl, ok, by rw [htx]; exact pp8.same s9, fun H10 s10 => ?_⟩
      refine ⟨_, rfl, .str _, .ty "str", .type "str", .type "str", true, rfl, .ty _, .base (.str _), kit_ty (by decide +kernel), true, rfl, iteF ?_⟩
      have eR10 := s10 _ _ (s9 _ _ eR)
      refine ⟨_, rfl, ⟨_, rfl⟩, _, rfl, "\n", R, _, rfl, rfl, .inl (SqL.of eR10), pRows_join ok, rfl, _, rfl, iteNS rfl ?_⟩
      have pp10 := (pp8.same s9).same s10
      refine ⟨_, rfl, p, tx, x, ts, rfl, pp10, tok', fun H11 s11 => ⟨_, rfl, rfl, _, rfl, iteNS rfl ?_⟩⟩
      -- back
      refine ⟨_, rfl, ls, x, ts, rfl, ok, fun t ht => knw_tok (tok t ht), fun r H12 s12 nr ppr => ?_⟩
      rw [htx] at ppr
      have pp12 := (pp10.same s11).same s12
      obtain ⟨dxr, vr, er, hvr⟩ := ppr
      refine ⟨_, rfl, .ref r, .ref C, .ref C, .ref C, true, rfl, .own C, .base (.ins er T.cl T.hc T.hg T.ht T.hm), T.kC, true, rfl, iteF ?_⟩
      have ppr : PpAt K C H12 r tx x (ts.map Tk.enc) := ⟨dxr, vr, er, hvr⟩
      refine ⟨_, rfl, r, tx, x, ts, rfl, ppr, tok', fun H13 s13 => ⟨_, rfl, rfl, _, rfl, iteNS rfl ?_⟩⟩
      have pp13 := pp12.same s13
      have ppr13 := ppr.same s13
      have nb1 := nbs_tks ts
      have sh1 := tks_shaped (us := ts) fun u hu => (tok u hu).word.2.2.2.2
      obtain ⟨dy, fy, hy1, hy2⟩ := pp_same ppr13
      obtain ⟨dz, fz, hz1, hz2⟩ := pp_same pp13
      refine ⟨_, rfl, r, dy, fy, rfl, hy1, hy2, _, rfl, r, p, tx, x, tx, x, _, _, rfl, ppr13, pp13, nb1, nb1, sh1, sh1, fun b hb => ⟨b, true, rfl, rfl, _, rfl, ?_⟩⟩
      rw [hb.mpr ⟨rfl, rfl, rfl⟩]
      refine iteF ?_
      refine ⟨_, rfl, p, dz, fz, rfl, hz1, hz2, _, rfl, p, r, tx, x, tx, x, _, _, rfl, pp13, ppr13, nb1, nb1, sh1, sh1, fun b hb => ⟨b, true, rfl, rfl, _, rfl, ?_⟩⟩
      rw [hb.mpr ⟨rfl, rfl, rfl⟩]
      refine iteF ?_
      refine ⟨_, rfl, r, tx, x, ts, rfl, ppr13, tok', fun H14 s14 => ⟨_, rfl, rfl, _, rfl, iteNS rfl ?_⟩⟩
      have s814 := ((((s9.trans s10).trans s11).trans s12).trans s13).trans s14
      have pp14 := pp13.same s14
      have ppr14 := ppr13.same s14
      -- others
      refine ⟨_, rfl, _, rfl, _, rfl, L, ls, x, v, ts, rfl, ok, tl, s814 _ _ eL8, dp_same s814 _ _ hv8, fun F ys os H15 fi ook ol => ?_⟩
      rw [htx] at ook
      refine ⟨F, rfl, ⟨_, SqL.of fi.e⟩, ?_⟩
      refine for_list (K := K) (a := F) (xs := ys) (fun j σ H16 => ∃ (y11 y12 : Option V), σ = [some (.ref a), some (.ref h), some (.ref L), some (.str x), some v, some (.ref p), some (.str (toldD tx x ts).shown), some (.ref R), some (.int ((0 : Int) + (i : Nat))), some (.str (Txt.join "\n" (pRows ls x ts))), some (.ref r), y11, y12] ∧ Same H15 H16)
        ⟨_, _, rfl, Same.refl _⟩ (fun j σ H16 _ hP => ?_) (fun j y σ H16 hy hP => ?_) (fun σ H16 hP => ?_)
      · obtain ⟨_, _, _, s16⟩ := hP
        exact SqL.of (s16 _ _ fi.e)
      · obtain ⟨y11, y12, rfl, s16⟩ := hP
        have hj : j < os.length := by
          have := (List.getElem?_eq_some_iff.mp hy).1
          rw [fi.len] at this
          exact this
        obtain ⟨v', g1, g2⟩ := dp_mem (dpa_same s16 _ _ fi.d) hj
        rw [hy] at g1
        cases g1
        have oko := ook _ (List.getElem_mem hj)
        generalize os[j] = o at g2 oko
        obtain ⟨t, v1, v2, v3, rfl, ht, w1, w2, w3⟩ := dp_inv3 g2
        cases w1
        cases w2
        refine ⟨_, rfl, t, _, _, _, rfl, rfl, ht, atI_nat (j := 0) rfl, _, rfl, t, _, _, _, rfl, rfl, ht, atI_nat (j := 1) rfl, _, rfl, t, _, _, _, rfl, rfl, ht, atI_nat (j := 2) rfl, ?_⟩
        intro p2 dx2 np2 ndx2 ne2
        refine ⟨p2, dx2, _, _, _, rfl, upd_same, fun H17 k17 e17 => ⟨rfl, ?_⟩⟩
        have s17 : Same H16 H17 := fun b o e => k17 b o (ne_of_none e np2) ((upd_ne (ne_of_none e np2)).trans ((upd_ne (ne_of_none e ndx2)).trans e))
        have pp2 : PpAt K C H17 p2 o.z o.x (o.us.map Tk.enc) := ⟨dx2, v3, e17, dp_same s17 _ _ w3⟩
        have s1417 := (fi.s.trans s16).trans s17
        have pp17 := pp14.same s1417
        have ppr17 := ppr14.same s1417
        have nb2 := nbs_tks o.us
        have sh2 := tks_shaped (us := o.us) oko.st
        obtain ⟨d1, f1, h11, h12⟩ := pp_same pp17
        obtain ⟨d2, f2, h21, h22⟩ := pp_same pp2
        refine ⟨_, rfl, p, d1, f1, rfl, h11, h12, _, rfl, p, p2, _, _, _, _, _, _, rfl, pp17, pp2, nb1, nb2, sh1, sh2, fun b hb => ⟨b, false, rfl, rfl, _, rfl, ?_⟩⟩
        have hbf : b = false := Bool.eq_false_iff.mpr fun h => by
          obtain ⟨h1, h2, h3⟩ := hb.mp h
          exact oko.ne ⟨h1.symm, h2.symm, (encs_inj h3).symm⟩
        rw [hbf]
        refine iteF ?_
        refine ⟨_, rfl, p2, d2, f2, rfl, h21, h22, _, rfl, p2, r, _, _, _, _, _, _, rfl, pp2, ppr17, nb2, nb1, sh2, sh1, fun b hb => ⟨b, false, rfl, rfl, _, rfl, ?_⟩⟩
        have hbf : b = false := Bool.eq_false_iff.mpr fun h => by
          obtain ⟨h1, h2, h3⟩ := hb.mp h
          exact oko.ne ⟨h1, h2, encs_inj h3⟩
        rw [hbf]
        exact iteF ⟨_, _, rfl, s16.trans s17⟩
      · obtain ⟨y11, y12, rfl, s16⟩ := hP
        exact ⟨_, _, _, _, _, rfl, (s814.trans fi.s).trans s16⟩
    · exact q H9
end
end SW

namespace SW
open PySem PySem.Spec PyProof.Rows L2
theorem kit_self (K : PySem.W.Frag) (C : Addr) : PySem.W.kitOne K (.ref C) (.ref C) = some true := if_pos (beq_self_eq_true _)
def txp_mk {K : PySem.W.Frag} {w : World} {h : Heap} {mg : PySem.Str → Option Value} {C aS : Addr} {es : Array DictEntry} {en : Nat} {tD tM : PySem.Tok} {uD uM : Value} {u0 : Value} {u1 : Value} {u2 : Value} {u3 : Value} {u4 : Value} {u5 : Value} {u6 : Value} {u7 : Value} {u8 : Value} {u9 : Value} (X : K.In h) (G : h.Ns mainGlobals mg) (B : TxB mg)
    (aC : PySem.W.nsIn K mainGlobals "Paper" = some (some (.ref C))) (as : PySem.W.nsIn K mainGlobals "SIZES" = some (some (.ref aS))) (kl : K.lookup aS = some ⟨.type "dict", none, .dict es en, #[]⟩) (kk : PySem.W.KeysLit w.params es.toList) (lo : (aS == sysModules) = false)
    (e0 : PySem.W.nsIn K aS "on" = some (some u0)) (r0 : RelV (V.int 0) u0)
    (e1 : PySem.W.nsIn K aS "over" = some (some u1)) (r1 : RelV (V.int 0) u1)
    (e2 : PySem.W.nsIn K aS "dead" = some (some u2)) (r2 : RelV V.non u2)
    (e3 : PySem.W.nsIn K aS "pair" = some (some u3)) (r3 : RelV (V.int 2) u3)
    (e4 : PySem.W.nsIn K aS "write" = some (some u4)) (r4 : RelV (V.int 1) u4)
    (e5 : PySem.W.nsIn K aS "either" = some (some u5)) (r5 : RelV (V.int 1) u5)
    (e6 : PySem.W.nsIn K aS "all" = some (some u6)) (r6 : RelV (V.int 2) u6)
    (e7 : PySem.W.nsIn K aS "match" = some (some u7)) (r7 : RelV (V.int 2) u7)
    (e8 : PySem.W.nsIn K aS "sorted" = some (some u8)) (r8 : RelV (V.int 3) u8)
    (e9 : PySem.W.nsIn K aS "below" = some (some u9)) (r9 : RelV (V.int 3) u9)
    (eD : PySem.W.nsIn K mainGlobals "DIGITS" = some (some uD)) (wD : uD = .str sDigits tD) (eM : PySem.W.nsIn K mainGlobals "LONGEST" = some (some uM)) (wM : uM = .int 12 tM)
    (pg : PySem.W.plainGet K C Str.empty = true) (hd : PySem.W.hasDictIn K C = true) (po : PySem.W.plainOver K C = true) (sa : PySem.W.findIn K (.ref C) "__setattr__" = some (some (.builtin "object.__setattr__")))
    (nT : PySem.W.findIn K (.ref C) "text" = some none) (nN : PySem.W.findIn K (.ref C) "name" = some none) (nK : PySem.W.findIn K (.ref C) "tokens" = some none)
    (hc : PySem.W.findIn K (.ref C) "__class__" = some (some (.builtin "object.__class__"))) (hg : PySem.W.specialIn K (.builtin "object.__class__") "__get__" = some (some (.builtin "getset_descriptor.__get__")))
    (ht : PySem.W.takesIn K (.builtin "object.__class__") = some true) (hm : PySem.W.mroIn K C (.type "object") = some true) : TxP K w mg C KnW :=
  ⟨B, aS, es, en, PySem.W.mg_of X G as, ⟨kl, kk, lo⟩, fun z hz => by
    have hz : z ∈ (kinds.map (·.1)) := hz
    simp only [kinds, List.map_cons, List.map_nil, List.mem_cons, List.not_mem_nil, or_false] at hz
    rcases hz with rfl | rfl | rfl | rfl | rfl | rfl | rfl | rfl | rfl | rfl
    · exact ⟨_, e0, .inr ⟨false, 0, u0, rfl, rfl, r0⟩⟩
    · exact ⟨_, e1, .inr ⟨false, 0, u1, rfl, rfl, r1⟩⟩
    · exact ⟨_, e2, .inr ⟨true, 0, u2, rfl, rfl, r2⟩⟩
    · exact ⟨_, e3, .inr ⟨false, 2, u3, rfl, rfl, r3⟩⟩
    · exact ⟨_, e4, .inr ⟨false, 1, u4, rfl, rfl, r4⟩⟩
    · exact ⟨_, e5, .inr ⟨false, 1, u5, rfl, rfl, r5⟩⟩
    · exact ⟨_, e6, .inr ⟨false, 2, u6, rfl, rfl, r6⟩⟩
    · exact ⟨_, e7, .inr ⟨false, 2, u7, rfl, rfl, r7⟩⟩
    · exact ⟨_, e8, .inr ⟨false, 3, u8, rfl, rfl, r8⟩⟩
    · exact ⟨_, e9, .inr ⟨false, 3, u9, rfl, rfl, r9⟩⟩, tD, m_of X G eD wD, tM, m_of X G eM wM, ⟨pg, hd, po, sa⟩, nT, nN, nK, PySem.W.mg_of X G aC, kit_self K C, hc, hg, ht, hm⟩
def ckp_mk {K : PySem.W.Frag} {C f : Addr} {oc : Value} {od an : Option Addr} {sl : Array (Option Value)} {kV doc pm cd ct : Value}
    (a : PySem.W.findIn K (.ref C) "__init__" = some (some (.ref f))) (i : PySem.W.isFn K (.ref f) = true) (l : K.lookup f = some ⟨oc, od, .func (PySem.W.fnOf "__init__" "Paper.__init__" (defArgs s_Paper) (defBody s_Paper) (defScope s_Paper) .none kV doc pm an cd ct), sl⟩) (c : PySem.W.codeIn K cd "Paper.__init__" = true) (k : PySem.W.keepIn K (.ref f) = true)
    (mk : PySem.W.makesIn K C = true) (kc : PySem.W.keepIn K (.ref C) = true) : CkP K C :=
  ⟨f, _, fun_mk (st := s_Paper) l c k, (fun_mk (st := s_Paper) l c k).binds (ps := ["self", "text", "name", "tokens"]) fun _ _ _ _ _ _ us hl => match us, hl with | [_, _, _, _], _ => rfl, ⟨mk, a, i, kc⟩⟩
def cks_mk {K : PySem.W.Frag} {C f : Addr} {oc : Value} {od an : Option Addr} {sl : Array (Option Value)} {kV doc pm cd ct : Value}
    (a : PySem.W.findIn K (.ref C) "same" = some (some (.ref f))) (i : PySem.W.isFn K (.ref f) = true) (l : K.lookup f = some ⟨oc, od, .func (PySem.W.fnOf "same" "Paper.same" (defArgs s_same) (defBody s_same) (defScope s_same) .none kV doc pm an cd ct), sl⟩) (c : PySem.W.codeIn K cd "Paper.same" = true) (k : PySem.W.keepIn K (.ref f) = true) : CkS K C :=
  ⟨f, _, fun_mk (st := s_same) l c k, (fun_mk (st := s_same) l c k).binds (ps := ["self", "other"]) fun _ _ _ _ _ _ us hl => match us, hl with | [_, _], _ => rfl, ⟨a, i, k⟩⟩
end SW

namespace SW
open PySem PySem.Spec PyProof.Rows L2
theorem all_mk {P : Program} {w : World} {K : PySem.W.Frag} {mg : PySem.Str → Option Value} {fa C : Addr} (hfa : mg "law" = some (.ref fa)) (T : TxP K w mg C KnW) (c_Paper : CkP K C) (c_same : CkS K C)
  (D_law : Df K mg "law" s_law ["script"]) (hb : ∀ (s : Shared) (v : Value), BindsTo s D_law.fd ⟨[v], []⟩ [("script", v)]) (D_write_paper : Df K mg "write_paper" s_write_paper ["paper"]) (D_read_paper : Df K mg "read_paper" s_read_paper ["text"]) (D_write_token : Df K mg "_write_token" s_write_token ["token"]) (D_read_many : Df K mg "_read_many" s_read_many ["row"]) (D_read_token : Df K mg "_read_token" s_read_token ["row"]) (D_is_number : Df K mg "_is_number" s_is_number ["word"]) (D_l_draws : Df K mg "_law_draws" s_l_draws ["script", "many"]) (D_l_take : Df K mg "_law_take" s_l_take ["hand", "many"]) (D_l_wide : Df K mg "_law_wide" s_l_wide ["hand", "many"]) (D_l_number : Df K mg "_law_number" s_l_number ["hand"]) (D_l_line : Df K mg "_law_line" s_l_line ["hand"]) (D_l_token : Df K mg "_law_token" s_l_token ["hand"]) (D_l_lines : Df K mg "_law_lines" s_l_lines ["hand"]) (D_l_rows : Df K mg "_law_rows" s_l_rows ["lines", "name", "tokens"]) (D_l_tokens : Df K mg "_law_tokens" s_l_tokens ["hand"]) (D_l_others : Df K mg "_law_others" s_l_others ["lines", "name", "tokens"]) (D_l_told : Df K mg "_law_told" s_l_told ["paper"]) :
    ∃ fd : FuncData, (∀ (s : Shared) (v : Value), BindsTo s fd ⟨[v], []⟩ [("script", v)]) ∧ ∀ base : Heap, K.In base → base.Ns mainGlobals mg → FnOkG P w K mg base CX0 6 fa fd ["script"] (spLaw K) := by
  have e := hfa.symm.trans D_law.g
  cases e
  exact ⟨D_law.fd, hb, fun base _ _ => ok_law T c_Paper c_same D_law D_write_paper D_read_paper D_write_token D_read_many D_read_token D_is_number D_l_draws D_l_take D_l_wide D_l_number D_l_line D_l_token D_l_lines D_l_rows D_l_tokens D_l_others D_l_told⟩
end SW

open PySem PySem.W PyProof.Rows
set_option maxHeartbeats 0 in
theorem PySem.Challenge.cw_swornrun_k23_papers_read_back_holds : PySem.Challenge.rw_swornrun_k23_papers_read_back.Holds := by
  w_on; o_law; k_head; (case hw => w_witness2)
  k_fill
  refine SW.walk_ofG (l := PySem.Challenge.rw_swornrun_k23_papers_read_back) (n := 63) (k := 6) (x := "script") (sp := fun w => SW.spLaw _) rfl (by decide) rfl ⟨rfl, by decide, by decide⟩ (fun w h Y => PySem.W.kIn_of Y) ?F (fun _ _ a ns hl _ hS => ⟨a, ns, rfl, hS, hl, fun _ => rfl⟩)
  case F =>
    intro w mg fa h KX G hmg
    refine' SW.all_mk hmg (SW.txp_mk KX G ⟨PySem.W.mg_none_of KX G ?n_len, PySem.W.mg_none_of KX G ?n_range, PySem.W.mg_none_of KX G ?n_int, PySem.W.mg_none_of KX G ?n_abs, PySem.W.mg_none_of KX G ?n_isinstance, PySem.W.mg_none_of KX G ?n_list, PySem.W.mg_none_of KX G ?n_str, PySem.W.mg_none_of KX G ?n_bool, PySem.W.mg_none_of KX G ?n_tuple, PySem.W.mg_none_of KX G ?n_min, PySem.W.mg_none_of KX G ?n_max, PySem.W.mg_none_of KX G ?n_sum, PySem.W.mg_none_of KX G ?n_sorted, PySem.W.mg_none_of KX G ?n_any, PySem.W.mg_none_of KX G ?n_all, PySem.W.mg_none_of KX G ?n_zip, PySem.W.mg_none_of KX G ?n_enumerate, PySem.W.mg_none_of KX G ?n_reversed, PySem.W.mg_none_of KX G ?n_dict, PySem.W.mg_none_of KX G ?n_set, PySem.W.mg_none_of KX G ?n_repr, PySem.W.mg_none_of KX G ?n_ord⟩ ?aC ?as ?kl ?kk ?lo ?e0 ?r0 ?e1 ?r1 ?e2 ?r2 ?e3 ?r3 ?e4 ?r4 ?e5 ?r5 ?e6 ?r6 ?e7 ?r7 ?e8 ?r8 ?e9 ?r9 ?eD ?wD ?eM ?wM ?pg ?hd ?po ?sa ?nT ?nN ?nK ?zc ?zg ?zt ?zm) (SW.ckp_mk ?ia ?ii ?il ?ic ?ik ?mk ?kc) (SW.cks_mk ?ja ?ji ?jl ?jc ?jk) (SW.df_mk KX G ?a0 ?l0 ?c0 ?k0 (fun _ _ _ _ _ _ us hl => match us, hl with | [_], _ => rfl)) (fun s v => .of_eq rfl) (SW.df_mk KX G ?a1 ?l1 ?c1 ?k1 (fun _ _ _ _ _ _ us hl => match us, hl with | [_], _ => rfl)) (SW.df_mk KX G ?a2 ?l2 ?c2 ?k2 (fun _ _ _ _ _ _ us hl => match us, hl with | [_], _ => rfl)) (SW.df_mk KX G ?a3 ?l3 ?c3 ?k3 (fun _ _ _ _ _ _ us hl => match us, hl with | [_], _ => rfl)) (SW.df_mk KX G ?a4 ?l4 ?c4 ?k4 (fun _ _ _ _ _ _ us hl => match us, hl with | [_], _ => rfl)) (SW.df_mk KX G ?a5 ?l5 ?c5 ?k5 (fun _ _ _ _ _ _ us hl => match us, hl with | [_], _ => rfl)) (SW.df_mk KX G ?a6 ?l6 ?c6 ?k6 (fun _ _ _ _ _ _ us hl => match us, hl with | [_], _ => rfl)) (SW.df_mk KX G ?a7 ?l7 ?c7 ?k7 (fun _ _ _ _ _ _ us hl => match us, hl with | [_, _], _ => rfl)) (SW.df_mk KX G ?a8 ?l8 ?c8 ?k8 (fun _ _ _ _ _ _ us hl => match us, hl with | [_, _], _ => rfl)) (SW.df_mk KX G ?a9 ?l9 ?c9 ?k9 (fun _ _ _ _ _ _ us hl => match us, hl with | [_, _], _ => rfl)) (SW.df_mk KX G ?a10 ?l10 ?c10 ?k10 (fun _ _ _ _ _ _ us hl => match us, hl with | [_], _ => rfl)) (SW.df_mk KX G ?a11 ?l11 ?c11 ?k11 (fun _ _ _ _ _ _ us hl => match us, hl with | [_], _ => rfl)) (SW.df_mk KX G ?a12 ?l12 ?c12 ?k12 (fun _ _ _ _ _ _ us hl => match us, hl with | [_], _ => rfl)) (SW.df_mk KX G ?a13 ?l13 ?c13 ?k13 (fun _ _ _ _ _ _ us hl => match us, hl with | [_], _ => rfl)) (SW.df_mk KX G ?a14 ?l14 ?c14 ?k14 (fun _ _ _ _ _ _ us hl => match us, hl with | [_, _, _], _ => rfl)) (SW.df_mk KX G ?a15 ?l15 ?c15 ?k15 (fun _ _ _ _ _ _ us hl => match us, hl with | [_], _ => rfl)) (SW.df_mk KX G ?a16 ?l16 ?c16 ?k16 (fun _ _ _ _ _ _ us hl => match us, hl with | [_, _, _], _ => rfl)) (SW.df_mk KX G ?a17 ?l17 ?c17 ?k17 (fun _ _ _ _ _ _ us hl => match us, hl with | [_], _ => rfl))
    (case a0 => k_is)
    (case l0 => k_is)
    (case c0 => k_is)
    (case k0 => k_is)
    (case a1 => k_is)
    (case l1 => k_is)
    (case c1 => k_is)
    (case k1 => k_is)
    (case a2 => k_is)
    (case l2 => k_is)
    (case c2 => k_is)
    (case k2 => k_is)
    (case a3 => k_is)
    (case l3 => k_is)
    (case c3 => k_is)
    (case k3 => k_is)
    (case a4 => k_is)
    (case l4 => k_is)
    (case c4 => k_is)
    (case k4 => k_is)
    (case a5 => k_is)
    (case l5 => k_is)
    (case c5 => k_is)
    (case k5 => k_is)
    (case a6 => k_is)
    (case l6 => k_is)
    (case c6 => k_is)
    (case k6 => k_is)
    (case a7 => k_is)
    (case l7 => k_is)
    (case c7 => k_is)
    (case k7 => k_is)
    (case a8 => k_is)
    (case l8 => k_is)
    (case c8 => k_is)
    (case k8 => k_is)
    (case a9 => k_is)
    (case l9 => k_is)
    (case c9 => k_is)
    (case k9 => k_is)
    (case a10 => k_is)
    (case l10 => k_is)
    (case c10 => k_is)
    (case k10 => k_is)
    (case a11 => k_is)
    (case l11 => k_is)
    (case c11 => k_is)
    (case k11 => k_is)
    (case a12 => k_is)
    (case l12 => k_is)
    (case c12 => k_is)
    (case k12 => k_is)
    (case a13 => k_is)
    (case l13 => k_is)
    (case c13 => k_is)
    (case k13 => k_is)
    (case a14 => k_is)
    (case l14 => k_is)
    (case c14 => k_is)
    (case k14 => k_is)
    (case a15 => k_is)
    (case l15 => k_is)
    (case c15 => k_is)
    (case k15 => k_is)
    (case a16 => k_is)
    (case l16 => k_is)
    (case c16 => k_is)
    (case k16 => k_is)
    (case a17 => k_is)
    (case l17 => k_is)
    (case c17 => k_is)
    (case k17 => k_is)
    (case n_len => k_is)
    (case n_range => k_is)
    (case n_int => k_is)
    (case n_abs => k_is)
    (case n_isinstance => k_is)
    (case n_list => k_is)
    (case n_str => k_is)
    (case n_bool => k_is)
    (case n_tuple => k_is)
    (case n_min => k_is)
    (case n_max => k_is)
    (case n_sum => k_is)
    (case n_sorted => k_is)
    (case n_any => k_is)
    (case n_all => k_is)
    (case n_zip => k_is)
    (case n_enumerate => k_is)
    (case n_reversed => k_is)
    (case n_dict => k_is)
    (case n_set => k_is)
    (case n_repr => k_is)
    (case n_ord => k_is)
    (case aC => k_is)
    (case as => k_is)
    (case kl => k_is)
    (case kk => k_keys)
    (case lo => decide)
    (case e0 => k_is)
    (case e1 => k_is)
    (case e2 => k_is)
    (case e3 => k_is)
    (case e4 => k_is)
    (case e5 => k_is)
    (case e6 => k_is)
    (case e7 => k_is)
    (case e8 => k_is)
    (case e9 => k_is)
    (case r0 => exact ⟨_, rfl⟩)
    (case r1 => exact ⟨_, rfl⟩)
    (case r2 => rfl)
    (case r3 => exact ⟨_, rfl⟩)
    (case r4 => exact ⟨_, rfl⟩)
    (case r5 => exact ⟨_, rfl⟩)
    (case r6 => exact ⟨_, rfl⟩)
    (case r7 => exact ⟨_, rfl⟩)
    (case r8 => exact ⟨_, rfl⟩)
    (case r9 => exact ⟨_, rfl⟩)
    (case eD => k_is)
    (case eM => k_is)
    (case wD => rfl)
    (case wM => rfl)
    (case pg => k_is)
    (case hd => k_is)
    (case po => k_is)
    (case sa => k_is)
    (case nT => k_is)
    (case nN => k_is)
    (case nK => k_is)
    (case zc => k_is)
    (case zg => k_is)
    (case zt => k_is)
    (case zm => k_is)
    (case ia => k_is)
    (case ii => k_is)
    (case il => k_is)
    (case ic => k_is)
    (case ik => k_is)
    (case mk => k_is)
    (case kc => k_is)
    (case ja => k_is)
    (case ji => k_is)
    (case jl => k_is)
    (case jc => k_is)
    (case jk => k_is)
