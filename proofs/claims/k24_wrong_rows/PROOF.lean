import PyProof.Rows.All
import Wide.All
import OpenK.AllK
import Wide.FinOn
import HandS.ForMost
import HandS.IsInst
import HandS.Evl
import HandS.SetIn
import HandS.Walk
import HandS.Star
import HandS.Zip
import HandS.Style
import HandS.Wide
import HandS.DeepEq
import HandS.RaiseMore
import PyProof.StrLawsRepr
import HandS.TupAny
import HandS.ExcInit
import HandS.ExcField
import HandS.ExcIs
import HandS.ExcOwn
import HandS.WordsExc
import KE.KExcIs
import HandS.FStr
import HandS.Deep
import KE.IntTextLaws
import PyProof.StrLawsChain
import PySem.Challenge.RW_swornrun_k24_wrong_rows_of_papers
set_option Elab.async false
set_option linter.all false
set_option maxRecDepth 100000
set_option maxHeartbeats 4000000
namespace SW
open PySem PySem.Spec PyProof.Rows L2
def topS (i : Nat) : Stmt := PySem.Challenge.pw_swornrun_k24_wrong_rows_of_papers.main.body.getD i (.Pass ⟨0, 0, 0, 0⟩)
/-- the built-in names stand for what they are -/
structure TxB (mg : PySem.Str → Option Value) : Prop where
  n_len : mg "len" = none
  n_range : mg "range" = none
  n_int : mg "int" = none
  n_abs : mg "abs" = none
  n_isinstance : mg "isinstance" = none
  n_list : mg "list" = none
  n_str : mg "str" = none
  n_bool : mg "bool" = none
  n_tuple : mg "tuple" = none
  n_min : mg "min" = none
  n_max : mg "max" = none
  n_sum : mg "sum" = none
  n_sorted : mg "sorted" = none
  n_any : mg "any" = none
  n_all : mg "all" = none
  n_zip : mg "zip" = none
  n_enumerate : mg "enumerate" = none
  n_reversed : mg "reversed" = none
  n_dict : mg "dict" = none
  n_set : mg "set" = none
  n_repr : mg "repr" = none
  n_ord : mg "ord" = none
/-- a def of the text -/
structure Df (K : PySem.W.Frag) (mg : PySem.Str → Option Value) (x : PySem.Str) (st : Stmt) (ps : List PySem.Str) where
  f : Addr
  fd : FuncData
  F : Fun K x x st f fd
  rb : ∀ us : List Value, us.length = ps.length → bindArgs fd ⟨us, []⟩ = pure (ps.zip us)
  g : mg x = some (.ref f)
theorem Df.b {K : PySem.W.Frag} {mg : PySem.Str → Option Value} {x : PySem.Str} {st : Stmt} {ps : List PySem.Str} (D : Df K mg x st ps) : Binds K D.fd ps [] := .all D.rb
/-- .. of what the head tells -/
def df_mk {x : PySem.Str} {st : Stmt} {ps : List PySem.Str} {K : PySem.W.Frag} {h : Heap} {mg : PySem.Str → Option Value} (X : K.In h) (G : h.Ns mainGlobals mg) {f : Addr} {oc : Value} {od an : Option Addr} {sl : Array (Option Value)} {kV doc pm cd ct : Value}
    (a : PySem.W.nsIn K mainGlobals x = some (some (.ref f))) (l : K.lookup f = some ⟨oc, od, .func (PySem.W.fnOf x x (defArgs st) (defBody st) (defScope st) .none kV doc pm an cd ct), sl⟩) (c : PySem.W.codeIn K cd x = true) (k : PySem.W.keepIn K (.ref f) = true)
    (hb : ∀ (kV doc pm : Value) (an : Option Addr) (cd ct : Value) (us : List Value), us.length = ps.length → bindArgs (PySem.W.fnOf x x (defArgs st) (defBody st) (defScope st) .none kV doc pm an cd ct) ⟨us, []⟩ = pure (ps.zip us)) : Df K mg x st ps :=
  ⟨f, _, fun_mk l c k, hb kV doc pm an cd ct, PySem.W.mg_of X G a⟩
theorem m_of {K : PySem.W.Frag} {h : Heap} {mg : PySem.Str → Option Value} {x : PySem.Str} {v u : Value} (X : K.In h) (G : h.Ns mainGlobals mg) (e : PySem.W.nsIn K mainGlobals x = some (some v)) (q : v = u) : mg x = some u := by
  rw [← q]
  exact PySem.W.mg_of X G e
theorem sqt_mk {K : PySem.W.Frag} {aT : Addr} {od : Option Addr} {its : Array Value} {n : Nat} {sl : Array (Option Value)} {xs : List V} (l : K.lookup aT = some ⟨.type "tuple", od, .seq its n, sl⟩) (hs : its.size ≤ sizeLine) (r : Vals xs its.toList) : ∀ H, SqT K H aT xs :=
  fun H => .inr ⟨_, its, n, l, rfl, rfl, hs, r⟩
theorem same_new {H : Hp} {p : Addr} {o : HO} (h : H p = none) : Same H (upd H p o) := fun b x e => by
  rw [upd_ne (ne_of_none e h)]
  exact e
/-- an object that H does not know has changed -/
theorem same_mut {H H' : Hp} {p : Addr} {o : HO} (s : Same H H') (h : H p = none) : Same H (upd H' p o) := fun b x e => by
  rw [upd_ne (ne_of_none e h)]
  exact s _ _ e
theorem new_of {H H1 : Hp} {p : Addr} {o : HO} (n : H p = none) (h : upd H p o = H1) : Same H H1 ∧ H1 p = some o := by
  subst h
  exact ⟨same_new n, upd_same⟩
/-- all that was tracked is as it was, but what stands at h -/
def But (h : Addr) (H H' : Hp) : Prop := ∀ b o, b ≠ h → H b = some o → H' b = some o
theorem But.refl (h : Addr) (H : Hp) : But h H H := fun _ _ _ e => e
theorem But.trans {h : Addr} {H H1 H2 : Hp} (a : But h H H1) (b : But h H1 H2) : But h H H2 := fun c o n e => b c o n (a c o n e)
theorem Same.but {h : Addr} {H H' : Hp} (a : Same H H') : But h H H' := fun c o _ e => a c o e
/-- the hand at h: the list of draws at d, and a place in it -/
structure Hand (H : Hp) (h d : Addr) (ds : List Int) : Prop where
  at_ : ∃ i : Nat, H h = some (.lst [.ref d, .int (i : Nat)])
  ds_ : H d = some (.lst (ds.map V.int))
  ne : d ≠ h
theorem Hand.same {H H' : Hp} {h d : Addr} {ds : List Int} (a : Hand H h d ds) (s : Same H H') : Hand H' h d ds := by
  obtain ⟨⟨i, h1⟩, h2, h3⟩ := a
  exact ⟨⟨i, s _ _ h1⟩, s _ _ h2, h3⟩
theorem small_sz {n : Nat} (h : n ≤ 1000) : n < sizeLine := Nat.lt_of_le_of_lt h (by decide)
theorem small_sz5 {n : Nat} (h : n ≤ 100000) : n < sizeLine := Nat.lt_of_le_of_lt h (by decide)
theorem ixN_nat {n j : Nat} (h : j < n) : ixN n (j : Int) = some j := by
  unfold ixN
  rw [if_pos (by omega), if_pos (by omega)]
  rfl
theorem hand_ne {H : Hp} {h d p : Addr} {ds : List Int} (hd : Hand H h d ds) (n : H p = none) : p ≠ h := by
  obtain ⟨⟨i, e⟩, _, _⟩ := hd
  exact (ne_of_none e n).symm
theorem hand_ne2 {H : Hp} {h d p : Addr} {ds : List Int} (hd : Hand H h d ds) (n : H p = none) : p ≠ d := (ne_of_none hd.ds_ n).symm
/-- something else than the hand and its draws has changed -/
theorem Hand.upd {H : Hp} {h d p : Addr} {o : HO} {ds : List Int} (a : Hand H h d ds) (h1 : p ≠ h) (h2 : p ≠ d) : Hand (L2.upd H p o) h d ds := by
  obtain ⟨⟨i, e1⟩, e2, e3⟩ := a
  exact ⟨⟨i, (upd_ne h1.symm).trans e1⟩, (upd_ne h2.symm).trans e2, e3⟩
theorem But.new {a : Addr} {H H' : Hp} {p : Addr} {o : HO} (b : But a H H') (n : H p = none) : But a H (L2.upd H' p o) := fun c u hc e => (upd_ne (ne_of_none e n)).trans (b c u hc e)
theorem But.free {a : Addr} {H H' : Hp} {p : Addr} (b : But a H H') (hp : p ≠ a) (n : H' p = none) : H p = none := by
  cases e : H p with
  | none => rfl
  | some u =>
    rw [b p u hp e] at n
    cases n
/-! ### written texts in a row; a text n times -/
def tStrs (ws : List PySem.Str) : TA := fun _ H Q => Q (ws.map V.str) H
theorem pa_strs {X : Cx} {es : List Expr} {ws : List PySem.Str} (h : StrEs es ws) : PA X es (tStrs ws) := by
  induction h with
  | nil => exact pa_nil
  | cons x j p _ ih => exact pa_cons pe_str ih
def rMulS : R2 := fun x y H Q => ∃ (z : PySem.Str) (n : Int), x = .str z ∧ y = .int n ∧ 0 ≤ n ∧ n ≤ 1000 ∧ z.length ≤ 1000 ∧ Q (.str (Txt.mul z n)) H
theorem op_mul_str {X : Cx} : OpR X (binaryOp .Mult) rMulS := by
  intro pins s σ H x y v u Q I rx ry h
  obtain ⟨z, n, rfl, rfl, h0, h1, hz, q⟩ := h
  obtain ⟨t, rfl⟩ := rx
  obtain ⟨t', rfl⟩ := ry
  refine SB.mul ⟨?_, ?_, ?_⟩ fun t' k => ⟨.str _, H, I.tok k, ⟨t', rfl⟩, q⟩
  · rw [Bool.or_eq_false_iff]
    exact ⟨decide_eq_false (by omega), decide_eq_false (by omega)⟩
  · intro hn _ hc
    have hd : (2 ^ 63 - 1 : Int) / 1000 ≤ (2 ^ 63 - 1) / n := by
      have : n * 9223372036854775 ≤ 2 ^ 63 - 1 := by omega
      have h2 : (9223372036854775 : Int) ≤ (2 ^ 63 - 1) / n := Int.le_ediv_of_mul_le (by omega) (by rw [Int.mul_comm]; exact this)
      have h3 : (2 ^ 63 - 1 : Int) / 1000 = 9223372036854775 := by decide
      omega
    have h3 : (2 ^ 63 - 1 : Int) / 1000 = 9223372036854775 := by decide
    omega
  · intro _ _
    have hb : z.length * n.toNat ≤ 1000 * 1000 := Nat.mul_le_mul hz (by omega)
    unfold Builtin.Str.tooLong
    refine decide_eq_false ?_
    have : (1000 * 1000 : Nat) ≤ sizeLine := by decide
    omega
theorem foldl_app {c : Nat} : ∀ (n : Nat) (a : Array Nat), ((List.replicate n #[c]).foldl (· ++ ·) a).toList = a.toList ++ List.replicate n c
  | 0, a => by simp
  | n + 1, a => by
    rw [List.replicate_succ, List.foldl_cons, foldl_app n]
    simp [List.replicate_succ]
theorem mul_one_sign (c : Nat) (n : Int) : (Txt.mul ⟨#[c]⟩ n).cps.toList = List.replicate n.toNat c := by
  unfold Txt.mul
  by_cases h1 : n < 1
  · rw [if_pos h1, show n.toNat = 0 by omega]
    rfl
  · rw [if_neg h1]
    by_cases h2 : (n == 1 || (⟨#[c]⟩ : PySem.Str).length == 0) = true
    · rw [if_pos h2]
      have h3 : n = 1 := by
        rcases Bool.or_eq_true_iff.mp h2 with h | h
        · exact eq_of_beq h
        · exact absurd (eq_of_beq h) (by show ¬ (1 : Nat) = 0; decide)
      subst h3
      rfl
    · rw [if_neg h2]
      show ((List.replicate n.toNat #[c]).foldl (· ++ ·) #[]).toList = _
      rw [foldl_app]
      rfl
theorem join_len1 : ∀ (ys : List PySem.Str), (Str.join "" ys).length = (ys.map (·.length)).sum
  | [] => rfl
  | [x] => by
    show x.length = (x.length :: []).sum
    rw [List.sum_cons]
    rfl
  | x :: y :: r => by
    show (x ++ "" ++ Str.join "" (y :: r)).length = _
    have h := join_len1 (y :: r)
    rw [TL.len_tl] at h ⊢
    rw [TL.tl_append, TL.tl_append, List.length_append, List.length_append, h, List.map_cons, List.sum_cons, TL.len_tl]
    rfl
theorem join_len (ys : List PySem.Str) : (Txt.join "" ys).length = (ys.map (·.length)).sum := by
  rw [TL.join_eq, join_len1]
theorem sum_const {ys : List PySem.Str} {b : Nat} (h : ∀ y ∈ ys, y.length ≤ b) : (ys.map (·.length)).sum ≤ ys.length * b := by
  induction ys with
  | nil => exact Nat.zero_le _
  | cons a r ih =>
    have h1 := h a List.mem_cons_self
    have h2 := ih fun y hy => h y (List.mem_cons_of_mem _ hy)
    rw [List.map_cons, List.sum_cons, List.length_cons, Nat.add_mul]
    omega
theorem str_at {z : PySem.Str} {r : Int} (h0 : 0 ≤ r) (h1 : r < z.length) : ∃ c, atI z.cps.toList r = some c := by
  obtain ⟨j, rfl⟩ : ∃ j : Nat, r = j := ⟨r.toNat, by omega⟩
  have hl : z.cps.toList.length = z.length := rfl
  have hj : j < z.cps.toList.length := by omega
  exact ⟨_, atI_nat (List.getElem?_eq_getElem hj)⟩
theorem strs_at {ws : List PySem.Str} {r : Int} (h0 : 0 ≤ r) (h1 : r < ws.length) : ∃ z, z ∈ ws ∧ atI (ws.map V.str) r = some (.str z) := by
  obtain ⟨j, rfl⟩ : ∃ j : Nat, r = j := ⟨r.toNat, by omega⟩
  have hj : j < ws.length := by omega
  refine ⟨ws[j], List.getElem_mem hj, atI_nat ?_⟩
  rw [List.getElem?_map, List.getElem?_eq_getElem hj]
  rfl
/-- a loop over a text's signs -/
theorem for_str {x : PySem.Str} {g : TG} {tb : TS} {D : Ends} {σ : L2.St} {H : Hp} (Pv : Nat → L2.St → Hp → Prop) (h0 : Pv 0 σ H)
    (hs : ∀ i c σ H, x.cps.toList[i]? = some c → Pv i σ H → g (.str ⟨#[c]⟩) σ H fun σ2 H2 => tb { D with nx := Pv (i + 1), ct := Pv (i + 1), bk := D.nx } σ2 H2) (hd : ∀ σ H, Pv x.cps.toList.length σ H → D.nx σ H) :
    ∃ W : Nat → Nat → L2.St → Hp → Prop, (∃ m, W 0 m σ H) ∧ ∀ i m σ H, W i m σ H →
      ((Its x).stop i H ∧ D.nx σ H) ∨ ((Its x).go i H ∧ ∃ N : L2.St → Hp → Prop, (∀ σ' H', N σ' H' → ∃ m', m' < m ∧ W (i + 1) m' σ' H') ∧ ∀ v H', (Its x).yld i H v H' → g v σ H' fun σ2 H2 => tb { D with nx := N, ct := N, bk := D.nx } σ2 H2) := by
  refine ⟨fun i m σ H => m = x.cps.toList.length - i ∧ i ≤ x.cps.toList.length ∧ Pv i σ H, ⟨x.cps.toList.length, by simp, Nat.zero_le _, h0⟩, ?_⟩
  rintro i m σ H ⟨rfl, hi, p⟩
  by_cases hlt : i < x.cps.toList.length
  · refine .inr ⟨hlt, Pv (i + 1), fun σ' H' p' => ⟨x.cps.toList.length - (i + 1), by omega, rfl, hlt, p'⟩, fun v H' y => ?_⟩
    obtain ⟨e, c, hc, hv⟩ := y
    subst e hv
    exact hs i c σ _ (by rw [Array.getElem?_toList]; exact hc) p
  · have e : i = x.cps.toList.length := by omega
    subst e
    exact .inl ⟨Nat.le_refl _, hd σ H p⟩
abbrev mk (l : List Nat) : PySem.Str := ⟨l.toArray⟩
theorem mk_cp (z : PySem.Str) : mk z.cps.toList = z := rfl
theorem cp_mk (l : List Nat) : (mk l).cps.toList = l := rfl
theorem flat_strs (ws : List PySem.Str) : (ws.map V.str).all flatV = true := by
  induction ws with
  | nil => rfl
  | cons a r ih =>
    rw [List.map_cons, List.all_cons, ih]
    rfl
theorem inV_strs (a : PySem.Str) (ws : List PySem.Str) : inV (.str a) (ws.map V.str) = decide (a ∈ ws) := by
  induction ws with
  | nil => rfl
  | cons b r ih =>
    show ((b == a) || inV (.str a) (r.map V.str)) = _
    rw [ih]
    by_cases e : b = a
    · subst e
      simp
    · rw [beq_eq_false_iff_ne.mpr e]
      by_cases m : a ∈ r
      · simp [m]
      · simp [m, Ne.symm e]
theorem cut2 (z : PySem.Str) (i : Nat) (h : i < z.length) : cutS z (some (i : Int)) (some ((i : Int) + 2)) = mk ((z.cps.toList.drop i).take 2) := by
  have e1 : HT.sIx z.length 0 (some (i : Int)) = i := by
    rw [HT.sIx_nat]
    omega
  have e2 : HT.sIx z.length z.length (some ((i : Int) + 2)) = min (i + 2) z.length := by
    rw [show ((i : Int) + 2) = ((i + 2 : Nat) : Int) by omega, HT.sIx_nat]
  unfold cutS
  rw [e1, e2]
  show mk _ = mk _
  congr 1
  have hl : (z.cps.toList.drop i).length = z.length - i := by
    rw [List.length_drop]
    rfl
  by_cases h2 : i + 2 ≤ z.length
  · rw [show min (i + 2) z.length - i = 2 by omega]
  · rw [Nat.min_eq_right (by omega), List.take_of_length_le (by omega), List.take_of_length_le (by omega)]
theorem cut_nat (z : PySem.Str) (i n : Nat) (h : i + n ≤ z.length) : cutS z (some (i : Int)) (some ((i + n : Nat) : Int)) = mk ((z.cps.toList.drop i).take n) := by
  have e1 : HT.sIx z.length 0 (some (i : Int)) = i := by
    rw [HT.sIx_nat]
    omega
  have e2 : HT.sIx z.length z.length (some ((i + n : Nat) : Int)) = i + n := by
    rw [HT.sIx_nat]
    omega
  unfold cutS
  rw [e1, e2, show i + n - i = n by omega]
theorem str_ne (z : PySem.Str) : (!decide (V.str z = V.str "")) = decide (z.cps.toList ≠ []) := by
  by_cases h : z.cps.toList = []
  · have e : z = "" := by
      rw [← mk_cp z, h]
      rfl
    subst e
    rfl
  · have e : ¬ V.str z = V.str "" := fun e => h (by
      injection e with e
      rw [e]
      rfl)
    rw [decide_eq_false e, decide_eq_true h]
    rfl
theorem le_dec (n m : Nat) : decide ((n : Int) ≤ (m : Int)) = decide (n ≤ m) := decide_eq_decide.mpr Int.ofNat_le
theorem str_dec (x y : PySem.Str) : decide (V.str x = V.str y) = decide (x = y) := decide_eq_decide.mpr ⟨fun h => by injection h, fun h => by rw [h]⟩
theorem sz5 {n : Nat} (h : n ≤ 100000) : n ≤ sizeLine := Nat.le_trans h (by decide)
theorem sz5' {n : Nat} (h : n ≤ 100000) : n < sizeLine := Nat.lt_of_le_of_lt h (by decide)
theorem at_nat {xs : List V} {z : Int} {j : Nat} {v : V} (e : z = (j : Int)) (h : xs[j]? = some v) : atI xs z = some v := at_of e h
end SW

namespace SW
open PySem PySem.Spec PyProof.Rows L2
theorem app_len (x y : PySem.Str) : (x ++ y).length = x.length + y.length := by
  rw [TL.len_tl, TL.tl_append, List.length_append, ← TL.len_tl, ← TL.len_tl]
theorem mul_len (n : Int) : (Txt.mul " " n).length = n.toNat := by
  rw [TL.len_tl]
  show (Txt.mul ⟨#[32]⟩ n).cps.toList.length = _
  rw [mul_one_sign, List.length_replicate]
/-! ### data: what is read stays -/
mutual
theorem dp_same {K : PySem.W.Frag} {H H' : Hp} (s : Same H H') : ∀ (d : PyData) (v : V), Dp K H v d → Dp K H' v d
  | .none, _, h => by
    cases h
    exact .non
  | .bool b, _, h => by
    cases h
    exact .bl b
  | .int i, _, h => by
    cases h
    exact .int i
  | .str x, _, h => by
    cases h
    exact .str x
  | .list ds, _, h => by
    cases h with
    | lst hs ha => exact .lst (s.seq hs) (dpa_same s ds _ ha)
  | .tuple ds, _, h => by
    cases h with
    | tup hs ha =>
      refine .tup ?_ (dpa_same s ds _ ha)
      rcases hs with (hs | ⟨o, hs⟩) | hs
      · exact .inl (.inl (s _ _ hs))
      · exact .inl (.inr ⟨o, s _ _ hs⟩)
      · exact .inr hs
  | .dict _, _, h => by cases h
theorem dpa_same {K : PySem.W.Frag} {H H' : Hp} (s : Same H H') : ∀ (ds : List PyData) (vs : List V), DpAll K H vs ds → DpAll K H' vs ds
  | [], _, h => by
    cases h
    exact .nil
  | d :: ds, _, h => by
    cases h with
    | cons h1 h2 => exact .cons (dp_same s d _ h1) (dpa_same s ds _ h2)
end
theorem sqt_same {K : PySem.W.Frag} {H H' : Hp} (s : Same H H') {a : Addr} {xs : List V} (hs : SqT K H a xs) : SqT K H' a xs := by
  rcases hs with (hs | ⟨o, hs⟩) | hs
  · exact .inl (.inl (s _ _ hs))
  · exact .inl (.inr ⟨o, s _ _ hs⟩)
  · exact .inr hs
theorem _root_.L2.Dp.same {K : PySem.W.Frag} {H H' : Hp} {d : PyData} {v : V} (h : Dp K H v d) (s : Same H H') : Dp K H' v d := dp_same s d v h
mutual
/-- no list within -/
def noL : PyData → Bool
  | .tuple ds => noLs ds
  | .list _ => false
  | .dict _ => false
  | _ => true
def noLs : List PyData → Bool
  | [] => true
  | d :: ds => noL d && noLs ds
end
mutual
theorem dp_but {K : PySem.W.Frag} {H H' : Hp} {h : Addr} {ys : List V} (hl : H h = some (.lst ys)) (s : But h H H') : ∀ (d : PyData) (v : V), noL d = true → Dp K H v d → Dp K H' v d
  | .none, _, _, e => by
    cases e
    exact .non
  | .bool b, _, _, e => by
    cases e
    exact .bl b
  | .int i, _, _, e => by
    cases e
    exact .int i
  | .str x, _, _, e => by
    cases e
    exact .str x
  | .list ds, _, n, _ => by
    unfold noL at n
    cases n
  | .tuple ds, _, n, e => by
    cases e with
    | tup hs ha =>
      refine .tup ?_ (dpa_but hl s ds _ (by unfold noL at n; exact n) ha)
      rcases hs with (hs | ⟨o, hs⟩) | hs
      · refine .inl (.inl (s _ _ (fun e => ?_) hs))
        rw [e, hl] at hs
        cases hs
      · refine .inl (.inr ⟨o, s _ _ (fun e => ?_) hs⟩)
        rw [e, hl] at hs
        cases hs
      · exact .inr hs
  | .dict _, _, _, e => by cases e
theorem dpa_but {K : PySem.W.Frag} {H H' : Hp} {h : Addr} {ys : List V} (hl : H h = some (.lst ys)) (s : But h H H') : ∀ (ds : List PyData) (vs : List V), noLs ds = true → DpAll K H vs ds → DpAll K H' vs ds
  | [], _, _, e => by
    cases e
    exact .nil
  | d :: ds, _, n, e => by
    unfold noLs at n
    rw [Bool.and_eq_true] at n
    cases e with
    | cons h1 h2 => exact .cons (dp_but hl s d _ n.1 h1) (dpa_but hl s ds _ n.2 h2)
end
theorem Hand.dp {K : PySem.W.Frag} {H H' : Hp} {h d0 : Addr} {ds : List Int} (a : Hand H h d0 ds) (s : But h H H') {d : PyData} {v : V} (n : noL d = true) (e : Dp K H v d) : Dp K H' v d := by
  obtain ⟨⟨i, hl⟩, _, _⟩ := a
  exact dp_but hl s d v n e
def isN : PyData → Bool
  | .none => true
  | _ => false
theorem dp_isN {K : PySem.W.Frag} {H : Hp} {d : PyData} {v : V} (h : Dp K H v d) : decide (v = V.non) = isN d := by
  cases h <;> rfl
theorem dp_tup2 {K : PySem.W.Frag} {H : Hp} {t : Addr} {v1 v2 : V} {d1 d2 : PyData} (h : H t = some (.tup [v1, v2])) (h1 : Dp K H v1 d1) (h2 : Dp K H v2 d2) : Dp K H (.ref t) (.tuple [d1, d2]) :=
  .tup (SqT.of h) (.cons h1 (.cons h2 .nil))
theorem dp_tup3 {K : PySem.W.Frag} {H : Hp} {t : Addr} {v1 v2 v3 : V} {d1 d2 d3 : PyData} (h : H t = some (.tup [v1, v2, v3])) (h1 : Dp K H v1 d1) (h2 : Dp K H v2 d2) (h3 : Dp K H v3 d3) : Dp K H (.ref t) (.tuple [d1, d2, d3]) :=
  .tup (SqT.of h) (.cons h1 (.cons h2 (.cons h3 .nil)))
theorem dp_tup4 {K : PySem.W.Frag} {H : Hp} {t : Addr} {v1 v2 v3 v4 : V} {d1 d2 d3 d4 : PyData} (h : H t = some (.tup [v1, v2, v3, v4])) (h1 : Dp K H v1 d1) (h2 : Dp K H v2 d2) (h3 : Dp K H v3 d3) (h4 : Dp K H v4 d4) : Dp K H (.ref t) (.tuple [d1, d2, d3, d4]) :=
  .tup (SqT.of h) (.cons h1 (.cons h2 (.cons h3 (.cons h4 .nil))))
/-! ### lists of texts, compared -/
theorem dpa_strs {K : PySem.W.Frag} {H : Hp} : ∀ ws : List PySem.Str, DpAll K H (ws.map V.str) (ws.map PyData.str)
  | [] => .nil
  | x :: r => .cons (.str x) (dpa_strs r)
theorem dp_strs {K : PySem.W.Frag} {H : Hp} {a : Addr} {ws : List PySem.Str} (h : SqL K H a (ws.map V.str)) : Dp K H (.ref a) (.list (ws.map PyData.str)) := .lst h (dpa_strs ws)
theorem vals_strs : ∀ {ws : List PySem.Str} {us : List Value} {j : Nat} {x : PySem.Str}, Vals (ws.map V.str) us → ws[j]? = some x → ∃ t, us[j]? = some (.str x t)
  | _, _, _, _, r, h => by
    obtain ⟨u, h1, h2⟩ := r.get (x := V.str _) (by rw [List.getElem?_map, h]; rfl)
    obtain ⟨t, rfl⟩ := h2
    exact ⟨t, h1⟩
/-- == of two lists of texts -/
def rEqS (K : PySem.W.Frag) : R2 := fun x y H Q => ∃ (a b : Addr) (ws vs : List PySem.Str), x = .ref a ∧ y = .ref b ∧ SqL K H a (ws.map V.str) ∧ SqL K H b (vs.map V.str) ∧ Q (.bl (decide (ws = vs))) H
theorem all_eq {ws vs : List PySem.Str} (hl : ws.length = vs.length) : ((List.range ws.length).all fun j => decide (ws[j]? = vs[j]?)) = decide (ws = vs) := by
  by_cases h : ws = vs
  · subst h
    rw [decide_eq_true rfl, List.all_eq_true]
    exact fun j _ => decide_eq_true rfl
  · rw [decide_eq_false h]
    refine Bool.eq_false_iff.mpr fun e => h ?_
    rw [List.all_eq_true] at e
    refine List.ext_getElem? fun j => ?_
    by_cases hj : j < ws.length
    · exact of_decide_eq_true (e j (List.mem_range.mpr hj))
    · rw [List.getElem?_eq_none (by omega), List.getElem?_eq_none (by omega)]
theorem op_eqS {X : Cx} (hu : X.A.units < cLine) : OpR X (compareOp .Eq) (rEqS X.K) := by
  intro pins s σ H x y v u Q I rx ry h
  obtain ⟨a, b, ws, vs, rfl, rfl, ha, hb, q⟩ := h
  cases rx
  cases ry
  obtain ⟨its, r1, p1, _⟩ := I.list ha
  obtain ⟨jts, r2, p2, _⟩ := I.list hb
  have l1 := r1.length
  have l2 := r2.length
  rw [List.length_map] at l1 l2
  by_cases hl : ws.length = vs.length
  · refine SeqAt.eq_listAt (e := fun j => decide (ws[j]? = vs[j]?)) p1.isList p2.isList (by simp only [List.size_toArray]; omega) hu (fun j h1 h2 => ?_) ?_
    · simp only [List.size_toArray] at h1 h2
      obtain ⟨t1, e1⟩ := vals_strs (x := ws[j]) r1 (List.getElem?_eq_getElem (by omega))
      obtain ⟨t2, e2⟩ := vals_strs (x := vs[j]) r2 (List.getElem?_eq_getElem (by omega))
      have f1 : its.toArray[j] = .str ws[j] t1 := by
        rw [List.getElem?_eq_getElem h1] at e1
        injection e1 with e1
      have f2 : jts.toArray[j] = .str vs[j] t2 := by
        rw [List.getElem?_eq_getElem h2] at e2
        injection e2 with e2
      rw [f1, f2]
      have e3 : decide (ws[j]? = vs[j]?) = (ws[j] == vs[j]) := by
        rw [List.getElem?_eq_getElem (by omega), List.getElem?_eq_getElem (by omega)]
        by_cases h : ws[j] = vs[j]
        · rw [h]
          simp
        · rw [decide_eq_false (fun e => h (Option.some.inj e)), beq_eq_false_iff_ne.mpr h]
      rw [e3]
      exact SeqAt.EqAt.str_str _ _ _ _
    · have e4 : ((List.range its.toArray.size).all fun j => decide (ws[j]? = vs[j]?)) = decide (ws = vs) := by
        rw [List.size_toArray, ← l1]
        exact all_eq hl
      rw [e4]
      exact ⟨.bl _, H, I, rfl, q⟩
  · refine SeqAt.eq_list_lengthsAt p1.isList p2.isList (by simp only [List.size_toArray]; exact bne_iff_ne.mpr (by omega)) hu ?_
    rw [decide_eq_false (fun e => hl (by rw [e]))] at q
    exact ⟨.bl _, H, I, rfl, q⟩
end SW

namespace SW
open PySem PySem.Spec PyProof.Rows L2
/-! ### a def that is called where no object is being shown -/
structure FnOkG (P : Program) (w : World) (K : PySem.W.Frag) (mg : PySem.Str → Option Value) (base : Heap) (CX : CXT) (k : Nat) (f : Addr) (fd : FuncData) (ps : List PySem.Str) (sp : Sp) : Prop where
  run : ∀ (A : Around) (outer : List Env) (s : Shared) (H : Hp) (args : Args) (us : List Value) (vs : List V) (Q : VK) (E : XK),
    A.guards = some [] → Room k A → Env0 P w K mg base A outer s H → BindsTo s fd args (ps.zip us) → Vals vs us → sp vs H Q E →
    codeAny (model P w) A (.call (.ref f) args) (CR CX outer P w H s Q E) s
theorem Fun.okG {P : Program} {w : World} {K : PySem.W.Frag} {mg : PySem.Str → Option Value} {base : Heap} {x qual : PySem.Str} {st : Stmt} {f : Addr} {fd : FuncData} {N ps : List PySem.Str} {k : Nat} {sp : Sp}
    (F : Fun K x qual st f fd) (S : FnScope N ps (defScope st)) (len : ∀ vs H Q E, sp vs H Q E → vs.length = ps.length)
    (hbody : ∀ (cdv : Value) (A : Around) (outer : List Env) (s : Shared) (H : Hp) (vs : List V) (Q : VK) (E : XK),
      (A.deeper (envOfC qual (defScope st) s.heap.objs.size f cdv)).guards = some [] → Room k (A.deeper (envOfC qual (defScope st) s.heap.objs.size f cdv)) → sp vs H Q E →
      ∃ t, PSs (cxOf CX0 P w K mg base N qual (defScope st) f cdv A outer s H E).nox (defBody st) t ∧ t { nx := fun _ H' => Q .non H', rt := Q } (L2.start N vs) H) :
    FnOkG P w K mg base CX0 (k + 1) f fd ps sp := by
  obtain ⟨oc, od, kV, doc, pm, an, cdv, ct, osl, rfl, lk, hcd⟩ := F.ex
  refine ⟨fun A outer s H args us vs Q E hg hr e0 hb r hsp => ?_⟩
  have hl := len vs H Q E hsp
  have KX := PySem.W.Frag.In.keeps e0.mod.kin fun b o e => (e0.bs b o e).1
  have lim := Heap.NoLimit.keeps e0.mod.nolimit fun b o e => (e0.bs b o e).1
  refine codeAny_call_function hr.depth (KX f _ lk) rfl S.co S.gen rfl (PySem.W.codeRec_of KX hcd) (hb _ _ _ _ (wpAny_newFunctionEnv_cells S.kind (fun y hy => ?_) fun env he s1 i => ?_))
  · obtain ⟨n, v⟩ := y
    rcases S.par n (List.of_mem_zip hy).1 with q | q
    · exact .inl q
    · exact .inr ⟨q, PySem.W.cellsFrom_some _ _ [] (.inl q)⟩
  · subst he
    refine ⟨lim.keeps i.toInCall.keep, codeAny_func ?_⟩
    obtain ⟨t, ht, hq⟩ := hbody cdv A outer s H vs Q E hg (hr.deeper _) hsp
    have I : L2.Inv (cxOf CX0 P w K mg base N qual (defScope st) f cdv A outer s H E) [] (L2.start N vs) H s1 := inv_start S hr.hd e0 hl r i
    refine wpAny_mono ((PSs.nox ht).run [] s1 (L2.start N vs) H _ I hq) (fun fl s' hs => ?_) fun e s' hs => hs
    have fin : ∀ {σ' : L2.St} {H' : Hp} {v : V} {u : Value}, L2.Inv (cxOf CX0 P w K mg base N qual (defScope st) f cdv A outer s H E) [] σ' H' s' → RelV v u → Q v H' → CE outer P w H s Q u s' :=
      fun J rv q => ⟨_, _, J.os, J.bare, J.base, J.hok, rv, q⟩
    cases fl with
    | next =>
      obtain ⟨σ', H', J, q⟩ := hs
      exact fin (v := .non) (u := .none) J rfl q
    | brk =>
      obtain ⟨_, _, _, q⟩ := hs
      exact q.elim
    | cont =>
      obtain ⟨_, _, _, q⟩ := hs
      exact q.elim
    | ret u =>
      obtain ⟨v, σ', H', J, rv, q⟩ := hs
      exact fin J rv q
/-- the law's own call -/
theorem law_callG {P : Program} {w : World} {K : PySem.W.Frag} {mg mb : PySem.Str → Option Value} {k : Nat} {fa a : Addr} {fd : FuncData} {x : PySem.Str} {sp : Sp} {s₁ : Shared} {vs : List Value} {ns : List Int}
    (KX : K.In s₁.heap) (hns : s₁.heap.Ns mainGlobals mg) (hb : s₁.heap.Ns builtinsNs mb) (hbb : ∀ x : PySem.Str, x ≠ Str.ofString "__name__" → mb x = bootBuiltins x) (hlim : s₁.heap.NoLimit) (hg : s₁.gens = #[])
    (ha : s₁.heap.get? a = some { cls := .type "list", data := .seq vs.toArray }) (hi : IntsAre vs ns) (hl : ns.length ≤ sizeLine) (hr : Room k callerA)
    (F : ∀ base : Heap, K.In base → base.Ns mainGlobals mg → FnOkG P w K mg base CX0 k fa fd [x] sp) (hbind : ∀ (s : Shared) (u : Value), BindsTo s fd ⟨[u], []⟩ [(x, u)])
    (hsp : ∀ H, Only H → SqL K H a (ns.map V.int) → sp [.ref a] H (fun v _ => v = .bl true) fun _ _ _ => False) :
    codeAny (model P w) callerA (.call (.ref fa) ⟨[.ref a], []⟩) (fun r s' => r = .ok (.ret (.bool true)) ∧ OldK s₁.heap s'.heap ∧ s'.os = s₁.os ∧ AllBare s'.gens) s₁ := by
  have rv := vals_ints hi
  have lenV := IntsAre.length hi
  have core : ∀ H : Hp, Only H → SqL K H a (ns.map V.int) → HOk P w H s₁.heap → (∀ b, H b ≠ none → b = a) → (H a ≠ none → List.lookup a K = none) →
      codeAny (model P w) callerA (.call (.ref fa) ⟨[.ref a], []⟩) (fun r s' => r = .ok (.ret (.bool true)) ∧ OldK s₁.heap s'.heap ∧ s'.os = s₁.os ∧ AllBare s'.gens) s₁ := by
    intro H hO hS hok hA hK
    have noA : ∀ {b : Addr} {o : Obj}, s₁.heap.get? b = some o → (∀ vs n, o.data ≠ .seq vs n) → H b = none := by
      intro b o e d
      cases hb' : H b with
      | none => rfl
      | some u =>
        have := hA b (by rw [hb']; exact fun z => nomatch z)
        subst this
        rw [ha] at e
        cases e
        exact absurd rfl (d _ _)
    have base_of : ∀ {b : Addr} {o : Obj}, s₁.heap.get? b = some o → H b = none → (hidT s₁.heap H).get? b = some o := fun e n => hidT_get e n
    have nsK : ∀ {b : Addr} {m : PySem.Str → Option Value}, s₁.heap.Ns b m → (hidT s₁.heap H).Ns b m := by
      rintro b m ⟨o, es, ep, e, d, r⟩
      exact ⟨o, es, ep, base_of e (noA e (by intro vs n; rw [d]; exact fun z => nomatch z)), d, r⟩
    have hKb : K.In (hidT s₁.heap H) := by
      intro b o e
      refine base_of (KX b o e) ?_
      cases hb' : H b with
      | none => rfl
      | some u =>
        have := hA b (by rw [hb']; exact fun z => nomatch z)
        subst this
        rw [hK (by rw [hb']; exact fun z => nomatch z)] at e
        cases e
    have hM : Mod K mg (hidT s₁.heap H) := by
      obtain ⟨mc, h1, h2⟩ := hlim
      exact ⟨hKb, nsK hns, ⟨mb, nsK hb, hbb⟩, ⟨mc, nsK h1, h2⟩⟩
    have e0 : Env0 P w K mg (hidT s₁.heap H) callerA [] s₁ H :=
      { frames := rfl, mod := hM, bs := fun b o e => of_hidT e, bsz := Nat.le_of_eq (hidT_size s₁.heap H), funs := trivial, frf := fun b hb => (List.not_mem_nil hb).elim, hok := hok, bare := AllBare.of_eq hg }
    refine codeAny_mono ((F _ hKb (nsK hns)).run callerA [] s₁ H ⟨[.ref a], []⟩ [.ref a] [.ref a] (fun v _ => v = .bl true) (fun _ _ _ => False) rfl hr e0 (hbind s₁ _) (.cons rfl .nil) (hsp H hO hS)) fun r s' h => ?_
    cases r with
    | error e => exact h.elim
    | ok fl =>
      cases fl with
      | next => exact h.elim
      | brk => exact h.elim
      | cont => exact h.elim
      | ret u =>
        obtain ⟨v, H', os, bare, un, hok', r', q⟩ := h
        subst q
        cases r'
        refine ⟨rfl, OldK.of_keep fun b o e => ?_, os, bare⟩
        cases hb' : H b with
        | none => exact un.keep b o e hb' (fun z => List.not_mem_nil z) (fun z => List.not_mem_nil z)
        | some u =>
          rcases hO b with z | ⟨ob, xs, z⟩
          · rw [hb'] at z
            cases z
          · have h1 := un.frzs b _ _ z
            have h2 := hok b _ z
            have h3 := hok' b _ h1
            have h4 := h2.1
            have h5 := h3.1
            rw [e] at h4
            cases h4
            exact h5
  cases hk : List.lookup a K with
  | none =>
    refine core (fun b => if b = a then some (.frz { cls := .type "list", data := .seq vs.toArray } (.lst (ns.map V.int))) else none) (fun b => ?_) (.inl (.inr ⟨_, if_pos rfl⟩)) (fun b u z => ?_) (fun b z => ?_) fun _ => hk
    · by_cases hb : b = a
      · exact .inr ⟨_, _, if_pos hb⟩
      · exact .inl (if_neg hb)
    · by_cases hb : b = a
      · have z' := (if_pos hb).symm.trans z
        cases z'
        subst hb
        exact ⟨ha, by rw [List.length_map]; exact hl, vs, 0, rv, ha⟩
      · have z' := (if_neg hb).symm.trans z
        cases z'
    · by_cases hb : b = a
      · exact hb
      · exact absurd (if_neg hb) z
  | some o =>
    have e := KX a o hk
    rw [ha] at e
    cases e
    refine core (fun _ => none) (fun _ => .inl rfl) (.inr ⟨_, vs.toArray, 0, hk, rfl, rfl, rfl, by rw [List.size_toArray, lenV]; exact hl, rv⟩) (fun b u z => nomatch z) (fun b z => absurd rfl z) fun z => absurd rfl z
theorem walk_ofG {l : PySem.W.OpenLaw} {n k : Nat} {q : Program} {loose : List PySem.Str} {XP : (PySem.Str → Option Value) → Heap → Prop} {YP : World → Heap → Prop} {d : DefRec} {K : Params → PySem.W.Frag} {sp : World → Sp} {x : PySem.Str}
    (hn : l.most = some n) (hn2 : n ≤ sizeLine) (hdf : d.params.defaults = []) (hr : Room k callerA) (hY : ∀ (w : World) (h : Heap), YP w h → (K w.params).In h)
    (F : ∀ (w : World) (mg : PySem.Str → Option Value) (fa : Addr) (h : Heap), (K w.params).In h → h.Ns mainGlobals mg → mg d.name = some (.ref fa) →
      ∃ fd, (∀ (s : Shared) (u : Value), BindsTo s fd ⟨[u], []⟩ [(x, u)]) ∧ ∀ base : Heap, (K w.params).In base → base.Ns mainGlobals mg → FnOkG l.prog w (K w.params) mg base CX0 k fa fd [x] (sp w))
    (hsp : ∀ (w : World) (H : Hp) (a : Addr) (ns : List Int), ns.length ≤ n → Only H → SqL (K w.params) H a (ns.map V.int) → sp w [.ref a] H (fun v _ => v = .bl true) fun _ _ _ => False) :
    PySem.W.WalkO q loose XP YP l.row.toRowW d [] fun f vs => call f vs :=
  Att.attach_call hn hdf fun w s₀ s₁ mg mb fa o pm cd doc a vs ns G Y ho hd hcd hmg hobj hints hlen hg => by
    have KX := hY w s₁.heap Y
    obtain ⟨fd, hb, hF⟩ := F w mg fa s₁.heap KX G.T.g hmg
    exact law_callG KX G.T.g G.T.b G.T.builtins G.T.nolimit hg hobj hints (Nat.le_trans hlen hn2) hr hF hb fun H hO hS => hsp w H a ns hlen hO hS
end SW

namespace SW
open PySem PySem.Spec PyProof.Rows L2
def rLenK (K : PySem.W.Frag) : List V → Hp → VK → Prop := fun xs H Q => ∃ p ys, xs = [.ref p] ∧ (SqL K H p ys ∨ SqT K H p ys) ∧ Q (.int (ys.length : Nat)) H
/-! ### data in lists -/
theorem dpa_snoc {K : PySem.W.Frag} {H : Hp} : ∀ {vs : List V} {ds : List PyData} {v : V} {d : PyData}, DpAll K H vs ds → Dp K H v d → DpAll K H (vs ++ [v]) (ds ++ [d])
  | _, _, _, _, .nil, h => .cons h .nil
  | _, _, _, _, .cons h1 h2, h => .cons h1 (dpa_snoc h2 h)
theorem dpa_len {K : PySem.W.Frag} {H : Hp} : ∀ {vs : List V} {ds : List PyData}, DpAll K H vs ds → vs.length = ds.length
  | _, _, .nil => rfl
  | _, _, .cons _ h => congrArg (· + 1) (dpa_len h)
theorem dpa_get {K : PySem.W.Frag} {H : Hp} : ∀ {vs : List V} {ds : List PyData} {j : Nat} {v : V}, DpAll K H vs ds → vs[j]? = some v → ∃ d, ds[j]? = some d ∧ Dp K H v d
  | _, _, 0, _, .cons h _, e => by
    cases e
    exact ⟨_, rfl, h⟩
  | _, _, j + 1, _, .cons _ h, e => dpa_get (j := j) h e
theorem dpa_get' {K : PySem.W.Frag} {H : Hp} : ∀ {vs : List V} {ds : List PyData} {j : Nat} {d : PyData}, DpAll K H vs ds → ds[j]? = some d → ∃ v, vs[j]? = some v ∧ Dp K H v d
  | _, _, 0, _, .cons h _, e => by
    cases e
    exact ⟨_, rfl, h⟩
  | _, _, j + 1, _, .cons _ h, e => dpa_get' (j := j) h e
theorem dpa_set {K : PySem.W.Frag} {H : Hp} : ∀ {vs : List V} {ds : List PyData} {j : Nat} {v : V} {d : PyData}, DpAll K H vs ds → Dp K H v d → DpAll K H (vs.set j v) (ds.set j d)
  | _, _, _, _, _, .nil, _ => .nil
  | _, _, 0, _, _, .cons _ h, e => .cons e h
  | _, _, j + 1, _, _, .cons h1 h, e => .cons h1 (dpa_set (j := j) h e)
theorem dpa_app {K : PySem.W.Frag} {H : Hp} : ∀ {vs us : List V} {ds es : List PyData}, DpAll K H vs ds → DpAll K H us es → DpAll K H (vs ++ us) (ds ++ es)
  | _, _, _, _, .nil, h => h
  | _, _, _, _, .cons h1 h2, h => .cons h1 (dpa_app h2 h)
theorem dpa_drop {K : PySem.W.Frag} {H : Hp} : ∀ {vs : List V} {ds : List PyData} (n : Nat), DpAll K H vs ds → DpAll K H (vs.drop n) (ds.drop n)
  | _, _, 0, h => h
  | _, _, _ + 1, .nil => .nil
  | _, _, n + 1, .cons _ h => dpa_drop n h
theorem dpa_take {K : PySem.W.Frag} {H : Hp} : ∀ {vs : List V} {ds : List PyData} (n : Nat), DpAll K H vs ds → DpAll K H (vs.take n) (ds.take n)
  | _, _, 0, _ => .nil
  | _, _, _ + 1, .nil => .nil
  | _, _, n + 1, .cons h1 h => .cons h1 (dpa_take n h)
theorem dpa_rev {K : PySem.W.Frag} {H : Hp} : ∀ {vs : List V} {ds : List PyData}, DpAll K H vs ds → DpAll K H vs.reverse ds.reverse
  | _, _, .nil => .nil
  | _, _, .cons h1 h => by
    rw [List.reverse_cons, List.reverse_cons]
    exact dpa_snoc (dpa_rev h) h1
theorem dpa_ints {K : PySem.W.Frag} {H : Hp} : ∀ ns : List Int, DpAll K H (ns.map V.int) (ns.map PyData.int)
  | [] => .nil
  | x :: r => .cons (.int x) (dpa_ints r)
theorem dpa_ints' {K : PySem.W.Frag} {H : Hp} : ∀ {vs : List V} {ns : List Int}, DpAll K H vs (ns.map PyData.int) → vs = ns.map V.int
  | _, [], .nil => rfl
  | _, _ :: _, .cons (.int x) h => congrArg (V.int x :: ·) (dpa_ints' h)
theorem dpa_bls' {K : PySem.W.Frag} {H : Hp} : ∀ {vs : List V} {ns : List Bool}, DpAll K H vs (ns.map PyData.bool) → vs = ns.map V.bl
  | _, [], .nil => rfl
  | _, _ :: _, .cons (.bl x) h => congrArg (V.bl x :: ·) (dpa_bls' h)
theorem int_dec (x y : Int) : decide (V.int x = V.int y) = decide (x = y) := decide_eq_decide.mpr ⟨fun h => by injection h, fun h => by rw [h]⟩
/-! ### parts of lists -/
theorem cutv_from (xs : List V) (n : Nat) : cutV xs (some (n : Int)) none = xs.drop n := by
  unfold cutV
  rw [HT.sIx_nat, HT.sIx_none]
  by_cases h : n ≤ xs.length
  · rw [Nat.min_eq_left h]
    exact List.take_of_length_le (by rw [List.length_drop]; exact Nat.le_refl _)
  · rw [Nat.min_eq_right (by omega), List.drop_eq_nil_of_le (Nat.le_refl _), List.drop_eq_nil_of_le (by omega)]
    exact List.take_nil
theorem cutv_first (xs : List V) (n : Nat) : cutV xs none (some (n : Int)) = xs.take n := by
  unfold cutV
  rw [HT.sIx_nat, HT.sIx_none, List.drop_zero, Nat.sub_zero]
  by_cases h : n ≤ xs.length
  · rw [Nat.min_eq_left h]
  · rw [Nat.min_eq_right (by omega), List.take_of_length_le (Nat.le_refl _), List.take_of_length_le (by omega)]
theorem cutv_part (xs : List V) (n m : Nat) (h : n ≤ m) : cutV xs (some (n : Int)) (some (m : Int)) = (xs.drop n).take (m - n) := by
  unfold cutV
  rw [HT.sIx_nat, HT.sIx_nat]
  by_cases h1 : n ≤ xs.length
  · rw [Nat.min_eq_left h1]
    by_cases h2 : m ≤ xs.length
    · rw [Nat.min_eq_left h2]
    · rw [Nat.min_eq_right (by omega), List.take_of_length_le (by rw [List.length_drop]; exact Nat.le_refl _), List.take_of_length_le (by rw [List.length_drop]; omega)]
  · rw [List.drop_eq_nil_of_le (show xs.length ≤ min n xs.length by omega), List.drop_eq_nil_of_le (show xs.length ≤ n by omega), List.take_nil, List.take_nil]
theorem at_neg1 {xs : List V} {v : V} (h : xs[xs.length - 1]? = some v) : atI xs (-1) = some v := by
  have hl : xs ≠ [] := fun e => by
    rw [e] at h
    cases h
  have e := List.dropLast_concat_getLast hl
  rw [← List.getLast?_eq_getElem?, List.getLast?_eq_getLast hl] at h
  cases h
  conv => lhs; rw [← e]
  exact atI_last _ _
/-! ### a comprehension over any walk, whose items are data without lists -/
theorem lc_data {K : PySem.W.Frag} {J : It} {n : Nat} {G : Hp → Prop} {Y : Nat → Hp → V → Hp → Prop} (w : Walk J n G Y) {g : TG} {te : TE} {vs : List Nat} {σ : L2.St} {H1 : Hp} {D : Addr} {Qd : Hp → Prop} (hD : H1 D = none) (f : Nat → PyData) (hn : n ≤ 100000)
    (hf : ∀ i, i < n → noL (f i) = true) (hG : ∀ H, Same H1 H → G H)
    (hs : ∀ (i : Nat) (x : V) (H H' : Hp) (Q : V → Hp → Prop), i < n → Same H1 H → Y i H x H' → (∀ y H4, Same H H4 → Dp K H4 y (f i) → Q y H4) → g x (wipe σ vs) H' fun σ2 H2 => wipe σ2 vs = wipe σ vs ∧ te σ2 H2 Q)
    (hd : ∀ H ys, Same H1 H → H D = some (.lst ys) → DpAll K H ys ((List.range n).map f) → Qd H) :
    ∃ W : Nat → Nat → Hp → Prop, (∃ m, W 0 m (upd H1 D (.lst []))) ∧ ∀ i m H, W i m H → (J.stop i H ∧ Qd H) ∨ (J.go i H ∧ ∃ Nx : Hp → Prop, (∀ H', Nx H' → ∃ m', m' < m ∧ W (i + 1) m' H') ∧
      ∀ x H', J.yld i H x H' → g x (wipe σ vs) H' fun σ2 H2 => wipe σ2 vs = wipe σ vs ∧ tYes σ2 H2 fun b H3 => if b = true then te σ2 H3 fun y H4 => ∃ acc, H4 D = some (.lst acc) ∧ acc.length < sizeLine ∧ Nx (upd H4 D (.lst (acc ++ [y]))) else Nx H3) := by
  let Pv : Nat → Hp → Prop := fun i H => Same H1 H ∧ ∃ ys, H D = some (.lst ys) ∧ DpAll K H ys ((List.range i).map f)
  refine ⟨fun i m H => m = n - i ∧ i ≤ n ∧ Pv i H, ⟨n, rfl, Nat.zero_le _, same_new hD, [], upd_same, .nil⟩, ?_⟩
  rintro i m H ⟨rfl, hi, s1, ys, e, ha⟩
  by_cases hlt : i < n
  · refine .inr ⟨w.goes i H hlt (hG H s1), Pv (i + 1), fun H' p => ⟨n - (i + 1), by omega, rfl, hlt, p⟩, fun x H' y => ?_⟩
    refine hs i x H H' _ hlt s1 (w.yields i H x H' hlt (hG H s1) y) fun y H4 s4 h4 => ?_
    have e4 : H4 D = some (.lst ys) := s4 _ _ e
    refine ⟨ys, e4, ?_, same_mut (s1.trans s4) hD, ys ++ [y], upd_same, ?_⟩
    · rw [dpa_len ha, List.length_map, List.length_range]
      exact small_sz5 (by omega)
    · rw [List.range_succ, List.map_append]
      have b4 : But D H4 (upd H4 D (.lst (ys ++ [y]))) := fun c o hc eo => (upd_ne hc).trans eo
      refine dpa_snoc (dpa_but e4 b4 _ _ ?_ (dpa_same s4 _ _ ha)) (dp_but e4 b4 _ _ (hf i hlt) h4)
      clear h4 e4 s4 ha
      generalize hr : List.range i = l
      have : ∀ j, j ∈ l → j < n := fun j hj => by
        rw [← hr] at hj
        have := List.mem_range.mp hj
        omega
      clear hr
      induction l with
      | nil => rfl
      | cons a r ih =>
        show (noL (f a) && noLs (r.map f)) = true
        rw [hf a (this a List.mem_cons_self), ih fun j hj => this j (List.mem_cons_of_mem _ hj)]
        rfl
  · have : i = n := by omega
    subst this
    exact .inl ⟨w.stops H (hG H s1), hd H ys s1 e ha⟩
theorem range_map {α β : Type} (xs : List α) (g : α → β) (f : Nat → β) (h : ∀ i x, xs[i]? = some x → f i = g x) : (List.range xs.length).map f = xs.map g := by
  refine List.ext_getElem? fun i => ?_
  rw [List.getElem?_map, List.getElem?_map]
  by_cases hi : i < xs.length
  · rw [List.getElem?_range hi, List.getElem?_eq_getElem hi]
    exact congrArg some (h i _ (List.getElem?_eq_getElem hi))
  · rw [List.getElem?_eq_none (by rw [List.length_range]; omega), List.getElem?_eq_none (by omega)]
    rfl
theorem ints_get {ns : List Int} {j : Nat} {n : Int} (h : ns[j]? = some n) : (ns.map V.int)[j]? = some (.int n) := by
  rw [List.getElem?_map, h]
  rfl
theorem ints_at {ns : List Int} {j : Nat} (h : j < ns.length) : atI (ns.map V.int) (j : Int) = some (.int ns[j]) := atI_nat (ints_get (List.getElem?_eq_getElem h))
end SW

namespace SW
open PySem PySem.Spec PyProof.Rows L2
/-! This text stands for SwTw and SwTg in laws whose program reads no texts (the same names: never both). -/
/-! ### a promise that nobody calls for -/
theorem fn_never {P : Program} {w : World} {K : PySem.W.Frag} {mg : PySem.Str → Option Value} {base : Heap} {k : Nat} {f : Addr} {fd : FuncData} {ps : List PySem.Str} : FnOk P w K mg base CX0 k f fd ps (fun _ _ _ _ => False) :=
  ⟨fun _ _ _ _ h => h.elim, fun _ _ _ _ _ _ _ _ _ _ _ _ _ h => h.elim⟩
theorem fn_or {P : Program} {w : World} {K : PySem.W.Frag} {mg : PySem.Str → Option Value} {base : Heap} {CX : CXT} {k : Nat} {f : Addr} {fd : FuncData} {ps : List PySem.Str} {sp1 sp2 : Sp} (F : FnOk P w K mg base CX k f fd ps sp1) (G : FnOk P w K mg base CX k f fd ps sp2) :
    FnOk P w K mg base CX k f fd ps (fun vs H Q E => sp1 vs H Q E ∨ sp2 vs H Q E) :=
  ⟨fun vs H Q E h => h.elim (F.len vs H Q E) (G.len vs H Q E), fun A outer s H args us vs Q E hr he hb hv h => h.elim (F.run A outer s H args us vs Q E hr he hb hv) (G.run A outer s H args us vs Q E hr he hb hv)⟩
/-! ### data opened -/
theorem dp_str_inv {K : PySem.W.Frag} {H : Hp} {v : V} {x : PySem.Str} (h : Dp K H v (.str x)) : v = .str x := by
  cases h
  rfl
theorem dp_int_inv {K : PySem.W.Frag} {H : Hp} {v : V} {i : Int} (h : Dp K H v (.int i)) : v = .int i := by
  cases h
  rfl
theorem dp_bl_inv {K : PySem.W.Frag} {H : Hp} {v : V} {b : Bool} (h : Dp K H v (.bool b)) : v = .bl b := by
  cases h
  rfl
theorem dp_tup_inv {K : PySem.W.Frag} {H : Hp} {v : V} {ds : List PyData} (h : Dp K H v (.tuple ds)) : ∃ a xs, v = .ref a ∧ SqT K H a xs ∧ DpAll K H xs ds := by
  cases h with
  | tup hs ha => exact ⟨_, _, rfl, hs, ha⟩
theorem dp_inv2 {K : PySem.W.Frag} {H : Hp} {v : V} {d1 d2 : PyData} (h : Dp K H v (.tuple [d1, d2])) : ∃ a v1 v2, v = .ref a ∧ SqT K H a [v1, v2] ∧ Dp K H v1 d1 ∧ Dp K H v2 d2 := by
  obtain ⟨a, xs, e, hs, ha⟩ := dp_tup_inv h
  cases ha with
  | cons h1 ha =>
    cases ha with
    | cons h2 ha =>
      cases ha
      exact ⟨a, _, _, e, hs, h1, h2⟩
theorem dp_inv3 {K : PySem.W.Frag} {H : Hp} {v : V} {d1 d2 d3 : PyData} (h : Dp K H v (.tuple [d1, d2, d3])) : ∃ a v1 v2 v3, v = .ref a ∧ SqT K H a [v1, v2, v3] ∧ Dp K H v1 d1 ∧ Dp K H v2 d2 ∧ Dp K H v3 d3 := by
  obtain ⟨a, xs, e, hs, ha⟩ := dp_tup_inv h
  cases ha with
  | cons h1 ha =>
    cases ha with
    | cons h2 ha =>
      cases ha with
      | cons h3 ha =>
        cases ha
        exact ⟨a, _, _, _, e, hs, h1, h2, h3⟩
theorem dp_inv4 {K : PySem.W.Frag} {H : Hp} {v : V} {d1 d2 d3 d4 : PyData} (h : Dp K H v (.tuple [d1, d2, d3, d4])) : ∃ a v1 v2 v3 v4, v = .ref a ∧ SqT K H a [v1, v2, v3, v4] ∧ Dp K H v1 d1 ∧ Dp K H v2 d2 ∧ Dp K H v3 d3 ∧ Dp K H v4 d4 := by
  obtain ⟨a, xs, e, hs, ha⟩ := dp_tup_inv h
  cases ha with
  | cons h1 ha =>
    cases ha with
    | cons h2 ha =>
      cases ha with
      | cons h3 ha =>
        cases ha with
        | cons h4 ha =>
          cases ha
          exact ⟨a, _, _, _, _, e, hs, h1, h2, h3, h4⟩
theorem int_at {ns : List Int} {r : Int} (h0 : 0 ≤ r) (h1 : r < ns.length) : ∃ z, z ∈ ns ∧ atI (ns.map V.int) r = some (.int z) := by
  obtain ⟨j, rfl⟩ : ∃ j : Nat, r = j := ⟨r.toNat, by omega⟩
  have hj : j < ns.length := by omega
  refine ⟨ns[j], List.getElem_mem hj, atI_nat ?_⟩
  rw [List.getElem?_map, List.getElem?_eq_getElem hj]
  rfl
theorem But.same {h : Addr} {H H1 H2 : Hp} (a : But h H H1) (b : Same H1 H2) : But h H H2 := a.trans (Same.but b)
theorem tup_at {K : PySem.W.Frag} {H : Hp} {xs : List V} {ds : List PyData} {j : Nat} {d : PyData} (ha : DpAll K H xs ds) (e : ds[j]? = some d) : ∃ v, atI xs (j : Int) = some v ∧ Dp K H v d := by
  obtain ⟨v, h1, h2⟩ := dpa_get' ha e
  exact ⟨v, atI_nat h1, h2⟩
end SW

namespace SW
open PySem PySem.Spec PyProof.Rows L2
/-! ### the shown text of small data -/
mutual
def smS : PyData → Bool
  | .none => true
  | .bool _ => true
  | .int i => decide (i.natAbs < 10 ^ 60)
  | .str x => decide ((PyData.shown (.str x)).length ≤ 70)
  | .list ds => smSs ds
  | .tuple ds => smSs ds
  | _ => false
def smSs : List PyData → Bool
  | [] => true
  | d :: r => smS d && smSs r
end
mutual
def shS : PyData → Nat
  | .list ds => shSs ds + 10
  | .tuple ds => shSs ds + 10
  | _ => 70
def shSs : List PyData → Nat
  | [] => 0
  | d :: r => shS d + 10 + shSs r
end
theorem of_len (z : String) : (Str.ofString z).length = z.toList.length := by
  rw [TL.len_tl]
  rw [TL.tl_ofString, List.length_map]
theorem int_len (i : Int) (h : i.natAbs < 10 ^ 60) : (Str.ofString (toString i)).length ≤ 70 := by
  rw [of_len]
  show (Int.repr i).toList.length ≤ 70
  have key : ∀ n : Nat, n < 10 ^ 60 → n.repr.toList.length ≤ 60 := fun n hn => by
    have := (Nat.length_repr_le_iff (n := n) (k := 60) (by decide)).mpr hn
    exact this
  cases i with
  | ofNat n =>
    have := key n (by simpa using h)
    show (Nat.repr n).toList.length ≤ 70
    omega
  | negSucc n =>
    have := key (n + 1) (by simpa using h)
    show ("-" ++ Nat.repr (n + 1)).toList.length ≤ 70
    rw [String.toList_append, List.length_append]
    have : "-".toList.length = 1 := rfl
    omega
theorem tf_len : ∀ (ts : List PySem.Str) (k : Nat) (acc : PySem.Str), (textFrom k acc ts).length ≤ acc.length + (ts.map fun t => t.length + 2).sum
  | [], _, _ => Nat.le_add_right _ _
  | t :: r, k, acc => by
    have h := tf_len r (k + 1) (acc ++ Str.ofString (if k > 0 then ", " else "") ++ t)
    show (textFrom (k + 1) (acc ++ Str.ofString (if k > 0 then ", " else "") ++ t) r).length ≤ _
    rw [app_len, app_len] at h
    rw [List.map_cons, List.sum_cons]
    have h2 : (Str.ofString (if k > 0 then ", " else "")).length ≤ 2 := by
      by_cases hk : k > 0
      · rw [if_pos hk]
        decide
      · rw [if_neg hk]
        decide
    omega
theorem jn_len (z : PySem.Str) (hz : z.length ≤ 2) : ∀ ts : List PySem.Str, (Str.join z ts).length ≤ (ts.map fun t => t.length + 2).sum
  | [] => Nat.zero_le _
  | [x] => by
    show x.length ≤ (x.length + 2) + 0
    omega
  | x :: y :: r => by
    have h := jn_len z hz (y :: r)
    show (x ++ z ++ Str.join z (y :: r)).length ≤ _
    rw [app_len, app_len, List.map_cons, List.sum_cons]
    omega
mutual
theorem smS_shown : ∀ d : PyData, smS d = true → d.showable = true ∧ d.hasDict = false ∧ d.shown.length ≤ shS d
  | .none, _ => ⟨rfl, rfl, by decide⟩
  | .bool b, _ => ⟨rfl, rfl, by cases b <;> decide⟩
  | .int i, h => by
    have h := of_decide_eq_true (by unfold smS at h; exact h)
    refine ⟨decide_eq_true ?_, rfl, int_len i h⟩
    refine Nat.lt_of_le_of_lt (m := 200) ?_ (by decide)
    by_cases h0 : i.natAbs = 0
    · rw [h0]
      decide
    · refine Nat.le_of_lt ((Nat.log2_lt h0).mpr (Nat.lt_of_lt_of_le h (by decide)))
  | .list ds, h => by
    have ⟨h1, h2, h3⟩ := smSs_shown ds (by unfold smS at h; exact h)
    refine ⟨h1, h2, ?_⟩
    show (listText (PyData.shownAll ds)).length ≤ shSs ds + 10
    unfold listText
    rw [app_len]
    have := tf_len (PyData.shownAll ds) 0 (Str.ofString "[")
    have e1 : (Str.ofString "[").length = 1 := rfl
    have e2 : (Str.ofString "]").length = 1 := rfl
    omega
  | .tuple ds, h => by
    have ⟨h1, h2, h3⟩ := smSs_shown ds (by unfold smS at h; exact h)
    refine ⟨h1, h2, ?_⟩
    show (tupleText (PyData.shownAll ds)).length ≤ shSs ds + 10
    unfold tupleText
    rw [app_len, app_len]
    have := jn_len (Str.ofString ", ") (by decide) (PyData.shownAll ds)
    have e1 : (Str.ofString "(").length = 1 := rfl
    have e2 : (Str.ofString (if ((PyData.shownAll ds).length == 1) = true then ",)" else ")")).length ≤ 2 := by
      by_cases hk : ((PyData.shownAll ds).length == 1) = true
      · rw [if_pos hk]
        decide
      · rw [if_neg hk]
        decide
    omega
  | .str x, h => ⟨rfl, rfl, of_decide_eq_true (by unfold smS at h; exact h)⟩
  | .dict _, h => by
    unfold smS at h
    cases h
theorem smSs_shown : ∀ ds : List PyData, smSs ds = true → PyData.showableAll ds = true ∧ PyData.hasDictAll ds = false ∧ ((PyData.shownAll ds).map fun t => t.length + 2).sum ≤ shSs ds
  | [], _ => ⟨rfl, rfl, Nat.le_refl _⟩
  | d :: r, h => by
    unfold smSs at h
    rw [Bool.and_eq_true] at h
    have ⟨a1, a2, a3⟩ := smS_shown d h.1
    have ⟨b1, b2, b3⟩ := smSs_shown r h.2
    refine ⟨?_, ?_, ?_⟩
    · show (d.showable && PyData.showableAll r) = true
      rw [a1, b1]
      rfl
    · show (d.hasDict || PyData.hasDictAll r) = false
      rw [a2, b2]
      rfl
    · show ((d.shown :: PyData.shownAll r).map fun t => t.length + 2).sum ≤ shS d + 10 + shSs r
      rw [List.map_cons, List.sum_cons]
      omega
end
theorem smSs_map {α : Type} (f : α → PyData) : ∀ xs : List α, (∀ x, x ∈ xs → smS (f x) = true) → smSs (xs.map f) = true
  | [], _ => rfl
  | x :: r, h => by
    show (smS (f x) && smSs (r.map f)) = true
    rw [h x List.mem_cons_self, smSs_map f r fun y hy => h y (List.mem_cons_of_mem _ hy)]
    rfl
theorem shSs_map {α : Type} (f : α → PyData) (b : Nat) : ∀ xs : List α, (∀ x, x ∈ xs → shS (f x) ≤ b) → shSs (xs.map f) ≤ xs.length * (b + 10)
  | [], _ => Nat.zero_le _
  | x :: r, h => by
    have h1 := h x List.mem_cons_self
    have h2 := shSs_map f b r fun y hy => h y (List.mem_cons_of_mem _ hy)
    show shS (f x) + 10 + shSs (r.map f) ≤ (r.length + 1) * (b + 10)
    rw [Nat.add_mul]
    omega
theorem depthS_map {α : Type} (f : α → PyData) (b : Nat) : ∀ xs : List α, (∀ x, x ∈ xs → (f x).depth ≤ b) → PyData.depthAll (xs.map f) ≤ b
  | [], _ => Nat.zero_le _
  | x :: r, h => by
    have h1 := h x List.mem_cons_self
    have h2 := depthS_map f b r fun y hy => h y (List.mem_cons_of_mem _ hy)
    show max (f x).depth (PyData.depthAll (r.map f)) ≤ b
    omega
def rReprS (K : PySem.W.Frag) : List V → Hp → VK → Prop := fun vs H Q => (∃ (a : Addr) (d : PyData), vs = [.ref a] ∧ Dp K H (.ref a) d ∧ smS d = true ∧ d.depth ≤ 60 ∧ shS d ≤ sizeLine ∧ Q (.str d.shown) H) ∨ ∃ i : Int, vs = [.int i] ∧ i.natAbs.log2 < 1920 ∧ Q (.str (toString i)) H
theorem call_reprS {X : Cx} (hg : X.A.guards = some []) (hu : X.A.units + 64 < cLine) : CallR X (.builtin "repr") (rReprS X.K) := by
  intro pins s σ H xs us Q I r h
  rcases h with ⟨a, d, rfl, hd, sm, dp, sz, q⟩ | ⟨i, h1, h2, h3⟩
  · cases r with
    | cons r1 r2 =>
      cases r2
      cases r1
      obtain ⟨as, rd⟩ := Dp.reads I d _ _ hd rfl
      have ⟨h1, h2, h3⟩ := smS_shown d sm
      exact repr_of_reads' rd h1 (PyData.noDict_hsm h2) hg (by omega) (fun _ _ e => e) (fun h' u tk hk => ⟨.str _, H, I.kept hk, ⟨u, rfl⟩, q⟩) (Nat.le_trans h3 sz)
  · exact SkE.call_repr_int pins s σ H xs us Q I r ⟨i, h1, h2, h3⟩
end SW

namespace SW
open PySem PySem.Spec PyProof.Rows L2
/-! ### the shown text of data with texts of any length -/
mutual
def smW : PyData → Bool
  | .none => true
  | .bool _ => true
  | .int i => decide (i.natAbs < 10 ^ 60)
  | .str x => x.cps.toList.all fun c => decide (c < 16 ^ 8)
  | .list ds => smWs ds
  | .tuple ds => smWs ds
  | _ => false
def smWs : List PyData → Bool
  | [] => true
  | d :: r => smW d && smWs r
end
mutual
def shW : PyData → Nat
  | .str x => 10 * x.length + 2
  | .list ds => shWs ds + 10
  | .tuple ds => shWs ds + 10
  | _ => 70
def shWs : List PyData → Nat
  | [] => 0
  | d :: r => shW d + 10 + shWs r
end
mutual
theorem smW_shown : ∀ d : PyData, smW d = true → d.showable = true ∧ d.hasDict = false ∧ d.shown.length ≤ shW d
  | .none, _ => ⟨rfl, rfl, by decide⟩
  | .bool b, _ => ⟨rfl, rfl, by cases b <;> decide⟩
  | .int i, h => by
    have h := of_decide_eq_true (by unfold smW at h; exact h)
    refine ⟨decide_eq_true ?_, rfl, int_len i h⟩
    refine Nat.lt_of_le_of_lt (m := 200) ?_ (by decide)
    by_cases h0 : i.natAbs = 0
    · rw [h0]
      decide
    · refine Nat.le_of_lt ((Nat.log2_lt h0).mpr (Nat.lt_of_lt_of_le h (by decide)))
  | .list ds, h => by
    have ⟨h1, h2, h3⟩ := smWs_shown ds (by unfold smW at h; exact h)
    refine ⟨h1, h2, ?_⟩
    show (listText (PyData.shownAll ds)).length ≤ shWs ds + 10
    unfold listText
    rw [app_len]
    have := tf_len (PyData.shownAll ds) 0 (Str.ofString "[")
    have e1 : (Str.ofString "[").length = 1 := rfl
    have e2 : (Str.ofString "]").length = 1 := rfl
    omega
  | .tuple ds, h => by
    have ⟨h1, h2, h3⟩ := smWs_shown ds (by unfold smW at h; exact h)
    refine ⟨h1, h2, ?_⟩
    show (tupleText (PyData.shownAll ds)).length ≤ shWs ds + 10
    unfold tupleText
    rw [app_len, app_len]
    have := jn_len (Str.ofString ", ") (by decide) (PyData.shownAll ds)
    have e1 : (Str.ofString "(").length = 1 := rfl
    have e2 : (Str.ofString (if ((PyData.shownAll ds).length == 1) = true then ",)" else ")")).length ≤ 2 := by
      by_cases hk : ((PyData.shownAll ds).length == 1) = true
      · rw [if_pos hk]
        decide
      · rw [if_neg hk]
        decide
    omega
  | .str x, h => by
    refine ⟨rfl, rfl, ?_⟩
    show (reprText x).length ≤ 10 * x.length + 2
    unfold smW at h
    rw [List.all_eq_true] at h
    exact StrLaws.reprText_len x fun c hc => of_decide_eq_true (h c hc)
  | .dict _, h => by
    unfold smW at h
    cases h
theorem smWs_shown : ∀ ds : List PyData, smWs ds = true → PyData.showableAll ds = true ∧ PyData.hasDictAll ds = false ∧ ((PyData.shownAll ds).map fun t => t.length + 2).sum ≤ shWs ds
  | [], _ => ⟨rfl, rfl, Nat.le_refl _⟩
  | d :: r, h => by
    unfold smWs at h
    rw [Bool.and_eq_true] at h
    have ⟨a1, a2, a3⟩ := smW_shown d h.1
    have ⟨b1, b2, b3⟩ := smWs_shown r h.2
    refine ⟨?_, ?_, ?_⟩
    · show (d.showable && PyData.showableAll r) = true
      rw [a1, b1]
      rfl
    · show (d.hasDict || PyData.hasDictAll r) = false
      rw [a2, b2]
      rfl
    · show ((d.shown :: PyData.shownAll r).map fun t => t.length + 2).sum ≤ shW d + 10 + shWs r
      rw [List.map_cons, List.sum_cons]
      omega
end
theorem smWs_map {α : Type} (f : α → PyData) : ∀ xs : List α, (∀ x, x ∈ xs → smW (f x) = true) → smWs (xs.map f) = true
  | [], _ => rfl
  | x :: r, h => by
    show (smW (f x) && smWs (r.map f)) = true
    rw [h x List.mem_cons_self, smWs_map f r fun y hy => h y (List.mem_cons_of_mem _ hy)]
    rfl
theorem shWs_map {α : Type} (f : α → PyData) (b : Nat) : ∀ xs : List α, (∀ x, x ∈ xs → shW (f x) ≤ b) → shWs (xs.map f) ≤ xs.length * (b + 10)
  | [], _ => Nat.zero_le _
  | x :: r, h => by
    have h1 := h x List.mem_cons_self
    have h2 := shWs_map f b r fun y hy => h y (List.mem_cons_of_mem _ hy)
    show shW (f x) + 10 + shWs (r.map f) ≤ (r.length + 1) * (b + 10)
    rw [Nat.add_mul]
    omega
def rReprW (K : PySem.W.Frag) : List V → Hp → VK → Prop := fun vs H Q => ∃ (a : Addr) (d : PyData), vs = [.ref a] ∧ Dp K H (.ref a) d ∧ smW d = true ∧ d.depth ≤ 60 ∧ shW d ≤ sizeLine ∧ Q (.str d.shown) H
theorem call_reprW {X : Cx} (hg : X.A.guards = some []) (hu : X.A.units + 64 < cLine) : CallR X (.builtin "repr") (rReprW X.K) := by
  intro pins s σ H xs us Q I r h
  obtain ⟨a, d, rfl, hd, sm, dp, sz, q⟩ := h
  cases r with
  | cons r1 r2 =>
    cases r2
    cases r1
    obtain ⟨as, rd⟩ := Dp.reads I d _ _ hd rfl
    have ⟨h1, h2, h3⟩ := smW_shown d sm
    exact repr_of_reads' rd h1 (PyData.noDict_hsm h2) hg (by omega) (fun _ _ e => e) (fun h' u tk hk => ⟨.str _, H, I.kept hk, ⟨u, rfl⟩, q⟩) (Nat.le_trans h3 sz)
end SW

namespace SW
open PySem PySem.Spec PyProof.Rows L2
/-! ### comprehensions by their values -/
theorem lc_vals {J : It} {n : Nat} {G : Hp → Prop} {Y : Nat → Hp → V → Hp → Prop} (w : Walk J n G Y) {g : TG} {te : TE} {vs : List Nat} {σ : L2.St} {H1 : Hp} {D : Addr} {Qd : Hp → Prop} (hD : H1 D = none) (f : Nat → V) (hn : n ≤ 100000) (hG : ∀ H, Same H1 H → G H)
    (hs : ∀ (i : Nat) (x : V) (H H' : Hp) (Q : V → Hp → Prop), i < n → Same H1 H → Y i H x H' → (∀ H4, Same H H4 → Q (f i) H4) → g x (wipe σ vs) H' fun σ2 H2 => wipe σ2 vs = wipe σ vs ∧ te σ2 H2 Q)
    (hd : ∀ H, Same H1 H → H D = some (.lst ((List.range n).map f)) → Qd H) :
    ∃ W : Nat → Nat → Hp → Prop, (∃ m, W 0 m (upd H1 D (.lst []))) ∧ ∀ i m H, W i m H → (J.stop i H ∧ Qd H) ∨ (J.go i H ∧ ∃ Nx : Hp → Prop, (∀ H', Nx H' → ∃ m', m' < m ∧ W (i + 1) m' H') ∧
      ∀ x H', J.yld i H x H' → g x (wipe σ vs) H' fun σ2 H2 => wipe σ2 vs = wipe σ vs ∧ tYes σ2 H2 fun b H3 => if b = true then te σ2 H3 fun y H4 => ∃ acc, H4 D = some (.lst acc) ∧ acc.length < sizeLine ∧ Nx (upd H4 D (.lst (acc ++ [y]))) else Nx H3) := by
  let Pv : Nat → Hp → Prop := fun i H => Same H1 H ∧ H D = some (.lst ((List.range i).map f))
  refine ⟨fun i m H => m = n - i ∧ i ≤ n ∧ Pv i H, ⟨n, rfl, Nat.zero_le _, same_new hD, upd_same⟩, ?_⟩
  rintro i m H ⟨rfl, hi, s1, e⟩
  by_cases hlt : i < n
  · refine .inr ⟨w.goes i H hlt (hG H s1), Pv (i + 1), fun H' p => ⟨n - (i + 1), by omega, rfl, hlt, p⟩, fun x H' y => ?_⟩
    refine hs i x H H' _ hlt s1 (w.yields i H x H' hlt (hG H s1) y) fun H4 s4 => ?_
    refine ⟨_, s4 _ _ e, ?_, same_mut (s1.trans s4) hD, ?_⟩
    · rw [List.length_map, List.length_range]
      exact small_sz5 (by omega)
    · rw [List.range_succ, List.map_append, upd_same]
      rfl
  · have : i = n := by omega
    subst this
    exact .inl ⟨w.stops H (hG H s1), hd H s1 e⟩
/-- over a range, each item drawn from the hand -/
theorem lc_drawn {α : Type} {K : PySem.W.Frag} {lo : Int} {n : Nat} {h d : Addr} {ds : List Int} {g : TG} {te : TE} {vs : List Nat} {σ : L2.St} {H1 : Hp} {D : Addr} {Qd : Hp → Prop} (enc : α → PyData) (R : α → Prop) (hE : ∀ e, R e → noL (enc e) = true) (hn : n ≤ 1000) (hH : Hand H1 h d ds) (hD : H1 D = none)
    (hs : ∀ (i : Nat) (x : V) (H : Hp) (Q : V → Hp → Prop), i < n → But h H1 H → Hand H h d ds → x = .int (lo + i) → (∀ y e H4, But h H H4 → Hand H4 h d ds → R e → Dp K H4 y (enc e) → Q y H4) → g x (wipe σ vs) H fun σ2 H2 => wipe σ2 vs = wipe σ vs ∧ te σ2 H2 Q)
    (hd : ∀ H ys (es : List α), But h H1 H → Hand H h d ds → H D = some (.lst ys) → D ≠ h → D ≠ d → DpAll K H ys (es.map enc) → es.length = n → (∀ e, e ∈ es → R e) → Qd H) :
    ∃ W : Nat → Nat → Hp → Prop, (∃ m, W 0 m (upd H1 D (.lst []))) ∧ ∀ i m H, W i m H → ((Itr lo n).stop i H ∧ Qd H) ∨ ((Itr lo n).go i H ∧ ∃ Nx : Hp → Prop, (∀ H', Nx H' → ∃ m', m' < m ∧ W (i + 1) m' H') ∧
      ∀ x H', (Itr lo n).yld i H x H' → g x (wipe σ vs) H' fun σ2 H2 => wipe σ2 vs = wipe σ vs ∧ tYes σ2 H2 fun b H3 => if b = true then te σ2 H3 fun y H4 => ∃ acc, H4 D = some (.lst acc) ∧ acc.length < sizeLine ∧ Nx (upd H4 D (.lst (acc ++ [y]))) else Nx H3) := by
  have w : Walk (Itr lo n) n (fun _ => True) (YFn fun i => .int (lo + i)) := walk_range
  have hDh := hand_ne hH hD
  have hDd := hand_ne2 hH hD
  let Pv : Nat → Hp → Prop := fun i H => But h H1 H ∧ Hand H h d ds ∧ ∃ (ys : List V) (es : List α), H D = some (.lst ys) ∧ DpAll K H ys (es.map enc) ∧ es.length = i ∧ ∀ e, e ∈ es → R e
  refine ⟨fun i m H => m = n - i ∧ i ≤ n ∧ Pv i H, ⟨n, rfl, Nat.zero_le _, (But.refl h H1).new hD, hH.upd hDh hDd, [], [], upd_same, .nil, rfl, fun _ h => nomatch h⟩, ?_⟩
  rintro i m H ⟨rfl, hi, b1, hh, ys, es, e, ha, hl, hR⟩
  by_cases hlt : i < n
  · refine .inr ⟨w.goes i H hlt trivial, Pv (i + 1), fun H' p => ⟨n - (i + 1), by omega, rfl, hlt, p⟩, fun x H' y => ?_⟩
    obtain ⟨rfl, hx⟩ := w.yields i H x H' hlt trivial y
    refine hs i x _ _ hlt b1 hh hx fun y e4 H4 b4 hh4 hr4 h4 => ?_
    have e5 := b4 _ _ hDh e
    obtain ⟨k, hk⟩ := hh.at_
    have all : ∀ es : List α, (∀ e, e ∈ es → R e) → noLs (es.map enc) = true := fun es => by
      induction es with
      | nil => exact fun _ => rfl
      | cons a r ih =>
        intro hr
        show (noL (enc a) && noLs (r.map enc)) = true
        rw [hE a (hr a List.mem_cons_self), ih fun e he => hr e (List.mem_cons_of_mem _ he)]
        rfl
    have hbut : But D H4 (upd H4 D (.lst (ys ++ [y]))) := fun b o hne e => (upd_ne hne).trans e
    refine ⟨ys, e5, ?_, (b1.trans b4).new hD, hh4.upd hDh hDd, ys ++ [y], es ++ [e4], upd_same, ?_, by rw [List.length_append, hl]; rfl, fun e he => ?_⟩
    · rw [dpa_len ha, List.length_map]
      exact small_sz5 (by omega)
    · rw [List.map_append]
      exact dpa_snoc (dpa_but e5 hbut _ _ (all es hR) (dpa_but hk b4 _ _ (all es hR) ha)) (dp_but e5 hbut _ _ (hE _ hr4) h4)
    · rcases List.mem_append.mp he with he | he
      · exact hR e he
      · rw [List.mem_singleton.mp he]
        exact hr4
  · have : i = n := by omega
    subst this
    exact .inl ⟨w.stops H trivial, hd H ys es b1 hh e hDh hDd ha hl hR⟩
theorem dp_mem {K : PySem.W.Frag} {H : Hp} {xs : List V} {α : Type} {es : List α} {enc : α → PyData} {j : Nat} (ha : DpAll K H xs (es.map enc)) (hj : j < es.length) : ∃ v, xs[j]? = some v ∧ Dp K H v (enc es[j]) :=
  dpa_get' (j := j) ha (by rw [List.getElem?_map, List.getElem?_eq_getElem hj]; rfl)
theorem range_fn {α β : Type} (xs : List α) (g : α → β) : (List.range xs.length).map (fun i => if h : i < xs.length then some (g xs[i]) else none) = xs.map fun x => some (g x) :=
  range_map xs (fun x => some (g x)) _ fun i x h => by
    obtain ⟨h1, h2⟩ := List.getElem?_eq_some_iff.mp h
    rw [dif_pos h1, h2]
end SW

namespace SW
open PySem PySem.Spec PyProof.Rows L2
abbrev s_l_draws : Stmt := topS 19
theorem sc_l_draws : FnScope ["script", "many", "rests", "cell", "draws", "k", "at", "mixed"] ["script", "many"] (defScope s_l_draws) := ⟨rfl, rfl, rfl, by decide +kernel, rfl, by decide +kernel, by decide +kernel⟩

abbrev s_l_take : Stmt := topS 20
theorem sc_l_take : FnScope ["hand", "many", "at", "draws"] ["hand", "many"] (defScope s_l_take) := ⟨rfl, rfl, rfl, by decide +kernel, rfl, by decide +kernel, by decide +kernel⟩

section
variable {P : Program} {w : World} {K : PySem.W.Frag} {mg : PySem.Str → Option Value} {base : Heap}
def spTake : Sp := fun vs H Q _ => ∃ (h d : Addr) (ds : List Int) (m : Int), vs = [.ref h, .int m] ∧ 0 < m ∧ Hand H h d ds ∧ ∀ r H', 0 ≤ r → r < m → But h H H' → Hand H' h d ds → (∀ b, H b = none → H' b = none) → Q (.int r) H'
theorem ok_l_take (T : TxB mg) (D_l_take : Df K mg "_law_take" s_l_take ["hand", "many"]) : FnOk P w K mg base CX0 1 D_l_take.f D_l_take.fd ["hand", "many"] spTake := by
  refine D_l_take.F.ok sc_l_take (fun vs H Q E h => ?_) (fun cdv A outer s H vs Q E hr h => ?_)
  · obtain ⟨a, d, ds, m, rfl, _⟩ := h
    rfl
  · obtain ⟨a, d, ds, m, rfl, hm, ⟨⟨i, e1⟩, e2, e3⟩, q⟩ := h
    refine ⟨_, (pss_cons (ps_set (i := 2) sc_l_take.nd rfl (.inl rfl) (pe_ix ix_list (pv 0) pe_int (fun _ _ => rfl)))
    (pss_cons (ps_asg (pe_op op_add (pv 2) pe_int) (pg_sub (pv 0) pe_int set_list))
    (pss_cons (ps_set (i := 3) sc_l_take.nd rfl (.inl rfl) (pe_ix ix_list (pv 0) pe_int (fun _ _ => rfl)))
    (pss_cons (ps_if (pt_cmpR op_ge (pv 2) (pe_callB call_len_seq (by rfl) T.n_len PySem.boot_len (pa_cons (pv 3) pa_nil)) (nomark _))
    (pss_one (ps_ret pe_int))
    pss_nil)
    (pss_one (ps_ret (pe_op op_mod (pe_op op_fdiv (pe_callTy call_int1 (by rfl) T.n_int (by decide +kernel) (pa_cons (pe_ix ix_list (pv 3) (pv 2) (fun _ _ => rfl)) pa_nil)) pe_int) (pv 1)))))))), ?_⟩
    -- at = hand[1]
    refine ⟨_, rfl, a, _, _, _, rfl, rfl, SqL.of e1, atI_nat (j := 1) rfl, ?_⟩
    -- hand[1] = at + 1
    refine ⟨_, rfl, _, _, rfl, rfl, _, rfl, a, _, 1, 1, rfl, rfl, e1, rfl, ?_⟩
    have b1 : But a H (upd H a (.lst [.ref d, .int ((i + 1 : Nat) : Int)])) := fun b o n e => by
      rw [upd_ne n]
      exact e
    have e1' : upd H a (.lst [.ref d, .int ((i + 1 : Nat) : Int)]) a = some (.lst [.ref d, .int ((i + 1 : Nat) : Int)]) := upd_same
    have e2' : upd H a (.lst [.ref d, .int ((i + 1 : Nat) : Int)]) d = some (.lst (ds.map V.int)) := b1 _ _ e3 e2
    have fin : ∀ r, 0 ≤ r → r < m → Q (.int r) (upd H a (.lst [.ref d, .int ((i + 1 : Nat) : Int)])) := fun r h1 h2 => q r _ h1 h2 b1 ⟨⟨i + 1, e1'⟩, e2', e3⟩ fun b hb => by
      rw [upd_ne (fun e => by rw [e, e1] at hb; cases hb)]
      exact hb
    refine ⟨_, rfl, a, _, _, _, rfl, rfl, SqL.of e1', atI_nat (j := 0) rfl, ?_⟩
    refine ⟨_, rfl, _, rfl, d, _, rfl, .inl (SqL.of e2'), _, _, rfl, rfl, _, rfl, ite2 (fun e => ?_) (fun e => ?_)⟩
    · exact fin 0 (Int.le_refl 0) hm
    · have e4 := of_decide_eq_false (Bool.eq_false_iff.mpr e)
      rw [List.length_map] at e4
      have hi : i < ds.length := by omega
      have g : (ds.map V.int)[i]? = some (.int ds[i]) := by
        rw [List.getElem?_map, List.getElem?_eq_getElem hi]
        rfl
      refine ⟨_, rfl, _, rfl, d, _, _, _, rfl, rfl, SqL.of e2', atI_nat g, .inl ⟨_, rfl, _, _, rfl, rfl, ⟨by decide, by decide⟩, _, rfl, _, _, rfl, rfl, hm, ?_⟩⟩
      exact fin _ (Int.emod_nonneg _ (by omega)) (Int.emod_lt_of_pos _ hm)
def spDraws (K : PySem.W.Frag) : Sp := fun vs H Q _ => ∃ (a : Addr) (ns : List Int) (m : Nat), vs = [.ref a, .int m] ∧ SqL K H a (ns.map V.int) ∧ ns.length ≤ 1000 ∧ m ≤ 5000 ∧ ∀ p (ds : List Int) H', Same H H' → H p = none → H' p = some (.lst (ds.map V.int)) → Q (.ref p) H'
theorem ok_l_draws (T : TxB mg) (D_l_draws : Df K mg "_law_draws" s_l_draws ["script", "many"]) : FnOk P w K mg base CX0 1 D_l_draws.f D_l_draws.fd ["script", "many"] (spDraws K) := by
  refine D_l_draws.F.ok sc_l_draws (fun vs H Q E h => ?_) (fun cdv A outer s H vs Q E hr h => ?_)
  · obtain ⟨a, ns, m, rfl, _⟩ := h
    rfl
  · obtain ⟨a, ns, m, rfl, hS, hn, hm, q⟩ := h
    refine ⟨_, (pss_cons (ps_setLc (i := 2) (own := [("cell", 3)]) (g := gName 3) (by rfl) sc_l_draws.nd rfl rfl (sw_true rfl rfl rfl (by decide +kernel)) (pi_list (pv 0)) (blkOk_by (own := [("cell", 3)]) (N := ["script", "many", "rests", "cell", "draws", "k", "at", "mixed"]) (sc := defScope s_l_draws) (by decide +kernel)) (fun _ _ _ _ _ => pg_name (i := 3) sc_l_draws.nd rfl (Or.inl rfl)) (fun _ _ _ _ _ => pts_nil) (fun _ _ _ _ _ => (pe_callB call_abs (by rfl) T.n_abs (by decide +kernel) (pa_cons (pe_callTy call_int1 (by rfl) T.n_int (by decide +kernel) (pa_cons (pv 3) pa_nil)) pa_nil))))
    (pss_cons (ps_set (i := 4) sc_l_draws.nd rfl (.inl rfl) (pe_lst pa_nil))
    (pss_cons (ps_for PassesOwn.never rfl (pi_range1 (by rfl) T.n_range (pa_cons (pv 1) pa_nil)) (pg_name (i := 5) sc_l_draws.nd rfl (.inl rfl))
    (pss_cons (ps_set (i := 3) sc_l_draws.nd rfl (.inl rfl) (pv 5))
    (Evl.pss_cut (ps_if (pt_cmpR op_gt (pe_callB call_len_seq (by rfl) T.n_len PySem.boot_len (pa_cons (pv 0) pa_nil)) pe_int (nomark _))
    (pss_cons (ps_set (i := 6) sc_l_draws.nd rfl (.inl rfl) (pe_op op_mod (pv 5) (pe_callB call_len_seq (by rfl) T.n_len PySem.boot_len (pa_cons (pv 0) pa_nil))))
    (pss_cons (ps_set (i := 3) sc_l_draws.nd rfl (.inl rfl) (pe_callTy call_int1 (by rfl) T.n_int (by decide +kernel) (pa_cons (pe_ix ix_list (pv 0) (pv 6) (fun _ _ => rfl)) pa_nil)))
    (pss_one (ps_if (PW.pt (pw_and (pt_cmpR op_ge (pv 3) (pe_op op_pow pe_int pe_int) (nomark _)) (pw_and1 (pt_cmpR op_gt (pe_ix ix_list (pv 2) (pv 6) (fun _ _ => rfl)) pe_int (nomark _)))))
    (pss_cons (ps_expr (pe_bm PySem.F.plainAttrs_list PySem.F.slot_list_append PySem.F.type_list_append mt_append (pv 4) (pa_cons (pe_op op_mod (pe_callTy call_int1 (by rfl) T.n_int (by decide +kernel) (pa_cons (pe_ix ix_list (pv 2) (pv 6) (fun _ _ => rfl)) pa_nil)) pe_int) pa_nil)))
    (pss_cons (ps_asg (pe_op op_fdiv (pe_callTy call_int1 (by rfl) T.n_int (by decide +kernel) (pa_cons (pe_ix ix_list (pv 2) (pv 6) (fun _ _ => rfl)) pa_nil)) pe_int) (pg_sub (pv 2) (pv 6) set_list))
    (pss_one ps_continue)))
    pss_nil))))
    pss_nil)
    (pss_cons (ps_set (i := 7) sc_l_draws.nd rfl (.inl rfl) (pe_op op_mod (pe_callTy call_int1 (by rfl) T.n_int (by decide +kernel) (pa_cons (pe_op op_add (pe_op op_add (pe_op op_mul (pv 3) pe_int) (pe_op op_mul (pv 5) pe_int)) pe_int) pa_nil)) pe_int))
    (pss_cons (ps_set (i := 7) sc_l_draws.nd rfl (.inl rfl) (pe_op op_mod (pe_callTy call_int1 (by rfl) T.n_int (by decide +kernel) (pa_cons (pe_op op_add (pe_op op_fdiv (pe_op op_mul (pv 7) (pv 7)) pe_int) (pv 7)) pa_nil)) pe_int))
    (pss_one (ps_expr (pe_bm PySem.F.plainAttrs_list PySem.F.slot_list_append PySem.F.type_list_append mt_append (pv 4) (pa_cons (pe_op op_mod (pe_callTy call_int1 (by rfl) T.n_int (by decide +kernel) (pa_cons (pe_op op_add (pe_op op_fdiv (pe_op op_mul (pv 7) (pv 7)) pe_int) (pe_op op_mul (pv 5) pe_int)) pa_nil)) pe_int) pa_nil)))))))))
    (pss_one (ps_ret (pv 4)))))), ?_⟩
    -- rests = [..]
    refine ⟨.ref a, rfl, a, rfl, ⟨_, hS⟩, fun D hD => ?_⟩
    refine lc_list (K := K) (a := a) (xs := ns.map V.int) (fun i H1 => Same H H1 ∧ ∃ rs : List Int, rs.length = i ∧ H1 D = some (.lst (rs.map V.int))) ⟨same_new hD, [], rfl, upd_same⟩ (fun i H1 _ h => h.1.seq hS) (fun i x H1 hx hP => ?_) (fun H1 hP => ?_)
    · obtain ⟨s1, rs, hl, e1⟩ := hP
      rw [List.getElem?_map] at hx
      cases hni : ns[i]? with
      | none =>
        rw [hni] at hx
        cases hx
      | some n =>
        rw [hni] at hx
        cases hx
        have hlt : i < ns.length := by
          obtain ⟨h1, _⟩ := List.getElem?_eq_some_iff.mp hni
          exact h1
        refine ⟨rfl, ?_⟩
        refine ⟨_, rfl, .inl ⟨n, rfl, n, rfl, _, e1, ?_, same_mut s1 hD, rs ++ [if n < 0 then -n else n], ?_, ?_⟩⟩
        · rw [List.length_map, hl]
          exact small_sz5 (by omega)
        · rw [List.length_append, hl]
          rfl
        · rw [upd_same, List.map_append]
          rfl
    obtain ⟨s1, rs, hl, e1⟩ := hP
    rw [List.length_map] at hl
    -- draws = []
    refine ⟨Nat.zero_le _, fun p np => ?_⟩
    have npH : H p = none := s1.free np
    have npD : D ≠ p := ne_of_none e1 np
    refine ⟨_, rfl, m, rfl, by omega, by omega, ?_⟩
    refine for_range (lo := 0) (n := (m : Int).toNat) (fun i σ H2 => ∃ (y3 y5 y6 y7 : Option V) (rs ds : List Int), σ = [some (.ref a), some (.int m), some (.ref D), y3, some (.ref p), y5, y6, y7] ∧ rs.length = ns.length ∧ ds.length = i ∧ Same H H2 ∧ H2 D = some (.lst (rs.map V.int)) ∧ H2 p = some (.lst (ds.map V.int)))
      ⟨_, _, _, _, rs, [], rfl, hl, rfl, s1.trans (same_new np), (same_new np) _ _ e1, upd_same⟩ (fun i σ H2 hi hP => ?_) (fun σ H2 hP => ?_)
    · obtain ⟨y3, y5, y6, y7, rs, ds, rfl, hl, hd, s2, e2, e3⟩ := hP
      have hA : SqL K H2 a (ns.map V.int) := s2.seq hS
      -- cell = k
      refine ⟨_, rfl, ?_⟩
      refine ⟨fun σ' H' => ∃ (c : Int) (y6 : Option V), σ' = [some (.ref a), some (.int m), some (.ref D), some (.int c), some (.ref p), some (.int (0 + i)), y6, y7] ∧ H' = H2, ?_, ?_⟩
      · refine ⟨_, rfl, a, _, rfl, .inl hA, _, _, rfl, rfl, _, rfl, ite2 (fun e => ?_) (fun e => ?_)⟩
        · have e4 := of_decide_eq_true e
          rw [List.length_map] at e4
          have hpos : 0 < ns.length := by omega
          refine ⟨_, rfl, _, rfl, a, _, rfl, .inl hA, _, _, rfl, rfl, by rw [List.length_map]; omega, ?_⟩
          rw [List.length_map]
          have hk0 : 0 ≤ ((0 : Int) + i) % (ns.length : Int) := Int.emod_nonneg _ (by omega)
          have hk1 : ((0 : Int) + i) % (ns.length : Int) < ns.length := Int.emod_lt_of_pos _ (by omega)
          dsimp only
          generalize ((0 : Int) + i) % (ns.length : Int) = k at hk0 hk1
          obtain ⟨j, rfl⟩ : ∃ j : Nat, k = j := ⟨k.toNat, by omega⟩
          have hj : j < ns.length := by omega
          have g : (ns.map V.int)[j]? = some (.int ns[j]) := by
            rw [List.getElem?_map, List.getElem?_eq_getElem hj]
            rfl
          have hj2 : j < rs.length := by omega
          have g2 : (rs.map V.int)[j]? = some (.int rs[j]) := by
            rw [List.getElem?_map, List.getElem?_eq_getElem hj2]
            rfl
          refine ⟨_, rfl, _, rfl, a, _, _, _, rfl, rfl, hA, atI_nat g, .inl ⟨_, rfl, ?_⟩⟩
          refine ⟨_, rfl, _, _, rfl, rfl, ⟨by decide, by decide, by decide⟩, _, _, rfl, rfl, _, rfl, ite2 (fun e => ?_) (fun e => ?_)⟩
          · refine ⟨_, rfl, _, rfl, D, _, _, _, rfl, rfl, SqL.of e2, atI_nat g2, _, _, rfl, rfl, _, rfl, ite2 (fun e => ?_) (fun e => ?_)⟩
            · -- draws.append(rests[at] % ..)
              refine ⟨_, rfl, .inl ⟨rfl, _, SqL.of e3⟩, _, rfl, _, rfl, D, _, _, _, rfl, rfl, SqL.of e2, atI_nat g2, .inl ⟨_, rfl, _, _, rfl, rfl, (by show (0 : Int) < _; decide), p, _, _, rfl, rfl, e3, ?_, ?_⟩⟩
              · rw [List.length_map]
                exact small_sz5 (by omega)
              have e2' : (upd H2 p (.lst (ds.map V.int ++ [.int (rs[j] % 1000003)]))) D = some (.lst (rs.map V.int)) := by
                rw [upd_ne npD]
                exact e2
              refine ⟨_, rfl, _, rfl, D, _, _, _, rfl, rfl, SqL.of e2', atI_nat g2, .inl ⟨_, rfl, _, _, rfl, rfl, ⟨by decide, by decide⟩, _, rfl, _, rfl, D, _, _, j, rfl, rfl, e2', ?_, ?_⟩⟩
              · rw [List.length_map]
                exact ixN_nat (by omega)
              refine ⟨_, _, _, _, rs.set j (rs[j] / 1000003), ds ++ [rs[j] % 1000003], rfl, by rw [List.length_set, hl], by rw [List.length_append, hd]; rfl, same_mut (same_mut s2 npH) hD, ?_, ?_⟩
              · rw [upd_same, List.map_set]
              · rw [upd_ne npD.symm, upd_same, List.map_append]
                rfl
            · exact ⟨_, _, rfl, rfl⟩
          · exact iteF ⟨_, _, rfl, rfl⟩
        · exact ⟨_, _, rfl, rfl⟩
      · intro σ' H' hN
        obtain ⟨c, y6, rfl, rfl⟩ := hN
        refine ⟨_, rfl, _, _, rfl, rfl, .inr ⟨by decide, by decide⟩, _, rfl, _, _, rfl, rfl, .inr ⟨by decide, by decide⟩, _, _, rfl, rfl, _, _, rfl, rfl, .inl ⟨_, rfl, _, _, rfl, rfl, (by show (0 : Int) < _; decide), ?_⟩⟩
        have m0 : 0 ≤ (c * 48271 + (0 + (i : Int)) * 69621 + 11) % 2147483647 := Int.emod_nonneg _ (by decide)
        have m1 : (c * 48271 + (0 + (i : Int)) * 69621 + 11) % 2147483647 < 2147483647 := Int.emod_lt_of_pos _ (by decide)
        dsimp only
        generalize (c * 48271 + (0 + (i : Int)) * 69621 + 11) % 2147483647 = x at m0 m1
        refine ⟨_, rfl, _, rfl, _, _, rfl, rfl, .inl ⟨by omega, by omega⟩, _, _, rfl, rfl, ⟨by decide, by decide⟩, _, rfl, _, _, rfl, rfl, .inl ⟨_, rfl, _, _, rfl, rfl, (by show (0 : Int) < _; decide), ?_⟩⟩
        have m2 : 0 ≤ (x * x / 4096 + x) % 2147483629 := Int.emod_nonneg _ (by decide)
        have m3 : (x * x / 4096 + x) % 2147483629 < 2147483629 := Int.emod_lt_of_pos _ (by decide)
        dsimp only
        generalize (x * x / 4096 + x) % 2147483629 = y at m2 m3
        refine ⟨_, rfl, .inl ⟨rfl, _, SqL.of e3⟩, _, rfl, _, rfl, _, _, rfl, rfl, .inl ⟨by omega, by omega⟩, _, _, rfl, rfl, ⟨by decide, by decide⟩, _, rfl, _, _, rfl, rfl, .inr ⟨by decide, by decide⟩, _, _, rfl, rfl, .inl ⟨_, rfl, _, _, rfl, rfl, (by show (0 : Int) < _; decide), p, _, _, rfl, rfl, e3, ?_, ?_⟩⟩
        · rw [List.length_map]
          exact small_sz5 (by omega)
        refine ⟨_, _, _, _, rs, ds ++ [(y * y / 4096 + (0 + (i : Int)) * 7919) % 2147483629], rfl, hl, by rw [List.length_append, hd]; rfl, same_mut s2 npH, ?_, ?_⟩
        · rw [upd_ne npD]
          exact e2
        · rw [upd_same, List.map_append]
          rfl
    · obtain ⟨y3, y5, y6, y7, rs, ds, rfl, hl, hd, s2, e2, e3⟩ := hP
      exact ⟨_, rfl, q p ds H2 s2 npH e3⟩
end
end SW

namespace SW
open PySem PySem.Spec PyProof.Rows L2
/-! ### t + u and t[a:b] of tuples, whatever object comes of it -/
section
variable {X : Cx}
def rCatB (K : PySem.W.Frag) : R2 := fun x y H Q => ∃ a b xs ys, x = .ref a ∧ y = .ref b ∧ SqT K H a xs ∧ SqT K H b ys ∧ xs.length + ys.length ≤ sizeLine ∧ ∀ p H', Same H H' → SqT K H' p (xs ++ ys) → Q (.ref p) H'
theorem op_catB : OpR X (binaryOp .Add) (rCatB X.K) := by
  intro pins s σ H x y v u Q I rx ry h
  obtain ⟨a, b, xs, ys, h1, h2, h3, h4, h5, q⟩ := h
  refine op_catA pins s σ H x y v u Q I rx ry ⟨a, b, xs, ys, h1, h2, h3, h4, h5, fun e => ?_, fun _ e => ?_, fun _ _ p np => ?_⟩
  · subst e
    exact q b H (Same.refl _) h4
  · subst e
    refine q a H (Same.refl _) ?_
    rw [List.append_nil]
    exact h3
  · exact q p _ (same_new np) (SqT.of upd_same)
def rSlB (K : PySem.W.Frag) : V → Option Int → Option Int → Hp → VK → Prop := fun x lo hi H Q => ∃ a xs, x = .ref a ∧ SqT K H a xs ∧ ∀ p H', Same H H' → SqT K H' p (cutV xs lo hi) → Q (.ref p) H'
theorem sl_tupB : SlR X (rSlB X.K) := by
  intro pins s σ H x v vl vu lo hi sl Q I rx hs pl pu h
  obtain ⟨a, xs, h1, h2, q⟩ := h
  refine sl_tupA pins s σ H x v vl vu lo hi sl Q I rx hs pl pu ⟨a, xs, h1, h2, fun e => ?_, fun _ p np => ?_⟩
  · refine q a H (Same.refl _) ?_
    unfold cutV
    rw [e.1, e.2, List.drop_zero, Nat.sub_zero, List.take_length]
    exact h2
  · exact q p _ (same_new np) (SqT.of upd_same)
end
theorem cut_m1 (xs : List V) (v : V) : cutV (xs ++ [v]) none (some (-1)) = xs := by
  unfold cutV
  have e : HT.sIx (xs ++ [v]).length (xs ++ [v]).length (some (-1)) = xs.length := by
    show (if (-1 : Int) < 0 then ((-1 : Int) + ((xs ++ [v]).length : Int)).toNat else min (-1 : Int).toNat (xs ++ [v]).length) = _
    rw [if_pos (by decide), List.length_append]
    show ((-1 : Int) + ((xs.length + 1 : Nat) : Int)).toNat = _
    omega
  rw [e, HT.sIx_none, List.drop_zero, Nat.sub_zero, List.take_left]
theorem dpa_split {K : PySem.W.Frag} {H : Hp} : ∀ {ds es : List PyData} {xs : List V}, DpAll K H xs (ds ++ es) → ∃ ys zs, xs = ys ++ zs ∧ DpAll K H ys ds ∧ DpAll K H zs es
  | [], _, xs, h => ⟨[], xs, rfl, .nil, h⟩
  | d :: ds, es, _, .cons h1 h2 => by
    obtain ⟨ys, zs, e, h3, h4⟩ := dpa_split h2
    exact ⟨_ :: ys, zs, by rw [e]; rfl, .cons h1 h3, h4⟩
end SW

namespace SW
open PySem PySem.Spec PyProof.Rows L2
/-! ### a call of a def whose promise wants the guards -/
section
variable {X : Cx} {CX : CXT} {k : Nat} {f : Addr} {fd : FuncData} {ps : List PySem.Str} {sp : Sp} {dvs : List V} {ds : List Value} {E : XK}
theorem run_fnG {pins : List (Addr × Obj)} {σ : L2.St} {H : Hp} {s : Shared} {Q : VK} {us : List Value} {vs : List V} (gd : X.A.guards = some []) (len : ∀ vs H Q E, sp vs H Q E → vs.length = ps.length) (F : FnOkG X.prog X.w X.K X.mg X.base CX k f fd ps sp) (hr : Room k X.A) (hb : Binds X.K fd ps ds) (hd : Vals dvs ds) (hx : Passes CX X E)
    (I : Inv X pins σ H s) (r : Vals vs us) (h : sp (vs ++ dvs) H Q E) : wpAny (model X.prog X.w) X.A (call (.ref f) us) (EP X pins σ Q) X.xe s := by
  have r2 : Vals (vs ++ dvs) (us ++ ds) := r.append hd
  have hl : (us ++ ds).length = ps.length := by
    rw [← r2.length]
    exact len _ _ _ _ h
  refine wpAny_call (codeAny_mono (F.run X.A X.stack s H ⟨us, []⟩ (us ++ ds) (vs ++ dvs) Q E gd hr I.env0 (hb s us I.kIn hl) r2 h) fun r s' hq => ?_)
  cases r with
  | error e => exact hx pins σ H s e s' I hq
  | ok fl =>
    cases fl with
    | ret u => exact I.after hq
    | next => exact False.elim hq
    | brk => exact False.elim hq
    | cont => exact False.elim hq
theorem pe_callG {x : PySem.Str} {p pos : Pos} {e : Expr} {es : List Expr} {t : TA} (gd : X.A.guards = some []) (len : ∀ vs H Q E, sp vs H Q E → vs.length = ps.length) (F : FnOkG X.prog X.w X.K X.mg X.base CX k f fd ps sp) (hr : Room k X.A) (hg : Gl X x) (hm : X.mg x = some (.ref f)) (hk : PySem.W.keepIn X.K (.ref f) = true) (hb : Binds X.K fd ps ds) (hd : Vals dvs ds) (hx : Passes CX X E)
    (ha : PA X (e :: es) t) (hdb : (x == ("__debug__" : PySem.Str)) = false := by decide) (he : starEach (e :: es) X.env = (false, eval e X.env) :: starEach es X.env := by rfl) (hpl : (backTo pos (starEach es X.env)).any (·.1) = false := by rfl) :
    PE X (.Call (.Name x p) (e :: es) [] pos) (tCall sp dvs E t) := by
  refine ⟨fun pins s σ H Q I h => ?_⟩
  refine wpAny_Call_Name_kw (ld_glob I hg hm ?_ hdb)
  refine PySem.W.callWith_K (h₀ := X.base) I.ok.mod.kin hk (thn (ha.run pos pins s σ H _ I h) fun us s1 ⟨vs, H1, I1, r, q⟩ => ⟨I1.kIn, ?_⟩) he hpl
  exact run_fnG gd len F hr hb hd hx I1 r q
end
end SW

namespace SW
open PySem PySem.Spec PyProof.Rows L2
/-! ### Base.__init__(self, ..) where Base is an own class over ValueError -/
section
variable {X : Cx} {e : Expr} {es : List Expr} {ta : TA} {x : PySem.Str} {p1 p2 pos : Pos} {CS : Addr}
theorem pe_cinit {pl : Sem Bool} (hg : Gl X x) (hm : X.mg x = some (.ref CS)) (hd : (x == ("__debug__" : PySem.Str)) = false) (hr : PySem.W.readsIn X.K CS (.type "type") = true) (hga : PySem.W.specialIn X.K (.ref CS) "__getattribute__" = some (some (.builtin "type.__getattribute__")))
    (vV : PySem.W.findCls X.K (.ref CS) (.type "type") "__init__" = some (.val (.builtin "ValueError.__init__"))) (ha : PA X (e :: es) ta)
    (hc : eval (.Call (.Attribute (.Name x p1) "__init__" p2) (e :: es) [] pos) X.env = (do
      let ov ← eval (.Name x p1) X.env
      standAt p2.atName
      let (f, first) ← holding [ov] (getMethod ov "__init__" pl)
      callWith pos f first (backTo pos (starEach (e :: es) X.env)) (backToKw pos (keywordEach [] X.env))) := by rfl)
    (he : starEach (e :: es) X.env = (false, eval e X.env) :: starEach es X.env := by rfl) (hpl : (backTo pos (starEach es X.env)).any (·.1) = false := by rfl) :
    PE X (.Call (.Attribute (.Name x p1) "__init__" p2) (e :: es) [] pos) (tVeI X.K ta) := by
  refine ⟨fun pins s σ H Q I h => ?_⟩
  refine PySem.W.methodCall_KW (ld_glob I hg hm ?_ hd) hc
  refine PySem.W.method_cls I.kIn hga ?_
  refine PySem.W.cls_value I.kIn hr vV (by decide +kernel) ?_
  show wpAny _ _ (callWith pos (Value.builtin "ValueError.__init__") [] (backTo pos (starEach (e :: es) X.env)) []) _ _ _
  refine PyProof.Rows.callWith_method1 (thn (ha.run pos pins _ σ H _ (I.tok _) h) fun us s1 ⟨vs, H1, I1, r1, a, C, ws, ev, hl, T, ea, q⟩ => ?_) he hpl
  subst ev
  cases r1 with
  | @cons _ u0 _ ur ra rw' =>
    obtain rfl : u0 = Value.ref a := ra
    have hlen : ur.length ≤ sizeLine := by
      rw [← Paired.length rw', sizeLine_eq]
      omega
    exact oinit_ok T I1 ea hlen fun s' J => ⟨.non, H1, J, rfl, q⟩
end
/-! ### isinstance of a caught error that has fields -/
def rIsED (K : PySem.W.Frag) (cls : Value) (d : Option Addr) (a : Addr) : List V → Hp → VK → Prop := fun xs H Q => ∃ (D dd : Addr) (fs : List (PySem.Str × V)) (c : V) (cv : Value) (b : Bool), cls = .ref D ∧ ExcC K D ∧ d = some dd ∧ H dd = some (.xd fs) ∧ xs = [.ref a, c] ∧ ClsV c cv ∧ PySem.W.kitOne K (.ref D) cv = some b ∧ Q (.bl b) H
def rIsET (K : PySem.W.Frag) (cls : Value) (d : Option Addr) (a : Addr) : List V → Hp → VK → Prop := fun xs H Q => ∃ (D dd : Addr) (fs : List (PySem.Str × V)) (tp : Addr) (cs : List V) (us : List Value) (b : Bool), cls = .ref D ∧ ExcC K D ∧ d = some dd ∧ H dd = some (.xd fs) ∧ xs = [.ref a, .ref tp] ∧ H tp = some (.tup cs) ∧ Paired ClsV cs us ∧ PySem.W.kitAny K (.ref D) us = some b ∧ Q (.bl b) H
section
variable {X : Cx} {a : Addr} {oe : Obj} {cls : Value} {d : Option Addr} {pn : List (Addr × Obj)}
theorem inst_exc {pins : List (Addr × Obj)} {σ : L2.St} {H : Hp} {s : Shared} {D dd : Addr} {fs : List (PySem.Str × V)} (hz : Zc (.ref D) (some dd) oe) (hf : ∃ vs, oe.data = .fields vs) (I : Inv (X.suite a ((a, oe) :: pn)) pins σ H s) (ea : H dd = some (.xd fs)) :
    ∃ ho, PySem.W.InstAt s.heap a oe D (some ho) := by
  obtain ⟨ha, _⟩ := I.pin (a, oe) (List.mem_append_left _ List.mem_cons_self)
  obtain ⟨vs, hd⟩ := hf
  have hx : ObjOk X.prog X.w H s.heap dd (.xd fs) := I.hok dd _ ea
  obtain ⟨mA, hns, hr⟩ := hx
  obtain ⟨od, ho, hl⟩ := lookIn_ns hns
  exact ⟨od, ha, hz.1, by unfold PySem.W.notCls; rw [hd] <;> rfl, by rw [hz.2]; exact ho⟩
theorem kit_exc {K : PySem.W.Frag} {D : Addr} {ho : Option Obj} (C : ExcC K D) : PySem.W.KitX K (.ref a) (.ref D) (fun h => PySem.W.InstAt h a oe D ho) :=
  PySem.W.kitx_exc (by obtain ⟨cd, hc, _⟩ := PySem.W.any_some C.hd; rw [hc]; rfl) C.hg C.hk C.hs C.ha C.hn C.ht C.hm
theorem call_isED (hz : Zc cls d oe) (hf : ∃ vs, oe.data = .fields vs) : CallR (X.suite a ((a, oe) :: pn)) (.builtin "isinstance") (rIsED X.K cls d a) := by
  intro pins s σ H xs us Q I r h
  obtain ⟨D, dd, fs, c, cv, b, rfl, C, rfl, ea, rfl, hcv, e, q⟩ := h
  obtain ⟨u1, u2, rfl, r1, r2⟩ := vals2 r
  have e2 := hcv.eq r2
  subst e2
  cases r1
  obtain ⟨ho, J⟩ := inst_exc hz hf I ea
  exact PySem.W.kia_one (kit_exc C) I.kIn J e (fun z => nomatch z) fun tk => ⟨.bl b, H, I.tok tk, rfl, q⟩
theorem call_isET (hz : Zc cls d oe) (hf : ∃ vs, oe.data = .fields vs) : CallR (X.suite a ((a, oe) :: pn)) (.builtin "isinstance") (rIsET X.K cls d a) := by
  intro pins s σ H xs us Q I r h
  obtain ⟨D, dd, fs, tp, cs, cvs, b, rfl, C, rfl, ea, rfl, ht, hcs, e, q⟩ := h
  obtain ⟨u1, u2, rfl, r1, r2⟩ := vals2 r
  cases r1
  cases (show u2 = Value.ref tp from r2)
  obtain ⟨ho, J⟩ := inst_exc hz hf I ea
  obtain ⟨_, its, rv, o, h1, h2, n, h3⟩ := (show ObjOk X.prog X.w H s.heap tp (.tup cs) from I.hok tp _ ht)
  have e3 := ClsV.all hcs rv
  subst e3
  obtain ⟨oc, od, dt, sl⟩ := o
  simp only at h2 h3
  subst h2 h3
  exact PySem.W.kia_tup (kit_exc C) I.kIn J h1 e (fun z => nomatch z) fun tk => ⟨.bl b, H, I.tok tk, rfl, q⟩
end
end SW

namespace SW
open PySem PySem.Spec PyProof.Rows L2
/-! ### a statement that is never reached -/
theorem ps_never {X : Cx} {st : Stmt} : PS X st (fun _ _ _ => False) := ⟨fun _ _ _ _ _ _ h => h.elim⟩
/-! ### t[::-1] -/
section
variable {prog : Program} {w : World} {A : Around} {E : Value → Shared → Prop} {s : Shared}
theorem adjust_rev (n : Nat) : Builtin.Slice.sliceAdjust none none (-1) (n : Int) = ((n : Int) - 1, -1) := by
  unfold Builtin.Slice.sliceAdjust
  simp
theorem places_rev (n : Nat) : Builtin.Slice.slicePlaces ((n : Int) - 1) (-1) (-1) = n := by
  unfold Builtin.Slice.slicePlaces
  have h1 : ¬ ((-1 : Int) > 0) := by omega
  simp only [h1, if_false]
  split
  · have : ((n : Int) - 1 - -1 - 1) / (- -1) + 1 = (n : Int) := by
      rw [Int.neg_neg, Int.ediv_one]
      omega
    omega
  · omega
theorem sliceApplied_rev {sl : Addr} {vl vu vs : Value} {n : Nat} {Q : Int × Int × Nat → Shared → Prop} (hs : s.heap.IsSliceOf sl vl vu vs) (pl : IsPart vl none) (pu : IsPart vu none) (ps : IsPart vs (some (-1)))
    (h : Q ((n : Int) - 1, -1, n) s) : wpAny (model prog w) A (Builtin.Slice.sliceApplied (.ref sl) (pure (n : Int))) Q E s := by
  obtain ⟨os, hos, hcs, hds⟩ := id hs
  unfold Builtin.Slice.sliceApplied Builtin.Slice.sliceFields
  refine wpAny_bind (wpAny_bind (wpAny_field hos hds (x := vl) rfl (wpAny_bind (wpAny_field hos hds (x := vu) rfl (wpAny_bind (wpAny_field hos hds (x := vs) rfl (wpAny_pure ?_)))))))
  refine wpAny_bind (HT.slicePart_ ps ?_)
  show wpAny _ _ (if ((-1 : Int) == 0) = true then _ else _) _ _ s
  rw [if_neg (by decide)]
  refine wpAny_bind (HT.slicePart_ pl (wpAny_bind (HT.slicePart_ pu (wpAny_bind (wpAny_pure ?_)))))
  show wpAny _ _ (match Builtin.Slice.sliceAdjust none none (-1) (n : Int) with | (lo, hi) => pure (lo, (-1 : Int), Builtin.Slice.slicePlaces lo hi (-1))) _ _ s
  rw [adjust_rev n]
  show wpAny _ _ (pure ((n : Int) - 1, (-1 : Int), Builtin.Slice.slicePlaces ((n : Int) - 1) (-1) (-1))) _ _ s
  rw [places_rev]
  exact wpAny_pure h
theorem fm_congr {α β : Type} {f g : α → Option β} : ∀ {l : List α}, (∀ x, x ∈ l → f x = g x) → l.filterMap f = l.filterMap g
  | [], _ => rfl
  | a :: r, h => by
    rw [List.filterMap_cons, List.filterMap_cons, h a List.mem_cons_self, fm_congr (l := r) fun x hx => h x (List.mem_cons_of_mem _ hx)]
theorem pick_rev (xs : Array Value) : ((List.range xs.size).filterMap fun (k : Nat) => xs[(((xs.size : Int) - 1) + (k : Int) * (-1)).toNat]?).toArray = xs.toList.reverse.toArray := by
  congr 1
  have e : (List.range xs.size).filterMap (fun (k : Nat) => xs[(((xs.size : Int) - 1) + (k : Int) * (-1)).toNat]?) = (List.range xs.size).filterMap fun k => xs.toList.reverse[k]? := by
    refine fm_congr fun k hk => ?_
    have hk := List.mem_range.mp hk
    rw [show (((xs.size : Int) - 1) + (k : Int) * (-1)).toNat = xs.size - 1 - k by omega, List.getElem?_reverse (by rw [Array.length_toList]; exact hk), Array.length_toList, Array.getElem?_toList]
  rw [e]
  have g : ∀ l : List Value, (List.range l.length).filterMap (fun k => l[k]?) = l := fun l => by
    induction l with
    | nil => rfl
    | cons a r ih =>
      rw [List.length_cons, List.range_succ_eq_map, List.filterMap_cons]
      show a :: _ = _
      rw [List.filterMap_map]
      exact congrArg (a :: ·) ih
  have := g xs.toList.reverse
  rw [List.length_reverse, Array.length_toList] at this
  exact this
theorem getItem_tuple_rev {t sl : Addr} {items : Array Value} {vl vu vs : Value} {Q : Value → Shared → Prop} (ht : IsTup s.heap t items) (hs : s.heap.IsSliceOf sl vl vu vs) (pl : IsPart vl none) (pu : IsPart vu none) (ps : IsPart vs (some (-1)))
    (h : Q (.ref s.heap.objs.size) { s with heap := s.heap.push { cls := .type "tuple", data := .seq items.toList.reverse.toArray } })
    (hsz : items.size ≤ sizeLine) : wpAny (model prog w) A (getItem (.ref t) (.ref sl)) Q E s := by
  have htake : sizeOk (.seq items.toList.reverse.toArray) := by
    show items.toList.reverse.toArray.size ≤ sizeLine
    rw [List.size_toArray, List.length_reverse, Array.length_toList]
    exact hsz
  obtain ⟨os, hos, hcs, hds⟩ := id hs
  have hTs : s.TypeIs (.ref sl) "slice" := ⟨os, hos, hcs⟩
  unfold getItem
  try with_reducible refine wpAny_holding ?_
  first | refine wpAny_bind (wpAny_pure ?_) | skip
  refine wpAny_bind (wpAny_sequenceKey ht.typeIs (by decide) ?_)
  refine wpAny_bind (wpAny_callSpecial?_slot (name := Str.ofString "__getitem__") ht.typeIs PyProof.Rows.slot_tuple_getitem
    (wpAny_call_entry PyProof.Rows.slot_tuple_getitem ht.typeIs entry_tuple_getitem ?_ (args_tuple_getitem _ _)))
  show wpAny _ _ (Builtin.Tuple.tupleItemsOf (.ref t) >>= _) _ _ s
  refine wpAny_bind (tupleItemsOf_ ht ?_)
  refine wpAny_bind (wpAny_typeOf hTs ?_)
  rw [if_pos (by decide)]
  refine wpAny_bind (sliceApplied_rev hs pl pu ps ?_)
  have hno : ¬ ((((items.size : Int) - 1) == 0 && (-1 : Int) == 1 && items.size == items.size) = true) := by
    intro q
    rw [Bool.and_eq_true, Bool.and_eq_true] at q
    exact absurd q.1.2 (by decide)
  show wpAny _ _ (if (((items.size : Int) - 1) == 0 && (-1 : Int) == 1 && items.size == items.size) = true then _ else _) _ _ s
  rw [if_neg hno, pick_rev]
  first
    | exact wpAny_bind (m := Builtin.Tuple.tupleExact _) (wpAny_newObj_type (wpAny_pure ⟨_, rfl, wpAny_pure h⟩) htake)
    | exact wpAny_bind (m := Builtin.Tuple.tupleExact _) (wpAny_newObj_type (wpAny_bind (wpAny_pure (wpAny_pure ⟨_, rfl, wpAny_pure h⟩))) htake)
    | exact wpAny_bind (wpAny_bind (m := Builtin.Tuple.tupleExact _) (wpAny_newObj_type (wpAny_pure (wpAny_pure ⟨_, rfl, wpAny_pure h⟩)) htake))
    | exact wpAny_bind (wpAny_bind (m := Builtin.Tuple.tupleExact _) (wpAny_newObj_type (wpAny_pure ⟨_, rfl, wpAny_pure h⟩) htake))
end
section
variable {X : Cx}
def tRevT (K : PySem.W.Frag) (te : TE) : TE := fun σ H Q => te σ H fun x H1 => ∃ a xs, x = .ref a ∧ SqT K H1 a xs ∧ ∀ p, H1 p = none → Q (.ref p) (upd H1 p (.tup xs.reverse))
theorem pe_revT {e : Expr} {te : TE} {k : Nat} {p1 p2 p3 pos : Pos} (he : PE X e te) : PE X (.Subscript e (.Slice none none (some (.UnaryOp .USub (.Constant (.int 1) k p1) p2)) p3) pos) (tRevT X.K te) := by
  refine ⟨fun pins s σ H Q I h => ?_⟩
  refine Subscript_ (thn (he.run pins s σ H _ I h) fun v s1 ⟨x, H1, I1, r1, q1⟩ => ?_)
  obtain ⟨a, xs, ex, hx, q⟩ := q1
  subst ex
  cases r1
  have hst : PO X (some (.UnaryOp .USub (.Constant (.int 1) k p1) p2)) (tPart (tUn (rU fun i => .int (-i)) (tC (.int 1)))) := po_some (pe_un un_neg pe_int)
  refine wpAny_Slice (thn (po_none.run pins s1 σ H1 (fun o H2 => o = none ∧ H2 = H1) I1 ⟨rfl, rfl⟩) fun vl s2 ⟨l, H2, I2, pl, el, e2⟩ => ?_)
  subst el e2
  refine thn (po_none.run pins s2 σ H2 (fun o H3 => o = none ∧ H3 = H2) I2 ⟨rfl, rfl⟩) fun vu s3 ⟨u, H3, I3, pu, eu, e3⟩ => ?_
  subst eu e3
  refine thn (hst.run pins s3 σ H3 (fun o H4 => o = some (-1) ∧ H4 = H3) I3 ⟨1, rfl, -1, rfl, rfl, rfl⟩) fun vs s4 ⟨o, H4, I4, ps, eo, e4⟩ => ?_
  subst eo e4
  have I5 : Inv X pins σ H4 { s4 with heap := s4.heap.push { cls := .type "slice", data := .fields #[vl, vu, vs] } } := I4.kept (t' := s4.toks) fun b ob q => Heap.get?_push_of_some _ q
  obtain ⟨its, r, ht, hz⟩ := I5.tuple hx
  have hlen := r.length
  show wpAny (model X.prog X.w) X.A (subscriptTail e (.Slice none none (some (.UnaryOp .USub (.Constant (.int 1) k p1) p2)) p3) (.ref a) (.ref s4.heap.objs.size)) (EP X pins σ Q) X.xe { s4 with heap := s4.heap.push { cls := .type "slice", data := .fields #[vl, vu, vs] } }
  refine tail_any (ops := [.ref a, .ref s4.heap.objs.size]) ht.typeIs (PyProof.Rows.slot_tuple_getitem.lookup) ?_ (by with_unfolding_all rfl)
  refine getItem_tuple_rev ht (Heap.IsSliceOf.new _ vl vu vs) pl pu ps ?_ (by rw [List.size_toArray]; omega)
  refine ⟨.ref _, _, I5.laid (t' := s4.toks) (o := .tup xs.reverse) (fun b ob q => Heap.get?_push_of_some _ q) (Nat.le_refl _) ?_, rfl, q _ (I5.hok.fresh (Nat.le_refl _))⟩
  exact ⟨by rw [List.length_reverse]; exact hz, _, r.reverse, IsTup.new _ _⟩
end
/-! ### numbers as words -/
abbrev nz (i : Int) : PySem.Str := PySem.Str.ofString (toString i)
abbrev sDigits : PySem.Str := "0123456789"
def cD : List Nat := [48, 49, 50, 51, 52, 53, 54, 55, 56, 57]
theorem cD_eq : sDigits.cps.toList = cD := rfl
theorem digit_in : ∀ c < 58, 48 ≤ c → c ∈ cD := by decide
theorem digit_of : ∀ x ∈ cD, 48 ≤ x ∧ x ≤ 57 := by decide
theorem len_cps (z : PySem.Str) : z.length = z.cps.toList.length := rfl
theorem cps_app (x y : PySem.Str) : (x ++ y).cps.toList = x.cps.toList ++ y.cps.toList := TL.tl_append x y
theorem numL_head : ∀ (n : Nat), 1 ≤ n → (TL.numL n).head? ≠ some 48 := by
  intro n
  induction n using Nat.strongRecOn with
  | _ n ih =>
    intro h1
    by_cases h : n < 10
    · rw [TL.numL_lt h]
      intro e
      injection e with e
      omega
    · rw [TL.numL_step (by omega)]
      have h2 := ih (n / 10) (by omega) (by omega)
      obtain ⟨x, t, e⟩ := List.exists_cons_of_ne_nil (TL.numL_ne (n / 10))
      rw [e] at h2 ⊢
      exact h2
theorem nz_cps {n : Int} (h : 0 ≤ n) : (nz n).cps.toList = TL.numL n.natAbs := by
  obtain ⟨m, rfl⟩ : ∃ m : Nat, n = m := ⟨n.toNat, by omega⟩
  exact TL.tl_num m
def valN (z : PySem.Str) : Int := ((NumText.digitsVal z.cps.toList : Nat) : Int)
/-- a word that is a number -/
def isNum (z : PySem.Str) : Bool := decide (z.cps.toList ≠ []) && (decide (z.length ≤ 12) && ((!(decide (z.cps.toList.head? = some 48) && decide (z ≠ "0"))) && z.cps.toList.all fun c => decide (c ∈ cD)))
theorem isNum_digits {z : PySem.Str} (h : isNum z = true) : NumText.AllDigits z.cps.toList ∧ z.cps.toList ≠ [] ∧ z.length ≤ 12 := by
  unfold isNum at h
  rw [Bool.and_eq_true, Bool.and_eq_true, Bool.and_eq_true] at h
  obtain ⟨h1, h2, _, h3⟩ := h
  rw [List.all_eq_true] at h3
  exact ⟨fun x hx => digit_of x (of_decide_eq_true (h3 x hx)), of_decide_eq_true h1, of_decide_eq_true h2⟩
theorem isNum_int {z : PySem.Str} (h : isNum z = true) : PySem.intText? z = some (valN z) := by
  obtain ⟨h1, h2, h3⟩ := isNum_digits h
  exact intText_digits h1 h2 (by omega)
def okN (n : Int) : Prop := 0 ≤ n ∧ n < 10 ^ 12
theorem okN.log {n : Int} (h : okN n) : n.natAbs.log2 < 1920 := by
  have := h.1
  have := h.2
  by_cases h0 : n.natAbs = 0
  · rw [h0]
    decide
  · refine (Nat.log2_lt h0).mpr (Nat.lt_of_lt_of_le (show n.natAbs < 2 ^ 64 by omega) (Nat.pow_le_pow_right (by decide) (by decide)))
theorem nz_len {n : Int} (h : okN n) : (nz n).length ≤ 12 := by
  rw [len_cps, nz_cps h.1]
  exact TL.numL_len (by decide) (by have := h.1; have := h.2; omega)
theorem nz_free {n : Int} (h : okN n) {c : Nat} (hc : c < 48 ∨ 57 < c) : ¬ c ∈ (nz n).cps.toList := by
  rw [nz_cps h.1]
  exact TL.numL_free hc
theorem nz_num {n : Int} (h : okN n) : isNum (nz n) = true ∧ valN (nz n) = n := by
  have hc := nz_cps h.1
  have hd := TL.numL_digits n.natAbs
  have hl := nz_len h
  refine ⟨?_, ?_⟩
  · unfold isNum
    rw [decide_eq_true hl, decide_eq_true (show (nz n).cps.toList ≠ [] by rw [hc]; exact TL.numL_ne _)]
    have ha : ((nz n).cps.toList.all fun c => decide (c ∈ cD)) = true := by
      rw [List.all_eq_true, hc]
      intro x hx
      have := hd x hx
      exact decide_eq_true (digit_in x (by omega) this.1)
    rw [ha]
    by_cases h0 : n = 0
    · subst h0
      decide
    · have h1 := numL_head n.natAbs (by omega)
      rw [hc, decide_eq_false h1]
      rfl
  · unfold valN
    rw [hc, TL.numL_val]
    have := h.1
    omega
theorem nz_pos {n : Int} (h : okN n) (h1 : 1 ≤ n) : nz n ≠ "0" := fun e => by
  have h2 := numL_head n.natAbs (by omega)
  rw [← nz_cps h.1, e] at h2
  exact h2 rfl
/-! ### joined texts -/
theorem joinL_len (S : List Nat) : ∀ ps : List (List Nat), (TL.joinL S ps).length ≤ (ps.map (·.length)).sum + ps.length * S.length
  | [] => Nat.zero_le _
  | [p] => by
    show p.length ≤ (p.length + 0) + 1 * S.length
    omega
  | p :: q :: r => by
    have h := joinL_len S (q :: r)
    show (p ++ (S ++ TL.joinL S (q :: r))).length ≤ ((p :: q :: r).map (·.length)).sum + ((q :: r).length + 1) * S.length
    rw [List.length_append, List.length_append, List.map_cons, List.sum_cons, Nat.add_mul]
    omega
theorem joinL_mem {S : List Nat} {c : Nat} : ∀ {ps : List (List Nat)}, c ∈ TL.joinL S ps → c ∈ S ∨ ∃ p, p ∈ ps ∧ c ∈ p
  | [], h => (List.not_mem_nil h).elim
  | [p], h => .inr ⟨p, List.mem_singleton.mpr rfl, h⟩
  | p :: q :: r, h => by
    have h : c ∈ p ++ (S ++ TL.joinL S (q :: r)) := h
    rcases List.mem_append.mp h with h | h
    · exact .inr ⟨p, List.mem_cons_self, h⟩
    · rcases List.mem_append.mp h with h | h
      · exact .inl h
      · rcases joinL_mem h with h | ⟨z, h1, h2⟩
        · exact .inl h
        · exact .inr ⟨z, List.mem_cons_of_mem _ h1, h2⟩
theorem join_cps (y : PySem.Str) (ps : List PySem.Str) : (Txt.join y ps).cps.toList = TL.joinL y.cps.toList (ps.map fun z => z.cps.toList) := by
  rw [TL.join_eq]
  exact TL.tl_join y ps
theorem join_le (y : PySem.Str) (ps : List PySem.Str) : (Txt.join y ps).length ≤ (ps.map (·.length)).sum + ps.length * y.length := by
  rw [len_cps, join_cps]
  have := joinL_len y.cps.toList (ps.map fun z => z.cps.toList)
  rw [List.map_map, List.length_map] at this
  exact this
theorem join_mem {y : PySem.Str} {ps : List PySem.Str} {c : Nat} (h : c ∈ (Txt.join y ps).cps.toList) : c ∈ y.cps.toList ∨ ∃ p, p ∈ ps ∧ c ∈ p.cps.toList := by
  rw [join_cps] at h
  rcases joinL_mem h with h | ⟨p, h1, h2⟩
  · exact .inl h
  · obtain ⟨z, hz, rfl⟩ := List.mem_map.mp h1
    exact .inr ⟨z, hz, h2⟩
theorem split_sp {ps : List PySem.Str} (hne : ps ≠ []) (h : ∀ p, p ∈ ps → ¬ 32 ∈ p.cps.toList) : Txt.split (Txt.join " " ps) " " = ps :=
  TL.split_join (s := 32) (S := []) rfl (by decide +kernel) hne h
theorem split_nl {ps : List PySem.Str} (hne : ps ≠ []) (h : ∀ p, p ∈ ps → ¬ 10 ∈ p.cps.toList) : Txt.split (Txt.join "\n" ps) "\n" = ps :=
  TL.split_join (s := 10) (S := []) rfl (by decide +kernel) hne h
/-! ### tokens -/
structure Tk where
  w : PySem.Str
  d : Bool
  ns : List Int
def Tk.enc (t : Tk) : PyData := .tuple (.str t.w :: if t.d = true then [.tuple (t.ns.map .int)] else t.ns.map .int)
def kinds : List (PySem.Str × Bool × Nat) := [("on", false, 0), ("over", false, 0), ("dead", true, 0), ("pair", false, 2), ("write", false, 1), ("either", false, 1), ("all", false, 2), ("match", false, 2), ("sorted", false, 3), ("below", false, 3)]
structure Tk.ok (t : Tk) : Prop where
  kd : ∃ k, (t.w, t.d, k) ∈ kinds ∧ (t.d = false → t.ns.length = k)
  ne : t.d = true → t.ns ≠ []
  le : t.ns.length ≤ 7
  ns : ∀ n, n ∈ t.ns → okN n
def Tk.ws (t : Tk) : List PySem.Str := t.w :: t.ns.map nz
def Tk.row (t : Tk) : PySem.Str := Txt.join " " t.ws
theorem kinds_w : ∀ x, x ∈ kinds → x.1.length ≤ 6 ∧ (∀ c, c ∈ x.1.cps.toList → 97 ≤ c ∧ c ≤ 122) ∧ x.1.cps.toList ≠ [] ∧ (x.2.1 = decide (x.1 = "dead")) ∧ PyData.strOk x.1 = true := by decide +kernel
theorem Tk.ok.word {t : Tk} (h : t.ok) : t.w.length ≤ 6 ∧ (∀ c, c ∈ t.w.cps.toList → 97 ≤ c ∧ c ≤ 122) ∧ t.w.cps.toList ≠ [] ∧ (t.d = decide (t.w = "dead")) ∧ PyData.strOk t.w = true := by
  obtain ⟨k, h1, _⟩ := h.kd
  exact kinds_w _ h1
theorem Tk.ok.free {t : Tk} (h : t.ok) {c : Nat} (hc : c < 48) : ∀ z, z ∈ t.ws → ¬ c ∈ z.cps.toList := fun z hz hm => by
  rcases List.mem_cons.mp hz with rfl | hz
  · have := h.word.2.1 c hm
    omega
  · obtain ⟨n, hn, rfl⟩ := List.mem_map.mp hz
    exact nz_free (h.ns n hn) (.inl hc) hm
theorem Tk.ok.split {t : Tk} (h : t.ok) : Txt.split t.row " " = t.ws := split_sp (List.cons_ne_nil _ _) (h.free (by decide))
theorem Tk.ok.nl {t : Tk} (h : t.ok) : ¬ 10 ∈ t.row.cps.toList := fun hm => by
  rcases join_mem hm with h1 | ⟨p, h1, h2⟩
  · exact absurd h1 (by decide)
  · exact h.free (by decide) p h1 h2
theorem sum_le {α : Type} (f : α → Nat) (b : Nat) : ∀ xs : List α, (∀ x, x ∈ xs → f x ≤ b) → (xs.map f).sum ≤ xs.length * b
  | [], _ => Nat.zero_le _
  | x :: r, h => by
    have h1 := h x List.mem_cons_self
    have h2 := sum_le f b r fun y hy => h y (List.mem_cons_of_mem _ hy)
    rw [List.map_cons, List.sum_cons, List.length_cons, Nat.add_mul]
    omega
theorem Tk.ok.wlen {t : Tk} (h : t.ok) : ∀ z, z ∈ t.ws → z.length ≤ 12 := fun z hz => by
  rcases List.mem_cons.mp hz with rfl | hz
  · have := h.word.1
    omega
  · obtain ⟨n, hn, rfl⟩ := List.mem_map.mp hz
    exact nz_len (h.ns n hn)
theorem Tk.ws_len (t : Tk) : t.ws.length = t.ns.length + 1 := by
  unfold Tk.ws
  rw [List.length_cons, List.length_map]
theorem Tk.ok.sum {t : Tk} (h : t.ok) : (t.ws.map (·.length)).sum ≤ 96 := by
  have h1 := sum_le (fun z : PySem.Str => z.length) 12 t.ws h.wlen
  have h2 := h.le
  rw [t.ws_len] at h1
  omega
theorem Tk.ok.len {t : Tk} (h : t.ok) : t.row.length ≤ 104 := by
  have h1 := join_le " " t.ws
  have h2 := h.sum
  have h3 := h.le
  rw [t.ws_len] at h1
  unfold Tk.row
  have e : (" " : PySem.Str).length = 1 := rfl
  rw [e] at h1
  omega
/-- the rows of a paper -/
def pRows (ls : List PySem.Str) (x : PySem.Str) (ts : List Tk) : List PySem.Str := ("text " ++ nz (ls.length : Nat)) :: (ls ++ ("proc " ++ x) :: ts.map Tk.row)
structure LnOk (z : PySem.Str) : Prop where
  len : z.length ≤ 100
  ch : ∀ c, c ∈ z.cps.toList → c ≠ 10 ∧ c < 128
/-- what a paper is made of -/
structure PpOk (ls : List PySem.Str) (x : PySem.Str) (ts : List Tk) : Prop where
  ne : ls ≠ []
  many : ls.length ≤ 1000
  ls : ∀ z, z ∈ ls → LnOk z
  x : LnOk x
  tn : ts ≠ []
  tm : ts.length ≤ 1000
  ts : ∀ t, t ∈ ts → t.ok
theorem PpOk.ln {ls : List PySem.Str} {x : PySem.Str} {ts : List Tk} (h : PpOk ls x ts) : okN (ls.length : Nat) ∧ 1 ≤ ls.length := by
  have h1 := h.many
  have h2 : 0 < ls.length := List.length_pos_iff.mpr h.ne
  exact ⟨⟨by omega, by omega⟩, h2⟩
theorem pRows_nl {ls : List PySem.Str} {x : PySem.Str} {ts : List Tk} (h : PpOk ls x ts) : ∀ p, p ∈ pRows ls x ts → ¬ 10 ∈ p.cps.toList := fun p hp hm => by
  rcases List.mem_cons.mp hp with rfl | hp
  · rw [cps_app] at hm
    rcases List.mem_append.mp hm with h1 | h1
    · exact absurd h1 (by decide)
    · exact nz_free h.ln.1 (.inl (by decide)) h1
  · rcases List.mem_append.mp hp with hp | hp
    · exact ((h.ls p hp).ch 10 hm).1 rfl
    · rcases List.mem_cons.mp hp with rfl | hp
      · rw [cps_app] at hm
        rcases List.mem_append.mp hm with h1 | h1
        · exact absurd h1 (by decide)
        · exact (h.x.ch 10 h1).1 rfl
      · obtain ⟨t, ht, rfl⟩ := List.mem_map.mp hp
        exact (h.ts t ht).nl hm
theorem pRows_split {ls : List PySem.Str} {x : PySem.Str} {ts : List Tk} (h : PpOk ls x ts) : Txt.split (Txt.join "\n" (pRows ls x ts)) "\n" = pRows ls x ts := split_nl (List.cons_ne_nil _ _) (pRows_nl h)
theorem pRows_row {ls : List PySem.Str} {x : PySem.Str} {ts : List Tk} (h : PpOk ls x ts) : ∀ p, p ∈ pRows ls x ts → p.length ≤ 110 := fun p hp => by
  have e1 : ("text " : PySem.Str).length = 5 := rfl
  have e2 : ("proc " : PySem.Str).length = 5 := rfl
  rcases List.mem_cons.mp hp with rfl | hp
  · rw [app_len, e1]
    have := nz_len h.ln.1
    omega
  · rcases List.mem_append.mp hp with hp | hp
    · have := (h.ls p hp).len
      omega
    · rcases List.mem_cons.mp hp with rfl | hp
      · rw [app_len, e2]
        have := h.x.len
        omega
      · obtain ⟨t, ht, rfl⟩ := List.mem_map.mp hp
        have := (h.ts t ht).len
        omega
theorem pRows_len (ls : List PySem.Str) (x : PySem.Str) (ts : List Tk) : (pRows ls x ts).length = ls.length + ts.length + 2 := by
  unfold pRows
  rw [List.length_cons, List.length_append, List.length_cons, List.length_map]
  omega
theorem pRows_sum {ls : List PySem.Str} {x : PySem.Str} {ts : List Tk} (h : PpOk ls x ts) : ((pRows ls x ts).map (·.length)).sum ≤ 2002 * 110 := by
  have h1 := sum_le (fun z : PySem.Str => z.length) 110 _ (pRows_row h)
  have h2 := pRows_len ls x ts
  have h3 := h.many
  have h4 := h.tm
  exact Nat.le_trans h1 (Nat.mul_le_mul_right _ (by omega))
theorem pRows_size {ls : List PySem.Str} {x : PySem.Str} {ts : List Tk} (h : PpOk ls x ts) : (Txt.join "\n" (pRows ls x ts)).length ≤ 300000 := by
  have h1 := join_le "\n" (pRows ls x ts)
  have h2 := pRows_sum h
  have h3 := pRows_len ls x ts
  have h4 := h.many
  have h5 := h.tm
  have e : ("\n" : PySem.Str).length = 1 := rfl
  rw [e] at h1
  omega
/-! ### equal data -/
mutual
def nb : PyData → Bool
  | .int _ => true
  | .str _ => true
  | .list ds => nbs ds
  | .tuple ds => nbs ds
  | _ => false
def nbs : List PyData → Bool
  | [] => true
  | d :: r => nb d && nbs r
end
mutual
theorem eqv_nb : ∀ (d e : PyData), nb d = true → nb e = true → (PyData.eqv d e = true ↔ d = e)
  | .int i, e, _, h => by
    cases e <;> simp_all [PyData.eqv, nb]
  | .str x, e, _, h => by
    cases e <;> simp_all [PyData.eqv, nb]
  | .list ds, e, g, h => by
    cases e with
    | list es =>
      have := eqvs_nb ds es (by unfold nb at g; exact g) (by unfold nb at h; exact h)
      simp only [PyData.eqv, PyData.list.injEq]
      exact this
    | _ => simp_all [PyData.eqv, nb]
  | .tuple ds, e, g, h => by
    cases e with
    | tuple es =>
      have := eqvs_nb ds es (by unfold nb at g; exact g) (by unfold nb at h; exact h)
      simp only [PyData.eqv, PyData.tuple.injEq]
      exact this
    | _ => simp_all [PyData.eqv, nb]
  | .none, _, g, _ => by
    unfold nb at g
    cases g
  | .bool _, _, g, _ => by
    unfold nb at g
    cases g
  | .dict _, _, g, _ => by
    unfold nb at g
    cases g
theorem eqvs_nb : ∀ (ds es : List PyData), nbs ds = true → nbs es = true → (PyData.eqvAll ds es = true ↔ ds = es)
  | [], es, _, h => by
    cases es <;> simp_all [PyData.eqvAll]
  | d :: r, es, g, h => by
    cases es with
    | nil => simp_all [PyData.eqvAll]
    | cons e s =>
      unfold nbs at g h
      rw [Bool.and_eq_true] at g h
      rw [show PyData.eqvAll (d :: r) (e :: s) = (PyData.eqv d e && PyData.eqvAll r s) by rw [PyData.eqvAll], Bool.and_eq_true, eqv_nb d e g.1 h.1, eqvs_nb r s g.2 h.2, List.cons.injEq]
end
theorem nbs_all : ∀ ds : List PyData, nbs ds = true ↔ ∀ d, d ∈ ds → nb d = true
  | [] => ⟨fun _ _ h => (List.not_mem_nil h).elim, fun _ => rfl⟩
  | d :: r => by
    unfold nbs
    rw [Bool.and_eq_true, nbs_all r]
    exact ⟨fun h x hx => (List.mem_cons.mp hx).elim (fun e => e ▸ h.1) (h.2 x), fun h => ⟨h d List.mem_cons_self, fun x hx => h x (List.mem_cons_of_mem _ hx)⟩⟩
theorem nb_tk (t : Tk) : nb t.enc = true := by
  have hi : ∀ d, d ∈ t.ns.map PyData.int → nb d = true := fun d hd => by
    obtain ⟨n, _, rfl⟩ := List.mem_map.mp hd
    rfl
  unfold Tk.enc
  show nbs _ = true
  rw [nbs_all]
  intro d hd
  rcases List.mem_cons.mp hd with rfl | hd
  · rfl
  · by_cases h : t.d = true
    · rw [if_pos h] at hd
      rw [List.mem_singleton.mp hd]
      exact (nbs_all _).mpr hi
    · rw [if_neg h] at hd
      exact hi d hd
end SW

namespace SW
open PySem PySem.Spec PyProof.Rows L2
theorem units65 {k : Nat} {A : Around} (r : Room k A) : A.units + 65 < cLine := by
  have := r.un
  omega
abbrev s_read_paper : Stmt := topS 14
theorem sc_read_paper : FnScope ["text", "rows", "many", "head", "tokens", "row", "token"] ["text"] (defScope s_read_paper) := ⟨rfl, rfl, rfl, by decide +kernel, rfl, by decide +kernel, by decide +kernel⟩

abbrev s_read_many : Stmt := topS 15
theorem sc_read_many : FnScope ["row", "words"] ["row"] (defScope s_read_many) := ⟨rfl, rfl, rfl, by decide +kernel, rfl, by decide +kernel, by decide +kernel⟩

abbrev s_read_token : Stmt := topS 16
theorem sc_read_token : FnScope ["row", "words", "word", "numbers", "size"] ["row"] (defScope s_read_token) := ⟨rfl, rfl, rfl, by decide +kernel, rfl, by decide +kernel, by decide +kernel⟩

abbrev s_is_number : Stmt := topS 17
theorem sc_is_number : FnScope ["word", "digit"] ["word"] (defScope s_is_number) := ⟨rfl, rfl, rfl, by decide +kernel, rfl, by decide +kernel, by decide +kernel⟩

abbrev s_Paper : Stmt := inClass (topS 13) 0
theorem sc_Paper : FnScope ["self", "text", "name", "tokens"] ["self", "text", "name", "tokens"] (defScope s_Paper) := ⟨rfl, rfl, rfl, by decide +kernel, rfl, by decide +kernel, by decide +kernel⟩
/-- what the dict of sizes has at a word -/
def SzOk (K : PySem.W.Frag) (a : Addr) (z : PySem.Str) : Prop := ∃ r : Option Value, PySem.W.nsIn K a z = some r ∧ ((kinds.lookup z = none ∧ r = none) ∨ ∃ (d : Bool) (k : Nat) (u : Value), kinds.lookup z = some (d, k) ∧ r = some u ∧ RelV (if d = true then V.non else V.int (k : Nat)) u)
/-- the papers' file -/
structure TxP (K : PySem.W.Frag) (w : World) (mg : PySem.Str → Option Value) (C : Addr) (Kn : PySem.Str → Prop) extends TxB mg where
  aSizes : Addr
  es : Array DictEntry
  en : Nat
  m_SIZES : mg "SIZES" = some (.ref aSizes)
  kd : KDict K w aSizes es en
  sz : ∀ z, Kn z → SzOk K aSizes z
  tD : PySem.Tok
  m_DIGITS : mg "DIGITS" = some (.str sDigits tD)
  tM : PySem.Tok
  m_LONGEST : mg "LONGEST" = some (.int 12 tM)
  cl : Cls K C
  nT : NoAttr K C "text"
  nN : NoAttr K C "name"
  nK : NoAttr K C "tokens"
  mg_Paper : mg "Paper" = some (.ref C)
  kC : PySem.W.kitOne K (.ref C) (.ref C) = some true
  hc : PySem.W.findIn K (.ref C) "__class__" = some (some (.builtin "object.__class__"))
  hg : PySem.W.specialIn K (.builtin "object.__class__") "__get__" = some (some (.builtin "getset_descriptor.__get__"))
  ht : PySem.W.takesIn K (.builtin "object.__class__") = some true
  hm : PySem.W.mroIn K C (.type "object") = some true
/-! ### papers -/
def ppF (z x v : V) : List (PySem.Str × V) := putF "tokens" v (putF "name" x (putF "text" z []))
theorem ppF_eq (z x v : V) : ppF z x v = ([("text", z), ("name", x), ("tokens", v)] : List (PySem.Str × V)) := rfl
def PpAt (K : PySem.W.Frag) (C : Addr) (H : Hp) (p : Addr) (z x : PySem.Str) (ds : List PyData) : Prop := ∃ dx v, H p = some (.ins C dx (ppF (.str z) (.str x) v)) ∧ Dp K H v (.tuple ds)
theorem PpAt.same {K : PySem.W.Frag} {C : Addr} {H H' : Hp} {p : Addr} {z x : PySem.Str} {ds : List PyData} (a : PpAt K C H p z x ds) (s : Same H H') : PpAt K C H' p z x ds := by
  obtain ⟨dx, v, h1, h2⟩ := a
  exact ⟨dx, v, s _ _ h1, dp_same s _ _ h2⟩
section
variable {P : Program} {w : World} {K : PySem.W.Frag} {mg : PySem.Str → Option Value} {base : Heap} {C : Addr} {Kn : PySem.Str → Prop}
def spPaper (C : Addr) : Sp := fun vs H Q _ => ∃ (p dx : Addr) (z x v : V), vs = [.ref p, z, x, v] ∧ H p = some (.ins C dx []) ∧ ∀ H', (∀ b o, b ≠ p → H b = some o → H' b = some o) → H' p = some (.ins C dx (ppF z x v)) → Q .non H'
theorem ok_Paper {f : Addr} {fd : FuncData} (F : Fun K "__init__" "Paper.__init__" s_Paper f fd) (T : TxP K w mg C Kn) : FnOk P w K mg base CX0 1 f fd ["self", "text", "name", "tokens"] (spPaper C) := by
  refine F.ok sc_Paper (fun vs H Q E h => ?_) (fun cdv A outer s H vs Q E hr h => ?_)
  · obtain ⟨p, dx, z, x, v, rfl, _⟩ := h
    rfl
  · obtain ⟨p, dx, z, x, v, rfl, hp, q⟩ := h
    refine ⟨_, pss_cons (ps_fld (pv 0) (pv 1) rfl) (pss_cons (ps_fld (pv 0) (pv 2) rfl) (pss_one (ps_fld (pv 0) (pv 3) rfl))), ?_⟩
    refine ⟨_, rfl, _, rfl, p, C, dx, [], rfl, hp, T.cl, T.nT, (by show 0 < 1000; decide), ?_⟩
    refine ⟨_, rfl, _, rfl, p, C, dx, _, rfl, upd_same, T.cl, T.nN, (by show 1 < 1000; decide), ?_⟩
    refine ⟨_, rfl, _, rfl, p, C, dx, _, rfl, upd_same, T.cl, T.nK, (by show 2 < 1000; decide), ?_⟩
    exact q _ (fun b o hb e => (upd_ne hb).trans ((upd_ne hb).trans ((upd_ne hb).trans e))) upd_same
/-! ### words -/
def spIsNum : Sp := fun vs H Q _ => ∃ z : PySem.Str, vs = [.str z] ∧ z.length ≤ 100000 ∧ ∀ H', Same H H' → Q (.bl (isNum z)) H'
theorem ok_is_number (T : TxP K w mg C Kn) (D_is_number : Df K mg "_is_number" s_is_number ["word"]) : FnOk P w K mg base CX0 1 D_is_number.f D_is_number.fd ["word"] spIsNum := by
  refine D_is_number.F.ok sc_is_number (fun vs H Q E h => ?_) (fun cdv A outer s H vs Q E hr h => ?_)
  · obtain ⟨z, rfl, _⟩ := h
    rfl
  · obtain ⟨z, rfl, hz, q⟩ := h
    refine ⟨_, (Evl.pss_cut (ps_if (PW.pt (pw_or (pt_not (pt_truth (pv 0) (by intro _; rfl))) (pw_or (pt_cmpR op_gt (pe_callB call_len_str (by rfl) T.n_len PySem.boot_len (pa_cons (pv 0) pa_nil)) (pe_glob (v := .int 12) rfl T.m_LONGEST ⟨_, rfl⟩) (nomark _)) (pw_or1 (PW.pt (pw_and (pt_cmpR op_eq (pe_ix ix_str (pv 0) pe_int (fun _ _ => rfl)) pe_str (nomark _)) (pw_and1 (pt_cmpR op_ne (pv 0) pe_str (nomark _)))))))))
    (pss_one (ps_ret pe_bl))
    pss_nil)
    (pss_one (ps_ret (pe_callB (cr_all rfl) (by rfl) T.n_all (by decide +kernel) (pa_cons (pe_lc (own := [("digit", 1)]) (g := gName 1) (by rfl) sc_is_number.nd (pi_str (pv 0)) (blkOk_by (own := [("digit", 1)]) (N := ["word", "digit"]) (sc := defScope s_is_number) (by decide +kernel)) (fun _ _ _ _ _ => pg_name (i := 1) sc_is_number.nd rfl (Or.inl rfl)) (fun _ _ _ _ _ => pts_nil) (fun _ _ _ _ _ => (pe_cmpR op_in_sign (pv 1) (pe_glob (v := .str sDigits) rfl T.m_DIGITS ⟨_, rfl⟩) (by rfl)))) pa_nil))))), ?_⟩
    have hsz : z.length ≤ sizeLine := Nat.le_trans hz (by decide)
    have no : isNum z = false → Q (.bl false) H := fun e => by
      have := q H (fun _ _ e => e)
      rw [e] at this
      exact this
    unfold isNum at no
    refine ⟨fun σ' H' => σ' = L2.start ["word", "digit"] [.str z] ∧ H' = H ∧ isNum z = z.cps.toList.all fun c => decide (c ∈ cD), ?_, ?_⟩
    · unfold isNum
      refine ⟨_, rfl, _, ⟨hsz, rfl⟩, ite2 (fun e => iteT ?_) (fun e => ?_)⟩
      · have h0 : z.cps.toList = [] := by
          rw [Bool.not_eq_true', bne_eq_false_iff_eq] at e
          exact List.eq_nil_of_length_eq_zero (show z.cps.toList.length = 0 by rw [← len_cps]; omega)
        refine no ?_
        rw [decide_eq_false (fun h => h h0)]
        rfl
      have h0 : z.cps.toList ≠ [] := fun h => e (by
        rw [len_cps, h]
        rfl)
      rw [decide_eq_true h0, Bool.true_and] at no ⊢
      refine ⟨_, rfl, z, rfl, hsz, _, _, rfl, rfl, _, rfl, ite2 (fun e => iteT ?_) (fun e => ?_)⟩
      · have e1 := of_decide_eq_true e
        refine no ?_
        rw [decide_eq_false (by omega)]
        rfl
      have e1 : z.length ≤ 12 := by
        have := of_decide_eq_false (Bool.eq_false_iff.mpr e)
        omega
      rw [decide_eq_true e1, Bool.true_and] at no ⊢
      have hlt : 0 < z.cps.toList.length := List.length_pos_iff.mpr h0
      have ec : z.cps.toList[0]? = some z.cps.toList[0] := List.getElem?_eq_getElem hlt
      have e4 : decide (V.str ⟨#[z.cps.toList[0]]⟩ = V.str "0") = decide (z.cps.toList.head? = some 48) := by
        rw [str_dec]
        refine decide_eq_decide.mpr ⟨fun h => ?_, fun h => ?_⟩
        · injection h with h
          have h3 : [z.cps.toList[0]] = [48] := congrArg Array.toList h
          injection h3 with h3
          rw [List.head?_eq_getElem?, ec, h3]
        · rw [List.head?_eq_getElem?, ec] at h
          injection h with h
          rw [h]
          rfl
      refine ⟨_, rfl, _, _, _, rfl, rfl, hsz, atI_nat (j := 0) ec, rfl, _, rfl, ?_⟩
      rw [e4]
      refine ite2 (fun e => ?_) (fun e => ?_)
      · rw [e, Bool.true_and] at no ⊢
        refine ⟨_, rfl, rfl, _, rfl, ite2 (fun e2 => ?_) (fun e2 => ?_)⟩
        · rw [str_dec] at e2
          refine no ?_
          rw [show decide (z ≠ "0") = true from by rw [decide_not]; exact e2]
          rfl
        · rw [str_dec] at e2
          refine ⟨rfl, rfl, ?_⟩
          rw [show decide (z ≠ "0") = false from by rw [decide_not]; exact Bool.eq_false_iff.mpr e2]
          rfl
      · rw [Bool.eq_false_iff.mpr e]
        exact iteF ⟨rfl, rfl, rfl⟩
    · intro σ' H' hN
      obtain ⟨rfl, rfl, hq⟩ := hN
      rw [hq] at q
      refine ⟨_, rfl, z, rfl, fun D nD => ?_⟩
      refine lc_vals (walk_str (z := z)) nD (fun i => .bl ((z.cps.toList[i]?).any fun c => decide (c ∈ cD))) (by show z.length ≤ _; omega) (fun _ _ => trivial) (fun i x H2 H2' Q' hi s2 y q' => ?_) (fun H2 s2 e2 => ?_)
      · obtain ⟨rfl, c, hc, rfl⟩ := y
        refine ⟨rfl, _, rfl, c, sDigits, rfl, rfl, ?_⟩
        have := q' _ (Same.refl _)
        rw [Array.getElem?_toList, hc] at this
        exact this
      · refine ⟨D, (List.range z.cps.toList.length).map fun i => (z.cps.toList[i]?).any fun c => decide (c ∈ cD), rfl, SqL.of (e2.trans ?_), ?_⟩
        · rw [List.map_map]
          rfl
        · rw [range_map z.cps.toList (fun c => decide (c ∈ cD)) _ fun i c hc => by rw [hc]; rfl]
          have := q H2 s2
          rw [show ((z.cps.toList.map fun c => decide (c ∈ cD)).all id) = z.cps.toList.all fun c => decide (c ∈ cD) by rw [List.all_map]; rfl]
          exact this
end
end SW

namespace SW
open PySem PySem.Spec PyProof.Rows L2
def oI : Option Int → V
  | none => .non
  | some i => .int i
def readMany : List PySem.Str → Option Int
  | [a, b] => if a = "text" ∧ isNum b = true ∧ b ≠ "0" then some (valN b) else none
  | _ => none
def tokOf : List PySem.Str → Option Tk
  | [] => none
  | x :: r => match kinds.lookup x with
    | none => none
    | some (d, k) => if r.all isNum = true then (if d = true then (if r = [] then none else some ⟨x, true, r.map valN⟩) else if r.length = k then some ⟨x, false, r.map valN⟩ else none) else none
theorem dpa_ints2 {K : PySem.W.Frag} {H : Hp} (xs : List Int) : DpAll K H (xs.map V.int) (xs.map PyData.int) := dpa_ints xs
section
variable {P : Program} {w : World} {K : PySem.W.Frag} {mg : PySem.Str → Option Value} {base : Heap} {C : Addr} {Kn : PySem.Str → Prop}
def spMany : Sp := fun vs H Q _ => ∃ (z : PySem.Str) (ws : List PySem.Str), vs = [.str z] ∧ z.length ≤ 100000 ∧ Txt.split z " " = ws ∧ (∀ x, x ∈ ws → x.length ≤ 100000) ∧ ws ≠ [] ∧ ∀ H', Same H H' → Q (oI (readMany ws)) H'
theorem ok_read_many (T : TxP K w mg C Kn) (D_read_many : Df K mg "_read_many" s_read_many ["row"]) (D_is_number : Df K mg "_is_number" s_is_number ["word"]) : FnOk P w K mg base CX0 2 D_read_many.f D_read_many.fd ["row"] spMany := by
  have G_is_number := ok_is_number (P := P) (w := w) (base := base) T D_is_number
  refine D_read_many.F.ok sc_read_many (fun vs H Q E h => ?_) (fun cdv A outer s H vs Q E hr h => ?_)
  · obtain ⟨z, ws, rfl, _⟩ := h
    rfl
  · obtain ⟨z, ws, rfl, hz, hs, hw, hne, q⟩ := h
    refine ⟨_, (pss_cons (ps_set (i := 1) sc_read_many.nd rfl (.inl rfl) (pe_split (pv 0) pe_str))
    (Evl.pss_cut (ps_if (PW.pt (pw_or (pt_cmpR op_ne (pe_callB call_len_seq (by rfl) T.n_len PySem.boot_len (pa_cons (pv 1) pa_nil)) pe_int (nomark _)) (pw_or (pt_cmpR op_ne (pe_ix ix_list (pv 1) pe_int (fun _ _ => rfl)) pe_str (nomark _)) (pw_or (pt_not (pt_val (pe_call G_is_number (hr.mono (by decide)) (by rfl) D_is_number.g D_is_number.F.kp D_is_number.b .nil pass0 (pa_cons (pe_ix ix_list (pv 1) pe_int (fun _ _ => rfl)) pa_nil)))) (pw_or1 (pt_cmpR op_eq (pe_ix ix_list (pv 1) pe_int (fun _ _ => rfl)) pe_str (nomark _)))))))
    (pss_one (ps_ret pe_non))
    pss_nil)
    (pss_one (ps_ret (pe_callTy call_int_str (by rfl) T.n_int (by decide +kernel) (pa_cons (pe_ix ix_list (pv 1) pe_int (fun _ _ => rfl)) pa_nil)))))), ?_⟩
    refine ⟨_, rfl, ⟨z, rfl⟩, z, " ", rfl, rfl, rfl, Nat.le_trans (Nat.add_le_add_right hz 2) (by decide), fun D nD => ?_⟩
    rw [hs]
    generalize hg : upd H D _ = H1
    obtain ⟨s1, e1⟩ := new_of nD hg
    have no : ∀ H', Same H1 H' → readMany ws = none → Q .non H' := fun H' s' e => by
      have := q H' (s1.trans s')
      rw [e] at this
      exact this
    have hl : decide (V.int ((ws.length : Nat) : Int) = V.int 2) = decide (ws.length = 2) := by
      rw [int_dec]
      exact decide_eq_decide.mpr ⟨fun h => by omega, fun h => by omega⟩
    refine ⟨fun σ' H' => σ' = [some (.str z), some (.ref D)] ∧ Same H1 H' ∧ ∃ b, ws = [("text" : PySem.Str), b] ∧ isNum b = true ∧ b ≠ "0", ?_, ?_⟩
    · refine ⟨_, rfl, D, _, rfl, .inl (SqL.of e1), rfl, _, rfl, ite2 (fun e => iteT ?_) (fun e => ?_)⟩
      · rw [List.length_map, hl] at e
        have e : ws.length ≠ 2 := by
          rw [Bool.not_eq_true', decide_eq_false_iff_not] at e
          exact e
        refine no H1 (Same.refl _) ?_
        match ws, e with
        | [], _ => rfl
        | [_], _ => rfl
        | [_, _], e => exact absurd rfl e
        | _ :: _ :: _ :: _, _ => rfl
      rw [List.length_map, hl] at e
      obtain ⟨a, b, rfl⟩ : ∃ a b, ws = [a, b] := by
        have e : ws.length = 2 := Classical.byContradiction fun h => e (by
          rw [decide_eq_false h]
          rfl)
        match ws, e with
        | [a, b], _ => exact ⟨a, b, rfl⟩
      refine ⟨_, rfl, D, _, _, _, rfl, rfl, SqL.of e1, atI_nat (j := 0) rfl, rfl, _, rfl, ite2 (fun e => iteT ?_) (fun e => ?_)⟩
      · refine no H1 (Same.refl _) (if_neg fun h => ?_)
        rw [h.1] at e
        exact absurd e (by decide +kernel)
      have ea : a = "text" := Classical.byContradiction fun h => e (by
        rw [str_dec, decide_eq_false h]
        rfl)
      subst ea
      refine ⟨_, rfl, D, _, _, _, rfl, rfl, SqL.of e1, atI_nat (j := 1) rfl, b, rfl, hw b (by simp), fun H2 s2 => ⟨_, rfl, ite2 (fun e => iteT ?_) (fun e => ?_)⟩⟩
      · refine no H2 s2 (if_neg fun h => ?_)
        rw [h.2.1] at e
        cases e
      have eb : isNum b = true := by
        cases h : isNum b with
        | true => rfl
        | false =>
          rw [h] at e
          exact absurd rfl e
      refine ⟨_, rfl, D, _, _, _, rfl, rfl, SqL.of (s2 _ _ e1), atI_nat (j := 1) rfl, rfl, _, rfl, ite2 (fun e => ?_) (fun e => ?_)⟩
      · refine no H2 s2 (if_neg fun h => h.2.2 ?_)
        rw [str_dec] at e
        exact of_decide_eq_true e
      · rw [str_dec] at e
        exact ⟨rfl, s2, b, rfl, eb, fun h => e (decide_eq_true h)⟩
    · intro σ' H' hN
      obtain ⟨rfl, s2, b, rfl, h1, h2⟩ := hN
      refine ⟨_, rfl, D, _, _, _, rfl, rfl, SqL.of (s2 _ _ e1), atI_nat (j := 1) rfl, b, _, rfl, isNum_int h1, ?_, ?_⟩
      · have := (isNum_digits h1).2.2
        omega
      · have := q H' (s1.trans s2)
        rw [show readMany [("text" : PySem.Str), b] = some (valN b) from if_pos ⟨rfl, h1, h2⟩] at this
        exact this
end
end SW

namespace SW
open PySem PySem.Spec PyProof.Rows L2
theorem opt_any {α : Type} (xs : List α) (g : α → Bool) : (List.range xs.length).map (fun i => (xs[i]?).any g) = xs.map g :=
  range_map xs g _ fun i x h => by rw [h]; rfl
theorem all_map_id {α : Type} (xs : List α) (g : α → Bool) : (xs.map g).all id = xs.all g := by
  rw [List.all_map]
  rfl
theorem tokOf_cons (x : PySem.Str) (r : List PySem.Str) : tokOf (x :: r) = match kinds.lookup x with
    | none => none
    | some (d, k) => if r.all isNum = true then (if d = true then (if r = [] then none else some ⟨x, true, r.map valN⟩) else if r.length = k then some ⟨x, false, r.map valN⟩ else none) else none := rfl
theorem tokOf_none {x : PySem.Str} (r : List PySem.Str) (h : kinds.lookup x = none) : tokOf (x :: r) = none := by
  rw [tokOf_cons, h]
theorem tokOf_some {x : PySem.Str} {d : Bool} {k : Nat} (r : List PySem.Str) (h : kinds.lookup x = some (d, k)) : tokOf (x :: r) = if r.all isNum = true then (if d = true then (if r = [] then none else some ⟨x, true, r.map valN⟩) else if r.length = k then some ⟨x, false, r.map valN⟩ else none) else none := by
  rw [tokOf_cons, h]
section
variable {P : Program} {w : World} {K : PySem.W.Frag} {mg : PySem.Str → Option Value} {base : Heap} {C : Addr} {Kn : PySem.Str → Prop}
def spTok (K : PySem.W.Frag) (Kn : PySem.Str → Prop) : Sp := fun vs H Q _ => ∃ (z x : PySem.Str) (r : List PySem.Str), vs = [.str z] ∧ z.length ≤ 100000 ∧ Txt.split z " " = x :: r ∧ (∀ y, y ∈ r → y.length ≤ 100000) ∧ r.length ≤ 90000 ∧ Kn x ∧
  (tokOf (x :: r) = none → ∀ H', Same H H' → Q .non H') ∧ ∀ t, tokOf (x :: r) = some t → ∀ v H', Same H H' → Dp K H' v t.enc → Q v H'
theorem ok_read_token (T : TxP K w mg C Kn) (D_read_token : Df K mg "_read_token" s_read_token ["row"]) (D_is_number : Df K mg "_is_number" s_is_number ["word"]) : FnOk P w K mg base CX0 2 D_read_token.f D_read_token.fd ["row"] (spTok K Kn) := by
  have G_is_number := ok_is_number (P := P) (w := w) (base := base) T D_is_number
  refine D_read_token.F.ok sc_read_token (fun vs H Q E h => ?_) (fun cdv A outer s H vs Q E hr h => ?_)
  · obtain ⟨z, x, r, rfl, _⟩ := h
    rfl
  · obtain ⟨z, x, r, rfl, hz, hs, hw, hl, hk, no, yes⟩ := h
    refine ⟨_, (pss_cons (ps_set (i := 1) sc_read_token.nd rfl (.inl rfl) (pe_split (pv 0) pe_str))
    (Evl.pss_cut (ps_if (PW.pt (pw_or (pt_cmpR (op_notIn_kd T.kd) (pe_ix ix_list (pv 1) pe_int (fun _ _ => rfl)) (pe_glob (v := .ref T.aSizes) rfl T.m_SIZES rfl) (by rfl)) (pw_or1 (pt_not (pt_val (pe_callB (cr_all rfl) (by rfl) T.n_all (by decide +kernel) (pa_cons (pe_lc (own := [("word", 2)]) (g := gName 2) (by rfl) sc_read_token.nd (pi_list (pe_slice sl_list (pv 1) (po_some pe_int) po_none)) (blkOk_by (own := [("word", 2)]) (N := ["row", "words", "word", "numbers", "size"]) (sc := defScope s_read_token) (by decide +kernel)) (fun _ _ _ _ _ => pg_name (i := 2) sc_read_token.nd rfl (Or.inl rfl)) (fun _ _ _ _ _ => pts_nil) (fun _ _ _ _ _ => (pe_call G_is_number (hr.mono (by decide)) (by rfl) D_is_number.g D_is_number.F.kp D_is_number.b .nil pass0 (pa_cons (pv 2) pa_nil)))) pa_nil)))))))
    (pss_one (ps_ret pe_non))
    pss_nil)
    (pss_cons (ps_set (i := 3) sc_read_token.nd rfl (.inl rfl) (pe_callTy call_tuple_of (by rfl) T.n_tuple (by decide +kernel) (pa_cons (pe_lc (own := [("word", 2)]) (g := gName 2) (by rfl) sc_read_token.nd (pi_list (pe_slice sl_list (pv 1) (po_some pe_int) po_none)) (blkOk_by (own := [("word", 2)]) (N := ["row", "words", "word", "numbers", "size"]) (sc := defScope s_read_token) (by decide +kernel)) (fun _ _ _ _ _ => pg_name (i := 2) sc_read_token.nd rfl (Or.inl rfl)) (fun _ _ _ _ _ => pts_nil) (fun _ _ _ _ _ => (pe_callTy call_int_str (by rfl) T.n_int (by decide +kernel) (pa_cons (pv 2) pa_nil)))) pa_nil)))
    (pss_cons (ps_set (i := 4) sc_read_token.nd rfl (.inl rfl) (pe_ix ix_kdict (pe_glob (v := .ref T.aSizes) rfl T.m_SIZES rfl) (pe_ix ix_list (pv 1) pe_int (fun _ _ => rfl)) (fun _ _ => rfl)))
    (pss_cons (ps_if (pt_cmpR op_isN (pv 4) pe_non (nomark _))
    (pss_one (ps_ret (pe_ifExp (pt_truth (pv 3) (by intro _; rfl)) (pe_tup (pa_cons (pe_ix ix_list (pv 1) pe_int (fun _ _ => rfl)) (pa_cons (pv 3) pa_nil))) pe_non)))
    pss_nil)
    (pss_one (ps_ret (pe_ifExp (pt_cmpR op_eq (pe_callB call_len_seq (by rfl) T.n_len PySem.boot_len (pa_cons (pv 3) pa_nil)) (pv 4) (nomark _)) (pe_tup (pa_cons (pe_ix ix_list (pv 1) pe_int (fun _ _ => rfl)) (StX.pa_star (pv 3) pa_nil))) pe_non)))))))), ?_⟩
    refine ⟨_, rfl, ⟨z, rfl⟩, z, " ", rfl, rfl, rfl, Nat.le_trans (Nat.add_le_add_right hz 2) (by decide), fun D nD => ?_⟩
    rw [hs]
    generalize hg : upd H D _ = H1
    obtain ⟨s1, e1⟩ := new_of nD hg
    obtain ⟨rr, hns, hsz⟩ := T.sz x hk
    refine ⟨fun σ' H' => σ' = [some (.str z), some (.ref D), none, none, none] ∧ Same H1 H' ∧ r.all isNum = true ∧ ∃ (d : Bool) (k : Nat) (u : Value), kinds.lookup x = some (d, k) ∧ rr = some u ∧ RelV (if d = true then V.non else V.int (k : Nat)) u, ?_, ?_⟩
    · refine ⟨_, rfl, D, _, _, _, rfl, rfl, SqL.of e1, atI_nat (j := 0) rfl, x, rr, rfl, rfl, hns, _, rfl, ?_⟩
      rcases hsz with ⟨h1, rfl⟩ | ⟨d, k, u, h1, rfl, h2⟩
      · exact iteT (iteT (no (tokOf_none r h1) H1 s1))
      refine iteF ?_
      refine ⟨_, rfl, 1, rfl, D, _, rfl, SqL.of e1, fun p np => ?_⟩
      have ec : cutV ((x :: r).map V.str) (some ((1 : Nat) : Int)) none = r.map V.str := cutv_from _ 1
      have ec : cutV ((x :: r).map V.str) (some 1) none = r.map V.str := ec
      rw [ec]
      generalize hg : upd H1 p _ = H2
      obtain ⟨s2, e2⟩ := new_of np hg
      refine ⟨p, rfl, ⟨_, SqL.of e2⟩, fun L nL => ?_⟩
      refine lc_vals (walk_list (K := K) (a := p) (xs := r.map V.str)) nL (fun i => .bl ((r[i]?).any isNum)) (by rw [List.length_map]; omega) (fun H' s' => SqL.of (s' _ _ e2)) (fun i y H3 H3' Q' hi s3 hy q' => ?_) (fun H3 s3 e3 => ?_)
      · obtain ⟨rfl, hy⟩ := hy
        rw [List.getElem?_map] at hy
        obtain ⟨y', h3, rfl⟩ := Option.map_eq_some_iff.mp hy
        refine ⟨rfl, _, rfl, y', rfl, hw y' (List.mem_of_getElem? h3), fun H4 s4 => ?_⟩
        have := q' H4 s4
        rw [h3] at this
        exact this
      · rw [List.length_map] at e3
        have e3 : H3 L = some (.lst ((r.map isNum).map V.bl)) := by
          rw [e3, ← opt_any r isNum, List.map_map]
          rfl
        refine ⟨L, r.map isNum, rfl, SqL.of e3, _, rfl, ?_⟩
        rw [all_map_id]
        cases hA : r.all isNum with
        | false =>
          refine iteT (no ?_ H3 ((s1.trans s2).trans s3))
          rw [tokOf_some r h1, if_neg (by rw [hA]; decide)]
        | true => exact iteF ⟨rfl, s2.trans s3, rfl, d, k, u, h1, rfl, h2⟩
    · intro σ' H' hN
      obtain ⟨rfl, s2, hA, d, k, u, h1, rfl, h2⟩ := hN
      have hn : ∀ y, y ∈ r → isNum y = true := fun y hy => List.all_eq_true.mp hA y hy
      refine ⟨_, rfl, 1, rfl, D, _, rfl, SqL.of (s2 _ _ e1), fun p np => ?_⟩
      have ec : cutV ((x :: r).map V.str) (some ((1 : Nat) : Int)) none = r.map V.str := cutv_from _ 1
      have ec : cutV ((x :: r).map V.str) (some 1) none = r.map V.str := ec
      rw [ec]
      generalize hg : upd H' p _ = H2
      obtain ⟨s3, e2⟩ := new_of np hg
      refine ⟨p, rfl, ⟨_, SqL.of e2⟩, fun L nL => ?_⟩
      refine lc_vals (walk_list (K := K) (a := p) (xs := r.map V.str)) nL (fun i => .int (((r[i]?).map valN).getD 0)) (by rw [List.length_map]; omega) (fun H' s' => SqL.of (s' _ _ e2)) (fun i y H3 H3' Q' hi s3 hy q' => ?_) (fun H3 s4 e3 => ?_)
      · obtain ⟨rfl, hy⟩ := hy
        rw [List.getElem?_map] at hy
        obtain ⟨y', h3, rfl⟩ := Option.map_eq_some_iff.mp hy
        have hm := hn y' (List.mem_of_getElem? h3)
        refine ⟨rfl, _, rfl, y', _, rfl, isNum_int hm, ?_, ?_⟩
        · have := (isNum_digits hm).2.2
          omega
        have := q' _ (Same.refl _)
        rw [h3] at this
        exact this
      · rw [List.length_map] at e3
        have e3 : H3 L = some (.lst ((r.map valN).map V.int)) := by
          rw [e3, ← range_map r valN (fun i => ((r[i]?).map valN).getD 0) fun i y h => by rw [h]; rfl, List.map_map]
          rfl
        refine ⟨L, _, rfl, .inl ⟨SqL.of e3, fun N nN => ?_⟩⟩
        generalize hg : upd H3 N _ = H4
        obtain ⟨s5, e4⟩ := new_of nN hg
        have s15 := (((s1.trans s2).trans s3).trans s4).trans s5
        have e14 := s5 _ _ (s4 _ _ (s3 _ _ (s2 _ _ e1)))
        refine ⟨_, rfl, D, _, _, _, rfl, rfl, SqL.of e14, atI_nat (j := 0) rfl, T.aSizes, x, _, rfl, rfl, ⟨T.es, T.en, u, T.kd.at_, T.kd.lit, hns, h2⟩, ?_⟩
        rw [tokOf_some r h1, if_pos hA] at no yes
        refine ⟨_, rfl, rfl, _, rfl, ?_⟩
        cases d with
        | true =>
          refine iteT ?_
          rw [if_pos rfl] at no yes
          have t4 : SqT K H4 N ((r.map valN).map V.int) := SqT.of e4
          refine ⟨_, rfl, _, .inr (.inl ⟨_, t4, rfl⟩), ?_⟩
          cases r with
          | nil => exact iteF (no (if_pos rfl) H4 s15)
          | cons y r =>
            refine iteT ?_
            refine ⟨_, rfl, D, _, _, _, rfl, rfl, SqL.of e14, atI_nat (j := 0) rfl, _, rfl, by show 2 ≤ sizeLine; decide, fun t nt => ?_⟩
            generalize hg : upd H4 t _ = H5
            obtain ⟨s6, e5⟩ := new_of nt hg
            exact yes _ (if_neg (List.cons_ne_nil _ _)) (.ref t) H5 (s15.trans s6) (dp_tup2 e5 (.str x) (dp_same s6 _ _ (.tup t4 (dpa_ints _))))
        | false =>
          refine iteF ?_
          rw [if_neg Bool.false_ne_true] at no yes
          have t4 : SqT K H4 N ((r.map valN).map V.int) := SqT.of e4
          refine ⟨_, rfl, N, _, rfl, .inr t4, _, rfl, rfl, _, rfl, ?_⟩
          rw [List.length_map, List.length_map]
          refine ite2 (fun e => ?_) (fun e => ?_)
          · have e : r.length = k := by
              have := of_decide_eq_true e
              injection this with this
              omega
            refine ⟨_, rfl, D, _, _, _, rfl, rfl, SqL.of e14, atI_nat (j := 0) rfl, _, rfl, N, _, rfl, .inl t4, ?_, fun t nt => ?_⟩
            · rw [List.append_nil, List.length_cons, List.length_map, List.length_map]
              exact Nat.le_trans (show _ ≤ 100000 by omega) (by decide)
            generalize hg : upd H4 t _ = H5
            obtain ⟨s6, e5⟩ := new_of nt hg
            refine yes _ (if_pos e) (.ref t) H5 (s15.trans s6) ?_
            refine .tup (SqT.of e5) (.cons (.str x) ?_)
            rw [List.append_nil]
            exact dpa_ints _
          · exact no (if_neg fun h => e (decide_eq_true (by rw [h]; rfl))) H4 s15
end
end SW

namespace SW
open PySem PySem.Spec PyProof.Rows L2
theorem cat1 (x : V) (ys : List V) : [x] ++ ys = x :: ys := rfl
theorem tk_map (t : Tk) : (.str t.w :: (t.ns.map fun n => V.str (nz n))) = t.ws.map V.str := by
  unfold Tk.ws
  rw [List.map_cons, List.map_map]
  rfl
/-- a token's parts -/
theorem tk_inv {K : PySem.W.Frag} {H : Hp} {v : V} {t : Tk} (h : Dp K H v t.enc) : ∃ a, v = .ref a ∧ ((t.d = true ∧ ∃ b, SqT K H a [.str t.w, .ref b] ∧ SqT K H b (t.ns.map V.int)) ∨ (t.d = false ∧ SqT K H a (.str t.w :: t.ns.map V.int))) := by
  unfold Tk.enc at h
  cases hd : t.d with
  | true =>
    rw [hd, if_pos rfl] at h
    obtain ⟨a, v1, v2, rfl, h1, h2, h3⟩ := dp_inv2 h
    cases h2
    obtain ⟨b, xs, rfl, h4, h5⟩ := dp_tup_inv h3
    exact ⟨a, rfl, .inl ⟨rfl, b, h1, (dpa_ints' h5) ▸ h4⟩⟩
  | false =>
    rw [hd, if_neg Bool.false_ne_true] at h
    obtain ⟨a, xs, rfl, h4, h5⟩ := dp_tup_inv h
    cases h5 with
    | cons h6 h7 =>
      cases h6
      exact ⟨a, rfl, .inr ⟨rfl, (dpa_ints' h7) ▸ h4⟩⟩
theorem dead_dec {t : Tk} (h : t.ok) : decide (V.str t.w = V.str "dead") = t.d := by
  rw [str_dec]
  exact h.word.2.2.2.1.symm
theorem tk_rowlen {t : Tk} (h : t.ok) : (t.ws.map (·.length)).sum + t.ws.length * (" " : PySem.Str).length ≤ 16777216 := by
  have h1 := h.sum
  have h2 := h.le
  rw [t.ws_len]
  show _ + (t.ns.length + 1) * 1 ≤ _
  omega
end SW

namespace SW
open PySem PySem.Spec PyProof.Rows L2
theorem empty_app (z : PySem.Str) : Str.empty ++ z = z := TL.ext_tl (by rw [TL.tl_append]; rfl)
theorem lsJoin_len {ls : List PySem.Str} {x : PySem.Str} {ts : List Tk} (h : PpOk ls x ts) : (Txt.join "\n" ls).length ≤ 101000 ∧ (ls.map (·.length)).sum + ls.length * ("\n" : PySem.Str).length ≤ 101000 := by
  have h1 := join_le "\n" ls
  have h2 := sum_le (fun z : PySem.Str => z.length) 100 ls fun z hz => (h.ls z hz).len
  have h3 := h.many
  have e : ("\n" : PySem.Str).length = 1 := rfl
  rw [e] at h1 ⊢
  omega
theorem lsJoin_split {ls : List PySem.Str} {x : PySem.Str} {ts : List Tk} (h : PpOk ls x ts) : Txt.split (Txt.join "\n" ls) "\n" = ls := split_nl h.ne fun p hp hm => ((h.ls p hp).ch 10 hm).1 rfl
theorem pRows_join {ls : List PySem.Str} {x : PySem.Str} {ts : List Tk} (h : PpOk ls x ts) : ((pRows ls x ts).map (·.length)).sum + (pRows ls x ts).length * ("\n" : PySem.Str).length ≤ 16777216 := by
  have h2 := pRows_sum h
  have h3 := pRows_len ls x ts
  have h4 := h.many
  have h5 := h.tm
  have e : ("\n" : PySem.Str).length = 1 := rfl
  rw [e]
  omega
theorem noLs_tk : ∀ ts : List Tk, noLs (ts.map Tk.enc) = true
  | [] => rfl
  | t :: r => by
    have hi : ∀ ns : List Int, noLs (ns.map PyData.int) = true := fun ns => by
      induction ns with
      | nil => rfl
      | cons a b ih => exact ih
    show (noL t.enc && noLs (r.map Tk.enc)) = true
    rw [noLs_tk r, Bool.and_true]
    unfold Tk.enc
    show noLs (_ :: _) = true
    cases t.d with
    | true =>
      rw [if_pos rfl]
      show (true && (noLs (t.ns.map PyData.int) && true)) = true
      rw [hi]
      rfl
    | false =>
      rw [if_neg Bool.false_ne_true]
      show (true && noLs (t.ns.map PyData.int)) = true
      rw [hi]
      rfl
theorem noL_tk (t : Tk) : noL t.enc = true := by
  have := noLs_tk [t]
  show noL t.enc = true
  have h : (noL t.enc && true) = true := this
  rw [Bool.and_true] at h
  exact h
end SW

namespace SW
open PySem PySem.Spec PyProof.Rows L2
abbrev pc : List Nat := [112, 114, 111, 99, 32]
theorem sw_proc (z : PySem.Str) : Txt.startswith z "proc " = decide (z.cps.toList.take 5 = pc) := by
  have h := TL.at_iff (x := z) (y := "proc ") (by decide) 0
  have e : (Txt.startswith z "proc " = true) ↔ StrLaws.At z "proc " z.length 0 := by
    unfold Txt.startswith StrLaws.At
    rw [Bool.and_eq_true, decide_eq_true_eq]
  have e2 : TL.pre (TL.tl "proc ") ((TL.tl z).drop 0) = decide (z.cps.toList.take 5 = pc) := by
    show ((z.cps.toList.take 5) == pc) = _
    by_cases hq : z.cps.toList.take 5 = pc
    · rw [decide_eq_true hq, hq]
      rfl
    · rw [decide_eq_false hq]
      exact beq_eq_false_iff_ne.mpr hq
  rw [e2] at h
  by_cases hq : z.cps.toList.take 5 = pc
  · rw [decide_eq_true hq] at h ⊢
    exact e.mpr (h.mpr rfl)
  · rw [decide_eq_false hq] at h ⊢
    exact Bool.eq_false_iff.mpr fun g => absurd (h.mp (e.mp g)) (by decide)
theorem proc_cps (x : PySem.Str) : (("proc " : PySem.Str) ++ x).cps.toList = pc ++ x.cps.toList := cps_app "proc " x
theorem cut5 (x : PySem.Str) : cutS (("proc " : PySem.Str) ++ x) (some ((5 : Nat) : Int)) none = x := by
  have hl : (("proc " : PySem.Str) ++ x).length = 5 + x.length := by
    rw [app_len]
    rfl
  unfold cutS
  rw [HT.sIx_nat, HT.sIx_none, hl, Nat.min_eq_left (by omega), proc_cps]
  have e : ((pc ++ x.cps.toList).drop 5).take (5 + x.length - 5) = x.cps.toList := by
    rw [show (pc ++ x.cps.toList).drop 5 = x.cps.toList from rfl]
    exact List.take_of_length_le (by rw [← len_cps]; omega)
  rw [e]
theorem join2 (a b : PySem.Str) : Txt.join " " [a, b] = a ++ (" " ++ b) := by
  rw [TL.join_eq]
  exact TL.ext_tl (by rw [TL.tl_append, TL.tl_append]; show TL.tl (a ++ " " ++ b) = _; rw [TL.tl_append, TL.tl_append, List.append_assoc])
theorem row0_eq (b : PySem.Str) : ("text " : PySem.Str) ++ b = Txt.join " " [("text" : PySem.Str), b] := by
  rw [join2]
  exact TL.ext_tl (by rw [TL.tl_append, TL.tl_append, TL.tl_append]; rfl)
theorem row0_split {n : Int} (h : okN n) : Txt.split (("text " : PySem.Str) ++ nz n) " " = [("text" : PySem.Str), nz n] := by
  rw [row0_eq]
  refine split_sp (List.cons_ne_nil _ _) fun p hp hm => ?_
  rcases List.mem_cons.mp hp with rfl | hp
  · exact absurd hm (by decide)
  · rw [List.mem_singleton.mp hp] at hm
    exact nz_free h (.inl (by decide)) hm
theorem row0_many {n : Int} (h : okN n) (h1 : 1 ≤ n) : readMany [("text" : PySem.Str), nz n] = some n := by
  obtain ⟨a, b⟩ := nz_num h
  rw [show readMany [("text" : PySem.Str), nz n] = some (valN (nz n)) from if_pos ⟨rfl, a, nz_pos h h1⟩, b]
theorem kinds_lookup : ∀ x, x ∈ kinds → kinds.lookup x.1 = some x.2 := by decide +kernel
theorem tokOf_ok {t : Tk} (h : t.ok) : tokOf t.ws = some t := by
  obtain ⟨k, h1, h2⟩ := h.kd
  have hl := kinds_lookup _ h1
  have ha : (t.ns.map nz).all isNum = true := by
    rw [List.all_eq_true]
    intro z hz
    obtain ⟨n, hn, rfl⟩ := List.mem_map.mp hz
    exact (nz_num (h.ns n hn)).1
  have hv : (t.ns.map nz).map valN = t.ns := by
    rw [List.map_map]
    have : ∀ ns : List Int, (∀ n, n ∈ ns → okN n) → ns.map (valN ∘ nz) = ns := fun ns => by
      induction ns with
      | nil => exact fun _ => rfl
      | cons a r ih =>
        intro hn
        rw [List.map_cons, ih fun n hm => hn n (List.mem_cons_of_mem _ hm)]
        show valN (nz a) :: r = _
        rw [(nz_num (hn a List.mem_cons_self)).2]
    exact this _ h.ns
  unfold Tk.ws
  rw [tokOf_some (t.ns.map nz) hl, if_pos ha, hv]
  obtain ⟨w, d, ns⟩ := t
  cases d with
  | true =>
    rw [if_pos rfl, if_neg]
    intro e
    exact h.ne rfl (List.map_eq_nil_iff.mp e)
  | false =>
    rw [if_neg Bool.false_ne_true, if_pos]
    rw [List.length_map]
    exact h2 rfl
theorem row_at {ls : List PySem.Str} {x : PySem.Str} {ts : List Tk} : (pRows ls x ts)[0]? = some ("text " ++ nz (ls.length : Nat)) ∧ (pRows ls x ts)[ls.length + 1]? = some ("proc " ++ x) ∧ ∀ (i : Nat) (t : Tk), ts[i]? = some t → (pRows ls x ts)[ls.length + 2 + i]? = some t.row := by
  unfold pRows
  refine ⟨rfl, ?_, fun i t h => ?_⟩
  · rw [List.getElem?_cons_succ, List.getElem?_append_right (Nat.le_refl _), Nat.sub_self]
    rfl
  · rw [show ls.length + 2 + i = (ls.length + 1 + i) + 1 by omega, List.getElem?_cons_succ, List.getElem?_append_right (by omega), show ls.length + 1 + i - ls.length = i + 1 by omega, List.getElem?_cons_succ, List.getElem?_map, h]
    rfl
theorem rows_cut (ls : List PySem.Str) (x : PySem.Str) (ts : List Tk) : cutV ((pRows ls x ts).map V.str) (some ((1 : Nat) : Int)) (some ((ls.length + 1 : Nat) : Int)) = ls.map V.str := by
  rw [cutv_part _ _ _ (by omega), ← List.map_drop, ← List.map_take]
  unfold pRows
  rw [List.drop_succ_cons, List.drop_zero, Nat.add_sub_cancel, List.take_left]
theorem map_atI {ws : List PySem.Str} {j : Nat} {z : PySem.Str} (h : ws[j]? = some z) : atI (ws.map V.str) (j : Int) = some (.str z) := atI_nat (by rw [List.getElem?_map, h]; rfl)
end SW

namespace SW
open PySem PySem.Spec PyProof.Rows L2
/-! ### errors -/
abbrev s_BadLine : Stmt := inClass (topS 3) 0
theorem sc_BadLine : FnScope ["self", "row"] ["self", "row"] (defScope s_BadLine) := ⟨rfl, rfl, rfl, by decide +kernel, rfl, by decide +kernel, by decide +kernel⟩
/-- BadPaper at CP, its __init__ (BadLine's) at fI, SwornError at CS -/
structure TxE (K : PySem.W.Frag) (mg : PySem.Str → Option Value) (CP CS fI : Addr) where
  oex : OexC K CP
  iC : PySem.W.findIn K (.ref CP) "__init__" = some (some (.ref fI))
  tI : PySem.W.typeIn K (.ref fI) = some (.type "function")
  m_BadPaper : mg "BadPaper" = some (.ref CP)
  m_SwornError : mg "SwornError" = some (.ref CS)
  rS : PySem.W.readsIn K CS (.type "type") = true
  gS : PySem.W.specialIn K (.ref CS) "__getattribute__" = some (some (.builtin "type.__getattribute__"))
  vS : PySem.W.findCls K (.ref CS) (.type "type") "__init__" = some (.val (.builtin "ValueError.__init__"))
  noR : PySem.W.findIn K (.ref CP) "row" = some none
  n_ValueError : mg "ValueError" = none
  xf : XfC K CP
  ec : ExcC K CP
  te : PySem.W.exmOne K (.ref CP) (.ref CS) = some true
  CT : Addr
  m_BadText : mg "BadText" = some (.ref CT)
  CR : Addr
  m_BadProgram : mg "BadProgram" = some (.ref CR)
  CB : Addr
  m_BadStart : mg "BadStart" = some (.ref CB)
  CN : Addr
  m_NoProcedure : mg "NoProcedure" = some (.ref CN)
  CL : Addr
  m_BadLine : mg "BadLine" = some (.ref CL)
  k4 : PySem.W.kitAny K (.ref CP) [.ref CT, .ref CR, .ref CB, .ref CN] = some false
  kV : PySem.W.kitOne K (.ref CP) (.type "ValueError") = some true
  kL : PySem.W.kitOne K (.ref CP) (.ref CL) = some true
theorem kit_self (K : PySem.W.Frag) (C : Addr) : PySem.W.kitOne K (.ref C) (.ref C) = some true := if_pos (beq_self_eq_true _)
structure CkE (K : PySem.W.Frag) (fI : Addr) where
  fd : FuncData
  F : Fun K "__init__" "BadLine.__init__" s_BadLine fI fd
  b : Binds K fd ["self", "row"] []
theorem log60 {n : Int} (h : n.natAbs < 10 ^ 60) : n.natAbs.log2 < 1920 := by
  refine Nat.lt_of_le_of_lt (m := 200) ?_ (by decide)
  by_cases h0 : n.natAbs = 0
  · rw [h0]
    decide
  · exact Nat.le_of_lt ((Nat.log2_lt h0).mpr (Nat.lt_of_lt_of_le h (by decide)))
section
variable {P : Program} {w : World} {K : PySem.W.Frag} {mg : PySem.Str → Option Value} {base : Heap} {C CP CS fI : Addr} {Kn : PySem.Str → Prop}
/-- a def that may raise, where it does not -/
theorem fn_calm {k : Nat} {f : Addr} {fd : FuncData} {ps : List PySem.Str} {sp : Sp} (F : FnOk P w K mg base (L2.CX P w) k f fd ps sp) : FnOk P w K mg base CX0 k f fd ps (fun vs H Q _ => sp vs H Q fun _ _ _ => False) := by
  refine ⟨fun vs H Q E h => F.len _ _ _ _ h, fun A outer s H args us vs Q E hr e0 hb r h => codeAny_mono (F.run A outer s H args us vs Q _ hr e0 hb r h) fun r s' hq => ?_⟩
  cases r with
  | error e =>
    obtain ⟨a, B, H', cls, d, _, _, _, _, _, _, _, hE⟩ := hq
    exact hE.elim
  | ok fl =>
    cases fl with
    | ret u => exact hq
    | next => exact hq
    | brk => exact hq
    | cont => exact hq
def spBad (K : PySem.W.Frag) (CP : Addr) : Sp := fun vs H Q _ => ∃ (a : Addr) (n : Int), vs = [.ref a, .int n] ∧ n.natAbs < 10 ^ 60 ∧ H a = some (exo a CP none) ∧ ∀ dx, H dx = none → dx ≠ a → Q .non (upd (upd H dx (exd dx [("row", .int n)])) a (exo a CP (some dx)))
theorem ok_BadLine {fd : FuncData} (F : Fun K "__init__" "BadLine.__init__" s_BadLine fI fd) (T : TxE K mg CP CS fI) : FnOk P w K mg base CX0 1 fI fd ["self", "row"] (spBad K CP) := by
  refine F.ok sc_BadLine (fun vs H Q E h => ?_) (fun cdv A outer s H vs Q E hr h => ?_)
  · obtain ⟨a, n, rfl, _⟩ := h
    rfl
  · obtain ⟨a, n, rfl, hn, ha, q⟩ := h
    refine ⟨_, pss_cons (ps_expr (pe_cinit rfl T.m_SwornError (by decide) T.rS T.gS T.vS (pa_cons (pv 0) (pa_cons (pe_joined (.cons pe_str (.cons (pe_fmt (pv 1)) (.cons pe_str .nil)))) pa_nil)))) (pss_one (ps_ost (pv 0) (pv 1))), ?_⟩
    have hs : (Str.ofString (toString n)).length ≤ 70 := int_len n hn
    have e1 : ("row " : PySem.Str).length = 4 := rfl
    have e2 : (" is wrong" : PySem.Str).length = 9 := rfl
    have big : ∀ n : Nat, n ≤ 100000 → n ≤ sizeLine := fun n h => Nat.le_trans h (by decide)
    refine ⟨_, rfl, "row ", rfl, by rw [empty_app]; decide, _, rfl, .inr ⟨n, rfl, log60 hn, _, rfl, by rw [empty_app, app_len, e1]; exact big _ (by omega), " is wrong", rfl, by rw [empty_app, app_len, app_len, e1, e2]; exact big _ (by omega), ?_⟩⟩
    refine ⟨a, CP, _, rfl, by show 1 ≤ 1000; decide, T.oex, ha, ?_⟩
    exact ⟨_, rfl, _, rfl, a, CP, rfl, T.oex, T.noR, .inl ⟨ha, q⟩⟩
end
end SW

namespace SW
open PySem PySem.Spec PyProof.Rows L2
/-! ### split, of any text -/
theorem joinL_eq (S : List Nat) : ∀ ps : List (List Nat), ps ≠ [] → (TL.joinL S ps).length + S.length = (ps.map (·.length)).sum + ps.length * S.length
  | [], h => absurd rfl h
  | [p], _ => by
    show p.length + S.length = (p.length + 0) + 1 * S.length
    omega
  | p :: q :: r, _ => by
    have h := joinL_eq S (q :: r) (List.cons_ne_nil _ _)
    show (p ++ (S ++ TL.joinL S (q :: r))).length + S.length = ((p :: q :: r).map (·.length)).sum + ((q :: r).length + 1) * S.length
    rw [List.length_append, List.length_append, List.map_cons, List.sum_cons, Nat.add_mul]
    omega
theorem sum_mem {xs : List Nat} {x : Nat} (h : x ∈ xs) : x ≤ xs.sum := by
  induction xs with
  | nil => cases h
  | cons a r ih =>
    rw [List.sum_cons]
    rcases List.mem_cons.mp h with rfl | h
    · omega
    · have := ih h
      omega
theorem split_facts (z : PySem.Str) : Txt.split z " " ≠ [] ∧ (∀ x, x ∈ Txt.split z " " → x.length ≤ z.length) ∧ (Txt.split z " ").length ≤ z.length + 1 := by
  have hj := StrLaws.join_split z " "
  have hne : Txt.split z " " ≠ [] := fun h => by
    rw [h] at hj
    have : z = "" := hj.symm
    rw [this] at h
    exact absurd h (by decide +kernel)
  have hl := joinL_eq (TL.tl " ") ((Txt.split z " ").map TL.tl) (fun h => hne (List.map_eq_nil_iff.mp h))
  rw [← TL.tl_join, hj, List.map_map, List.length_map] at hl
  have e1 : (TL.tl " ").length = 1 := rfl
  rw [e1, ← TL.len_tl] at hl
  have hl : z.length + 1 = ((Txt.split z " ").map fun y => (TL.tl y).length).sum + (Txt.split z " ").length * 1 := hl
  refine ⟨hne, fun x hx => ?_, by omega⟩
  have := sum_mem (List.mem_map.mpr ⟨x, hx, rfl⟩ : (TL.tl x).length ∈ (Txt.split z " ").map fun y => (TL.tl y).length)
  have hp : 0 < (Txt.split z " ").length := List.length_pos_iff.mpr hne
  rw [TL.len_tl]
  omega
theorem digits_lt : ∀ (l : List Nat) (a : Nat), NumText.AllDigits l → l.foldl (fun acc c => acc * 10 + (c - 48)) a < (a + 1) * 10 ^ l.length
  | [], a, _ => by simp
  | c :: r, a, h => by
    have hc := h c List.mem_cons_self
    have ih := digits_lt r (a * 10 + (c - 48)) fun x hx => h x (List.mem_cons_of_mem _ hx)
    rw [List.foldl_cons, List.length_cons, Nat.pow_succ]
    refine Nat.lt_of_lt_of_le ih ?_
    rw [Nat.mul_comm (10 ^ r.length) 10, ← Nat.mul_assoc]
    exact Nat.mul_le_mul_right _ (by omega)
theorem valN_lt {z : PySem.Str} (h : isNum z = true) : ∃ k : Nat, valN z = k ∧ k < 10 ^ 12 := by
  obtain ⟨h1, h2, h3⟩ := isNum_digits h
  refine ⟨_, rfl, ?_⟩
  have := digits_lt z.cps.toList 0 h1
  unfold NumText.digitsVal
  refine Nat.lt_of_lt_of_le this ?_
  rw [Nat.zero_add, Nat.one_mul]
  exact Nat.pow_le_pow_right (by decide) h3
theorem readMany_nn {ws : List PySem.Str} {m : Int} (h : readMany ws = some m) : ∃ k : Nat, m = k ∧ k < 10 ^ 12 := by
  match ws, h with
  | [a, b], h =>
    have h : (if a = "text" ∧ isNum b = true ∧ b ≠ "0" then some (valN b) else none) = some m := h
    by_cases hc : a = "text" ∧ isNum b = true ∧ b ≠ "0"
    · rw [if_pos hc] at h
      injection h with h
      rw [← h]
      exact valN_lt hc.2.1
    · rw [if_neg hc] at h
      cases h
  | [], h => cases h
  | [_], h => cases h
  | _ :: _ :: _ :: _, h => cases h
/-! ### what a paper's rows say -/
inductive PR where
  | bad (n : Int)
  | good (ls : List PySem.Str) (x : PySem.Str) (ts : List Tk)
def toksOf : Nat → List PySem.Str → Nat ⊕ List Tk
  | _, [] => .inr []
  | i, r :: s => match tokOf (Txt.split r " ") with
    | none => .inl (i + 1)
    | some t => match toksOf (i + 1) s with
      | .inl n => .inl n
      | .inr ts => .inr (t :: ts)
def parse (rs : List PySem.Str) : PR := match readMany (Txt.split (rs.getD 0 "") " ") with
  | none => .bad 1
  | some m => if (rs.length : Int) < m + 2 then .bad ((rs.length : Int) + 1) else
    if (rs.getD (m.toNat + 1) "").cps.toList.take 5 ≠ pc then .bad (m + 2) else
    if (rs.length : Int) < m + 3 then .bad ((rs.length : Int) + 1) else
    match toksOf (m.toNat + 2) (rs.drop (m.toNat + 2)) with
    | .inl n => .bad n
    | .inr ts => .good ((rs.drop 1).take m.toNat) (mk ((rs.getD (m.toNat + 1) "").cps.toList.drop 5)) ts
theorem parse_none {rs : List PySem.Str} (h : readMany (Txt.split (rs.getD 0 "") " ") = none) : parse rs = .bad 1 := by
  unfold parse
  rw [h]
theorem parse_some {rs : List PySem.Str} {m : Int} (h : readMany (Txt.split (rs.getD 0 "") " ") = some m) : parse rs = if (rs.length : Int) < m + 2 then .bad ((rs.length : Int) + 1) else
    if (rs.getD (m.toNat + 1) "").cps.toList.take 5 ≠ pc then .bad (m + 2) else
    if (rs.length : Int) < m + 3 then .bad ((rs.length : Int) + 1) else
    match toksOf (m.toNat + 2) (rs.drop (m.toNat + 2)) with
    | .inl n => .bad n
    | .inr ts => .good ((rs.drop 1).take m.toNat) (mk ((rs.getD (m.toNat + 1) "").cps.toList.drop 5)) ts := by
  unfold parse
  rw [h]
theorem raise_end {H H1 : Hp} {a dx : Addr} {o1 o2 o3 o4 : HO} (s : Same H H1) (na : H1 a = none) (ndx : upd H1 a o1 dx = none) (nda : dx ≠ a) : Same H (upd (L2.del (upd (upd (upd H1 a o1) dx o2) a o3) a) dx o4) ∧ H1 dx = none ∧ H dx = none := by
  have n1 : H1 dx = none := by
    rw [upd_ne nda] at ndx
    exact ndx
  refine ⟨fun b o e => ?_, n1, s.free n1⟩
  have h1 := s _ _ e
  have hba : b ≠ a := ne_of_none h1 na
  have hbd : b ≠ dx := ne_of_none h1 n1
  rw [upd_ne hbd, del_ne hba, upd_ne hba, upd_ne hbd, upd_ne hba]
  exact h1
end SW

namespace SW
open PySem PySem.Spec PyProof.Rows L2
theorem getD_at {ws : List PySem.Str} {j : Nat} (h : j < ws.length) : atI (ws.map V.str) (j : Int) = some (.str (ws.getD j "")) := atI_nat (by rw [List.getElem?_map, List.getD_eq_getElem?_getD, List.getElem?_eq_getElem h]; rfl)
theorem getD_mem {ws : List PySem.Str} {j : Nat} (h : j < ws.length) : ws.getD j "" ∈ ws := by
  rw [List.getD_eq_getElem?_getD, List.getElem?_eq_getElem h]
  exact List.getElem_mem h
theorem cut5' (z : PySem.Str) (h : z.length ≤ 1000) : cutS z (some ((5 : Nat) : Int)) none = mk (z.cps.toList.drop 5) := by
  unfold cutS
  rw [HT.sIx_nat, HT.sIx_none]
  by_cases h5 : 5 ≤ z.length
  · rw [Nat.min_eq_left h5]
    show mk _ = mk _
    congr 1
    exact List.take_of_length_le (by rw [List.length_drop, ← len_cps]; exact Nat.le_refl _)
  · rw [Nat.min_eq_right (by omega)]
    show mk _ = mk _
    congr 1
    rw [Nat.sub_self, List.take_zero, List.drop_eq_nil_of_le (by rw [← len_cps]; omega)]
section
variable {P : Program} {w : World} {K : PySem.W.Frag} {mg : PySem.Str → Option Value} {base : Heap} {C CP CS fI : Addr} {Kn : PySem.Str → Prop}
structure CkP (K : PySem.W.Frag) (C : Addr) where
  f : Addr
  fd : FuncData
  F : Fun K "__init__" "Paper.__init__" s_Paper f fd
  b : Binds K fd ["self", "text", "name", "tokens"] []
  M : Mk K C f
structure RsOk (Kn : PySem.Str → Prop) (rs : List PySem.Str) : Prop where
  ne : rs ≠ []
  nl : ∀ p, p ∈ rs → ¬ 10 ∈ p.cps.toList
  len : ∀ p, p ∈ rs → p.length ≤ 1000
  many : rs.length ≤ 3000
  kn : ∀ m : Int, readMany (Txt.split (rs.getD 0 "") " ") = some m → ∀ (i : Nat) (p y : PySem.Str), m + 2 ≤ (i : Int) → rs[i]? = some p → (Txt.split p " ").head? = some y → Kn y
def spRP (K : PySem.W.Frag) (C CP : Addr) (Kn : PySem.Str → Prop) : Sp := fun vs H Q E => ∃ (rs : List PySem.Str), vs = [.str (Txt.join "\n" rs)] ∧ RsOk Kn rs ∧
  (∀ n, parse rs = .bad n → ∀ d H', Same H H' → H d = none → H' d = some (.xd [("row", .int n)]) → E (.ref CP) (some d) H') ∧
  (∀ ls x ts, parse rs = .good ls x ts → ∀ p H', Same H H' → H p = none → PpAt K C H' p (Txt.join "\n" ls) x (ts.map Tk.enc) → Q (.ref p) H')
theorem ok_read_paper (T : TxP K w mg C Kn) (TE : TxE K mg CP CS fI) (c_Paper : CkP K C) (c_BadLine : CkE K fI) (D_read_paper : Df K mg "read_paper" s_read_paper ["text"]) (D_read_many : Df K mg "_read_many" s_read_many ["row"]) (D_read_token : Df K mg "_read_token" s_read_token ["row"]) (D_is_number : Df K mg "_is_number" s_is_number ["word"]) : FnOk P w K mg base (L2.CX P w) 3 D_read_paper.f D_read_paper.fd ["text"] (spRP K C CP Kn) := by
  have G_read_many := ok_read_many (P := P) (w := w) (base := base) T D_read_many D_is_number
  have G_read_token := ok_read_token (P := P) (w := w) (base := base) T D_read_token D_is_number
  have G_Paper := ok_Paper (P := P) (w := w) (base := base) (mg := mg) c_Paper.F T
  have M_Paper := c_Paper.M
  have b_Paper := c_Paper.b
  have G_BadLine := ok_BadLine (P := P) (w := w) (base := base) c_BadLine.F TE
  have b_BadLine := c_BadLine.b
  refine Fun.okX D_read_paper.F sc_read_paper (fun vs H Q E h => ?_) (fun cdv A outer s H vs Q E hr h => ?_)
  · obtain ⟨rs, rfl, _⟩ := h
    rfl
  · obtain ⟨rs, rfl, ok, hbad, hgood⟩ := h
    refine ⟨_, (pss_cons (ps_set (i := 1) sc_read_paper.nd rfl (.inl rfl) (pe_split (pv 0) pe_str))
    (pss_cons (ps_set (i := 2) sc_read_paper.nd rfl (.inl rfl) (pe_call G_read_many (hr.mono (by decide)) (by rfl) D_read_many.g D_read_many.F.kp D_read_many.b .nil pass0 (pa_cons (pe_ix ix_list (pv 1) pe_int (fun _ _ => rfl)) pa_nil)))
    (pss_cons (ps_if (pt_cmpR op_isN (pv 2) pe_non (nomark _))
    (pss_one (ps_raise rfl (takes_of rfl rfl rfl rfl) (pmk_oex TE.oex TE.iC TE.tI G_BadLine (hr.mono (by decide)) b_BadLine .nil pass0 rfl TE.m_BadPaper (pa_cons pe_int pa_nil))))
    pss_nil)
    (pss_cons (ps_if (pt_cmpR op_lt (pe_callB call_len_seq (by rfl) T.n_len PySem.boot_len (pa_cons (pv 1) pa_nil)) (pe_op op_add (pv 2) pe_int) (nomark _))
    (pss_one (ps_raise rfl (takes_of rfl rfl rfl rfl) (pmk_oex TE.oex TE.iC TE.tI G_BadLine (hr.mono (by decide)) b_BadLine .nil pass0 rfl TE.m_BadPaper (pa_cons (pe_op op_add (pe_callB call_len_seq (by rfl) T.n_len PySem.boot_len (pa_cons (pv 1) pa_nil)) pe_int) pa_nil))))
    pss_nil)
    (pss_cons (ps_set (i := 3) sc_read_paper.nd rfl (.inl rfl) (pe_ix ix_list (pv 1) (pe_op op_add (pv 2) pe_int) (fun _ _ => rfl)))
    (pss_cons (ps_if (pt_not (pt_val (pe_m1 PySem.F.slot_str_startswith PySem.F.type_str_startswith mt_startswith (pv 3) pe_str)))
    (pss_one (ps_raise rfl (takes_of rfl rfl rfl rfl) (pmk_oex TE.oex TE.iC TE.tI G_BadLine (hr.mono (by decide)) b_BadLine .nil pass0 rfl TE.m_BadPaper (pa_cons (pe_op op_add (pv 2) pe_int) pa_nil))))
    pss_nil)
    (pss_cons (ps_if (pt_cmpR op_lt (pe_callB call_len_seq (by rfl) T.n_len PySem.boot_len (pa_cons (pv 1) pa_nil)) (pe_op op_add (pv 2) pe_int) (nomark _))
    (pss_one (ps_raise rfl (takes_of rfl rfl rfl rfl) (pmk_oex TE.oex TE.iC TE.tI G_BadLine (hr.mono (by decide)) b_BadLine .nil pass0 rfl TE.m_BadPaper (pa_cons (pe_op op_add (pe_callB call_len_seq (by rfl) T.n_len PySem.boot_len (pa_cons (pv 1) pa_nil)) pe_int) pa_nil))))
    pss_nil)
    (pss_cons (ps_set (i := 4) sc_read_paper.nd rfl (.inl rfl) (pe_lst pa_nil))
    (pss_cons (ps_for (passes_of rfl) rfl (pi_range2 (by rfl) T.n_range (pa_cons (pe_op op_add (pv 2) pe_int) (pa_cons (pe_callB call_len_seq (by rfl) T.n_len PySem.boot_len (pa_cons (pv 1) pa_nil)) pa_nil))) (pg_name (i := 5) sc_read_paper.nd rfl (.inl rfl))
    (pss_cons (ps_set (i := 6) sc_read_paper.nd rfl (.inl rfl) (pe_call G_read_token (hr.mono (by decide)) (by rfl) D_read_token.g D_read_token.F.kp D_read_token.b .nil pass0 (pa_cons (pe_ix ix_list (pv 1) (pv 5) (fun _ _ => rfl)) pa_nil)))
    (pss_cons (ps_if (pt_cmpR op_isN (pv 6) pe_non (nomark _))
    (pss_one (ps_raise rfl (takes_of rfl rfl rfl rfl) (pmk_oex TE.oex TE.iC TE.tI G_BadLine (hr.mono (by decide)) b_BadLine .nil pass0 rfl TE.m_BadPaper (pa_cons (pe_op op_add (pv 5) pe_int) pa_nil))))
    pss_nil)
    (pss_one (ps_expr (pe_bm PySem.F.plainAttrs_list PySem.F.slot_list_append PySem.F.type_list_append mt_append (pv 4) (pa_cons (pv 6) pa_nil)))))))
    (pss_one (ps_ret (pe_make M_Paper G_Paper (hr.mono (by decide)) rfl T.mg_Paper b_Paper .nil pass0 (pa_cons (pe_join pe_str (pe_slice sl_list (pv 1) (po_some pe_int) (po_some (pe_op op_add (pv 2) pe_int)))) (pa_cons (pe_slice sl_str (pv 3) (po_some (pe_callB call_len_str (by rfl) T.n_len PySem.boot_len (pa_cons pe_str pa_nil))) po_none) (pa_cons (pe_callTy call_tuple_of (by rfl) T.n_tuple (by decide +kernel) (pa_cons (pv 4) pa_nil)) pa_nil))))))))))))))), ?_⟩
    have hm := ok.many
    have hn0 : 0 < rs.length := List.length_pos_iff.mpr ok.ne
    have e6 : ("proc " : PySem.Str).length = 5 := rfl
    have big : ∀ n : Nat, n ≤ 100000 → n ≤ sizeLine := fun n h => Nat.le_trans h (by decide)
    have hsz : (Txt.join "\n" rs).length ≤ 3100000 := by
      have h1 := join_le "\n" rs
      have h2 := sum_le (fun z : PySem.Str => z.length) 1000 rs ok.len
      have e : ("\n" : PySem.Str).length = 1 := rfl
      rw [e] at h1
      omega
    refine ⟨_, rfl, ⟨_, rfl⟩, _, "\n", rfl, rfl, rfl, Nat.le_trans (show _ ≤ 3100002 by omega) (by decide), fun D nD => ?_⟩
    rw [split_nl ok.ne ok.nl]
    generalize htx : Txt.join "\n" rs = tx
    generalize hg : upd H D _ = H1
    obtain ⟨s1, e1⟩ := new_of nD hg
    -- many
    have hr0 := ok.len _ (getD_mem hn0)
    obtain ⟨f1, f2, f3⟩ := split_facts (rs.getD 0 "")
    refine ⟨_, rfl, D, _, _, _, rfl, rfl, SqL.of e1, getD_at hn0, _, _, rfl, Nat.le_trans hr0 (by decide), rfl, fun y hy => Nat.le_trans (f2 y hy) (Nat.le_trans hr0 (by decide)), f1, fun H2 s2 => ?_⟩
    have s12 := s1.trans s2
    have e2 := s2 _ _ e1
    cases hmy : readMany (Txt.split (rs.getD 0 "") " ") with
    | none =>
      refine ⟨_, rfl, rfl, _, rfl, iteT ?_⟩
      refine ⟨by show 1 ≤ 1000; decide, fun a na => ⟨a, 1, rfl, by decide, upd_same, fun dx ndx nda => ?_⟩⟩
      obtain ⟨g1, g2, g3⟩ := raise_end (o2 := exd dx [("row", .int 1)]) (o3 := exo a CP (some dx)) (o4 := .xd [("row", .int 1)]) s12 na ndx nda
      exact ⟨rfl, dx, _, upd_same, (upd_ne nda).trans upd_same, g2, hbad 1 (parse_none hmy) dx _ g1 g3 upd_same⟩
    | some m =>
      obtain ⟨k, rfl, hk⟩ := readMany_nn hmy
      have hps := parse_some hmy
      rw [Int.toNat_natCast] at hps
      refine ⟨_, rfl, rfl, _, rfl, iteF ?_⟩
      refine ⟨_, rfl, D, _, rfl, .inl (SqL.of e2), _, rfl, _, _, rfl, rfl, _, _, rfl, rfl, _, rfl, ?_⟩
      rw [List.length_map]
      refine ite2 (fun e => ?_) (fun e => ?_)
      · have e := of_decide_eq_true e
        refine ⟨_, rfl, D, _, rfl, .inl (SqL.of e2), _, _, rfl, rfl, by show 1 ≤ 1000; decide, fun a na => ⟨a, _, rfl, ?_, upd_same, fun dx ndx nda => ?_⟩⟩
        · rw [List.length_map]
          omega
        rw [List.length_map]
        obtain ⟨g1, g2, g3⟩ := raise_end (o2 := exd dx [("row", .int ((rs.length : Int) + 1))]) (o3 := exo a CP (some dx)) (o4 := .xd [("row", .int ((rs.length : Int) + 1))]) s12 na ndx nda
        exact ⟨rfl, dx, _, upd_same, (upd_ne nda).trans upd_same, g2, hbad _ (by rw [hps, if_pos e]) dx _ g1 g3 upd_same⟩
      have e := of_decide_eq_false (Bool.eq_false_iff.mpr e)
      rw [if_neg e] at hps
      have hk1 : k + 1 < rs.length := by omega
      have a1 : ((k : Nat) : Int) + 1 = ((k + 1 : Nat) : Int) := by omega
      have hat1 : atI (rs.map V.str) (((k : Nat) : Int) + 1) = some (.str (rs.getD (k + 1) "")) := by
        rw [a1]
        exact getD_at hk1
      have hhl := ok.len _ (getD_mem hk1)
      generalize hhd : rs.getD (k + 1) "" = hd at hat1 hhl hps
      refine ⟨_, rfl, _, rfl, _, _, rfl, rfl, D, _, _, _, rfl, rfl, SqL.of e2, hat1, ?_⟩
      refine ⟨_, rfl, ⟨_, rfl⟩, _, "proc ", rfl, rfl, _, rfl, ?_⟩
      rw [sw_proc]
      by_cases hp : hd.cps.toList.take 5 = pc
      rotate_left
      · rw [decide_eq_false hp]
        refine iteT ⟨_, rfl, _, _, rfl, rfl, by show 1 ≤ 1000; decide, fun a na => ⟨a, _, rfl, ?_, upd_same, fun dx ndx nda => ?_⟩⟩
        · omega
        obtain ⟨g1, g2, g3⟩ := raise_end (o2 := exd dx [("row", .int ((k : Int) + 2))]) (o3 := exo a CP (some dx)) (o4 := .xd [("row", .int ((k : Int) + 2))]) s12 na ndx nda
        exact ⟨rfl, dx, _, upd_same, (upd_ne nda).trans upd_same, g2, hbad _ (by rw [hps, if_pos hp]) dx _ g1 g3 upd_same⟩
      rw [decide_eq_true hp]
      rw [if_neg (fun h => h hp)] at hps
      refine iteF ?_
      refine ⟨_, rfl, D, _, rfl, .inl (SqL.of e2), _, rfl, _, _, rfl, rfl, _, _, rfl, rfl, _, rfl, ?_⟩
      rw [List.length_map]
      refine ite2 (fun e' => ?_) (fun e' => ?_)
      · have e' := of_decide_eq_true e'
        refine ⟨_, rfl, D, _, rfl, .inl (SqL.of e2), _, _, rfl, rfl, by show 1 ≤ 1000; decide, fun a na => ⟨a, _, rfl, ?_, upd_same, fun dx ndx nda => ?_⟩⟩
        · rw [List.length_map]
          omega
        rw [List.length_map]
        obtain ⟨g1, g2, g3⟩ := raise_end (o2 := exd dx [("row", .int ((rs.length : Int) + 1))]) (o3 := exo a CP (some dx)) (o4 := .xd [("row", .int ((rs.length : Int) + 1))]) s12 na ndx nda
        exact ⟨rfl, dx, _, upd_same, (upd_ne nda).trans upd_same, g2, hbad _ (by rw [hps, if_pos e']) dx _ g1 g3 upd_same⟩
      have e' := of_decide_eq_false (Bool.eq_false_iff.mpr e')
      rw [if_neg e'] at hps
      -- tokens = []
      refine ⟨Nat.zero_le _, fun N nN => ?_⟩
      generalize hg : upd H2 N _ = H3
      obtain ⟨s3, e3⟩ := new_of nN hg
      have eD := s3 _ _ e2
      have nND : D ≠ N := ne_of_none e2 nN
      have s123 := s12.trans s3
      have nNH : H N = none := s12.free nN
      refine ⟨_, rfl, _, _, rfl, rfl, _, rfl, D, _, rfl, .inl (SqL.of eD), _, _, rfl, ⟨by omega, by omega, by rw [List.length_map]; omega, by rw [List.length_map]; omega⟩, ?_⟩
      rw [List.length_map]
      refine for_range (lo := (k : Nat) + 2) (n := (((rs.length : Nat) : Int) - ((k : Nat) + 2)).toNat) (fun i σ H4 => ∃ (y5 y6 : Option V) (xs : List V) (us : List Tk), σ = [some (.str tx), some (.ref D), some (.int (k : Nat)), some (.str hd), some (.ref N), y5, y6] ∧ Same H H4 ∧ H4 D = some (.lst (rs.map V.str)) ∧ H4 N = some (.lst xs) ∧ DpAll K H4 xs (us.map Tk.enc) ∧ us.length = i ∧
          toksOf (k + 2) (rs.drop (k + 2)) = match toksOf (k + 2 + i) (rs.drop (k + 2 + i)) with | .inl n => (Sum.inl n : Nat ⊕ List Tk) | .inr ts => .inr (us ++ ts))
        ⟨_, _, [], [], rfl, s123, eD, e3, .nil, rfl, by
          show _ = match toksOf (k + 2) (rs.drop (k + 2)) with | .inl n => (Sum.inl n : Nat ⊕ List Tk) | .inr ts => .inr ts
          cases toksOf (k + 2) (rs.drop (k + 2)) <;> rfl⟩ (fun i σ H4 hi hP => ?_) (fun σ H4 hP => ?_)
      · obtain ⟨y5, y6, xs, us, rfl, s4, e4, e5, hxs, hul, htk⟩ := hP
        have hi' : k + 2 + i < rs.length := by omega
        have a3 : ((k : Nat) : Int) + 2 + (i : Nat) = ((k + 2 + i : Nat) : Int) := by omega
        have hat : atI (rs.map V.str) (((k : Nat) : Int) + 2 + (i : Nat)) = some (.str (rs.getD (k + 2 + i) "")) := by
          rw [a3]
          exact getD_at hi'
        have hrl := ok.len _ (getD_mem hi')
        have hrow : rs[k + 2 + i]? = some (rs.getD (k + 2 + i) "") := by rw [List.getD_eq_getElem?_getD, List.getElem?_eq_getElem hi']; rfl
        have hdr : rs.drop (k + 2 + i) = rs.getD (k + 2 + i) "" :: rs.drop (k + 2 + (i + 1)) := by
          rw [List.drop_eq_getElem_cons hi', List.getD_eq_getElem?_getD, List.getElem?_eq_getElem hi']
          rfl
        rw [hdr] at htk
        generalize rs.getD (k + 2 + i) "" = row at hat hrl hrow htk
        obtain ⟨f1, f2, f3⟩ := split_facts row
        cases hws : Txt.split row " " with
        | nil => exact absurd hws f1
        | cons y r =>
          rw [hws] at f2 f3
          have hKn : Kn y := ok.kn _ hmy (k + 2 + i) row y (by omega) hrow (by rw [hws]; rfl)
          have hxl : xs.length = i := by rw [dpa_len hxs, List.length_map, hul]
          have htk2 : toksOf (k + 2 + i) (row :: rs.drop (k + 2 + (i + 1))) = match tokOf (y :: r) with
              | none => (Sum.inl (k + 2 + i + 1) : Nat ⊕ List Tk)
              | some t => match toksOf (k + 2 + i + 1) (rs.drop (k + 2 + (i + 1))) with
                | .inl n => (Sum.inl n : Nat ⊕ List Tk)
                | .inr ts => .inr (t :: ts) := by
            rw [← hws]
            rfl
          rw [htk2] at htk
          refine ⟨_, rfl, _, rfl, D, _, _, _, rfl, rfl, SqL.of e4, hat, row, y, r, rfl, by omega, hws, fun z hz => ?_, ?_, hKn, fun hno H5 s5 => ?_, fun t ht v H5 s5 hv => ?_⟩
          · have := f2 z (List.mem_cons_of_mem _ hz)
            omega
          · rw [List.length_cons] at f3
            omega
          · refine ⟨_, rfl, rfl, _, rfl, iteT ?_⟩
            rw [hno] at htk
            refine ⟨_, rfl, _, _, rfl, rfl, by show 1 ≤ 1000; decide, fun a na => ⟨a, _, rfl, ?_, upd_same, fun dx ndx nda => ?_⟩⟩
            · omega
            obtain ⟨g1, g2, g3⟩ := raise_end (o2 := exd dx [("row", .int (((k : Nat) : Int) + 2 + (i : Nat) + 1))]) (o3 := exo a CP (some dx)) (o4 := .xd [("row", .int (((k : Nat) : Int) + 2 + (i : Nat) + 1))]) (s4.trans s5) na ndx nda
            refine ⟨rfl, dx, _, upd_same, (upd_ne nda).trans upd_same, g2, hbad _ ?_ dx _ g1 g3 upd_same⟩
            rw [hps, htk]
            show PR.bad _ = PR.bad _
            congr 1
          · refine ⟨_, rfl, rfl, _, rfl, ?_⟩
            rw [dp_isN hv]
            refine iteF ⟨_, rfl, .inl ⟨rfl, _, SqL.of (s5 _ _ e5)⟩, _, rfl, N, _, _, rfl, rfl, s5 _ _ e5, small_sz5 (by omega), ?_⟩
            have b6 : But N H5 (upd H5 N (.lst (xs ++ [v]))) := fun b o hb e => (upd_ne hb).trans e
            refine ⟨_, _, xs ++ [v], us ++ [t], rfl, same_mut (s4.trans s5) nNH, b6 _ _ nND (s5 _ _ e4), upd_same, ?_, by rw [List.length_append, hul]; rfl, ?_⟩
            · rw [List.map_append]
              exact dpa_snoc (dpa_but (s5 _ _ e5) b6 _ _ (noLs_tk _) (dpa_same s5 _ _ hxs)) (dp_but (s5 _ _ e5) b6 _ _ (noL_tk _) hv)
            · rw [htk, ht]
              show _ = match toksOf (k + 2 + i + 1) (rs.drop (k + 2 + (i + 1))) with | .inl n => (Sum.inl n : Nat ⊕ List Tk) | .inr ts => .inr (us ++ [t] ++ ts)
              dsimp only
              cases toksOf (k + 2 + i + 1) (rs.drop (k + 2 + (i + 1))) with
              | inl n => rfl
              | inr ts =>
                dsimp only
                rw [List.append_assoc]
                rfl
      · obtain ⟨y5, y6, xs, us, rfl, s4, e4, e5, hxs, hul, htk⟩ := hP
        have hdn : rs.drop (k + 2 + (((rs.length : Nat) : Int) - ((k : Nat) + 2)).toNat) = [] := List.drop_eq_nil_of_le (by omega)
        rw [hdn] at htk
        have htk : toksOf (k + 2) (rs.drop (k + 2)) = .inr us := by
          rw [htk]
          show Sum.inr (us ++ []) = _
          rw [List.append_nil]
        rw [htk] at hps
        refine ⟨⟨_, rfl⟩, _, rfl, 1, rfl, _, rfl, _, _, rfl, rfl, _, rfl, D, _, rfl, SqL.of e4, fun U nU => ?_⟩
        rw [a1]
        have hcut : cutV (rs.map V.str) (some ((1 : Nat) : Int)) (some ((k + 1 : Nat) : Int)) = ((rs.drop 1).take k).map V.str := by
          rw [cutv_part _ _ _ (by omega), ← List.map_drop, ← List.map_take, Nat.add_sub_cancel]
        rw [show (some (1 : Int)) = some ((1 : Nat) : Int) from rfl, hcut]
        generalize hg : upd H4 U _ = H5
        obtain ⟨s5, e6'⟩ := new_of nU hg
        refine ⟨"\n", U, (rs.drop 1).take k, rfl, rfl, .inl (SqL.of e6'), ?_, ?_⟩
        · have h2 := sum_le (fun z : PySem.Str => z.length) 1000 ((rs.drop 1).take k) fun z hz => ok.len z (List.mem_of_mem_drop (List.mem_of_mem_take hz))
          have e : ("\n" : PySem.Str).length = 1 := rfl
          have hl : ((rs.drop 1).take k).length ≤ 3000 := by
            rw [List.length_take, List.length_drop]
            omega
          have : ((rs.drop 1).take k).length * 1000 ≤ 3000 * 1000 := Nat.mul_le_mul_right _ hl
          rw [e]
          omega
        have hN5 := s5 _ _ e5
        have hxs5 := dpa_same s5 _ _ hxs
        have s45 := s4.trans s5
        refine ⟨_, rfl, "proc ", rfl, by decide, _, rfl, _, rfl, big _ (by omega), ?_⟩
        rw [show (((("proc " : PySem.Str).length : Nat) : Int)) = ((5 : Nat) : Int) from rfl, cut5' hd hhl]
        refine ⟨_, rfl, N, _, rfl, .inl ⟨SqL.of hN5, fun M nM => ?_⟩⟩
        generalize hg : upd H5 M _ = H6
        obtain ⟨s6, e7⟩ := new_of nM hg
        have s46 := s45.trans s6
        have hv : Dp K H6 (.ref M) (.tuple (us.map Tk.enc)) := .tup (SqT.of e7) (dpa_same s6 _ _ hxs5)
        intro p dx np ndx ne
        refine ⟨p, dx, _, _, _, rfl, upd_same, fun H7 kk e8 => ⟨rfl, ?_⟩⟩
        have npH : H p = none := s46.free np
        have s67 : Same H6 H7 := fun b o e => kk b o (ne_of_none e np) ((upd_ne (ne_of_none e np)).trans ((upd_ne (ne_of_none e ndx)).trans e))
        exact hgood _ _ _ hps p H7 (s46.trans s67) npH ⟨dx, .ref M, e8, dp_same s67 _ _ hv⟩
end
end SW

namespace SW
open PySem PySem.Spec PyProof.Rows L2
abbrev s_l_row_of : Stmt := topS 34
theorem sc_l_row_of : FnScope ["text", "e"] ["text"] (defScope s_l_row_of) := ⟨rfl, rfl, rfl, by decide +kernel, rfl, by decide +kernel, by decide +kernel⟩

section
variable {P : Program} {w : World} {K : PySem.W.Frag} {mg : PySem.Str → Option Value} {base : Heap} {C CP CS fI : Addr} {Kn : PySem.Str → Prop}
def spRowOf (Kn : PySem.Str → Prop) : Sp := fun vs H Q _ => ∃ (rs : List PySem.Str) (n : Int), vs = [.str (Txt.join "\n" rs)] ∧ RsOk Kn rs ∧ parse rs = .bad n ∧ ∀ H', Same H H' → Q (.int n) H'
theorem ok_l_row_of (T : TxP K w mg C Kn) (TE : TxE K mg CP CS fI) (c_Paper : CkP K C) (c_BadLine : CkE K fI) (D_l_row_of : Df K mg "_law_row_of" s_l_row_of ["text"]) (D_read_paper : Df K mg "read_paper" s_read_paper ["text"]) (D_read_many : Df K mg "_read_many" s_read_many ["row"]) (D_read_token : Df K mg "_read_token" s_read_token ["row"]) (D_is_number : Df K mg "_is_number" s_is_number ["word"]) : FnOk P w K mg base CX0 4 D_l_row_of.f D_l_row_of.fd ["text"] (spRowOf Kn) := by
  have G_read_paper := ok_read_paper (P := P) (w := w) (base := base) T TE c_Paper c_BadLine D_read_paper D_read_many D_read_token D_is_number
  refine D_l_row_of.F.ok sc_l_row_of (fun vs H Q E h => ?_) (fun cdv A outer s H vs Q E hr h => ?_)
  · obtain ⟨rs, n, rfl, _⟩ := h
    rfl
  · obtain ⟨rs, n, rfl, ok, hp, q⟩ := h
    refine ⟨_, pss_cons (ps_try_as (i := 1) rfl rfl sc_l_row_of.nd rfl rfl ⟨rfl, by decide, .inl TE.m_SwornError⟩ takes0
      (fun W pn xe tk _ => pss_one (ps_expr (pe_callS G_read_paper (hr.mono (by decide)) (by rfl) D_read_paper.g D_read_paper.F.kp D_read_paper.b (fun σ => passAt tk σ) (pa_cons (pv 0) pa_nil))))
      (fun a oe cls d pn hz hf => pss_cons (ps_if (PW.pt (pw_or (pt_val (pe_callB (call_isET hz hf) (by rfl) T.n_isinstance (by decide +kernel) (pa_cons (pv 1) (pa_cons (pe_tup (pa_cons (pe_glob (v := .ref TE.CT) rfl TE.m_BadText rfl) (pa_cons (pe_glob (v := .ref TE.CR) rfl TE.m_BadProgram rfl) (pa_cons (pe_glob (v := .ref TE.CB) rfl TE.m_BadStart rfl) (pa_cons (pe_glob (v := .ref TE.CN) rfl TE.m_NoProcedure rfl) pa_nil))))) pa_nil))))
          (pw_or1 (pt_not (pt_val (pe_callB (call_isED hz hf) (by rfl) T.n_isinstance (by decide +kernel) (pa_cons (pv 1) (pa_cons (pe_bltn (v := .ty "ValueError") (u := .type "ValueError") (by rfl) TE.n_ValueError (by decide +kernel) rfl) pa_nil))))))))
          (pss_one (ps_ret pe_non)) pss_nil)
        (pss_one (ps_if (PW.pt (pw_and (pt_val (pe_callB (call_isED hz hf) (by rfl) T.n_isinstance (by decide +kernel) (pa_cons (pv 1) (pa_cons (pe_glob (v := .ref CP) rfl TE.m_BadPaper rfl) pa_nil))))
          (pw_and (pt_val (pe_callB (call_isED hz hf) (by rfl) T.n_isinstance (by decide +kernel) (pa_cons (pv 1) (pa_cons (pe_glob (v := .ref TE.CL) rfl TE.m_BadLine rfl) pa_nil))))
          (pw_and1 (pt_not (pt_val (pe_callB (show CallR _ (.builtin "isinstance") (rIsi K) from call_isi) (by rfl) T.n_isinstance (by decide +kernel) (pa_cons (pe_xf TE.xf TE.noR hz hf (pv 1)) (pa_cons (pe_bltn (v := .ty "bool") (u := .type "bool") (by rfl) T.n_bool (by decide +kernel) rfl) pa_nil)))))))))
          (pss_one (ps_ret (pe_xf TE.xf TE.noR hz hf (pv 1)))) pss_nil))))
      (pss_one (ps_ret pe_non)), ?_⟩
    refine ⟨_, rfl, rs, rfl, ok, fun n' hn d H1 s1 nd ed => ?_, fun ls x ts hg => ?_⟩
    · rw [hp] at hn
      cases hn
      refine ⟨true, TE.te, fun _ a na => ?_, fun h => nomatch h⟩
      refine ⟨_, rfl, by show 4 ≤ sizeLine; decide, fun t nt => ?_⟩
      generalize hg : upd H1 t _ = H2
      obtain ⟨s2, e2⟩ := new_of nt hg
      have ed2 := s2 _ _ ed
      refine ⟨CP, d, _, t, _, _, false, rfl, TE.ec, rfl, ed2, rfl, e2, .cons (.own _) (.cons (.own _) (.cons (.own _) (.cons (.own _) .nil))), TE.k4, false, rfl, iteF ?_⟩
      refine ⟨_, rfl, CP, d, _, .ty "ValueError", .type "ValueError", true, rfl, TE.ec, rfl, ed2, rfl, .ty _, TE.kV, true, rfl, iteF ?_⟩
      refine ⟨_, rfl, CP, d, _, .ref CP, .ref CP, true, rfl, TE.ec, rfl, ed2, rfl, .own _, kit_self K CP, true, rfl, iteT ?_⟩
      refine ⟨_, rfl, CP, d, _, .ref TE.CL, .ref TE.CL, true, rfl, TE.ec, rfl, ed2, rfl, .own _, TE.kL, true, rfl, iteT ?_⟩
      refine ⟨_, rfl, rfl, rfl, d, _, _, rfl, ed2, rfl, .int n, .ty "bool", .type "int", .type "bool", false, rfl, .ty _, .base (.int _), kit_ty (by decide +kernel), false, rfl, iteT ?_⟩
      exact ⟨_, rfl, rfl, rfl, d, _, _, rfl, ed2, rfl, q H2 (s1.trans s2)⟩
    · rw [hp] at hg
      cases hg
end
end SW

namespace SW
open PySem PySem.Spec PyProof.Rows L2
/-! ### rows that are wrong -/
def wrongWs : List PySem.Str := ["", "onn", "ON", "met", "text", "proc", "pairs", "dead\t1", "on\t"]
def KnW (z : PySem.Str) : Prop := z ∈ kinds.map (·.1) ++ wrongWs
theorem knw_tok {t : Tk} (h : t.ok) : KnW t.w := by
  obtain ⟨k, h1, _⟩ := h.kd
  exact List.mem_append_left _ (List.mem_map.mpr ⟨_, h1, rfl⟩)
def wrongToks : List PySem.Str := ([("" : PySem.Str), "onn", "on ", " on", "on 1", "over 0", "ON", "over ", "dead", "dead ", "dead x", "dead -1", "dead 01"] : List PySem.Str) ++ (["dead 1  2", "dead 1 2 ", "dead 1000000000000", "dead 1 01", "dead 1,2", "dead +1", "dead 1_0",
  "pair", "pair 1", "pair 1 2 3", "pair 1 x", "pair -1 2", "pair 01 2", "pair 1 1000000000000"] : List PySem.Str) ++ (["met 0", "write",
  "write 1 2", "write x", "either", "either 0 0", "all 1", "all 1 2 3", "all 1 -2", "match 1"] : List PySem.Str) ++ (["match 1 2 3", "match 0 00", "sorted 1 2", "sorted 1 2 3 4", "sorted 1 2 x", "below 1 2",
  "dead 1 -2", "pair  1 2", "pair 1 2 "] : List PySem.Str) ++ (["below 1 2 3 4", "below 1 2 03", "text 1", "proc x", "pairs 1 2", "dead\t1", "on\t"] : List PySem.Str)
/-- split, as the kernel may count it -/
def spW (z : PySem.Str) : List PySem.Str := (TL.spl [32] 0 [] z.cps.toList).map mk
theorem split_spW (z : PySem.Str) : Txt.split z " " = spW z := by
  refine TL.map_tl_inj ?_
  rw [TL.split_spl _ " " (by decide) (TL.kind_ok (by decide +kernel))]
  unfold spW
  rw [List.map_map]
  have e : (TL.tl ∘ mk) = id := rfl
  rw [e, List.map_id]
  rfl
theorem wrongToks_bad0 : ∀ z, z ∈ wrongToks → (tokOf (spW z)).isNone = true ∧ ((spW z).headD "" ∈ kinds.map (·.1) ++ wrongWs) ∧ (¬ 10 ∈ z.cps.toList) ∧ z.length ≤ 100 := by decide +kernel
theorem wrongNames_bad : ∀ z, z ∈ ([("" : PySem.Str), "proc", "procs x", "Proc x", " proc x", "pro x", "text 1", "proc\tx"]) → z.cps.toList.take 5 ≠ pc ∧ (¬ 10 ∈ z.cps.toList) ∧ z.length ≤ 100 := by decide +kernel
theorem wrongToks_bad {z : PySem.Str} (h : z ∈ wrongToks) : tokOf (Txt.split z " ") = none ∧ (∀ y, (Txt.split z " ").head? = some y → KnW y) ∧ (¬ 10 ∈ z.cps.toList) ∧ z.length ≤ 100 := by
  obtain ⟨h1, h2, h3, h4⟩ := wrongToks_bad0 z h
  rw [← split_spW] at h1 h2
  refine ⟨Option.isNone_iff_eq_none.mp h1, fun y hy => ?_, h3, h4⟩
  cases e : Txt.split z " " with
  | nil =>
    rw [e] at hy
    cases hy
  | cons a r =>
    rw [e] at hy h2
    cases hy
    exact h2
theorem getD_take {a b : List PySem.Str} {n j : Nat} (h : a.take n = b.take n) (hj : j < n) : a.getD j "" = b.getD j "" := by
  have e : ∀ l : List PySem.Str, l.getD j "" = (l.take n).getD j "" := fun l => by
    rw [List.getD_eq_getElem?_getD, List.getD_eq_getElem?_getD, List.getElem?_take, if_pos hj]
  rw [e a, e b, h]
theorem toksOf_bad : ∀ (l : List PySem.Str) (k i : Nat), (∀ j, j < i → ∃ t, tokOf (Txt.split (l.getD j "") " ") = some t) → i < l.length → tokOf (Txt.split (l.getD i "") " ") = none → toksOf k l = .inl (k + i + 1)
  | [], _, _, _, h, _ => absurd h (Nat.not_lt_zero _)
  | r :: s, k, 0, _, _, h => by
    have h : tokOf (Txt.split r " ") = none := h
    show (match tokOf (Txt.split r " ") with
      | none => (Sum.inl (k + 1) : Nat ⊕ List Tk)
      | some t => match toksOf (k + 1) s with
        | .inl n => .inl n
        | .inr ts => .inr (t :: ts)) = _
    rw [h]
  | r :: s, k, i + 1, hj, hl, h => by
    obtain ⟨t, ht⟩ := hj 0 (Nat.succ_pos _)
    have ht : tokOf (Txt.split r " ") = some t := ht
    have ih := toksOf_bad s (k + 1) i (fun j hji => hj (j + 1) (Nat.succ_lt_succ hji)) (Nat.lt_of_succ_lt_succ hl) h
    show (match tokOf (Txt.split r " ") with
      | none => (Sum.inl (k + 1) : Nat ⊕ List Tk)
      | some t => match toksOf (k + 1) s with
        | .inl n => .inl n
        | .inr ts => .inr (t :: ts)) = _
    rw [ht]
    dsimp only
    rw [ih]
    show Sum.inl (k + 1 + i + 1) = _
    congr 1
    omega
theorem toksOf_rows : ∀ (ts : List Tk) (k : Nat), (∀ t, t ∈ ts → t.ok) → toksOf k (ts.map Tk.row) = .inr ts
  | [], _, _ => rfl
  | t :: r, k, h => by
    have ih := toksOf_rows r (k + 1) fun u hu => h u (List.mem_cons_of_mem _ hu)
    have ok := h t List.mem_cons_self
    show (match tokOf (Txt.split t.row " ") with
      | none => (Sum.inl (k + 1) : Nat ⊕ List Tk)
      | some t => match toksOf (k + 1) (r.map Tk.row) with
        | .inl n => .inl n
        | .inr ts => .inr (t :: ts)) = _
    rw [ok.split, tokOf_ok ok]
    dsimp only
    rw [ih]
/-! ### the three ways to be wrong -/
structure W3 (sp : List PySem.Str) (n at_ : Nat) : Prop where
  r0 : readMany (Txt.split (sp.getD 0 "") " ") = some (n : Int)
  hd : (sp.getD (n + 1) "").cps.toList.take 5 = pc
  lo : n + 2 ≤ at_
  hi : at_ < sp.length
  ok : ∀ j, n + 2 ≤ j → j < at_ → ∃ t, tokOf (Txt.split (sp.getD j "") " ") = some t
  no : tokOf (Txt.split (sp.getD at_ "") " ") = none
theorem W3.bad {sp : List PySem.Str} {n at_ : Nat} (h : W3 sp n at_) : parse sp = .bad ((at_ + 1 : Nat) : Int) := by
  have h1 := h.lo
  have h2 := h.hi
  rw [parse_some h.r0, if_neg (by omega), Int.toNat_natCast, if_neg (fun e => e h.hd), if_neg (by omega)]
  have gd : ∀ j, (sp.drop (n + 2)).getD j "" = sp.getD (n + 2 + j) "" := fun j => by
    rw [List.getD_eq_getElem?_getD, List.getD_eq_getElem?_getD, List.getElem?_drop]
  rw [toksOf_bad (sp.drop (n + 2)) (n + 2) (at_ - (n + 2)) (fun j hj => by rw [gd]; exact h.ok _ (by omega) (by omega)) (by rw [List.length_drop]; omega) (by rw [gd, show n + 2 + (at_ - (n + 2)) = at_ by omega]; exact h.no)]
  show PR.bad _ = PR.bad _
  congr 1
  omega
theorem W3.firm {sp : List PySem.Str} {n at_ : Nat} (h : W3 sp n at_) {sq : List PySem.Str} (hl : at_ + 1 ≤ sq.length) (ht : sq.take (at_ + 1) = sp.take (at_ + 1)) : W3 sq n at_ := by
  have h1 := h.lo
  refine ⟨?_, ?_, h.lo, hl, fun j a b => ?_, ?_⟩
  · rw [getD_take ht (by omega)]
    exact h.r0
  · rw [getD_take ht (by omega)]
    exact h.hd
  · rw [getD_take ht (by omega)]
    exact h.ok j a b
  · rw [getD_take ht (by omega)]
    exact h.no
theorem bad2 {sp : List PySem.Str} {n : Nat} (r0 : readMany (Txt.split (sp.getD 0 "") " ") = some (n : Int)) (hl : n + 2 ≤ sp.length) (hd : (sp.getD (n + 1) "").cps.toList.take 5 ≠ pc) : parse sp = .bad ((n + 2 : Nat) : Int) := by
  rw [parse_some r0, if_neg (by omega), Int.toNat_natCast, if_pos hd]
  show PR.bad _ = PR.bad _
  congr 1
theorem bad_short {sp : List PySem.Str} {m : Int} (r0 : readMany (Txt.split (sp.getD 0 "") " ") = some m) (hl : (sp.length : Int) < m + 2) : parse sp = .bad ((sp.length + 1 : Nat) : Int) := by
  rw [parse_some r0, if_pos hl]
  show PR.bad _ = PR.bad _
  congr 1
theorem bad_none {sp : List PySem.Str} {n : Nat} (r0 : readMany (Txt.split (sp.getD 0 "") " ") = some (n : Int)) (hl : sp.length = n + 2) (hd : (sp.getD (n + 1) "").cps.toList.take 5 = pc) : parse sp = .bad ((sp.length + 1 : Nat) : Int) := by
  rw [parse_some r0, if_neg (by omega), Int.toNat_natCast, if_neg (fun e => e hd), if_pos (by omega)]
  show PR.bad _ = PR.bad _
  congr 1
/-! ### rows that may be handed in -/
structure SpR (L : Nat) (sp : List PySem.Str) : Prop where
  ne : sp ≠ []
  nl : ∀ p, p ∈ sp → ¬ 10 ∈ p.cps.toList
  len : ∀ p, p ∈ sp → p.length ≤ 1000
  many : sp.length ≤ 3000
  m0 : ∀ m : Int, readMany (Txt.split (sp.getD 0 "") " ") = some m → (L : Int) ≤ m
  kn : ∀ (i : Nat) (p y : PySem.Str), L + 2 ≤ i → sp[i]? = some p → (Txt.split p " ").head? = some y → KnW y
theorem SpR.rs {L : Nat} {sp : List PySem.Str} (h : SpR L sp) : RsOk KnW sp := ⟨h.ne, h.nl, h.len, h.many, fun m hm i p y hi hp hy => h.kn i p y (by have := h.m0 m hm; omega) hp hy⟩
theorem SpR.take {L n : Nat} {sp : List PySem.Str} (h : SpR L sp) (hn : 1 ≤ n) : SpR L (sp.take n) := by
  have hl : 0 < sp.length := List.length_pos_iff.mpr h.ne
  refine ⟨fun e => ?_, fun p hp => h.nl p (List.mem_of_mem_take hp), fun p hp => h.len p (List.mem_of_mem_take hp), ?_, fun m hm => h.m0 m ?_, fun i p y hi hp hy => h.kn i p y hi ?_ hy⟩
  · have := congrArg List.length e
    rw [List.length_take] at this
    have : min n sp.length = 0 := this
    omega
  · rw [List.length_take]
    have := h.many
    omega
  · rw [getD_take (a := sp.take n) (b := sp) (n := 1) (by rw [List.take_take, Nat.min_eq_left hn]) (by omega)] at hm
    exact hm
  · rw [List.getElem?_take] at hp
    split at hp
    · exact hp
    · cases hp
theorem set_parts {sp : List PySem.Str} {k : Nat} {z : PySem.Str} (hk : k < sp.length) : sp.take k ++ ([z] ++ sp.drop (k + 1)) = sp.set k z := by
  rw [List.set_eq_take_append_cons_drop, if_pos hk]
  rfl
theorem SpR.set {L k : Nat} {sp : List PySem.Str} {z : PySem.Str} (h : SpR L sp) (hk : k < sp.length) (h10 : ¬ 10 ∈ z.cps.toList) (hl : z.length ≤ 1000) (hm0 : k = 0 → ∀ m : Int, readMany (Txt.split z " ") = some m → (L : Int) ≤ m) (hkn : L + 2 ≤ k → ∀ y, (Txt.split z " ").head? = some y → KnW y) : SpR L (sp.set k z) := by
  refine ⟨fun e => ?_, fun p hp => ?_, fun p hp => ?_, ?_, fun m hm => ?_, fun i p y hi hp hy => ?_⟩
  · have := congrArg List.length e
    rw [List.length_set] at this
    have : sp.length = 0 := this
    omega
  · rcases List.mem_or_eq_of_mem_set hp with hp | rfl
    · exact h.nl p hp
    · exact h10
  · rcases List.mem_or_eq_of_mem_set hp with hp | rfl
    · exact h.len p hp
    · exact hl
  · rw [List.length_set]
    exact h.many
  · rw [List.getD_eq_getElem?_getD, List.getElem?_set] at hm
    by_cases hk0 : k = 0
    · rw [if_pos hk0, if_pos (by omega)] at hm
      exact hm0 hk0 m hm
    · rw [if_neg hk0, ← List.getD_eq_getElem?_getD] at hm
      exact h.m0 m hm
  · rw [List.getElem?_set] at hp
    by_cases hki : k = i
    · rw [if_pos hki, if_pos (by omega)] at hp
      cases hp
      exact hkn (by omega) y hy
    · rw [if_neg hki] at hp
      exact h.kn i p y hi hp hy
end SW

namespace SW
open PySem PySem.Spec PyProof.Rows L2
theorem getD_of {ws : List PySem.Str} {j : Nat} {z : PySem.Str} (h : ws[j]? = some z) : ws.getD j "" = z := by
  rw [List.getD_eq_getElem?_getD, h]
  rfl
/-! ### the good rows -/
section
variable {ls : List PySem.Str} {x : PySem.Str} {ts : List Tk}
theorem rows_r0 (ok : PpOk ls x ts) : readMany (Txt.split ((pRows ls x ts).getD 0 "") " ") = some (ls.length : Int) := by
  obtain ⟨r0, _, _⟩ := row_at (ls := ls) (x := x) (ts := ts)
  rw [getD_of r0, row0_split ok.ln.1]
  exact row0_many ok.ln.1 (by have := ok.ln.2; omega)
theorem rows_hd (ok : PpOk ls x ts) : ((pRows ls x ts).getD (ls.length + 1) "") = "proc " ++ x := by
  obtain ⟨_, r1, _⟩ := row_at (ls := ls) (x := x) (ts := ts)
  exact getD_of r1
theorem hd_take (x : PySem.Str) : (("proc " : PySem.Str) ++ x).cps.toList.take 5 = pc := by
  rw [proc_cps]
  rfl
theorem rows_tok {j : Nat} (h1 : ls.length + 2 ≤ j) (h2 : j < (pRows ls x ts).length) : ∃ t, t ∈ ts ∧ (pRows ls x ts)[j]? = some t.row := by
  obtain ⟨_, _, r2⟩ := row_at (ls := ls) (x := x) (ts := ts)
  rw [pRows_len] at h2
  have hi : j - (ls.length + 2) < ts.length := by omega
  have := r2 (j - (ls.length + 2)) _ (List.getElem?_eq_getElem hi)
  rw [show ls.length + 2 + (j - (ls.length + 2)) = j by omega] at this
  exact ⟨_, List.getElem_mem hi, this⟩
theorem rows_spr (ok : PpOk ls x ts) : SpR ls.length (pRows ls x ts) := by
  refine ⟨List.cons_ne_nil _ _, pRows_nl ok, fun p hp => Nat.le_trans (pRows_row ok p hp) (by decide), ?_, fun m hm => ?_, fun i p y hi hp hy => ?_⟩
  · rw [pRows_len]
    have := ok.many
    have := ok.tm
    omega
  · rw [rows_r0 ok] at hm
    cases hm
    exact Int.le_refl _
  · obtain ⟨t, ht, e⟩ := rows_tok (ts := ts) (x := x) hi (List.getElem?_eq_some_iff.mp hp).1
    rw [e] at hp
    cases hp
    rw [(ok.ts t ht).split] at hy
    cases hy
    exact knw_tok (ok.ts t ht)
theorem rows_good (ok : PpOk ls x ts) : parse (pRows ls x ts) = .good ls x ts := by
  have hl := pRows_len ls x ts
  have htn : 0 < ts.length := List.length_pos_iff.mpr ok.tn
  rw [parse_some (rows_r0 ok), if_neg (by omega), Int.toNat_natCast, rows_hd ok, if_neg (fun e => e (hd_take x)), if_neg (by omega)]
  have hd : (pRows ls x ts).drop (ls.length + 2) = ts.map Tk.row := by
    unfold pRows
    rw [List.drop_succ_cons, show ls.length + 1 = ls.length + 1 from rfl, ← List.drop_drop, List.drop_left]
    rfl
  rw [hd, toksOf_rows ts _ ok.ts]
  dsimp only
  have h1 : ((pRows ls x ts).drop 1).take ls.length = ls := by
    unfold pRows
    rw [List.drop_succ_cons, List.drop_zero, List.take_left]
  rw [h1, proc_cps]
  rfl
end
/-! ### wrong first rows -/
def wfRows (d : PySem.Str) : List PySem.Str := ([("" : PySem.Str), "text", "text ", "text 0", "text 0" ++ d, "text -" ++ d, "text +" ++ d, "text x", "texts " ++ d] : List PySem.Str) ++ ([("text " : PySem.Str) ++ d ++ " ", " text " ++ d, "text  " ++ d, "text " ++ d ++ " 1", "Text " ++ d, d] : List PySem.Str) ++ ([("text 1000000000000" : PySem.Str), "text " ++ d ++ ".0", "text 1_0", "text\t" ++ d] : List PySem.Str)
theorem rm_const : ∀ z, z ∈ ([("" : PySem.Str), "text", "text ", "text 0", "text x", "text 1000000000000", "text 1_0"] : List PySem.Str) → readMany (spW z) = none ∧ (¬ 10 ∈ z.cps.toList) ∧ z.length ≤ 100 := by decide +kernel
theorem join3 (a b c : PySem.Str) : Txt.join " " [a, b, c] = a ++ (" " ++ (b ++ (" " ++ c))) := by
  rw [TL.join_eq]
  refine TL.ext_tl ?_
  show TL.tl (a ++ " " ++ (b ++ " " ++ c)) = _
  simp only [TL.tl_append, List.append_assoc]
/-- words without a space or a newline -/
def Wd (z : PySem.Str) : Prop := ¬ 32 ∈ z.cps.toList ∧ ¬ 10 ∈ z.cps.toList ∧ z.length ≤ 30
theorem Wd.app {a b : PySem.Str} {k : Nat} (h1 : (¬ 32 ∈ a.cps.toList) ∧ (¬ 10 ∈ a.cps.toList)) (h2 : Wd b) (hl : a.length + b.length ≤ 30) : Wd (a ++ b) := by
  refine ⟨fun h => ?_, fun h => ?_, by rw [app_len]; exact hl⟩
  · rw [cps_app] at h
    exact (List.mem_append.mp h).elim h1.1 h2.1
  · rw [cps_app] at h
    exact (List.mem_append.mp h).elim h1.2 h2.2.1
theorem wd_nz {n : Int} (h : okN n) : Wd (nz n) := ⟨nz_free h (.inl (by decide)), nz_free h (.inl (by decide)), Nat.le_trans (nz_len h) (by decide)⟩
theorem of_words {ws : List PySem.Str} (hne : ws ≠ []) (hl : ws.length ≤ 20) (hw : ∀ w, w ∈ ws → Wd w) : Txt.split (Txt.join " " ws) " " = ws ∧ (¬ 10 ∈ (Txt.join " " ws).cps.toList) ∧ (Txt.join " " ws).length ≤ 1000 := by
  refine ⟨split_sp hne fun p hp => (hw p hp).1, fun h => ?_, ?_⟩
  · rcases join_mem h with h | ⟨p, hp, h⟩
    · exact absurd h (by decide)
    · exact (hw p hp).2.1 h
  · have h1 := join_le " " ws
    have h2 := sum_le (fun z : PySem.Str => z.length) 30 ws fun z hz => (hw z hz).2.2
    have e : (" " : PySem.Str).length = 1 := rfl
    rw [e] at h1
    omega
theorem str_eq {a b : PySem.Str} (h : a.cps.toList = b.cps.toList) : a = b := TL.ext_tl h
theorem isNum_head {a b : PySem.Str} {c : Nat} {r : List Nat} (ha : a.cps.toList = c :: r) (hc : ¬ c ∈ cD) : isNum (a ++ b) = false := by
  unfold isNum
  have : ((a ++ b).cps.toList.all fun c => decide (c ∈ cD)) = false := by
    rw [cps_app, ha]
    show (decide (c ∈ cD) && _) = false
    rw [decide_eq_false hc]
    rfl
  rw [this, Bool.and_false, Bool.and_false, Bool.and_false]
theorem isNum_mem {z : PySem.Str} {c : Nat} (hm : c ∈ z.cps.toList) (hc : ¬ c ∈ cD) : isNum z = false := by
  unfold isNum
  have : (z.cps.toList.all fun c => decide (c ∈ cD)) = false := by
    refine Bool.eq_false_iff.mpr fun h => hc ?_
    exact of_decide_eq_true (List.all_eq_true.mp h c hm)
  rw [this, Bool.and_false, Bool.and_false, Bool.and_false]
theorem isNum_zero {b : PySem.Str} (hb : b.cps.toList ≠ []) : isNum ("0" ++ b) = false := by
  unfold isNum
  have h1 : (("0" : PySem.Str) ++ b).cps.toList = 48 :: b.cps.toList := cps_app "0" b
  have h2 : (("0" : PySem.Str) ++ b) ≠ "0" := fun e => by
    rw [e] at h1
    injection h1 with _ h1
    exact hb h1.symm
  rw [h1, decide_eq_true h2]
  simp
theorem rm2 {a b : PySem.Str} (h : ¬ (a = "text" ∧ isNum b = true ∧ b ≠ "0")) : readMany [a, b] = none := if_neg h
theorem wfRows_bad {n : Int} (h : okN n) : ∀ z, z ∈ wfRows (nz n) → readMany (Txt.split z " ") = none ∧ (¬ 10 ∈ z.cps.toList) ∧ z.length ≤ 1000 := by
  have w := wd_nz h
  have hl := nz_len h
  have hne : (nz n).cps.toList ≠ [] := by
    rw [nz_cps h.1]
    exact TL.numL_ne _
  have cst : ∀ z, z ∈ ([("" : PySem.Str), "text", "text ", "text 0", "text x", "text 1000000000000", "text 1_0"] : List PySem.Str) → readMany (Txt.split z " ") = none ∧ (¬ 10 ∈ z.cps.toList) ∧ z.length ≤ 1000 := fun z hz => by
    obtain ⟨h1, h2, h3⟩ := rm_const z hz
    rw [split_spW]
    exact ⟨h1, h2, by omega⟩
  have key : ∀ (z : PySem.Str) (ws : List PySem.Str), z = Txt.join " " ws → ws ≠ [] → ws.length ≤ 20 → (∀ w, w ∈ ws → Wd w) → readMany ws = none → readMany (Txt.split z " ") = none ∧ (¬ 10 ∈ z.cps.toList) ∧ z.length ≤ 1000 := fun z ws e h1 h2 h3 h4 => by
    obtain ⟨g1, g2, g3⟩ := of_words h1 h2 h3
    rw [e, g1]
    exact ⟨h4, g2, g3⟩
  have wc : ∀ z, z ∈ ([("" : PySem.Str), "text", "texts", "Text", "1", "0", "-", "+", ".0", "text\t"] : List PySem.Str) → Wd z := by
    have : ∀ z, z ∈ ([("" : PySem.Str), "text", "texts", "Text", "1", "0", "-", "+", ".0", "text\t"] : List PySem.Str) → (¬ 32 ∈ z.cps.toList) ∧ (¬ 10 ∈ z.cps.toList) ∧ z.length ≤ 30 := by decide +kernel
    exact this
  have wz : ∀ a, a ∈ ([("" : PySem.Str), "text", "texts", "Text", "1", "0", "-", "+", ".0", "text\t"] : List PySem.Str) → a.length ≤ 10 → Wd (a ++ nz n) := fun a ha hal => Wd.app (k := 0) ⟨(wc a ha).1, (wc a ha).2.1⟩ w (by omega)
  have two : ∀ {a b : PySem.Str}, Wd a → Wd b → ∀ w, w ∈ [a, b] → Wd w := fun {a b} ha hb w hw => by
    rcases List.mem_cons.mp hw with rfl | hw
    · exact ha
    · rw [List.mem_singleton.mp hw]
      exact hb
  have three : ∀ {a b c : PySem.Str}, Wd a → Wd b → Wd c → ∀ w, w ∈ [a, b, c] → Wd w := fun {a b c} ha hb hc w hw => by
    rcases List.mem_cons.mp hw with rfl | hw
    · exact ha
    · exact two hb hc w hw
  intro z hz
  unfold wfRows at hz
  simp only [List.cons_append, List.nil_append, List.mem_cons, List.not_mem_nil, or_false] at hz
  rcases hz with rfl | rfl | rfl | rfl | rfl | rfl | rfl | rfl | rfl | rfl | rfl | rfl | rfl | rfl | rfl | rfl | rfl | rfl | rfl
  · exact cst _ (by simp)
  · exact cst _ (by simp)
  · exact cst _ (by simp)
  · exact cst _ (by simp)
  · refine key _ ["text", "0" ++ nz n] ?_ (List.cons_ne_nil _ _) (Nat.le_of_ble_eq_true rfl) (two (wc _ (by simp)) (wz _ (by simp) (by decide))) (rm2 fun h => by rw [isNum_zero hne] at h; cases h.2.1)
    rw [join2]
    exact str_eq (by simp only [cps_app]; rfl)
  · refine key _ ["text", "-" ++ nz n] ?_ (List.cons_ne_nil _ _) (Nat.le_of_ble_eq_true rfl) (two (wc _ (by simp)) (wz _ (by simp) (by decide))) (rm2 fun h => by rw [isNum_head (a := "-") rfl (by decide)] at h; cases h.2.1)
    rw [join2]
    exact str_eq (by simp only [cps_app]; rfl)
  · refine key _ ["text", "+" ++ nz n] ?_ (List.cons_ne_nil _ _) (Nat.le_of_ble_eq_true rfl) (two (wc _ (by simp)) (wz _ (by simp) (by decide))) (rm2 fun h => by rw [isNum_head (a := "+") rfl (by decide)] at h; cases h.2.1)
    rw [join2]
    exact str_eq (by simp only [cps_app]; rfl)
  · exact cst _ (by simp)
  · refine key _ ["texts", nz n] ?_ (List.cons_ne_nil _ _) (Nat.le_of_ble_eq_true rfl) (two (wc _ (by simp)) w) (rm2 fun h => absurd h.1 (by decide +kernel))
    rw [join2]
    exact str_eq (by simp only [cps_app]; rfl)
  · refine key _ ["text", nz n, ""] ?_ (List.cons_ne_nil _ _) (Nat.le_of_ble_eq_true rfl) (three (wc _ (by simp)) w (wc _ (by simp))) rfl
    rw [join3]
    exact str_eq (by simp only [cps_app, List.append_assoc]; rfl)
  · refine key _ ["", "text", nz n] ?_ (List.cons_ne_nil _ _) (Nat.le_of_ble_eq_true rfl) (three (wc _ (by simp)) (wc _ (by simp)) w) rfl
    rw [join3]
    exact str_eq (by simp only [cps_app]; rfl)
  · refine key _ ["text", "", nz n] ?_ (List.cons_ne_nil _ _) (Nat.le_of_ble_eq_true rfl) (three (wc _ (by simp)) (wc _ (by simp)) w) rfl
    rw [join3]
    exact str_eq (by simp only [cps_app]; rfl)
  · refine key _ ["text", nz n, "1"] ?_ (List.cons_ne_nil _ _) (Nat.le_of_ble_eq_true rfl) (three (wc _ (by simp)) w (wc _ (by simp))) rfl
    rw [join3]
    exact str_eq (by simp only [cps_app, List.append_assoc]; rfl)
  · refine key _ ["Text", nz n] ?_ (List.cons_ne_nil _ _) (Nat.le_of_ble_eq_true rfl) (two (wc _ (by simp)) w) (rm2 fun h => absurd h.1 (by decide +kernel))
    rw [join2]
    exact str_eq (by simp only [cps_app]; rfl)
  · exact key _ [nz n] rfl (List.cons_ne_nil _ _) (Nat.le_of_ble_eq_true rfl) (fun z hz => by rw [List.mem_singleton.mp hz]; exact w) rfl
  · exact cst _ (by simp)
  · refine key _ ["text", nz n ++ ".0"] ?_ (List.cons_ne_nil _ _) (Nat.le_of_ble_eq_true rfl) (two (wc _ (by simp)) ⟨fun h => ?_, fun h => ?_, by rw [app_len]; show (nz n).length + 2 ≤ 30; omega⟩) (rm2 fun h => by rw [isNum_mem (c := 46) (by rw [cps_app]; exact List.mem_append_right _ (by decide)) (by decide)] at h; cases h.2.1)
    · rw [join2]
      exact str_eq (by simp only [cps_app, List.append_assoc]; rfl)
    · rw [cps_app] at h
      exact (List.mem_append.mp h).elim w.1 (by decide)
    · rw [cps_app] at h
      exact (List.mem_append.mp h).elim w.2.1 (by decide)
  · exact cst _ (by simp)
  · exact key _ ["text\t" ++ nz n] rfl (List.cons_ne_nil _ _) (Nat.le_of_ble_eq_true rfl) (fun z hz => by rw [List.mem_singleton.mp hz]; exact wz _ (by simp) (by decide)) rfl
end SW

namespace SW
open PySem PySem.Spec PyProof.Rows L2
abbrev s_l_wide : Stmt := topS 21
theorem sc_l_wide : FnScope ["hand", "many", "first"] ["hand", "many"] (defScope s_l_wide) := ⟨rfl, rfl, rfl, by decide +kernel, rfl, by decide +kernel, by decide +kernel⟩

abbrev s_l_number : Stmt := topS 22
theorem sc_l_number : FnScope ["hand"] ["hand"] (defScope s_l_number) := ⟨rfl, rfl, rfl, by decide +kernel, rfl, by decide +kernel, by decide +kernel⟩

abbrev s_l_line : Stmt := topS 23
theorem sc_l_line : FnScope ["hand", "signs", "tricky", "line", "k"] ["hand"] (defScope s_l_line) := ⟨rfl, rfl, rfl, by decide +kernel, rfl, by decide +kernel, by decide +kernel⟩

abbrev s_l_token : Stmt := topS 24
theorem sc_l_token : FnScope ["hand", "kind", "k", "many"] ["hand"] (defScope s_l_token) := ⟨rfl, rfl, rfl, by decide +kernel, rfl, by decide +kernel, by decide +kernel⟩

section
variable {P : Program} {w : World} {K : PySem.W.Frag} {mg : PySem.Str → Option Value} {base : Heap}
def spWide : Sp := fun vs H Q _ => ∃ (h d : Addr) (ds : List Int) (m : Int), vs = [.ref h, .int m] ∧ 0 < m ∧ Hand H h d ds ∧ ∀ r H', 0 ≤ r → r < m → But h H H' → Hand H' h d ds → Q (.int r) H'
theorem ok_l_wide (T : TxB mg) (D_l_wide : Df K mg "_law_wide" s_l_wide ["hand", "many"]) (D_l_take : Df K mg "_law_take" s_l_take ["hand", "many"]) : FnOk P w K mg base CX0 2 D_l_wide.f D_l_wide.fd ["hand", "many"] spWide := by
  have G_l_take := ok_l_take (P := P) (w := w) (base := base) T D_l_take
  refine D_l_wide.F.ok sc_l_wide (fun vs H Q E h => ?_) (fun cdv A outer s H vs Q E hr h => ?_)
  · obtain ⟨h, d, ds, m, rfl, _⟩ := h
    rfl
  · obtain ⟨h, d, ds, m, rfl, hm, hH, q⟩ := h
    refine ⟨_, (pss_cons (ps_set (i := 2) sc_l_wide.nd rfl (.inl rfl) (pe_call G_l_take (hr.mono (by decide)) (by rfl) D_l_take.g D_l_take.F.kp D_l_take.b .nil pass0 (pa_cons (pv 0) (pa_cons pe_int pa_nil))))
    (pss_one (ps_ret (pe_op op_mod (pe_callTy call_int1 (by rfl) T.n_int (by decide +kernel) (pa_cons (pe_op op_add (pe_op op_mul (pv 2) pe_int) (pe_call G_l_take (hr.mono (by decide)) (by rfl) D_l_take.g D_l_take.F.kp D_l_take.b .nil pass0 (pa_cons (pv 0) (pa_cons pe_int pa_nil)))) pa_nil)) (pv 1))))), ?_⟩
    refine ⟨_, rfl, h, d, ds, 100003, rfl, by decide, hH, fun r H1 r0 r1 b1 h1 _ => ?_⟩
    refine ⟨_, rfl, _, _, rfl, rfl, .inl ⟨by omega, by omega⟩, _, rfl, h, d, ds, 100003, rfl, by decide, h1, fun r2 H2 r20 r21 b2 h2 _ => ?_⟩
    refine ⟨_, _, rfl, rfl, .inl ⟨_, rfl, _, rfl, _, _, rfl, rfl, hm, ?_⟩⟩
    exact q _ H2 (Int.emod_nonneg _ (by omega)) (Int.emod_lt_of_pos _ hm) (b1.trans b2) h2
def spNumber : Sp := fun vs H Q _ => ∃ (h d : Addr) (ds : List Int), vs = [.ref h] ∧ Hand H h d ds ∧ ∀ (n : Int) H', okN n → But h H H' → Hand H' h d ds → Q (.int n) H'
theorem ok_l_number (T : TxB mg) (D_l_number : Df K mg "_law_number" s_l_number ["hand"]) (D_l_wide : Df K mg "_law_wide" s_l_wide ["hand", "many"]) (D_l_take : Df K mg "_law_take" s_l_take ["hand", "many"]) : FnOk P w K mg base CX0 3 D_l_number.f D_l_number.fd ["hand"] spNumber := by
  have G_l_take := ok_l_take (P := P) (w := w) (base := base) T D_l_take
  have G_l_wide := ok_l_wide (P := P) (w := w) (base := base) T D_l_wide D_l_take
  refine D_l_number.F.ok sc_l_number (fun vs H Q E h => ?_) (fun cdv A outer s H vs Q E hr h => ?_)
  · obtain ⟨h, d, ds, rfl, _⟩ := h
    rfl
  · obtain ⟨h, d, ds, rfl, hH, q⟩ := h
    refine ⟨_, (pss_cons (ps_if (pt_cmpR op_eq (pe_call G_l_take (hr.mono (by decide)) (by rfl) D_l_take.g D_l_take.F.kp D_l_take.b .nil pass0 (pa_cons (pv 0) (pa_cons pe_int pa_nil))) pe_int (nomark _))
    (pss_one (ps_ret (pe_op op_sub (pe_op op_sub (pe_op op_pow pe_int pe_int) pe_int) (pe_call G_l_take (hr.mono (by decide)) (by rfl) D_l_take.g D_l_take.F.kp D_l_take.b .nil pass0 (pa_cons (pv 0) (pa_cons pe_int pa_nil))))))
    pss_nil)
    (pss_one (ps_ret (pe_op op_mul (pe_call G_l_wide (hr.mono (by decide)) (by rfl) D_l_wide.g D_l_wide.F.kp D_l_wide.b .nil pass0 (pa_cons (pv 0) (pa_cons (pe_ix ix_list (pe_lst (pa_cons pe_int (pa_cons pe_int (pa_cons (pe_op op_pow pe_int pe_int) (pa_cons (pe_op op_pow pe_int pe_int) pa_nil))))) (pe_call G_l_take (hr.mono (by decide)) (by rfl) D_l_take.g D_l_take.F.kp D_l_take.b .nil pass0 (pa_cons (pv 0) (pa_cons pe_int pa_nil))) (fun _ _ => rfl)) pa_nil))) (pe_ix ix_list (pe_lst (pa_cons pe_int (pa_cons pe_int (pa_cons pe_int (pa_cons pe_int pa_nil))))) (pe_call G_l_take (hr.mono (by decide)) (by rfl) D_l_take.g D_l_take.F.kp D_l_take.b .nil pass0 (pa_cons (pv 0) (pa_cons pe_int pa_nil))) (fun _ _ => rfl)))))), ?_⟩
    refine ⟨_, rfl, h, d, ds, 9, rfl, by decide, hH, fun r H1 r0 r1 b1 h1 _ => ?_⟩
    refine ⟨rfl, _, rfl, ite2 (fun _ => ?_) (fun _ => ?_)⟩
    · refine ⟨_, _, rfl, rfl, ⟨by decide, by decide, by decide⟩, _, _, rfl, rfl, _, rfl, h, d, ds, 2, rfl, by decide, h1, fun r2 H2 r20 r21 b2 h2 _ => ⟨_, _, rfl, rfl, ?_⟩⟩
      refine q _ H2 ⟨?_, ?_⟩ (b1.trans b2) h2
      · show (0 : Int) ≤ 10 ^ 12 - 1 - r2
        omega
      · show 10 ^ 12 - 1 - r2 < (10 : Int) ^ 12
        omega
    · refine ⟨_, rfl, _, _, rfl, rfl, ⟨by decide, by decide, by decide⟩, _, _, rfl, rfl, ⟨by decide, by decide, by decide⟩, by show (4 : Nat) ≤ sizeLine; decide, fun p np => ?_⟩
      generalize hg : upd _ p _ = H2
      obtain ⟨s2, e2⟩ := new_of np hg
      have hph := hand_ne h1 np
      refine ⟨_, rfl, h, d, ds, 4, rfl, by decide, h1.same s2, fun r3 H3 r30 r31 b3 h3 _ => ?_⟩
      obtain ⟨n, hn, ha⟩ := int_at (ns := [10, 1000, 10 ^ 6, 10 ^ 9]) r30 (by show r3 < 4; exact r31)
      have hn9 : 0 < n ∧ n ≤ 10 ^ 9 := by
        simp only [List.mem_cons, List.not_mem_nil, or_false] at hn
        rcases hn with rfl | rfl | rfl | rfl <;> decide
      refine ⟨p, _, _, _, rfl, rfl, SqL.of (b3 _ _ hph e2), ha, h, d, ds, n, rfl, hn9.1, h3, fun r4 H4 r40 r41 b4 h4 => ?_⟩
      refine ⟨by show (4 : Nat) ≤ sizeLine; decide, fun p2 np2 => ?_⟩
      generalize hg : upd _ p2 _ = H5
      obtain ⟨s5, e5⟩ := new_of np2 hg
      have hph2 := hand_ne h4 np2
      refine ⟨_, rfl, h, d, ds, 4, rfl, by decide, h4.same s5, fun r6 H6 r60 r61 b6 h6 _ => ?_⟩
      obtain ⟨m, hmm, hma⟩ := int_at (ns := [1, 1, 1, 999]) r60 (by show r6 < 4; exact r61)
      refine ⟨p2, _, _, _, rfl, rfl, SqL.of (b6 _ _ hph2 e5), hma, _, _, rfl, rfl, .inl ⟨by omega, by omega⟩, ?_⟩
      refine q _ H6 ?_ (((((b1.same s2).trans b3).trans b4).same s5).trans b6) h6
      simp only [List.mem_cons, List.not_mem_nil, or_false] at hmm
      have : m = 1 ∨ m = 999 := by
        rcases hmm with h | h | h | h <;> simp [h]
      rcases this with rfl | rfl
      · exact ⟨by show 0 ≤ r4 * 1; omega, by show r4 * 1 < _; omega⟩
      · exact ⟨by show 0 ≤ r4 * 999; omega, by show r4 * 999 < _; omega⟩
theorem str_at2 {z : PySem.Str} {r : Int} (h0 : 0 ≤ r) (h1 : r < z.length) : ∃ c, c ∈ z.cps.toList ∧ atI z.cps.toList r = some c := by
  obtain ⟨j, rfl⟩ : ∃ j : Nat, r = j := ⟨r.toNat, by omega⟩
  have hl : z.cps.toList.length = z.length := rfl
  have hj : j < z.cps.toList.length := by omega
  exact ⟨_, List.getElem_mem hj, atI_nat (List.getElem?_eq_getElem hj)⟩
def lnSigns : PySem.Str := "abcdefghijklmnopqrstuvwxyz ABCXYZ 0123456789 <>=+-()[],:.;_#' "
def lnTricky : List PySem.Str := ["", "on", "over", "text 1", "proc x", "dead 0", "pair 0 1", "proc ", " ", "all 0 0", "text 0", "dead"]
theorem lnSigns_ok : ∀ c, c ∈ lnSigns.cps.toList → c ≠ 10 ∧ c < 128 := by decide +kernel
theorem lnTricky_ok : ∀ z, z ∈ lnTricky → z.length ≤ 100 ∧ ∀ c, c ∈ z.cps.toList → c ≠ 10 ∧ c < 128 := by decide +kernel
def spLine : Sp := fun vs H Q _ => ∃ (h d : Addr) (ds : List Int), vs = [.ref h] ∧ Hand H h d ds ∧ ∀ (z : PySem.Str) H', LnOk z → But h H H' → Hand H' h d ds → Q (.str z) H'
theorem ok_l_line (T : TxB mg) (D_l_line : Df K mg "_law_line" s_l_line ["hand"]) (D_l_take : Df K mg "_law_take" s_l_take ["hand", "many"]) : FnOk P w K mg base CX0 2 D_l_line.f D_l_line.fd ["hand"] spLine := by
  have G_l_take := ok_l_take (P := P) (w := w) (base := base) T D_l_take
  refine D_l_line.F.ok sc_l_line (fun vs H Q E h => ?_) (fun cdv A outer s H vs Q E hr h => ?_)
  · obtain ⟨h, d, ds, rfl, _⟩ := h
    rfl
  · obtain ⟨h, d, ds, rfl, hH, q⟩ := h
    refine ⟨_, (pss_cons (ps_set (i := 1) sc_l_line.nd rfl (.inl rfl) pe_str)
    (pss_cons (ps_set (i := 2) sc_l_line.nd rfl (.inl rfl) (pe_lst (pa_strs (.cons _ _ _ (.cons _ _ _ (.cons _ _ _ (.cons _ _ _ (.cons _ _ _ (.cons _ _ _ (.cons _ _ _ (.cons _ _ _ (.cons _ _ _ (.cons _ _ _ (.cons _ _ _ (.cons _ _ _ .nil)))))))))))))))
    (pss_cons (ps_if (pt_cmpR op_eq (pe_call G_l_take (hr.mono (by decide)) (by rfl) D_l_take.g D_l_take.F.kp D_l_take.b .nil pass0 (pa_cons (pv 0) (pa_cons pe_int pa_nil))) pe_int (nomark _))
    (pss_one (ps_ret (pe_ix ix_list (pv 2) (pe_call G_l_take (hr.mono (by decide)) (by rfl) D_l_take.g D_l_take.F.kp D_l_take.b .nil pass0 (pa_cons (pv 0) (pa_cons (pe_callB call_len_seq (by rfl) T.n_len PySem.boot_len (pa_cons (pv 2) pa_nil)) pa_nil))) (fun _ _ => rfl))))
    pss_nil)
    (pss_cons (ps_set (i := 3) sc_l_line.nd rfl (.inl rfl) pe_str)
    (pss_cons (ps_for PassesOwn.never rfl (pi_range1 (by rfl) T.n_range (pa_cons (pe_call G_l_take (hr.mono (by decide)) (by rfl) D_l_take.g D_l_take.F.kp D_l_take.b .nil pass0 (pa_cons (pv 0) (pa_cons pe_int pa_nil))) pa_nil)) (pg_name (i := 4) sc_l_line.nd rfl (.inl rfl))
    (pss_one (ps_set (i := 3) sc_l_line.nd rfl (.inl rfl) (pe_op op_add_str (pv 3) (pe_ix ix_str (pv 1) (pe_call G_l_take (hr.mono (by decide)) (by rfl) D_l_take.g D_l_take.F.kp D_l_take.b .nil pass0 (pa_cons (pv 0) (pa_cons (pe_callB call_len_str (by rfl) T.n_len PySem.boot_len (pa_cons (pv 1) pa_nil)) pa_nil))) (fun _ _ => rfl))))))
    (Evl.pss_cut (ps_if (pt_cmpR op_eq (pe_call G_l_take (hr.mono (by decide)) (by rfl) D_l_take.g D_l_take.F.kp D_l_take.b .nil pass0 (pa_cons (pv 0) (pa_cons pe_int pa_nil))) pe_int (nomark _))
    (pss_one (ps_set (i := 3) sc_l_line.nd rfl (.inl rfl) (pe_op op_add_str (pv 3) (pe_ix ix_str pe_str (pe_call G_l_take (hr.mono (by decide)) (by rfl) D_l_take.g D_l_take.F.kp D_l_take.b .nil pass0 (pa_cons (pv 0) (pa_cons pe_int pa_nil))) (fun _ _ => rfl)))))
    pss_nil)
    (pss_one (ps_ret (pv 3))))))))), ?_⟩
    refine ⟨by show (12 : Nat) ≤ sizeLine; decide, fun p np => ?_⟩
    generalize hg : upd _ p _ = H1
    obtain ⟨s1, e1⟩ := new_of np hg
    have e1 : H1 p = some (.lst (lnTricky.map V.str)) := e1
    have hph := hand_ne hH np
    refine ⟨_, rfl, h, d, ds, 3, rfl, by decide, hH.same s1, fun r H2 r0 r1 b2 h2 _ => ?_⟩
    have bb2 := (Same.but (h := h) s1).trans b2
    refine ⟨rfl, _, rfl, ite2 (fun _ => ?_) (fun _ => ?_)⟩
    · have e2 := b2 _ _ hph e1
      refine ⟨_, rfl, _, rfl, _, rfl, p, _, rfl, .inl (SqL.of e2), h, d, ds, _, rfl, by show (0 : Int) < 12; decide, h2, fun r3 H3 r30 r31 b3 h3 _ => ?_⟩
      obtain ⟨z, hz, ha⟩ := strs_at (ws := lnTricky) r30 (by show r3 < 12; exact r31)
      obtain ⟨g1, g2⟩ := lnTricky_ok z hz
      exact ⟨p, _, _, _, rfl, rfl, SqL.of (b3 _ _ hph e2), ha, q z H3 ⟨g1, g2⟩ (bb2.trans b3) h3⟩
    refine ⟨_, rfl, h, d, ds, 9, rfl, by decide, h2, fun r3 H3 r30 r31 b3 h3 _ => ⟨_, rfl, by omega, by omega, ?_⟩⟩
    have bb3 := bb2.trans b3
    refine for_range (lo := 0) (n := r3.toNat) (fun i σ H4 => ∃ (y4 : Option V) (z : PySem.Str), σ = [some (.ref h), some (.str lnSigns), some (.ref p), some (.str z), y4] ∧ z.length ≤ i ∧ (∀ c, c ∈ z.cps.toList → c ≠ 10 ∧ c < 128) ∧ But h H H4 ∧ Hand H4 h d ds)
      ⟨_, "", rfl, Nat.le_refl _, (fun c hc => by cases hc), bb3, h3⟩ (fun i σ H4 hi hP => ?_) (fun σ H4 hP => ?_)
    · obtain ⟨y4, z, rfl, hz, hc, b4, h4⟩ := hP
      refine ⟨_, rfl, _, rfl, _, rfl, _, rfl, lnSigns, rfl, by decide, h, d, ds, _, rfl, by decide, h4, fun r5 H5 r50 r51 b5 h5 _ => ?_⟩
      obtain ⟨c, hcm, ha⟩ := str_at2 (z := lnSigns) r50 r51
      refine ⟨_, _, _, rfl, rfl, by decide, ha, z, ⟨#[c]⟩, rfl, rfl, ?_, ?_⟩
      · exact Nat.le_trans (show z.length + 1 ≤ 1000 by omega) (by decide)
      · refine ⟨_, z ++ ⟨#[c]⟩, rfl, ?_, fun x hx => ?_, b4.trans b5, h5⟩
        · rw [app_len]
          show z.length + 1 ≤ i + 1
          omega
        · rw [cps_app] at hx
          rcases List.mem_append.mp hx with hx | hx
          · exact hc x hx
          · have hx : x ∈ [c] := hx
            rw [List.mem_singleton.mp hx]
            exact lnSigns_ok c hcm
    · obtain ⟨y4, z, rfl, hz, hc, b4, h4⟩ := hP
      refine ⟨fun σ' H' => ∃ (y4 : Option V) (z : PySem.Str), σ' = [some (.ref h), some (.str lnSigns), some (.ref p), some (.str z), y4] ∧ LnOk z ∧ But h H H' ∧ Hand H' h d ds, ?_, ?_⟩
      · refine ⟨_, rfl, h, d, ds, 5, rfl, by decide, h4, fun r5 H5 r50 r51 b5 h5 _ => ?_⟩
        refine ⟨rfl, _, rfl, ite2 (fun _ => ?_) (fun _ => ?_)⟩
        · refine ⟨_, rfl, _, rfl, h, d, ds, 4, rfl, by decide, h5, fun r6 H6 r60 r61 b6 h6 _ => ?_⟩
          obtain ⟨c, hcm, ha⟩ := str_at2 (z := "\t~{&") r60 (by show r6 < 4; exact r61)
          have hcc : ∀ c, c ∈ ("\t~{&" : PySem.Str).cps.toList → c ≠ 10 ∧ c < 128 := by decide +kernel
          refine ⟨_, _, _, rfl, rfl, by decide, ha, z, ⟨#[c]⟩, rfl, rfl, ?_, ?_⟩
          · exact Nat.le_trans (show z.length + 1 ≤ 1000 by omega) (by decide)
          · refine ⟨_, z ++ ⟨#[c]⟩, rfl, ⟨?_, fun x hx => ?_⟩, (b4.trans b5).trans b6, h6⟩
            · rw [app_len]
              show z.length + 1 ≤ 100
              omega
            · rw [cps_app] at hx
              rcases List.mem_append.mp hx with hx | hx
              · exact hc x hx
              · have hx : x ∈ [c] := hx
                rw [List.mem_singleton.mp hx]
                exact hcc c hcm
        · exact ⟨_, z, rfl, ⟨by omega, hc⟩, b4.trans b5, h5⟩
      · intro σ' H' hN
        obtain ⟨y4, z, rfl, hz, b6, h6⟩ := hN
        exact ⟨_, rfl, q z H' hz b6 h6⟩
end
end SW

namespace SW
open PySem PySem.Spec PyProof.Rows L2
def kindWs : List PySem.Str := ["on", "over", "dead", "pair", "write", "either", "all", "match", "sorted", "below"]
theorem kind_of : ∀ z, z ∈ kindWs → ∃ x, x ∈ kinds ∧ x.1 = z := by decide +kernel
theorem kind_facts : ∀ x, x ∈ kinds → (decide (x.1 = ("on" : PySem.Str)) || decide (x.1 = ("over" : PySem.Str))) = (!x.2.1 && decide (x.2.2 = 0)) ∧ decide (x.1 = ("dead" : PySem.Str)) = x.2.1 ∧
    decide (x.1 ∈ ([("pair" : PySem.Str), "all", "match"])) = decide (x.2.2 = 2) ∧ decide (x.1 ∈ ([("sorted" : PySem.Str), "below"])) = decide (x.2.2 = 3) ∧ (x.2.1 = false → x.2.2 = 0 ∨ x.2.2 = 1 ∨ x.2.2 = 2 ∨ x.2.2 = 3) := by decide +kernel
section
variable {P : Program} {w : World} {K : PySem.W.Frag} {mg : PySem.Str → Option Value} {base : Heap}
def spLTok (K : PySem.W.Frag) : Sp := fun vs H Q _ => ∃ (h d : Addr) (ds : List Int), vs = [.ref h] ∧ Hand H h d ds ∧ ∀ (v : V) (t : Tk) H', t.ok → But h H H' → Hand H' h d ds → Dp K H' v t.enc → Q v H'
theorem ok_l_token (T : TxB mg) (D_l_token : Df K mg "_law_token" s_l_token ["hand"]) (D_l_number : Df K mg "_law_number" s_l_number ["hand"]) (D_l_wide : Df K mg "_law_wide" s_l_wide ["hand", "many"]) (D_l_take : Df K mg "_law_take" s_l_take ["hand", "many"]) : FnOk P w K mg base CX0 4 D_l_token.f D_l_token.fd ["hand"] (spLTok K) := by
  have G_l_take := ok_l_take (P := P) (w := w) (base := base) T D_l_take
  have G_l_number := ok_l_number (P := P) (w := w) (base := base) (K := K) T D_l_number D_l_wide D_l_take
  refine D_l_token.F.ok sc_l_token (fun vs H Q E h => ?_) (fun cdv A outer s H vs Q E hr h => ?_)
  · obtain ⟨h, d, ds, rfl, _⟩ := h
    rfl
  · obtain ⟨h, d, ds, rfl, hH, q⟩ := h
    refine ⟨_, (pss_cons (ps_set (i := 1) sc_l_token.nd rfl (.inl rfl) (pe_ix ix_list (pe_lst (pa_strs (.cons _ _ _ (.cons _ _ _ (.cons _ _ _ (.cons _ _ _ (.cons _ _ _ (.cons _ _ _ (.cons _ _ _ (.cons _ _ _ (.cons _ _ _ (.cons _ _ _ .nil)))))))))))) (pe_call G_l_take (hr.mono (by decide)) (by rfl) D_l_take.g D_l_take.F.kp D_l_take.b .nil pass0 (pa_cons (pv 0) (pa_cons pe_int pa_nil))) (fun _ _ => rfl)))
    (pss_cons (ps_if (PW.pt (pw_or (pt_cmpR op_eq (pv 1) pe_str (nomark _)) (pw_or1 (pt_cmpR op_eq (pv 1) pe_str (nomark _)))))
    (pss_one (ps_ret (pe_tup (pa_cons (pv 1) pa_nil))))
    pss_nil)
    (pss_cons (ps_if (pt_cmpR op_eq (pv 1) pe_str (nomark _))
    (pss_one (ps_ret (pe_tup (pa_cons (pv 1) (pa_cons (pe_callTy call_tuple_of (by rfl) T.n_tuple (by decide +kernel) (pa_cons (pe_lc (own := [("k", 2)]) (g := gName 2) (by rfl) sc_l_token.nd (pi_range1 (by rfl) T.n_range (pa_cons (pe_op op_add pe_int (pe_op op_mul (pe_call G_l_take (hr.mono (by decide)) (by rfl) D_l_take.g D_l_take.F.kp D_l_take.b .nil pass0 (pa_cons (pv 0) (pa_cons pe_int pa_nil))) (pe_call G_l_take (hr.mono (by decide)) (by rfl) D_l_take.g D_l_take.F.kp D_l_take.b .nil pass0 (pa_cons (pv 0) (pa_cons pe_int pa_nil))))) pa_nil)) (blkOk_by (own := [("k", 2)]) (N := ["hand", "kind", "k", "many"]) (sc := defScope s_l_token) (by decide +kernel)) (fun _ _ _ _ _ => pg_name (i := 2) sc_l_token.nd rfl (Or.inl rfl)) (fun _ _ _ _ _ => pts_nil) (fun _ _ _ _ _ => (pe_call G_l_number (hr.mono (by decide)) (by rfl) D_l_number.g D_l_number.F.kp D_l_number.b .nil pass0 (pa_cons (pv 0) pa_nil)))) pa_nil)) pa_nil)))))
    pss_nil)
    (pss_cons (ps_set (i := 3) sc_l_token.nd rfl (.inl rfl) pe_int)
    (Evl.pss_cut (ps_if (pt_cmpR op_in_seq (pv 1) (pe_lst (pa_cons pe_str (pa_cons pe_str (pa_cons pe_str pa_nil)))) (by rfl))
    (pss_one (ps_set (i := 3) sc_l_token.nd rfl (.inl rfl) pe_int))
    pss_nil)
    (Evl.pss_cut (ps_if (pt_cmpR op_in_seq (pv 1) (pe_lst (pa_cons pe_str (pa_cons pe_str pa_nil))) (by rfl))
    (pss_one (ps_set (i := 3) sc_l_token.nd rfl (.inl rfl) pe_int))
    pss_nil)
    (pss_one (ps_ret (pe_op op_catT (pe_tup (pa_cons (pv 1) pa_nil)) (pe_callTy call_tuple_of (by rfl) T.n_tuple (by decide +kernel) (pa_cons (pe_lc (own := [("k", 2)]) (g := gName 2) (by rfl) sc_l_token.nd (pi_range1 (by rfl) T.n_range (pa_cons (pv 3) pa_nil)) (blkOk_by (own := [("k", 2)]) (N := ["hand", "kind", "k", "many"]) (sc := defScope s_l_token) (by decide +kernel)) (fun _ _ _ _ _ => pg_name (i := 2) sc_l_token.nd rfl (Or.inl rfl)) (fun _ _ _ _ _ => pts_nil) (fun _ _ _ _ _ => (pe_call G_l_number (hr.mono (by decide)) (by rfl) D_l_number.g D_l_number.F.kp D_l_number.b .nil pass0 (pa_cons (pv 0) pa_nil)))) pa_nil))))))))))), ?_⟩
    refine ⟨by show (10 : Nat) ≤ sizeLine; decide, fun p np => ?_⟩
    generalize hg : upd _ p _ = H1
    obtain ⟨s1, e1⟩ := new_of np hg
    have e1 : H1 p = some (.lst (kindWs.map V.str)) := e1
    have hph := hand_ne hH np
    refine ⟨_, rfl, h, d, ds, 10, rfl, by decide, hH.same s1, fun r H2 r0 r1 b2 h2 _ => ?_⟩
    have e2 : SqL K H2 p (kindWs.map V.str) := SqL.of (b2 _ _ hph e1)
    have b2 := (Same.but (h := h) s1).trans b2
    obtain ⟨z, hz, ha⟩ := strs_at (ws := kindWs) r0 (by show r < 10; exact r1)
    obtain ⟨⟨wd, dd, k⟩, hk, rfl⟩ := kind_of z hz
    obtain ⟨f1, f2, f3, f4, f5⟩ := kind_facts _ hk
    dsimp only at f1 f2 f3 f4 f5 ha
    obtain ⟨g1, g2, g3, g4, g5⟩ := kinds_w _ hk
    refine ⟨p, _, _, _, rfl, rfl, e2, ha, ?_⟩
    have okt : ∀ ns : List Int, (dd = true → ns ≠ []) → (dd = false → ns.length = k) → ns.length ≤ 7 → (∀ n, n ∈ ns → okN n) → (⟨wd, dd, ns⟩ : Tk).ok := fun ns c1 c2 c3 c4 => ⟨⟨k, hk, c2⟩, c1, c3, c4⟩
    -- kind == 'on' or kind == 'over'
    refine ⟨_, rfl, rfl, _, rfl, ?_⟩
    rw [str_dec]
    have sm : decide (wd = ("on" : PySem.Str)) = true ∨ decide (wd = ("over" : PySem.Str)) = true → dd = false ∧ k = 0 := fun hs => by
      have : (decide (wd = ("on" : PySem.Str)) || decide (wd = ("over" : PySem.Str))) = true := by
        rcases hs with hs | hs <;> rw [hs]
        · rfl
        · rw [Bool.or_true]
      rw [f1, Bool.and_eq_true, Bool.not_eq_true'] at this
      exact ⟨this.1, of_decide_eq_true this.2⟩
    have lone : dd = false ∧ k = 0 → ∀ t, H2 t = none → Q (.ref t) (upd H2 t (.tup [.str wd])) := fun hs t nt => by
      obtain ⟨rfl, rfl⟩ := hs
      generalize hg : upd _ t _ = H3
      obtain ⟨s3, e3⟩ := new_of nt hg
      exact q _ ⟨wd, false, []⟩ H3 (okt [] (fun h => nomatch h) (fun _ => rfl) (by decide) fun _ h => nomatch h) (b2.same s3) (h2.same s3) (.tup (SqT.of e3) (.cons (.str _) .nil))
    refine ite2 (fun e => iteT ⟨_, rfl, by show 1 ≤ sizeLine; decide, lone (sm (.inl e))⟩) (fun e => ?_)
    refine ⟨_, rfl, rfl, _, rfl, ?_⟩
    rw [str_dec]
    refine ite2 (fun e' => ⟨_, rfl, by show 1 ≤ sizeLine; decide, lone (sm (.inr e'))⟩) (fun e' => ?_)
    have hk0 : dd = false → k ≠ 0 := fun hd hk0 => by
      rw [hd, hk0, Bool.eq_false_iff.mpr e, Bool.eq_false_iff.mpr e'] at f1
      cases f1
    -- kind == 'dead'
    refine ⟨_, rfl, rfl, _, rfl, ?_⟩
    rw [str_dec, f2]
    cases dd with
    | true =>
      refine iteT ?_
      refine ⟨_, rfl, _, rfl, h, d, ds, 3, rfl, by decide, h2, fun r3 H3 r30 r31 b3 h3 _ => ?_⟩
      refine ⟨_, rfl, h, d, ds, 4, rfl, by decide, h3, fun r4 H4 r40 r41 b4 h4 _ => ?_⟩
      have hm : 0 ≤ r3 * r4 ∧ r3 * r4 ≤ 6 := by
        have c3 : r3 = 0 ∨ r3 = 1 ∨ r3 = 2 := by omega
        rcases c3 with rfl | rfl | rfl <;> omega
      refine ⟨_, _, rfl, rfl, .inl ⟨by omega, by omega⟩, _, _, rfl, rfl, _, rfl, by omega, by omega, fun L nL => ?_⟩
      have b24 := (b2.trans b3).trans b4
      refine lc_drawn (K := K) (lo := 0) (n := (1 + r3 * r4).toNat) (α := Int) PyData.int okN (fun _ _ => rfl) (by omega) h4 nL (fun i x H5 Q' hi b5 h5 hx q' => ?_) (fun H5 ys ns b5 h5 e5 hLh hLd ha hl hR => ?_)
      · exact ⟨rfl, _, rfl, h, d, ds, rfl, h5, fun n H6 on b6 h6 => q' _ n H6 b6 h6 on (.int n)⟩
      · refine ⟨L, ys, rfl, .inl ⟨SqL.of e5, fun N nN => ?_⟩⟩
        generalize hg : upd _ N _ = H6
        obtain ⟨s6, e6⟩ := new_of nN hg
        refine ⟨by show 2 ≤ sizeLine; decide, fun t nt => ?_⟩
        generalize hg : upd _ t _ = H7
        obtain ⟨s7, e7⟩ := new_of nt hg
        have hns : (ns : List Int) ≠ [] := fun h => by
          rw [h] at hl
          have : (0 : Nat) = (1 + r3 * r4).toNat := hl
          omega
        exact q _ ⟨wd, true, ns⟩ H7 (okt ns (fun _ => hns) (fun h => nomatch h) (by omega) hR) (((b24.trans b5).same s6).same s7) ((h5.same s6).same s7) (dp_tup2 e7 (.str _) (dp_same s7 _ _ (.tup (SqT.of e6) (dpa_same s6 _ _ ha))))
    | false =>
      refine iteF ?_
      -- many = 1
      have f5 := f5 rfl
      have hk0 := hk0 rfl
      refine ⟨fun σ' H' => ∃ m : Nat, σ' = [some (.ref h), some (.str wd), none, some (.int m)] ∧ (m = if k = 2 then 2 else 1) ∧ But h H H' ∧ Hand H' h d ds, ?_, ?_⟩
      · refine ⟨_, rfl, by show 3 ≤ sizeLine; decide, fun a na => ?_⟩
        generalize hg : upd _ a _ = H3
        obtain ⟨s3, e3⟩ := new_of na hg
        refine ⟨a, ([("pair" : PySem.Str), "all", "match"]).map V.str, rfl, .inl (SqL.of e3), rfl, flat_strs _, _, rfl, ?_⟩
        rw [inV_strs, f3]
        refine ite2 (fun e => ?_) (fun e => ?_)
        · exact ⟨2, rfl, (if_pos (of_decide_eq_true e)).symm, b2.same s3, h2.same s3⟩
        · exact ⟨1, rfl, (if_neg fun h => e (decide_eq_true h)).symm, b2.same s3, h2.same s3⟩
      · intro σ' H' hN
        obtain ⟨m, rfl, hm, b3, h3⟩ := hN
        refine ⟨fun σ' H' => ∃ m : Nat, σ' = [some (.ref h), some (.str wd), none, some (.int m)] ∧ m = k ∧ But h H H' ∧ Hand H' h d ds, ?_, ?_⟩
        · refine ⟨_, rfl, by show 2 ≤ sizeLine; decide, fun a na => ?_⟩
          generalize hg : upd _ a _ = H4
          obtain ⟨s4, e4⟩ := new_of na hg
          refine ⟨a, ([("sorted" : PySem.Str), "below"]).map V.str, rfl, .inl (SqL.of e4), rfl, flat_strs _, _, rfl, ?_⟩
          rw [inV_strs, f4]
          refine ite2 (fun e => ?_) (fun e => ?_)
          · exact ⟨3, rfl, (of_decide_eq_true e).symm, b3.same s4, h3.same s4⟩
          · have hk3 : k ≠ 3 := fun h => e (decide_eq_true h)
            refine ⟨m, rfl, ?_, b3.same s4, h3.same s4⟩
            rw [hm]
            split <;> omega
        · intro σ' H' hN
          obtain ⟨m, rfl, rfl, b4, h4⟩ := hN
          refine ⟨_, rfl, by show 1 ≤ sizeLine; decide, fun a na => ?_⟩
          generalize hg : upd _ a _ = H5
          obtain ⟨s5, e5⟩ := new_of na hg
          have h5 := h4.same s5
          have b5 := b4.same s5
          refine ⟨_, rfl, _, rfl, by omega, by omega, fun L nL => ?_⟩
          have haL : a ≠ L := ne_of_none e5 nL
          have hah : a ≠ h := hand_ne h4 na
          refine lc_drawn (K := K) (lo := 0) (n := ((m : Nat) : Int).toNat) (α := Int) PyData.int okN (fun _ _ => rfl) (by omega) h5 nL (fun i x H6 Q' hi b6 h6 hx q' => ?_) (fun H6 ys ns b6 h6 e6 hLh hLd ha hl hR => ?_)
          · exact ⟨rfl, _, rfl, h, d, ds, rfl, h6, fun n H7 on b7 h7 => q' _ n H7 b7 h7 on (.int n)⟩
          · refine ⟨L, ys, rfl, .inl ⟨SqL.of e6, fun N nN => ?_⟩⟩
            generalize hg : upd _ N _ = H7
            obtain ⟨s7, e7⟩ := new_of nN hg
            have hl : ns.length = m := by omega
            have hyl : ys.length = m := by rw [dpa_len ha, List.length_map, hl]
            have hyn : ys ≠ [] := fun h => by
              rw [h] at hyl
              have : 0 = m := hyl
              omega
            have ea := s7 _ _ (b6 _ _ hah e5)
            refine ⟨a, N, _, _, rfl, rfl, SqT.of ea, SqT.of e7, List.cons_ne_nil _ _, Nat.le_trans (show 1 + ys.length ≤ 100000 by omega) (by decide), fun h => absurd h hyn, fun _ t nt => ?_⟩
            generalize hg : upd _ t _ = H8
            obtain ⟨s8, e8⟩ := new_of nt hg
            refine q _ ⟨wd, false, ns⟩ H8 (okt ns (fun h => nomatch h) (fun _ => hl) (by omega) hR) (((b5.trans b6).same s7).same s8) ((h6.same s7).same s8) ?_
            exact .tup (SqT.of e8) (.cons (.str _) (dpa_same s8 _ _ (dpa_same s7 _ _ ha)))
end
end SW

namespace SW
open PySem PySem.Spec PyProof.Rows L2
abbrev s_l_lines : Stmt := topS 25
theorem sc_l_lines : FnScope ["hand", "many", "short", "k"] ["hand"] (defScope s_l_lines) := ⟨rfl, rfl, rfl, by decide +kernel, rfl, by decide +kernel, by decide +kernel⟩

abbrev s_l_tokens : Stmt := topS 27
theorem sc_l_tokens : FnScope ["hand", "found", "k"] ["hand"] (defScope s_l_tokens) := ⟨rfl, rfl, rfl, by decide +kernel, rfl, by decide +kernel, by decide +kernel⟩


theorem dpa_strs' {K : PySem.W.Frag} {H : Hp} : ∀ {vs : List V} {zs : List PySem.Str}, DpAll K H vs (zs.map PyData.str) → vs = zs.map V.str
  | _, [], .nil => rfl
  | _, _ :: _, .cons (.str x) h => congrArg (V.str x :: ·) (dpa_strs' h)
theorem dpa_rep {K : PySem.W.Frag} {H : Hp} {xs : List V} {ds : List PyData} (h : DpAll K H xs ds) : ∀ n : Nat, DpAll K H (List.replicate n xs).flatten (List.replicate n ds).flatten
  | 0 => .nil
  | n + 1 => by
    rw [List.replicate_succ, List.replicate_succ, List.flatten_cons, List.flatten_cons]
    exact dpa_app h (dpa_rep h n)
theorem rep_map {α β : Type} (f : α → β) (ts : List α) : ∀ n : Nat, (List.replicate n (ts.map f)).flatten = ((List.replicate n ts).flatten).map f
  | 0 => rfl
  | n + 1 => by
    rw [List.replicate_succ, List.replicate_succ, List.flatten_cons, List.flatten_cons, List.map_append, rep_map f ts n]
theorem rep_len {α : Type} (ts : List α) : ∀ n : Nat, (List.replicate n ts).flatten.length = n * ts.length
  | 0 => by simp
  | n + 1 => by
    rw [List.replicate_succ, List.flatten_cons, List.length_append, rep_len ts n, Nat.add_mul]
    omega
theorem rep_mem {α : Type} {ts : List α} {t : α} : ∀ {n : Nat}, t ∈ (List.replicate n ts).flatten → t ∈ ts
  | 0, h => (List.not_mem_nil h).elim
  | n + 1, h => by
    rw [List.replicate_succ, List.flatten_cons] at h
    exact (List.mem_append.mp h).elim id rep_mem
section
variable {P : Program} {w : World} {K : PySem.W.Frag} {mg : PySem.Str → Option Value} {base : Heap}
def spLLines : Sp := fun vs H Q _ => ∃ (h d : Addr) (ds : List Int), vs = [.ref h] ∧ Hand H h d ds ∧ ∀ (L : Addr) (ls : List PySem.Str) H', ls ≠ [] → ls.length ≤ 65 → (∀ z, z ∈ ls → LnOk z) → But h H H' → Hand H' h d ds → L ≠ h → H' L = some (.lst (ls.map V.str)) → Q (.ref L) H'
theorem ok_l_lines (T : TxB mg) (D_l_lines : Df K mg "_law_lines" s_l_lines ["hand"]) (D_l_line : Df K mg "_law_line" s_l_line ["hand"]) (D_l_take : Df K mg "_law_take" s_l_take ["hand", "many"]) : FnOk P w K mg base CX0 3 D_l_lines.f D_l_lines.fd ["hand"] spLLines := by
  have G_l_take := ok_l_take (P := P) (w := w) (base := base) T D_l_take
  have G_l_line := ok_l_line (P := P) (w := w) (base := base) (K := K) T D_l_line D_l_take
  refine D_l_lines.F.ok sc_l_lines (fun vs H Q E h => ?_) (fun cdv A outer s H vs Q E hr h => ?_)
  · obtain ⟨h, d, ds, rfl, _⟩ := h
    rfl
  · obtain ⟨h, d, ds, rfl, hH, q⟩ := h
    refine ⟨_, (pss_cons (ps_set (i := 1) sc_l_lines.nd rfl (.inl rfl) (pe_op op_add pe_int (pe_call G_l_take (hr.mono (by decide)) (by rfl) D_l_take.g D_l_take.F.kp D_l_take.b .nil pass0 (pa_cons (pv 0) (pa_cons pe_int pa_nil)))))
    (Evl.pss_cut (ps_if (pt_cmpR op_eq (pe_call G_l_take (hr.mono (by decide)) (by rfl) D_l_take.g D_l_take.F.kp D_l_take.b .nil pass0 (pa_cons (pv 0) (pa_cons pe_int pa_nil))) pe_int (nomark _))
    (pss_one (ps_set (i := 1) sc_l_lines.nd rfl (.inl rfl) (pe_op op_add pe_int (pe_call G_l_take (hr.mono (by decide)) (by rfl) D_l_take.g D_l_take.F.kp D_l_take.b .nil pass0 (pa_cons (pv 0) (pa_cons pe_int pa_nil))))))
    pss_nil)
    (pss_cons (ps_set (i := 2) sc_l_lines.nd rfl (.inr rfl) (pe_lc (own := [("k", 3)]) (g := gName 3) (by rfl) sc_l_lines.nd (pi_range1 (by rfl) T.n_range (pa_cons (pe_callB (call_min2 rfl) (by rfl) T.n_min (by decide +kernel) (pa_cons (pv 1) (pa_cons pe_int pa_nil))) pa_nil)) (blkOk_by (own := [("k", 3)]) (N := ["hand", "many", "short", "k"]) (sc := defScope s_l_lines) (by decide +kernel)) (fun _ _ _ _ _ => pg_name (i := 3) sc_l_lines.nd rfl (Or.inl rfl)) (fun _ _ _ _ _ => pts_nil) (fun _ _ _ _ _ => (pe_call G_l_line (hr.mono (by decide)) (by rfl) D_l_line.g D_l_line.F.kp D_l_line.b .nil pass0 (pa_cons (pv 0) pa_nil)))))
    (pss_one (ps_ret (pe_lc (own := [("k", 3)]) (g := gName 3) (by rfl) sc_l_lines.nd (pi_range1 (by rfl) T.n_range (pa_cons (pv 1) pa_nil)) (blkOk_by (own := [("k", 3)]) (N := ["hand", "many", "short", "k"]) (sc := defScope s_l_lines) (by decide +kernel)) (fun _ _ _ _ _ => pg_name (i := 3) sc_l_lines.nd rfl (Or.inl rfl)) (fun _ _ _ _ _ => pts_nil) (fun _ _ _ _ _ => (pe_ix (show IxR _ (rIxL K) from ix_list) (pv 2) (pe_op op_mod (pv 3) (pe_callB (show CallR _ _ (rLenK K) from call_len_seq) (by rfl) T.n_len PySem.boot_len (pa_cons (pv 2) pa_nil))) (fun _ _ => rfl))))))))), ?_⟩
    refine ⟨_, rfl, h, d, ds, 5, rfl, by decide, hH, fun r H1 r0 r1 b1 h1 _ => ⟨_, _, rfl, rfl, ?_⟩⟩
    refine ⟨fun σ' H' => ∃ m : Int, σ' = [some (.ref h), some (.int m), none, none] ∧ 1 ≤ m ∧ m ≤ 65 ∧ But h H H' ∧ Hand H' h d ds, ?_, ?_⟩
    · refine ⟨_, rfl, h, d, ds, 6, rfl, by decide, h1, fun r2 H2 r20 r21 b2 h2 _ => ?_⟩
      refine ⟨rfl, _, rfl, ite2 (fun _ => ?_) (fun _ => ?_)⟩
      · refine ⟨_, rfl, h, d, ds, 60, rfl, by decide, h2, fun r3 H3 r30 r31 b3 h3 _ => ⟨_, _, rfl, rfl, ?_⟩⟩
        exact ⟨_, rfl, by omega, by omega, (b1.trans b2).trans b3, h3⟩
      · exact ⟨_, rfl, by omega, by omega, b1.trans b2, h2⟩
    · intro σ' H' hN
      obtain ⟨m, rfl, m1, m2, b2, h2⟩ := hN
      refine ⟨_, rfl, m, 5, rfl, ?_⟩
      have hmin : ∃ k : Nat, (if (5 : Int) < m then (5 : Int) else m) = (k : Int) ∧ 1 ≤ k ∧ k ≤ 5 := by
        by_cases h : (5 : Int) < m
        · rw [if_pos h]
          exact ⟨5, rfl, by omega, by omega⟩
        · rw [if_neg h]
          exact ⟨m.toNat, by omega, by omega, by omega⟩
      obtain ⟨k, hk, k1, k5⟩ := hmin
      refine ⟨_, rfl, by omega, by omega, fun D nD => ?_⟩
      rw [hk]
      refine lc_drawn (K := K) (lo := 0) (n := ((k : Nat) : Int).toNat) (α := PySem.Str) PyData.str LnOk (fun _ _ => rfl) (by omega) h2 nD (fun i x H3 Q' hi b3 h3 hx q' => ?_) (fun H3 ys zs b3 h3 e3 hDh hDd ha hl hR => ?_)
      · exact ⟨rfl, _, rfl, h, d, ds, rfl, h3, fun z H4 oz b4 h4 => q' _ z H4 b4 h4 oz (.str z)⟩
      · have hys := dpa_strs' ha
        subst hys
        have hzl : zs.length = k := by omega
        refine ⟨_, rfl, m, rfl, by omega, by omega, fun L nL => ?_⟩
        have e3' : SqL K H3 D (zs.map V.str) := SqL.of e3
        refine lc_vals (walk_range (lo := 0) (n := m.toNat)) nL (fun i => .str (zs.getD (i % zs.length) "")) (by omega) (fun _ _ => trivial) (fun i x H4 H4' Q' hi s4 y q' => ?_) (fun H4 s4 e4 => ?_)
        · obtain ⟨rfl, rfl⟩ := y
          have hj : i % zs.length < zs.length := Nat.mod_lt _ (by omega)
          refine ⟨rfl, _, rfl, _, rfl, _, rfl, D, _, rfl, .inl (s4.seq e3'), _, _, rfl, rfl, by rw [List.length_map]; omega, D, _, ((0 : Int) + (i : Nat)) % ((zs.map V.str).length : Nat), .str (zs.getD (i % zs.length) ""), rfl, rfl, s4.seq e3', ?_, q' _ (Same.refl _)⟩
          rw [List.length_map, show ((0 : Int) + (i : Nat)) % (zs.length : Nat) = ((i % zs.length : Nat) : Int) by rw [Int.zero_add]; rfl]
          refine map_atI ?_
          rw [List.getD_eq_getElem?_getD, List.getElem?_eq_getElem hj]
          rfl
        · have e4 : H4 L = some (.lst (((List.range m.toNat).map fun i => zs.getD (i % zs.length) "").map V.str)) := by
            rw [e4, List.map_map]
            rfl
          refine q L _ H4 (fun hn => ?_) (by rw [List.length_map, List.length_range]; omega) (fun z hz => ?_) ((b2.trans b3).same s4) (h3.same s4) (hand_ne h3 nL) e4
          · have := congrArg List.length hn
            rw [List.length_map, List.length_range] at this
            have : m.toNat = 0 := this
            omega
          · obtain ⟨i, _, rfl⟩ := List.mem_map.mp hz
            have hj : i % zs.length < zs.length := Nat.mod_lt _ (by omega)
            rw [List.getD_eq_getElem?_getD, List.getElem?_eq_getElem hj]
            exact hR _ (List.getElem_mem hj)
def spLToks (K : PySem.W.Frag) : Sp := fun vs H Q _ => ∃ (h d : Addr) (ds : List Int), vs = [.ref h] ∧ Hand H h d ds ∧ ∀ (v : V) (ts : List Tk) H', ts ≠ [] → ts.length ≤ 70 → (∀ t, t ∈ ts → t.ok) → But h H H' → Hand H' h d ds → Dp K H' v (.tuple (ts.map Tk.enc)) → Q v H'
theorem ok_l_tokens (T : TxB mg) (D_l_tokens : Df K mg "_law_tokens" s_l_tokens ["hand"]) (D_l_token : Df K mg "_law_token" s_l_token ["hand"]) (D_l_number : Df K mg "_law_number" s_l_number ["hand"]) (D_l_wide : Df K mg "_law_wide" s_l_wide ["hand", "many"]) (D_l_take : Df K mg "_law_take" s_l_take ["hand", "many"]) : FnOk P w K mg base CX0 5 D_l_tokens.f D_l_tokens.fd ["hand"] (spLToks K) := by
  have G_l_take := ok_l_take (P := P) (w := w) (base := base) T D_l_take
  have G_l_token := ok_l_token (P := P) (w := w) (base := base) (K := K) T D_l_token D_l_number D_l_wide D_l_take
  refine D_l_tokens.F.ok sc_l_tokens (fun vs H Q E h => ?_) (fun cdv A outer s H vs Q E hr h => ?_)
  · obtain ⟨h, d, ds, rfl, _⟩ := h
    rfl
  · obtain ⟨h, d, ds, rfl, hH, q⟩ := h
    refine ⟨_, (pss_cons (ps_setLc (i := 1) (own := [("k", 2)]) (g := gName 2) (by rfl) sc_l_tokens.nd rfl rfl (sw_true rfl rfl rfl (by decide +kernel)) (pi_range1 (by rfl) T.n_range (pa_cons (pe_op op_add pe_int (pe_call G_l_take (hr.mono (by decide)) (by rfl) D_l_take.g D_l_take.F.kp D_l_take.b .nil pass0 (pa_cons (pv 0) (pa_cons pe_int pa_nil)))) pa_nil)) (blkOk_by (own := [("k", 2)]) (N := ["hand", "found", "k"]) (sc := defScope s_l_tokens) (by decide +kernel)) (fun _ _ _ _ _ => pg_name (i := 2) sc_l_tokens.nd rfl (Or.inl rfl)) (fun _ _ _ _ _ => pts_nil) (fun _ _ _ _ _ => (pe_call G_l_token (hr.mono (by decide)) (by rfl) D_l_token.g D_l_token.F.kp D_l_token.b .nil pass0 (pa_cons (pv 0) pa_nil))))
    (Evl.pss_cut (ps_if (pt_cmpR op_eq (pe_call G_l_take (hr.mono (by decide)) (by rfl) D_l_take.g D_l_take.F.kp D_l_take.b .nil pass0 (pa_cons (pv 0) (pa_cons pe_int pa_nil))) pe_int (nomark _))
    (pss_one (ps_set (i := 1) sc_l_tokens.nd rfl (.inl rfl) (pe_op op_rep (pv 1) (pe_op op_add pe_int (pe_call G_l_take (hr.mono (by decide)) (by rfl) D_l_take.g D_l_take.F.kp D_l_take.b .nil pass0 (pa_cons (pv 0) (pa_cons pe_int pa_nil)))))))
    pss_nil)
    (pss_one (ps_ret (pe_callTy call_tuple_of (by rfl) T.n_tuple (by decide +kernel) (pa_cons (pv 1) pa_nil)))))), ?_⟩
    refine ⟨_, rfl, h, d, ds, 7, rfl, by decide, hH, fun r H1 r0 r1 b1 h1 _ => ⟨_, _, rfl, rfl, _, rfl, by omega, by omega, fun D nD => ?_⟩⟩
    refine lc_drawn (K := K) (lo := 0) (n := (1 + r).toNat) (α := Tk) Tk.enc Tk.ok (fun t _ => noL_tk t) (by omega) h1 nD (fun i x H3 Q' hi b3 h3 hx q' => ?_) (fun H3 ys ts b3 h3 e3 hDh hDd ha hl hR => ?_)
    · exact ⟨rfl, _, rfl, h, d, ds, rfl, h3, fun v t H4 ot b4 h4 hv => q' v t H4 b4 h4 ot hv⟩
    have hyl : ys.length = ts.length := by rw [dpa_len ha, List.length_map]
    refine ⟨fun σ' H' => ∃ (F : Addr) (xs : List V) (us : List Tk), σ' = [some (.ref h), some (.ref F), none] ∧ us ≠ [] ∧ us.length ≤ 70 ∧ (∀ t, t ∈ us → t.ok) ∧ But h H H' ∧ Hand H' h d ds ∧ H' F = some (.lst xs) ∧ DpAll K H' xs (us.map Tk.enc), ?_, ?_⟩
    · have hne : ts ≠ [] := fun h => by
        have := congrArg List.length h
        have : ts.length = 0 := this
        omega
      refine ⟨_, rfl, h, d, ds, 6, rfl, by decide, h3, fun r2 H4 r20 r21 b4 h4 _ => ?_⟩
      obtain ⟨hi, hl3⟩ := h3.at_
      have ha4 := dpa_but hl3 b4 _ _ (noLs_tk _) ha
      have e4 := b4 _ _ hDh e3
      have b14 := (b1.trans b3).trans b4
      refine ⟨rfl, _, rfl, ite2 (fun _ => ?_) (fun _ => ?_)⟩
      · refine ⟨_, rfl, _, rfl, h, d, ds, 9, rfl, by decide, h4, fun r3 H5 r30 r31 b5 h5 _ => ⟨_, _, rfl, rfl, ?_⟩⟩
        obtain ⟨hi, hl4⟩ := h4.at_
        have ha5 := dpa_but hl4 b5 _ _ (noLs_tk _) ha4
        refine ⟨D, 2 + r3, ys, rfl, rfl, b5 _ _ hDh e4, by omega, by omega, ?_, fun F nF => ?_⟩
        · refine Nat.le_trans (show _ ≤ 7 * 10 from Nat.mul_le_mul (by omega) (by omega)) (by decide)
        generalize hg : upd _ F _ = H6
        obtain ⟨s6, e6⟩ := new_of nF hg
        refine ⟨F, _, (List.replicate (2 + r3).toNat ts).flatten, rfl, fun hn => ?_, ?_, fun t ht => hR t (rep_mem ht), (b14.trans b5).same s6, h5.same s6, e6, ?_⟩
        · have := congrArg List.length hn
          rw [rep_len] at this
          have h0 : (2 + r3).toNat * ts.length = 0 := this
          rcases Nat.mul_eq_zero.mp h0 with h0 | h0
          · omega
          · omega
        · rw [rep_len]
          exact Nat.le_trans (Nat.mul_le_mul (show (2 + r3).toNat ≤ 10 by omega) (show ts.length ≤ 7 by omega)) (by decide)
        · rw [← rep_map]
          exact dpa_rep (dpa_same s6 _ _ ha5) _
      · exact ⟨D, ys, ts, rfl, hne, by omega, hR, b14, h4, e4, ha4⟩
    · intro σ' H' hN
      obtain ⟨F, xs, us, rfl, u1, u2, u3, b4, h4, e4, ha4⟩ := hN
      refine ⟨_, rfl, F, _, rfl, .inl ⟨SqL.of e4, fun N nN => ?_⟩⟩
      generalize hg : upd _ N _ = H6
      obtain ⟨s6, e6⟩ := new_of nN hg
      exact q _ us H6 u1 u2 u3 (b4.same s6) (h4.same s6) (.tup (SqT.of e6) (dpa_same s6 _ _ ha4))
end
end SW

namespace SW
open PySem PySem.Spec PyProof.Rows L2
abbrev s_l_rows : Stmt := topS 26
theorem sc_l_rows : FnScope ["lines", "name", "tokens", "rows", "token", "parts", "part"] ["lines", "name", "tokens"] (defScope s_l_rows) := ⟨rfl, rfl, rfl, by decide +kernel, rfl, by decide +kernel, by decide +kernel⟩


theorem cut1 (x : V) (xs : List V) : cutV (x :: xs) (some 1) none = xs := cutv_from (x :: xs) 1
theorem not_whole1 (x : V) (xs : List V) : ¬ (HT.sIx (x :: xs).length 0 (some 1) = 0 ∧ HT.sIx (x :: xs).length (x :: xs).length none = (x :: xs).length) := fun e => by
  have := e.1
  rw [show (some (1 : Int)) = some ((1 : Nat) : Int) from rfl, HT.sIx_nat, List.length_cons] at this
  omega
section
variable {P : Program} {w : World} {K : PySem.W.Frag} {mg : PySem.Str → Option Value} {base : Heap} {C : Addr} {Kn : PySem.Str → Prop}
def spLRows (K : PySem.W.Frag) : Sp := fun vs H Q _ => ∃ (L : Addr) (ls : List PySem.Str) (x : PySem.Str) (v : V) (ts : List Tk), vs = [.ref L, .str x, v] ∧ PpOk ls x ts ∧ H L = some (.lst (ls.map V.str)) ∧ Dp K H v (.tuple (ts.map Tk.enc)) ∧ ∀ R H', Same H H' → H' R = some (.lst ((pRows ls x ts).map V.str)) → Q (.ref R) H'
theorem ok_l_rows (T : TxB mg) (D_l_rows : Df K mg "_law_rows" s_l_rows ["lines", "name", "tokens"]) : FnOk P w K mg base CX0 1 D_l_rows.f D_l_rows.fd ["lines", "name", "tokens"] (spLRows K) := by
  refine D_l_rows.F.ok sc_l_rows (fun vs H Q E h => ?_) (fun cdv A outer s H vs Q E hr h => ?_)
  · obtain ⟨L, ls, x, v, ts, rfl, _⟩ := h
    rfl
  · obtain ⟨L, ls, x, v, ts, rfl, ok, hL, hv, q⟩ := h
    refine ⟨_, (pss_cons (ps_set (i := 3) sc_l_rows.nd rfl (.inl rfl) (pe_op op_cat (pe_op op_cat (pe_lst (pa_cons (pe_op op_add_str pe_str (pe_callTy call_str_int (by rfl) T.n_str (by decide +kernel) (pa_cons (pe_callB call_len_seq (by rfl) T.n_len PySem.boot_len (pa_cons (pv 0) pa_nil)) pa_nil))) pa_nil)) (pv 0)) (pe_lst (pa_cons (pe_op op_add_str pe_str (pv 1)) pa_nil))))
    (pss_cons (ps_for PassesOwn.never rfl (pi_tup (pv 2)) (pg_name (i := 4) sc_l_rows.nd rfl (.inl rfl))
    (pss_cons (ps_set (i := 5) sc_l_rows.nd rfl (.inl rfl) (pe_slice sl_tup (pv 4) (po_some pe_int) po_none))
    (Evl.pss_cut (ps_if (pt_cmpR op_eq (pe_ix ix_tup (pv 4) pe_int (fun _ _ => rfl)) pe_str (nomark _))
    (pss_one (ps_set (i := 5) sc_l_rows.nd rfl (.inl rfl) (pe_ix ix_tup (pv 4) pe_int (fun _ _ => rfl))))
    pss_nil)
    (pss_one (ps_expr (pe_bm PySem.F.plainAttrs_list PySem.F.slot_list_append PySem.F.type_list_append mt_append (pv 3) (pa_cons (pe_join pe_str (pe_op op_cat (pe_lst (pa_cons (pe_ix ix_tup (pv 4) pe_int (fun _ _ => rfl)) pa_nil)) (pe_lc (own := [("part", 6)]) (g := gName 6) (by rfl) sc_l_rows.nd (pi_tup (pv 5)) (blkOk_by (own := [("part", 6)]) (N := ["lines", "name", "tokens", "rows", "token", "parts", "part"]) (sc := defScope s_l_rows) (by decide +kernel)) (fun _ _ _ _ _ => pg_name (i := 6) sc_l_rows.nd rfl (Or.inl rfl)) (fun _ _ _ _ _ => pts_nil) (fun _ _ _ _ _ => (pe_callTy call_str_int (by rfl) T.n_str (by decide +kernel) (pa_cons (pv 6) pa_nil)))))) pa_nil)))))))
    (pss_one (ps_ret (pv 3))))), ?_⟩
    obtain ⟨tk, xs, rfl, htk, hxs⟩ := dp_tup_inv hv
    have hm := ok.many
    have htm := ok.tm
    have hxl : xs.length = ts.length := by rw [dpa_len hxs, List.length_map]
    have hnl := nz_len ok.ln.1
    have big : ∀ n : Nat, n ≤ 100000 → n ≤ sizeLine := fun n h => Nat.le_trans h (by decide)
    have hlen : ((ls.map V.str).length : Int) = (ls.length : Nat) := by rw [List.length_map]
    refine ⟨_, rfl, L, _, rfl, .inl (SqL.of hL), _, rfl, ?_, _, _, rfl, rfl, ?_, by show 1 ≤ sizeLine; decide, fun a na => ?_⟩
    · rw [hlen]
      exact ok.ln.1.log
    · rw [hlen]
      exact big _ (by show 5 + (nz (ls.length : Nat)).length ≤ _; omega)
    rw [hlen]
    generalize hg : upd _ a _ = H1
    obtain ⟨s1, e1⟩ := new_of na hg
    refine ⟨_, rfl, a, L, _, _, rfl, rfl, e1, s1 _ _ hL, ?_, fun b nb => ?_⟩
    · rw [List.length_map]
      exact big _ (by show 1 + ls.length ≤ _; omega)
    generalize hg : upd _ b _ = H2
    obtain ⟨s2, e2⟩ := new_of nb hg
    refine ⟨_, rfl, _, _, rfl, rfl, big _ (by have := ok.x.len; show 5 + x.length ≤ _; omega), by show 1 ≤ sizeLine; decide, fun c nc => ?_⟩
    generalize hg : upd _ c _ = H3
    obtain ⟨s3, e3⟩ := new_of nc hg
    refine ⟨b, c, _, _, rfl, rfl, s3 _ _ e2, e3, ?_, fun R nR => ?_⟩
    · rw [List.length_append, List.length_map]
      exact big _ (by show 1 + ls.length + 1 ≤ _; omega)
    generalize hg : upd _ R _ = H4
    obtain ⟨s4, e4⟩ := new_of nR hg
    have s14 := ((s1.trans s2).trans s3).trans s4
    have nRH : H R = none := ((s1.trans s2).trans s3).free nR
    have e4 : H4 R = some (.lst ((("text " ++ nz (ls.length : Nat)) :: (ls ++ [("proc " ++ x : PySem.Str)])).map V.str)) := by
      rw [e4, List.map_cons, List.map_append]
      rfl
    refine ⟨_, rfl, tk, rfl, ⟨_, sqt_same s14 htk⟩, ?_⟩
    refine for_tup (K := K) (a := tk) (xs := xs) (fun i σ H5 => ∃ (y4 y5 y6 : Option V), σ = [some (.ref L), some (.str x), some (.ref tk), some (.ref R), y4, y5, y6] ∧ Same H H5 ∧ H5 R = some (.lst (((("text " ++ nz (ls.length : Nat)) :: (ls ++ [("proc " ++ x : PySem.Str)])) ++ (ts.take i).map Tk.row).map V.str)))
      ⟨_, _, _, rfl, s14, by rw [List.take_zero, List.map_nil, List.append_nil]; exact e4⟩ (fun i σ H5 _ hP => ?_) (fun i y σ H5 hy hP => ?_) (fun σ H5 hP => ?_)
    · obtain ⟨_, _, _, _, s5, _⟩ := hP
      exact sqt_same s5 htk
    · obtain ⟨y4, y5, y6, rfl, s5, e5⟩ := hP
      have hi' : i < ts.length := by
        have := (List.getElem?_eq_some_iff.mp hy).1
        omega
      obtain ⟨v', g1, g2⟩ := dp_mem (dpa_same s5 _ _ hxs) hi'
      rw [hy] at g1
      cases g1
      have oki := ok.ts _ (List.getElem_mem hi')
      generalize hti : ts[i] = t at g2 oki
      obtain ⟨ta, rfl, ht⟩ := tk_inv g2
      have hw : ∃ zs, SqT K H5 ta (.str t.w :: zs) ∧ (t.d = false → zs = t.ns.map V.int) := by
        rcases ht with ⟨hd, b, h1, _⟩ | ⟨_, h1⟩
        · exact ⟨_, h1, fun h => by rw [hd] at h; cases h⟩
        · exact ⟨_, h1, fun _ => rfl⟩
      obtain ⟨zs, hw, hzs⟩ := hw
      refine ⟨_, rfl, 1, rfl, ta, _, rfl, hw, not_whole1 _ _, fun p np => ?_⟩
      rw [cut1]
      generalize hg : upd _ p _ = H6
      obtain ⟨s6, e6⟩ := new_of np hg
      have hw6 := sqt_same s6 hw
      refine ⟨fun σ' H' => ∃ pt, σ' = [some (.ref L), some (.str x), some (.ref tk), some (.ref R), some (.ref ta), some (.ref pt), y6] ∧ Same H5 H' ∧ SqT K H' pt (t.ns.map V.int), ?_, ?_⟩
      · refine ⟨_, rfl, ta, _, _, _, rfl, rfl, hw6, atI_nat (j := 0) rfl, rfl, _, rfl, ?_⟩
        rw [dead_dec oki]
        rcases ht with ⟨hd, b, h1, h2⟩ | ⟨hd, h1⟩
        · rw [hd]
          exact iteT ⟨_, rfl, ta, _, _, _, rfl, rfl, sqt_same s6 h1, atI_nat (j := 1) rfl, b, rfl, s6, sqt_same s6 h2⟩
        · rw [hd]
          refine iteF ⟨p, rfl, s6, ?_⟩
          rw [hzs hd] at e6
          exact SqT.of e6
      · intro σ' H' hN
        obtain ⟨pt, rfl, s7, hpt⟩ := hN
        have e7 := s7 _ _ e5
        refine ⟨_, rfl, .inl ⟨rfl, _, SqL.of e7⟩, ⟨_, rfl⟩, _, rfl, ta, _, _, _, rfl, rfl, sqt_same s7 hw, atI_nat (j := 0) rfl, by show 1 ≤ sizeLine; decide, fun p2 np2 => ?_⟩
        generalize hg : upd _ p2 _ = H8
        obtain ⟨s8, e8⟩ := new_of np2 hg
        refine ⟨_, rfl, pt, rfl, ⟨_, sqt_same s8 hpt⟩, fun D nD => ?_⟩
        refine lc_vals (walk_tup (K := K) (a := pt) (xs := t.ns.map V.int)) nD (fun j => .str (nz ((t.ns[j]?).getD 0))) (by rw [List.length_map]; have := oki.le; omega) (fun H' s' => sqt_same s' (sqt_same s8 hpt)) (fun j y H9 H9' Q' hj s9 hy q' => ?_) (fun H9 s9 e9 => ?_)
        · obtain ⟨rfl, hy⟩ := hy
          rw [List.getElem?_map] at hy
          obtain ⟨n, h3, rfl⟩ := Option.map_eq_some_iff.mp hy
          refine ⟨rfl, _, rfl, n, rfl, (oki.ns n (List.mem_of_getElem? h3)).log, ?_⟩
          have := q' _ (Same.refl _)
          rw [h3] at this
          exact this
        · rw [List.length_map] at e9
          have e9 : H9 D = some (.lst (t.ns.map fun n => V.str (nz n))) := by
            rw [e9, range_map t.ns (fun n => V.str (nz n)) _ fun i y h => by rw [h]; rfl]
          refine ⟨p2, D, _, _, rfl, rfl, s9 _ _ e8, e9, ?_, fun M nM => ?_⟩
          · rw [List.length_map]
            exact big _ (by have := oki.le; show 1 + _ ≤ _; omega)
          rw [cat1, tk_map]
          generalize hg : upd _ M _ = H10
          obtain ⟨s10, e10⟩ := new_of nM hg
          refine ⟨" ", M, t.ws, rfl, rfl, .inl (SqL.of e10), tk_rowlen oki, ?_⟩
          have s710 := ((s7.trans s8).trans s9).trans s10
          refine ⟨R, _, _, rfl, rfl, s710 _ _ e5, ?_, ?_⟩
          · rw [List.length_map, List.length_append, List.length_map, List.length_cons, List.length_append, List.length_take]
            exact Nat.lt_of_le_of_lt (show _ ≤ 100000 by show ls.length + 1 + 1 + min i ts.length ≤ _; omega) (by decide)
          refine ⟨_, _, _, rfl, same_mut (s5.trans s710) nRH, ?_⟩
          rw [upd_same, List.take_succ, List.getElem?_eq_getElem hi', hti]
          simp
          rfl
    · obtain ⟨y4, y5, y6, rfl, s5, e5⟩ := hP
      refine ⟨_, rfl, q R H5 s5 ?_⟩
      rw [e5, hxl, List.take_length]
      unfold pRows
      simp
end
end SW

namespace SW
open PySem PySem.Spec PyProof.Rows L2
abbrev s_l_pick : Stmt := topS 28
theorem sc_l_pick : FnScope ["hand", "rows"] ["hand", "rows"] (defScope s_l_pick) := ⟨rfl, rfl, rfl, by decide +kernel, rfl, by decide +kernel, by decide +kernel⟩

abbrev s_l_wrong_first : Stmt := topS 29
theorem sc_l_wrong_first : FnScope ["hand", "many", "told", "rows"] ["hand", "many"] (defScope s_l_wrong_first) := ⟨rfl, rfl, rfl, by decide +kernel, rfl, by decide +kernel, by decide +kernel⟩

abbrev s_l_wrong_name : Stmt := topS 30
theorem sc_l_wrong_name : FnScope ["hand"] ["hand"] (defScope s_l_wrong_name) := ⟨rfl, rfl, rfl, by decide +kernel, rfl, by decide +kernel, by decide +kernel⟩

abbrev s_l_wrong_token : Stmt := topS 31
theorem sc_l_wrong_token : FnScope ["hand", "rows"] ["hand"] (defScope s_l_wrong_token) := ⟨rfl, rfl, rfl, by decide +kernel, rfl, by decide +kernel, by decide +kernel⟩

theorem any_at {xs : List V} {r : Int} (h0 : 0 ≤ r) (h1 : r < (xs.length : Nat)) : ∃ v, v ∈ xs ∧ atI xs r = some v := by
  obtain ⟨j, rfl⟩ : ∃ j : Nat, r = j := ⟨r.toNat, by omega⟩
  have hj : j < xs.length := by omega
  exact ⟨_, List.getElem_mem hj, atI_nat (List.getElem?_eq_getElem hj)⟩
def wtA : List PySem.Str := ["", "onn", "on ", " on", "on 1", "over 0", "ON", "over ", "dead", "dead ", "dead x", "dead -1", "dead 01"]
def wtB : List PySem.Str := ["dead 1  2", "dead 1 2 ", "dead 1000000000000", "dead 1 01", "dead 1,2", "dead +1", "dead 1_0"]
def wtC : List PySem.Str := ["pair", "pair 1", "pair 1 2 3", "pair 1 x", "pair -1 2", "pair 01 2", "pair 1 1000000000000"]
def wtD : List PySem.Str := ["met 0", "write"]
def wtE : List PySem.Str := ["write 1 2", "write x", "either", "either 0 0", "all 1", "all 1 2 3", "all 1 -2", "match 1"]
def wtF : List PySem.Str := ["match 1 2 3", "match 0 00", "sorted 1 2", "sorted 1 2 3 4", "sorted 1 2 x", "below 1 2"]
def wtG : List PySem.Str := ["dead 1 -2", "pair  1 2", "pair 1 2 "]
def wtH : List PySem.Str := ["below 1 2 3 4", "below 1 2 03", "text 1", "proc x", "pairs 1 2", "dead\t1", "on\t"]
theorem wt_all : wtA ++ wtB ++ wtC ++ wtD ++ wtE ++ wtF ++ wtG ++ wtH = wrongToks := by decide +kernel
def wrongNms : List PySem.Str := ["", "proc", "procs x", "Proc x", " proc x", "pro x", "text 1", "proc\tx"]
section
variable {P : Program} {w : World} {K : PySem.W.Frag} {mg : PySem.Str → Option Value} {base : Heap}
def spPick : Sp := fun vs H Q _ => ∃ (h d R : Addr) (ds : List Int) (xs : List V), vs = [.ref h, .ref R] ∧ Hand H h d ds ∧ R ≠ h ∧ H R = some (.lst xs) ∧ 0 < xs.length ∧ ∀ v H', v ∈ xs → But h H H' → Hand H' h d ds → Q v H'
theorem ok_l_pick (T : TxB mg) (D_l_pick : Df K mg "_law_pick" s_l_pick ["hand", "rows"]) (D_l_take : Df K mg "_law_take" s_l_take ["hand", "many"]) : FnOk P w K mg base CX0 2 D_l_pick.f D_l_pick.fd ["hand", "rows"] spPick := by
  have G_l_take := ok_l_take (P := P) (w := w) (base := base) T D_l_take
  refine D_l_pick.F.ok sc_l_pick (fun vs H Q E h => ?_) (fun cdv A outer s H vs Q E hr h => ?_)
  · obtain ⟨h, d, R, ds, xs, rfl, _⟩ := h
    rfl
  · obtain ⟨h, d, R, ds, xs, rfl, hH, hRh, hR, hx, q⟩ := h
    refine ⟨_, (pss_one (ps_ret (pe_ix ix_list (pv 1) (pe_call G_l_take (hr.mono (by decide)) (by rfl) D_l_take.g D_l_take.F.kp D_l_take.b .nil pass0 (pa_cons (pv 0) (pa_cons (pe_callB call_len_seq (by rfl) T.n_len PySem.boot_len (pa_cons (pv 1) pa_nil)) pa_nil))) (fun _ _ => rfl)))), ?_⟩
    refine ⟨_, rfl, _, rfl, _, rfl, R, _, rfl, .inl (SqL.of (K := K) hR), h, d, ds, _, rfl, by omega, hH, fun r H1 r0 r1 b1 h1 _ => ?_⟩
    obtain ⟨v, hv, ha⟩ := any_at (xs := xs) r0 r1
    exact ⟨R, _, _, _, rfl, rfl, SqL.of (K := K) (b1 _ _ hRh hR), ha, q v H1 hv b1 h1⟩
def spWFirst : Sp := fun vs H Q _ => ∃ (h d : Addr) (ds : List Int) (n : Int), vs = [.ref h, .int n] ∧ okN n ∧ Hand H h d ds ∧ ∀ (z : PySem.Str) H', z ∈ wfRows (nz n) → But h H H' → Hand H' h d ds → Q (.str z) H'
theorem ok_l_wrong_first (T : TxB mg) (D_l_wrong_first : Df K mg "_law_wrong_first" s_l_wrong_first ["hand", "many"]) (D_l_pick : Df K mg "_law_pick" s_l_pick ["hand", "rows"]) (D_l_take : Df K mg "_law_take" s_l_take ["hand", "many"]) : FnOk P w K mg base CX0 3 D_l_wrong_first.f D_l_wrong_first.fd ["hand", "many"] spWFirst := by
  have G_l_pick := ok_l_pick (P := P) (w := w) (base := base) (K := K) T D_l_pick D_l_take
  refine D_l_wrong_first.F.ok sc_l_wrong_first (fun vs H Q E h => ?_) (fun cdv A outer s H vs Q E hr h => ?_)
  · obtain ⟨h, d, ds, n, rfl, _⟩ := h
    rfl
  · obtain ⟨h, d, ds, n, rfl, hn, hH, q⟩ := h
    refine ⟨_, (pss_cons (ps_set (i := 2) sc_l_wrong_first.nd rfl (.inl rfl) (pe_callTy call_str_int (by rfl) T.n_str (by decide +kernel) (pa_cons (pv 1) pa_nil)))
    (pss_cons (ps_set (i := 3) sc_l_wrong_first.nd rfl (.inl rfl) (pe_lst (pa_cons pe_str (pa_cons pe_str (pa_cons pe_str (pa_cons pe_str (pa_cons (pe_op op_add_str pe_str (pv 2)) (pa_cons (pe_op op_add_str pe_str (pv 2)) (pa_cons (pe_op op_add_str pe_str (pv 2)) (pa_cons pe_str (pa_cons (pe_op op_add_str pe_str (pv 2)) pa_nil)))))))))))
    (pss_cons (ps_set (i := 3) sc_l_wrong_first.nd rfl (.inl rfl) (pe_op op_cat (pv 3) (pe_lst (pa_cons (pe_op op_add_str (pe_op op_add_str pe_str (pv 2)) pe_str) (pa_cons (pe_op op_add_str pe_str (pv 2)) (pa_cons (pe_op op_add_str pe_str (pv 2)) (pa_cons (pe_op op_add_str (pe_op op_add_str pe_str (pv 2)) pe_str) (pa_cons (pe_op op_add_str pe_str (pv 2)) (pa_cons (pv 2) pa_nil)))))))))
    (pss_one (ps_ret (pe_call G_l_pick (hr.mono (by decide)) (by rfl) D_l_pick.g D_l_pick.F.kp D_l_pick.b .nil pass0 (pa_cons (pv 0) (pa_cons (pe_op op_cat (pv 3) (pe_lst (pa_cons pe_str (pa_cons (pe_op op_add_str (pe_op op_add_str pe_str (pv 2)) pe_str) (pa_cons pe_str (pa_cons (pe_op op_add_str pe_str (pv 2)) pa_nil)))))) pa_nil)))))))), ?_⟩
    have hl := nz_len hn
    refine ⟨_, rfl, n, rfl, hn.log, ?_⟩
    show _
    have e : Str.ofString (toString n) = nz n := rfl
    rw [e]
    generalize hz : nz n = z at *
    have sz : ∀ a : PySem.Str, a.length ≤ 10 → a.length + z.length ≤ sizeLine := fun a ha => Nat.le_trans (show _ ≤ 100 by omega) (by decide)
    have sz2 : ∀ a b : PySem.Str, a.length ≤ 10 → b.length ≤ 10 → (a ++ z).length + b.length ≤ sizeLine := fun a b ha hb => Nat.le_trans (show _ ≤ 100 by rw [app_len]; omega) (by decide)
    refine ⟨_, rfl, _, _, rfl, rfl, sz _ (by decide), ?_⟩
    refine ⟨_, rfl, _, _, rfl, rfl, sz _ (by decide), ?_⟩
    refine ⟨_, rfl, _, _, rfl, rfl, sz _ (by decide), ?_⟩
    refine ⟨_, rfl, _, _, rfl, rfl, sz _ (by decide), by show 9 ≤ sizeLine; decide, fun a na => ?_⟩
    generalize hg : upd _ a _ = H1
    obtain ⟨s1, e1⟩ := new_of na hg
    refine ⟨_, rfl, _, rfl, _, _, rfl, rfl, sz _ (by decide), _, _, rfl, rfl, sz2 _ _ (by decide) (by decide), ?_⟩
    refine ⟨_, rfl, _, _, rfl, rfl, sz _ (by decide), ?_⟩
    refine ⟨_, rfl, _, _, rfl, rfl, sz _ (by decide), ?_⟩
    refine ⟨_, rfl, _, _, rfl, rfl, sz _ (by decide), _, _, rfl, rfl, sz2 _ _ (by decide) (by decide), ?_⟩
    refine ⟨_, rfl, _, _, rfl, rfl, sz _ (by decide), ?_⟩
    refine ⟨_, rfl, by show 6 ≤ sizeLine; decide, fun b nb => ?_⟩
    generalize hg : upd _ b _ = H2
    obtain ⟨s2, e2⟩ := new_of nb hg
    refine ⟨a, b, _, _, rfl, rfl, s2 _ _ e1, e2, by show 15 ≤ sizeLine; decide, fun c nc => ?_⟩
    generalize hg : upd _ c _ = H3
    obtain ⟨s3, e3⟩ := new_of nc hg
    refine ⟨_, rfl, _, rfl, _, rfl, _, _, rfl, rfl, sz _ (by decide), _, _, rfl, rfl, sz2 _ _ (by decide) (by decide), ?_⟩
    refine ⟨_, rfl, _, _, rfl, rfl, sz _ (by decide), by show 4 ≤ sizeLine; decide, fun f nf => ?_⟩
    generalize hg : upd _ f _ = H4
    obtain ⟨s4, e4⟩ := new_of nf hg
    refine ⟨c, f, _, _, rfl, rfl, s4 _ _ e3, e4, by show 19 ≤ sizeLine; decide, fun R nR => ?_⟩
    generalize hg : upd _ R _ = H5
    obtain ⟨s5, e5⟩ := new_of nR hg
    have s15 := (((s1.trans s2).trans s3).trans s4).trans s5
    have hRh : R ≠ h := by
      refine hand_ne (hH.same (((s1.trans s2).trans s3).trans s4)) nR
    have e5 : H5 R = some (.lst ((wfRows z).map V.str)) := e5
    refine ⟨h, d, R, ds, _, rfl, hH.same s15, hRh, e5, by show 0 < 19; decide, fun v H6 hv b6 h6 => ?_⟩
    obtain ⟨y, hy, rfl⟩ := List.mem_map.mp hv
    exact q y H6 hy ((Same.but s15).trans b6) h6
def spWName : Sp := fun vs H Q _ => ∃ (h d : Addr) (ds : List Int), vs = [.ref h] ∧ Hand H h d ds ∧ ∀ (z : PySem.Str) H', z ∈ wrongNms → But h H H' → Hand H' h d ds → Q (.str z) H'
theorem ok_l_wrong_name (T : TxB mg) (D_l_wrong_name : Df K mg "_law_wrong_name" s_l_wrong_name ["hand"]) (D_l_pick : Df K mg "_law_pick" s_l_pick ["hand", "rows"]) (D_l_take : Df K mg "_law_take" s_l_take ["hand", "many"]) : FnOk P w K mg base CX0 3 D_l_wrong_name.f D_l_wrong_name.fd ["hand"] spWName := by
  have G_l_pick := ok_l_pick (P := P) (w := w) (base := base) (K := K) T D_l_pick D_l_take
  refine D_l_wrong_name.F.ok sc_l_wrong_name (fun vs H Q E h => ?_) (fun cdv A outer s H vs Q E hr h => ?_)
  · obtain ⟨h, d, ds, rfl, _⟩ := h
    rfl
  · obtain ⟨h, d, ds, rfl, hH, q⟩ := h
    refine ⟨_, (pss_one (ps_ret (pe_call G_l_pick (hr.mono (by decide)) (by rfl) D_l_pick.g D_l_pick.F.kp D_l_pick.b .nil pass0 (pa_cons (pv 0) (pa_cons (pe_lst (pa_strs (.cons _ _ _ (.cons _ _ _ (.cons _ _ _ (.cons _ _ _ (.cons _ _ _ (.cons _ _ _ (.cons _ _ _ (.cons _ _ _ .nil)))))))))) pa_nil))))), ?_⟩
    refine ⟨_, rfl, by show 8 ≤ sizeLine; decide, fun R nR => ?_⟩
    generalize hg : upd _ R _ = H5
    obtain ⟨s5, e5⟩ := new_of nR hg
    have hRh : R ≠ h := hand_ne hH nR
    have e5 : H5 R = some (.lst (wrongNms.map V.str)) := e5
    refine ⟨h, d, R, ds, _, rfl, hH.same s5, hRh, e5, by show 0 < 8; decide, fun v H6 hv b6 h6 => ?_⟩
    obtain ⟨y, hy, rfl⟩ := List.mem_map.mp hv
    exact q y H6 hy ((Same.but s5).trans b6) h6
def spWTok : Sp := fun vs H Q _ => ∃ (h d : Addr) (ds : List Int), vs = [.ref h] ∧ Hand H h d ds ∧ ∀ (z : PySem.Str) H', z ∈ wrongToks → But h H H' → Hand H' h d ds → Q (.str z) H'
theorem strs_cat {a b c : List PySem.Str} (h : a ++ b = c) : a.map V.str ++ b.map V.str = c.map V.str := by rw [← h, List.map_append]
theorem ok_l_wrong_token (T : TxB mg) (D_l_wrong_token : Df K mg "_law_wrong_token" s_l_wrong_token ["hand"]) (D_l_pick : Df K mg "_law_pick" s_l_pick ["hand", "rows"]) (D_l_take : Df K mg "_law_take" s_l_take ["hand", "many"]) : FnOk P w K mg base CX0 3 D_l_wrong_token.f D_l_wrong_token.fd ["hand"] spWTok := by
  have G_l_pick := ok_l_pick (P := P) (w := w) (base := base) (K := K) T D_l_pick D_l_take
  refine D_l_wrong_token.F.ok sc_l_wrong_token (fun vs H Q E h => ?_) (fun cdv A outer s H vs Q E hr h => ?_)
  · obtain ⟨h, d, ds, rfl, _⟩ := h
    rfl
  · obtain ⟨h, d, ds, rfl, hH, q⟩ := h
    refine ⟨_, (pss_cons (ps_set (i := 1) sc_l_wrong_token.nd rfl (.inl rfl) (pe_lst (pa_strs (.cons _ _ _ (.cons _ _ _ (.cons _ _ _ (.cons _ _ _ (.cons _ _ _ (.cons _ _ _ (.cons _ _ _ (.cons _ _ _ (.cons _ _ _ (.cons _ _ _ (.cons _ _ _ (.cons _ _ _ (.cons _ _ _ .nil))))))))))))))))
    (pss_cons (ps_set (i := 1) sc_l_wrong_token.nd rfl (.inl rfl) (pe_op op_cat (pv 1) (pe_lst (pa_strs (.cons _ _ _ (.cons _ _ _ (.cons _ _ _ (.cons _ _ _ (.cons _ _ _ (.cons _ _ _ (.cons _ _ _ .nil)))))))))))
    (pss_cons (ps_set (i := 1) sc_l_wrong_token.nd rfl (.inl rfl) (pe_op op_cat (pv 1) (pe_lst (pa_strs (.cons _ _ _ (.cons _ _ _ (.cons _ _ _ (.cons _ _ _ (.cons _ _ _ (.cons _ _ _ (.cons _ _ _ .nil)))))))))))
    (pss_cons (ps_set (i := 1) sc_l_wrong_token.nd rfl (.inl rfl) (pe_op op_cat (pv 1) (pe_lst (pa_cons pe_str (pa_cons pe_str pa_nil)))))
    (pss_cons (ps_set (i := 1) sc_l_wrong_token.nd rfl (.inl rfl) (pe_op op_cat (pv 1) (pe_lst (pa_strs (.cons _ _ _ (.cons _ _ _ (.cons _ _ _ (.cons _ _ _ (.cons _ _ _ (.cons _ _ _ (.cons _ _ _ (.cons _ _ _ .nil))))))))))))
    (pss_cons (ps_set (i := 1) sc_l_wrong_token.nd rfl (.inl rfl) (pe_op op_cat (pv 1) (pe_lst (pa_strs (.cons _ _ _ (.cons _ _ _ (.cons _ _ _ (.cons _ _ _ (.cons _ _ _ (.cons _ _ _ .nil))))))))))
    (pss_cons (ps_set (i := 1) sc_l_wrong_token.nd rfl (.inl rfl) (pe_op op_cat (pv 1) (pe_lst (pa_cons pe_str (pa_cons pe_str (pa_cons pe_str pa_nil))))))
    (pss_one (ps_ret (pe_call G_l_pick (hr.mono (by decide)) (by rfl) D_l_pick.g D_l_pick.F.kp D_l_pick.b .nil pass0 (pa_cons (pv 0) (pa_cons (pe_op op_cat (pv 1) (pe_lst (pa_strs (.cons _ _ _ (.cons _ _ _ (.cons _ _ _ (.cons _ _ _ (.cons _ _ _ (.cons _ _ _ (.cons _ _ _ .nil)))))))))) pa_nil)))))))))))), ?_⟩
    refine ⟨by show 13 ≤ sizeLine; decide, fun a na => ?_⟩
    generalize hg : upd _ a _ = H0
    obtain ⟨s0, e0⟩ := new_of na hg
    have e0 : H0 a = some (.lst (wtA.map V.str)) := e0
    refine ⟨_, rfl, by show 7 ≤ sizeLine; decide, fun b1 nb => ?_⟩
    generalize hg : upd _ b1 _ = G1
    obtain ⟨t1, f1⟩ := new_of nb hg
    refine ⟨a, b1, _, _, rfl, rfl, t1 _ _ e0, f1, by show 20 ≤ sizeLine; decide, fun c1 nc => ?_⟩
    generalize hg : upd _ c1 _ = H1
    obtain ⟨u1, e1⟩ := new_of nc hg
    have s1 := (s0.trans t1).trans u1
    have e1 : H1 c1 = some (.lst ((wtA ++ wtB).map V.str)) := by rw [e1, List.map_append]; rfl
    refine ⟨_, rfl, by show 7 ≤ sizeLine; decide, fun b2 nb => ?_⟩
    generalize hg : upd _ b2 _ = G2
    obtain ⟨t2, f2⟩ := new_of nb hg
    refine ⟨c1, b2, _, _, rfl, rfl, t2 _ _ e1, f2, by show 27 ≤ sizeLine; decide, fun c2 nc => ?_⟩
    generalize hg : upd _ c2 _ = H2
    obtain ⟨u2, e2⟩ := new_of nc hg
    have s2 := (s1.trans t2).trans u2
    have e2 : H2 c2 = some (.lst ((wtA ++ wtB ++ wtC).map V.str)) := by rw [e2, List.map_append]; rfl
    refine ⟨_, rfl, by show 2 ≤ sizeLine; decide, fun b3 nb => ?_⟩
    generalize hg : upd _ b3 _ = G3
    obtain ⟨t3, f3⟩ := new_of nb hg
    refine ⟨c2, b3, _, _, rfl, rfl, t3 _ _ e2, f3, by show 29 ≤ sizeLine; decide, fun c3 nc => ?_⟩
    generalize hg : upd _ c3 _ = H3
    obtain ⟨u3, e3⟩ := new_of nc hg
    have s3 := (s2.trans t3).trans u3
    have e3 : H3 c3 = some (.lst ((wtA ++ wtB ++ wtC ++ wtD).map V.str)) := by rw [e3, List.map_append]; rfl
    refine ⟨_, rfl, by show 8 ≤ sizeLine; decide, fun b4 nb => ?_⟩
    generalize hg : upd _ b4 _ = G4
    obtain ⟨t4, f4⟩ := new_of nb hg
    refine ⟨c3, b4, _, _, rfl, rfl, t4 _ _ e3, f4, by show 37 ≤ sizeLine; decide, fun c4 nc => ?_⟩
    generalize hg : upd _ c4 _ = H4
    obtain ⟨u4, e4⟩ := new_of nc hg
    have s4 := (s3.trans t4).trans u4
    have e4 : H4 c4 = some (.lst ((wtA ++ wtB ++ wtC ++ wtD ++ wtE).map V.str)) := by rw [e4, List.map_append]; rfl
    refine ⟨_, rfl, by show 6 ≤ sizeLine; decide, fun b5 nb => ?_⟩
    generalize hg : upd _ b5 _ = G5
    obtain ⟨t5, f5⟩ := new_of nb hg
    refine ⟨c4, b5, _, _, rfl, rfl, t5 _ _ e4, f5, by show 43 ≤ sizeLine; decide, fun c5 nc => ?_⟩
    generalize hg : upd _ c5 _ = H5
    obtain ⟨u5, e5⟩ := new_of nc hg
    have s5 := (s4.trans t5).trans u5
    have e5 : H5 c5 = some (.lst ((wtA ++ wtB ++ wtC ++ wtD ++ wtE ++ wtF).map V.str)) := by rw [e5, List.map_append]; rfl
    refine ⟨_, rfl, by show 3 ≤ sizeLine; decide, fun b6 nb => ?_⟩
    generalize hg : upd _ b6 _ = G6
    obtain ⟨t6, f6⟩ := new_of nb hg
    refine ⟨c5, b6, _, _, rfl, rfl, t6 _ _ e5, f6, by show 46 ≤ sizeLine; decide, fun c6 nc => ?_⟩
    generalize hg : upd _ c6 _ = H6
    obtain ⟨u6, e6⟩ := new_of nc hg
    have s6 := (s5.trans t6).trans u6
    have e6 : H6 c6 = some (.lst ((wtA ++ wtB ++ wtC ++ wtD ++ wtE ++ wtF ++ wtG).map V.str)) := by rw [e6, List.map_append]; rfl
    refine ⟨_, rfl, _, rfl, by show 7 ≤ sizeLine; decide, fun b7 nb => ?_⟩
    generalize hg : upd _ b7 _ = G7
    obtain ⟨t7, f7⟩ := new_of nb hg
    refine ⟨c6, b7, _, _, rfl, rfl, t7 _ _ e6, f7, by show 53 ≤ sizeLine; decide, fun c7 nc => ?_⟩
    generalize hg : upd _ c7 _ = H7
    obtain ⟨u7, e7⟩ := new_of nc hg
    have h7 : c7 ≠ h := hand_ne (hH.same (s6.trans t7)) nc
    have s7 := (s6.trans t7).trans u7
    have e7 : H7 c7 = some (.lst ((wtA ++ wtB ++ wtC ++ wtD ++ wtE ++ wtF ++ wtG ++ wtH).map V.str)) := by rw [e7, List.map_append]; rfl
    rw [wt_all] at e7
    refine ⟨h, d, c7, ds, _, rfl, hH.same s7, h7, e7, by rw [List.length_map]; decide, fun v H8 hv b8 h8 => ?_⟩
    obtain ⟨y, hy, rfl⟩ := List.mem_map.mp hv
    exact q y H8 hy ((Same.but s7).trans b8) h8
end
end SW

namespace SW
open PySem PySem.Spec PyProof.Rows L2
abbrev s_l_spoilt_number : Stmt := topS 32
theorem sc_l_spoilt_number : FnScope ["hand", "row", "words", "at", "word", "turns"] ["hand", "row"] (defScope s_l_spoilt_number) := ⟨rfl, rfl, rfl, by decide +kernel, rfl, by decide +kernel, by decide +kernel⟩

/-- a row that is no token's -/
structure WrT (z : PySem.Str) : Prop where
  no : tokOf (Txt.split z " ") = none
  kn : ∀ y, (Txt.split z " ").head? = some y → KnW y
  nl : ¬ 10 ∈ z.cps.toList
  len : z.length ≤ 1000
theorem wrt_tok {z : PySem.Str} (h : z ∈ wrongToks) : WrT z := by
  obtain ⟨h1, h2, h3, h4⟩ := wrongToks_bad h
  exact ⟨h1, h2, h3, by omega⟩
def spNum (b : PySem.Str) : List PySem.Str := [("0" : PySem.Str) ++ b, "-" ++ b, "+" ++ b, b ++ "000000000000", b ++ "x", b ++ ",", b ++ "_0", b ++ "."] ++ [b ++ "\t", "\t" ++ b, "", b ++ "b"]
theorem isNum_long {z : PySem.Str} (h : 12 < z.length) : isNum z = false := by
  unfold isNum
  rw [decide_eq_false (Nat.not_le_of_lt h)]
  simp
theorem spNum_bad {n : Int} (h : okN n) : ∀ z, z ∈ spNum (nz n) → isNum z = false ∧ Wd z := by
  have w := wd_nz h
  have hl := nz_len h
  have hne : (nz n).cps.toList ≠ [] := by
    rw [nz_cps h.1]
    exact TL.numL_ne _
  have pre : ∀ (a : PySem.Str) (c : Nat) (r : List Nat), a.cps.toList = c :: r → ¬ c ∈ cD → (¬ 32 ∈ a.cps.toList) → (¬ 10 ∈ a.cps.toList) → a.length ≤ 10 → isNum (a ++ nz n) = false ∧ Wd (a ++ nz n) := fun a c r e hc h1 h2 h3 => ⟨isNum_head e hc, Wd.app (k := 0) ⟨h1, h2⟩ w (by omega)⟩
  have post : ∀ (a : PySem.Str) (c : Nat), c ∈ a.cps.toList → ¬ c ∈ cD → (¬ 32 ∈ a.cps.toList) → (¬ 10 ∈ a.cps.toList) → a.length ≤ 10 → isNum (nz n ++ a) = false ∧ Wd (nz n ++ a) := fun a c e hc h1 h2 h3 => ⟨isNum_mem (c := c) (by rw [cps_app]; exact List.mem_append_right _ e) hc, fun h => by
      rw [cps_app] at h
      exact (List.mem_append.mp h).elim w.1 h1, fun h => by
      rw [cps_app] at h
      exact (List.mem_append.mp h).elim w.2.1 h2, by rw [app_len]; omega⟩
  intro z hz
  unfold spNum at hz
  simp only [List.cons_append, List.nil_append, List.mem_cons, List.not_mem_nil, or_false] at hz
  rcases hz with rfl | rfl | rfl | rfl | rfl | rfl | rfl | rfl | rfl | rfl | rfl | rfl
  · exact ⟨isNum_zero hne, Wd.app (k := 0) ⟨by decide, by decide⟩ w (by show 1 + _ ≤ 30; omega)⟩
  · exact pre _ 45 [] rfl (by decide) (by decide) (by decide) (by decide)
  · exact pre _ 43 [] rfl (by decide) (by decide) (by decide) (by decide)
  · refine ⟨isNum_long ?_, fun h => ?_, fun h => ?_, by rw [app_len]; show _ + 12 ≤ 30; omega⟩
    · rw [app_len]
      show 12 < (nz n).length + 12
      have : 0 < (nz n).cps.toList.length := List.length_pos_iff.mpr hne
      rw [← len_cps] at this
      omega
    · rw [cps_app] at h
      exact (List.mem_append.mp h).elim w.1 (by decide)
    · rw [cps_app] at h
      exact (List.mem_append.mp h).elim w.2.1 (by decide)
  · exact post "x" 120 (by decide) (by decide) (by decide) (by decide) (by decide)
  · exact post "," 44 (by decide) (by decide) (by decide) (by decide) (by decide)
  · exact post "_0" 95 (by decide) (by decide) (by decide) (by decide) (by decide)
  · exact post "." 46 (by decide) (by decide) (by decide) (by decide) (by decide)
  · exact post "\t" 9 (by decide) (by decide) (by decide) (by decide) (by decide)
  · exact pre _ 9 [] rfl (by decide) (by decide) (by decide) (by decide)
  · exact ⟨by decide, by decide, by decide, by decide⟩
  · exact post "b" 98 (by decide) (by decide) (by decide) (by decide) (by decide)
theorem tk_wd {t : Tk} (h : t.ok) : ∀ z, z ∈ t.ws → Wd z := fun z hz => by
  have := h.wlen z hz
  exact ⟨h.free (by decide) z hz, h.free (by decide) z hz, by omega⟩
theorem wrt_set {t : Tk} (h : t.ok) {j : Nat} (hj : j < t.ns.length) {z : PySem.Str} (hz : isNum z = false ∧ Wd z) : WrT (Txt.join " " (t.ws.set (j + 1) z)) := by
  have hw : ∀ y, y ∈ t.ws.set (j + 1) z → Wd y := fun y hy => by
    rcases List.mem_or_eq_of_mem_set hy with hy | rfl
    · exact tk_wd h y hy
    · exact hz.2
  have hle := h.le
  have hl : (t.ws.set (j + 1) z).length ≤ 20 := by
    rw [List.length_set]
    show (t.w :: t.ns.map nz).length ≤ 20
    rw [List.length_cons, List.length_map]
    omega
  have e : t.ws.set (j + 1) z = t.w :: (t.ns.map nz).set j z := rfl
  have hne : t.ws.set (j + 1) z ≠ [] := by rw [e]; exact List.cons_ne_nil _ _
  obtain ⟨g1, g2, g3⟩ := of_words hne hl hw
  refine ⟨?_, fun y hy => ?_, g2, g3⟩
  · rw [g1, e]
    obtain ⟨k, h1, h2⟩ := h.kd
    rw [tokOf_some _ (kinds_lookup _ h1), if_neg]
    intro ha
    rw [List.all_eq_true] at ha
    have := ha z (List.mem_of_getElem? (i := j) (by rw [List.getElem?_set_self (by rw [List.length_map]; exact hj)]))
    rw [hz.1] at this
    cases this
  · rw [g1, e] at hy
    cases hy
    exact knw_tok h
theorem wrt_one {t : Tk} (h : t.ok) (he : t.ns = []) {n : Int} (hn : okN n) : WrT (t.row ++ " " ++ nz n) := by
  have e : t.row ++ " " ++ nz n = Txt.join " " [t.w, nz n] := by
    rw [join2]
    unfold Tk.row Tk.ws
    rw [he]
    have : Txt.join " " (t.w :: ([] : List Int).map nz) = t.w := by
      rw [TL.join_eq]
      exact TL.ext_tl rfl
    rw [this]
    exact str_eq (by simp only [cps_app, List.append_assoc])
  rw [e]
  have hw : ∀ y, y ∈ [t.w, nz n] → Wd y := fun y hy => by
    rcases List.mem_cons.mp hy with rfl | hy
    · exact tk_wd h _ List.mem_cons_self
    · rw [List.mem_singleton.mp hy]
      exact wd_nz hn
  obtain ⟨g1, g2, g3⟩ := of_words (List.cons_ne_nil _ _) (Nat.le_of_ble_eq_true rfl) hw
  refine ⟨?_, fun y hy => ?_, g2, g3⟩
  · rw [g1]
    obtain ⟨k, h1, h2⟩ := h.kd
    rw [tokOf_some _ (kinds_lookup _ h1)]
    have hd : t.d = false := by
      cases hd : t.d with
      | false => rfl
      | true => exact absurd he (h.ne hd)
    have hk := h2 hd
    rw [he] at hk
    have hk : 0 = k := hk
    subst hk
    rw [hd, if_neg (c := false = true) Bool.false_ne_true, if_neg (c := ([nz n] : List PySem.Str).length = 0) (Nat.succ_ne_zero 0)]
    split <;> rfl
  · rw [g1] at hy
    cases hy
    exact knw_tok h
section
variable {P : Program} {w : World} {K : PySem.W.Frag} {mg : PySem.Str → Option Value} {base : Heap}
def spSpoilN : Sp := fun vs H Q _ => ∃ (h d : Addr) (ds : List Int) (t : Tk), vs = [.ref h, .str t.row] ∧ t.ok ∧ Hand H h d ds ∧ ∀ (z : PySem.Str) H', WrT z → But h H H' → Hand H' h d ds → Q (.str z) H'
theorem ok_l_spoilt_number (T : TxB mg) (D_l_spoilt_number : Df K mg "_law_spoilt_number" s_l_spoilt_number ["hand", "row"]) (D_l_take : Df K mg "_law_take" s_l_take ["hand", "many"]) : FnOk P w K mg base CX0 2 D_l_spoilt_number.f D_l_spoilt_number.fd ["hand", "row"] spSpoilN := by
  have G_l_take := ok_l_take (P := P) (w := w) (base := base) T D_l_take
  refine D_l_spoilt_number.F.ok sc_l_spoilt_number (fun vs H Q E h => ?_) (fun cdv A outer s H vs Q E hr h => ?_)
  · obtain ⟨h, d, ds, t, rfl, _⟩ := h
    rfl
  · obtain ⟨h, d, ds, t, rfl, ok, hH, q⟩ := h
    refine ⟨_, (pss_cons (ps_set (i := 2) sc_l_spoilt_number.nd rfl (.inl rfl) (pe_split (pv 1) pe_str))
    (pss_cons (ps_if (pt_cmpR op_eq (pe_callB call_len_seq (by rfl) T.n_len PySem.boot_len (pa_cons (pv 2) pa_nil)) pe_int (nomark _))
    (pss_one (ps_ret (pe_op op_add_str (pe_op op_add_str (pv 1) pe_str) (pe_callTy call_str_int (by rfl) T.n_str (by decide +kernel) (pa_cons (pe_call G_l_take (hr.mono (by decide)) (by rfl) D_l_take.g D_l_take.F.kp D_l_take.b .nil pass0 (pa_cons (pv 0) (pa_cons pe_int pa_nil))) pa_nil)))))
    pss_nil)
    (pss_cons (ps_set (i := 3) sc_l_spoilt_number.nd rfl (.inl rfl) (pe_op op_add pe_int (pe_call G_l_take (hr.mono (by decide)) (by rfl) D_l_take.g D_l_take.F.kp D_l_take.b .nil pass0 (pa_cons (pv 0) (pa_cons (pe_op op_sub (pe_callB call_len_seq (by rfl) T.n_len PySem.boot_len (pa_cons (pv 2) pa_nil)) pe_int) pa_nil)))))
    (pss_cons (ps_set (i := 4) sc_l_spoilt_number.nd rfl (.inl rfl) (pe_ix ix_list (pv 2) (pv 3) (fun _ _ => rfl)))
    (pss_cons (ps_set (i := 5) sc_l_spoilt_number.nd rfl (.inl rfl) (pe_lst (pa_cons (pe_op op_add_str pe_str (pv 4)) (pa_cons (pe_op op_add_str pe_str (pv 4)) (pa_cons (pe_op op_add_str pe_str (pv 4)) (pa_cons (pe_op op_add_str (pv 4) pe_str) (pa_cons (pe_op op_add_str (pv 4) pe_str) (pa_cons (pe_op op_add_str (pv 4) pe_str) (pa_cons (pe_op op_add_str (pv 4) pe_str) (pa_cons (pe_op op_add_str (pv 4) pe_str) pa_nil))))))))))
    (pss_cons (ps_set (i := 4) sc_l_spoilt_number.nd rfl (.inl rfl) (pe_ix ix_list (pe_op op_cat (pv 5) (pe_lst (pa_cons (pe_op op_add_str (pv 4) pe_str) (pa_cons (pe_op op_add_str pe_str (pv 4)) (pa_cons pe_str (pa_cons (pe_op op_add_str (pv 4) pe_str) pa_nil)))))) (pe_call G_l_take (hr.mono (by decide)) (by rfl) D_l_take.g D_l_take.F.kp D_l_take.b .nil pass0 (pa_cons (pv 0) (pa_cons pe_int pa_nil))) (fun _ _ => rfl)))
    (pss_one (ps_ret (pe_join pe_str (pe_op op_cat (pe_op op_cat (pe_slice sl_list (pv 2) po_none (po_some (pv 3))) (pe_lst (pa_cons (pv 4) pa_nil))) (pe_slice sl_list (pv 2) (po_some (pe_op op_add (pv 3) pe_int)) po_none))))))))))), ?_⟩
    have big : ∀ n : Nat, n ≤ 100000 → n ≤ sizeLine := fun n h => Nat.le_trans h (by decide)
    have hle := ok.le
    obtain ⟨_, _, hrow⟩ := of_words (List.cons_ne_nil _ _) (show t.ws.length ≤ 20 by show (t.w :: t.ns.map nz).length ≤ 20; rw [List.length_cons, List.length_map]; omega) (tk_wd ok)
    have hrow : t.row.length ≤ 1000 := hrow
    have hsp := ok.split
    have hwl := ok.wlen
    have hwd := tk_wd ok
    have wset := fun {j : Nat} (hj : j < t.ns.length) {z : PySem.Str} hz => wrt_set ok hj (z := z) hz
    have wone := fun (he : t.ns = []) {n : Int} hn => wrt_one ok he (n := n) hn
    have hwsl : t.ws.length = t.ns.length + 1 := by show (t.w :: t.ns.map nz).length = _; rw [List.length_cons, List.length_map]
    have hnz : ∀ j, j < t.ns.length → ∃ n, okN n ∧ t.ws[j + 1]? = some (nz n) := fun j hj => ⟨t.ns[j], ok.ns _ (List.getElem_mem hj), by
      show (t.w :: t.ns.map nz)[j + 1]? = _
      rw [List.getElem?_cons_succ, List.getElem?_map, List.getElem?_eq_getElem hj]
      rfl⟩
    generalize t.row = row at *
    generalize t.ws = ws at *
    refine ⟨_, rfl, ⟨_, rfl⟩, _, " ", rfl, rfl, rfl, big _ (by omega), fun D nD => ?_⟩
    rw [hsp]
    generalize hg : upd _ D _ = H1
    obtain ⟨s1, e1⟩ := new_of nD hg
    have hDh := hand_ne hH nD
    have h1 := hH.same s1
    refine ⟨_, rfl, D, _, rfl, .inl (SqL.of (K := K) e1), rfl, _, rfl, ?_⟩
    rw [List.length_map, hwsl]
    refine ite2 (fun e => ?_) (fun e => ?_)
    · have e : ((t.ns.length + 1 : Nat) : Int) = 1 := by
        have e := of_decide_eq_true e
        injection e
      have he : t.ns = [] := List.length_eq_zero_iff.mp (by omega)
      refine ⟨_, rfl, _, _, rfl, rfl, big _ (by show _ + 1 ≤ _; omega), _, rfl, h, d, ds, 10, rfl, by decide, h1, fun r H2 r0 r1 b2 h2 _ => ?_⟩
      have hr : okN r := ⟨r0, by omega⟩
      have hnl := nz_len hr
      refine ⟨r, rfl, hr.log, _, _, rfl, rfl, big _ (by rw [app_len]; show _ + 1 + (nz r).length ≤ _; omega), ?_⟩
      exact q _ H2 (wone he hr) ((Same.but s1).trans b2) h2
    · have e : ¬ ((t.ns.length + 1 : Nat) : Int) = 1 := fun e' => by
        rw [e'] at e
        exact e rfl
      refine ⟨_, rfl, _, rfl, D, _, rfl, .inl (SqL.of (K := K) e1), _, _, rfl, rfl, ?_⟩
      rw [List.length_map, hwsl]
      refine ⟨h, d, ds, _, rfl, by omega, h1, fun r H2 r0 r1 b2 h2 _ => ?_⟩
      obtain ⟨j, rfl⟩ : ∃ j : Nat, r = j := ⟨r.toNat, by omega⟩
      have hj : j < t.ns.length := by omega
      have hat : (1 : Int) + (j : Nat) = ((j + 1 : Nat) : Int) := by omega
      obtain ⟨n, hn, hw⟩ := hnz j hj
      have hnl := nz_len hn
      have e2 := b2 _ _ hDh e1
      refine ⟨_, _, rfl, rfl, _, rfl, _, rfl, D, _, _, _, rfl, rfl, SqL.of (K := K) e2, (hat ▸ map_atI hw : atI _ ((1 : Int) + (j : Nat)) = _), ?_⟩
      have hbad := spNum_bad hn
      generalize nz n = b at *
      have sA : ∀ a : PySem.Str, a.length ≤ 20 → a.length + b.length ≤ sizeLine := fun a ha => Nat.le_trans (show _ ≤ 100 by omega) (by decide)
      have sB : ∀ a : PySem.Str, a.length ≤ 20 → b.length + a.length ≤ sizeLine := fun a ha => Nat.le_trans (show _ ≤ 100 by omega) (by decide)
      refine ⟨_, rfl, _, _, rfl, rfl, sA _ (by decide), _, rfl, _, _, rfl, rfl, sA _ (by decide), _, rfl, _, _, rfl, rfl, sA _ (by decide), ?_⟩
      refine ⟨_, rfl, _, _, rfl, rfl, sB _ (by decide), _, rfl, _, _, rfl, rfl, sB _ (by decide), _, rfl, _, _, rfl, rfl, sB _ (by decide), ?_⟩
      refine ⟨_, rfl, _, _, rfl, rfl, sB _ (by decide), _, rfl, _, _, rfl, rfl, sB _ (by decide), by show 8 ≤ sizeLine; decide, fun A nA => ?_⟩
      generalize hg : upd _ A _ = H3
      obtain ⟨s3, e3⟩ := new_of nA hg
      refine ⟨_, rfl, _, rfl, _, _, rfl, rfl, sB _ (by decide), _, rfl, _, _, rfl, rfl, sA _ (by decide), _, rfl, _, _, rfl, rfl, sB _ (by decide), by show 4 ≤ sizeLine; decide, fun B nB => ?_⟩
      generalize hg : upd _ B _ = H4
      obtain ⟨s4, e4⟩ := new_of nB hg
      refine ⟨A, B, _, _, rfl, rfl, s4 _ _ e3, e4, by show 12 ≤ sizeLine; decide, fun R nR => ?_⟩
      generalize hg : upd _ R _ = H5
      obtain ⟨s5, e5⟩ := new_of nR hg
      have e5 : H5 R = some (.lst ((spNum b).map V.str)) := e5
      have s25 := (s3.trans s4).trans s5
      have hRh : R ≠ h := hand_ne (h2.same (s3.trans s4)) nR
      refine ⟨_, rfl, h, d, ds, 12, rfl, by decide, h2.same s25, fun r2 H6 r20 r21 b6 h6 _ => ?_⟩
      obtain ⟨z, hz, ha⟩ := strs_at (ws := spNum b) r20 (by show r2 < 12; exact r21)
      refine ⟨R, _, _, _, rfl, rfl, SqL.of (K := K) (b6 _ _ hRh e5), ha, ?_⟩
      have e6 := b6 _ _ hDh (s25 _ _ e2)
      refine ⟨⟨_, rfl⟩, _, rfl, _, rfl, _, rfl, D, _, rfl, SqL.of (K := K) e6, fun U nU => ?_⟩
      rw [hat, cutv_first]
      generalize hg : upd _ U _ = H7
      obtain ⟨s7, e7⟩ := new_of nU hg
      refine ⟨_, rfl, by show 1 ≤ sizeLine; decide, fun V1 nV => ?_⟩
      generalize hg : upd _ V1 _ = H8
      obtain ⟨s8, e8⟩ := new_of nV hg
      refine ⟨U, V1, _, _, rfl, rfl, s8 _ _ e7, e8, ?_, fun W1 nW => ?_⟩
      · rw [List.length_take, List.length_map]
        exact big _ (by show min _ _ + 1 ≤ _; omega)
      generalize hg : upd _ W1 _ = H9
      obtain ⟨s9, e9⟩ := new_of nW hg
      refine ⟨_, rfl, _, rfl, _, _, rfl, rfl, _, rfl, D, _, rfl, SqL.of (K := K) (s9 _ _ (s8 _ _ (s7 _ _ e6))), fun X nX => ?_⟩
      rw [show ((1 : Int) + (j : Nat)) + 1 = ((j + 1 + 1 : Nat) : Int) by omega, cutv_from]
      generalize hg : upd _ X _ = H10
      obtain ⟨s10, e10⟩ := new_of nX hg
      refine ⟨W1, X, _, _, rfl, rfl, s10 _ _ e9, e10, ?_, fun Y nY => ?_⟩
      · rw [List.length_append, List.length_take, List.length_map, List.length_drop, List.length_map]
        exact big _ (by show min _ _ + 1 + _ ≤ _; omega)
      generalize hg : upd _ Y _ = H11
      obtain ⟨s11, e11⟩ := new_of nY hg
      have e11 : H11 Y = some (.lst ((ws.set (j + 1) z).map V.str)) := by
        rw [e11, ← set_parts (by omega)]
        simp
      have hws : ((ws.set (j + 1) z).map (·.length)).sum + (ws.set (j + 1) z).length * (" " : PySem.Str).length ≤ 16777216 := by
        have h2 := sum_le (fun z : PySem.Str => z.length) 30 (ws.set (j + 1) z) fun y hy => by
          rcases List.mem_or_eq_of_mem_set hy with hy | rfl
          · exact (hwd y hy).2.2
          · exact (hbad _ hz).2.2.2
        have e : (" " : PySem.Str).length = 1 := rfl
        rw [e]
        rw [List.length_set] at h2 ⊢
        omega
      refine ⟨" ", Y, _, rfl, rfl, .inl (SqL.of (K := K) e11), hws, ?_⟩
      exact q _ H11 (wset hj (hbad z hz)) ((((((((Same.but s1).trans b2).same s25).trans b6).same s7).same s8).same s9).same s10 |>.same s11) (((((h6.same s7).same s8).same s9).same s10).same s11)
end
end SW

namespace SW
open PySem PySem.Spec PyProof.Rows L2
structure Spoil (L : Nat) (sp : List PySem.Str) (row : Nat) : Prop where
  spr : SpR L sp
  pos : 1 ≤ row
  bad : parse sp = .bad (row : Nat)
  firm : row ≤ sp.length → ∀ sq : List PySem.Str, row ≤ sq.length → sq.take row = sp.take row → parse sq = .bad (row : Nat)
theorem Spoil.cut {L : Nat} {sp : List PySem.Str} {row : Nat} (h : Spoil L sp row) (hl : row ≤ sp.length) : Spoil L (sp.take row) row := by
  have hp := h.pos
  have e : (sp.take row).length = row := by rw [List.length_take]; omega
  refine ⟨h.spr.take hp, hp, h.firm hl _ (by omega) (by rw [List.take_take, Nat.min_self]), fun _ sq h1 h2 => h.firm hl sq h1 ?_⟩
  rw [h2, List.take_take, Nat.min_self]
theorem Spoil.more {L : Nat} {sp : List PySem.Str} {row k : Nat} {z : PySem.Str} (h : Spoil L sp row) (hl : row ≤ k) (hL : L + 2 ≤ k) (hk : k < sp.length) (hz : WrT z) : Spoil L (sp.set k z) row := by
  have hp := h.pos
  have e : (sp.set k z).take row = sp.take row := by rw [List.take_set_of_le hl]
  have hs : SpR L (sp.set k z) := h.spr.set hk hz.nl hz.len (fun h => by omega) fun _ => hz.kn
  refine ⟨hs, hp, h.firm (by omega) _ (by rw [List.length_set]; omega) e, fun _ sq h1 h2 => h.firm (by omega) sq h1 ?_⟩
  rw [h2, e]
section
variable {ls : List PySem.Str} {x : PySem.Str} {ts : List Tk}
theorem rows_n (ok : PpOk ls x ts) : ls.length + 3 ≤ (pRows ls x ts).length ∧ (pRows ls x ts).length ≤ 2002 := by
  have := ok.many
  have := ok.tm
  have htn : 0 < ts.length := List.length_pos_iff.mpr ok.tn
  rw [pRows_len]
  omega
theorem getD_set0 {sp : List PySem.Str} {z : PySem.Str} (h : sp ≠ []) : (sp.set 0 z).getD 0 "" = z := by
  cases sp with
  | nil => exact absurd rfl h
  | cons a r => rfl
theorem getD_setn {sp : List PySem.Str} {z : PySem.Str} {k j : Nat} (h : j ≠ k) : (sp.set k z).getD j "" = sp.getD j "" := by
  rw [List.getD_eq_getElem?_getD, List.getElem?_set_ne (fun e => h e.symm), ← List.getD_eq_getElem?_getD]
theorem getD_sets {sp : List PySem.Str} {z : PySem.Str} {k : Nat} (h : k < sp.length) : (sp.set k z).getD k "" = z := by
  rw [List.getD_eq_getElem?_getD, List.getElem?_set_self h]
  rfl
theorem spoil0 (ok : PpOk ls x ts) {z : PySem.Str} (h : readMany (Txt.split z " ") = none ∧ (¬ 10 ∈ z.cps.toList) ∧ z.length ≤ 1000) : Spoil ls.length ((pRows ls x ts).set 0 z) 1 := by
  obtain ⟨h1, h2, h3⟩ := h
  have hs := rows_spr ok
  have e0 := getD_set0 (z := z) hs.ne
  refine ⟨hs.set (List.length_pos_iff.mpr hs.ne) h2 h3 (fun _ m hm => by rw [h1] at hm; cases hm) (fun h => by omega), Nat.le_refl _, parse_none (by rw [e0]; exact h1), fun _ sq _ e => parse_none ?_⟩
  rw [getD_take e (by decide), e0]
  exact h1
theorem row0_n {k : Nat} (h1 : 1 ≤ k) (h2 : k < 10 ^ 12) : readMany (Txt.split (("text " : PySem.Str) ++ nz (k : Nat)) " ") = some (k : Int) := by
  have h : okN (k : Nat) := ⟨by omega, by omega⟩
  rw [row0_split h]
  exact row0_many h (by omega)
theorem text_nl {n : Int} (h : okN n) : (¬ 10 ∈ (("text " : PySem.Str) ++ nz n).cps.toList) ∧ (("text " : PySem.Str) ++ nz n).length ≤ 1000 := by
  have w := wd_nz h
  refine ⟨fun hm => ?_, ?_⟩
  · rw [cps_app] at hm
    exact (List.mem_append.mp hm).elim (by decide) w.2.1
  · rw [app_len]
    have := w.2.2
    show 5 + _ ≤ 1000
    omega
theorem spoil1 (ok : PpOk ls x ts) {k : Nat} (h1 : (pRows ls x ts).length ≤ k + 1) (h2 : k < 10 ^ 12) : Spoil ls.length ((pRows ls x ts).set 0 ("text " ++ nz (k : Nat))) ((pRows ls x ts).length + 1) := by
  obtain ⟨r1, r2⟩ := rows_n ok
  have hs := rows_spr ok
  have e0 := getD_set0 (z := "text " ++ nz (k : Nat)) hs.ne
  have hm := row0_n (show 1 ≤ k by omega) h2
  obtain ⟨t1, t2⟩ := text_nl (show okN (k : Nat) from ⟨by omega, by omega⟩)
  have el : ((pRows ls x ts).set 0 ("text " ++ nz (k : Nat))).length = (pRows ls x ts).length := List.length_set
  refine ⟨hs.set (List.length_pos_iff.mpr hs.ne) t1 t2 (fun _ m hm' => ?_) (fun h => by omega), by omega, ?_, fun h => ?_⟩
  · rw [hm] at hm'
    cases hm'
    omega
  · rw [bad_short (by rw [e0]; exact hm) (by rw [el]; omega), el]
  · rw [el] at h
    omega
theorem spoil2 (ok : PpOk ls x ts) {z : PySem.Str} (h : z.cps.toList.take 5 ≠ pc ∧ (¬ 10 ∈ z.cps.toList) ∧ z.length ≤ 1000) : Spoil ls.length ((pRows ls x ts).set (ls.length + 1) z) (ls.length + 2) := by
  obtain ⟨h1, h2, h3⟩ := h
  obtain ⟨r1, r2⟩ := rows_n ok
  have hs := rows_spr ok
  have e0 := getD_setn (sp := pRows ls x ts) (z := z) (k := ls.length + 1) (j := 0) (by omega)
  have e1 := getD_sets (sp := pRows ls x ts) (z := z) (k := ls.length + 1) (by omega)
  have b : ∀ sq : List PySem.Str, ls.length + 2 ≤ sq.length → sq.take (ls.length + 2) = ((pRows ls x ts).set (ls.length + 1) z).take (ls.length + 2) → parse sq = .bad ((ls.length + 2 : Nat) : Int) := fun sq hl e => bad2 (by rw [getD_take e (by omega), e0]; exact rows_r0 ok) hl (by rw [getD_take e (by omega), e1]; exact h1)
  exact ⟨hs.set (by omega) h2 h3 (fun h => by omega) (fun h => by omega), by omega, b _ (by rw [List.length_set]; omega) rfl, fun _ => b⟩
theorem spoil3 (ok : PpOk ls x ts) {cut : Nat} (h1 : 1 ≤ cut) (h2 : cut ≤ ls.length + 2) : Spoil ls.length ((pRows ls x ts).take cut) (cut + 1) := by
  obtain ⟨r1, r2⟩ := rows_n ok
  have hs := rows_spr ok
  have hl : ((pRows ls x ts).take cut).length = cut := by rw [List.length_take]; omega
  have gd : ∀ j, j < cut → ((pRows ls x ts).take cut).getD j "" = (pRows ls x ts).getD j "" := fun j hj => getD_take (n := cut) (by rw [List.take_take, Nat.min_self]) hj
  refine ⟨hs.take h1, by omega, ?_, fun h => by omega⟩
  by_cases h : cut < ls.length + 2
  · rw [bad_short (m := (ls.length : Nat)) (by rw [gd 0 (by omega)]; exact rows_r0 ok) (by rw [hl]; omega), hl]
  · rw [bad_none (n := ls.length) (by rw [gd 0 (by omega)]; exact rows_r0 ok) (by omega) (by rw [gd _ (by omega), rows_hd ok]; exact hd_take x), hl]
theorem tok_at (ok : PpOk ls x ts) {j : Nat} (h1 : ls.length + 2 ≤ j) (h2 : j < (pRows ls x ts).length) : ∃ t, tokOf (Txt.split ((pRows ls x ts).getD j "") " ") = some t := by
  obtain ⟨t, ht, e⟩ := rows_tok h1 h2
  rw [getD_of e, (ok.ts t ht).split]
  exact ⟨_, tokOf_ok (ok.ts t ht)⟩
theorem Spoil.w3 {L at_ : Nat} {sp : List PySem.Str} (hs : SpR L sp) (h : W3 sp L at_) : Spoil L sp (at_ + 1) := ⟨hs, by omega, h.bad, fun _ sq h1 h2 => (h.firm h1 h2).bad⟩
theorem spoil5 (ok : PpOk ls x ts) {k : Nat} {z : PySem.Str} (h1 : ls.length + 2 ≤ k) (h2 : k < (pRows ls x ts).length) (hz : WrT z) : Spoil ls.length ((pRows ls x ts).set k z) (k + 1) := by
  refine Spoil.w3 ((rows_spr ok).set h2 hz.nl hz.len (fun h => by omega) fun _ => hz.kn) ⟨?_, ?_, h1, by rw [List.length_set]; exact h2, fun j a b => ?_, ?_⟩
  · rw [getD_setn (by omega)]
    exact rows_r0 ok
  · rw [getD_setn (by omega), rows_hd ok]
    exact hd_take x
  · rw [getD_setn (by omega)]
    exact tok_at ok a (by omega)
  · rw [getD_sets h2]
    exact hz.no
theorem wrongNms_bad {z : PySem.Str} (h : z ∈ wrongNms) : z.cps.toList.take 5 ≠ pc ∧ (¬ 10 ∈ z.cps.toList) ∧ z.length ≤ 1000 := by
  obtain ⟨h1, h2, h3⟩ := wrongNames_bad z h
  exact ⟨h1, h2, by omega⟩
theorem getD_app {a b : List PySem.Str} {j : Nat} (h : j < a.length) : (a ++ b).getD j "" = a.getD j "" := by
  rw [List.getD_eq_getElem?_getD, List.getElem?_append_left h, ← List.getD_eq_getElem?_getD]
theorem wrt_nil : WrT "" := wrt_tok (by unfold wrongToks; simp)
theorem spoil4 (ok : PpOk ls x ts) : Spoil ls.length (pRows ls x ts ++ [("" : PySem.Str)]) ((pRows ls x ts).length + 1) := by
  obtain ⟨r1, r2⟩ := rows_n ok
  have hs := rows_spr ok
  have hz := wrt_nil
  have hl : (pRows ls x ts ++ [("" : PySem.Str)]).length = (pRows ls x ts).length + 1 := by rw [List.length_append]; rfl
  have ge : (pRows ls x ts ++ [("" : PySem.Str)]).getD (pRows ls x ts).length "" = "" := by
    rw [List.getD_eq_getElem?_getD, List.getElem?_append_right (Nat.le_refl _), Nat.sub_self]
    rfl
  refine Spoil.w3 ⟨fun h => ?_, fun p hp => ?_, fun p hp => ?_, by rw [hl]; omega, fun m hm => ?_, fun i p y hi hp hy => ?_⟩ ⟨?_, ?_, by omega, by omega, fun j a b => ?_, ?_⟩
  · exact absurd (List.append_eq_nil_iff.mp h).1 hs.ne
  · rcases List.mem_append.mp hp with hp | hp
    · exact hs.nl p hp
    · rw [List.mem_singleton.mp hp]
      exact hz.nl
  · rcases List.mem_append.mp hp with hp | hp
    · exact hs.len p hp
    · rw [List.mem_singleton.mp hp]
      exact hz.len
  · rw [getD_app (by omega)] at hm
    exact hs.m0 m hm
  · by_cases h : i < (pRows ls x ts).length
    · rw [List.getElem?_append_left h] at hp
      exact hs.kn i p y hi hp hy
    · rw [List.getElem?_append_right (by omega)] at hp
      have : p ∈ [("" : PySem.Str)] := List.mem_of_getElem? hp
      rw [List.mem_singleton.mp this] at hy
      exact hz.kn y hy
  · rw [getD_app (by omega)]
    exact rows_r0 ok
  · rw [getD_app (by omega), rows_hd ok]
    exact hd_take x
  · rw [getD_app (by omega)]
    exact tok_at ok a (by omega)
  · rw [ge]
    exact hz.no
theorem spoil4b (ok : PpOk ls x ts) : Spoil ls.length [("" : PySem.Str)] 1 := by
  have hr : readMany (Txt.split ("" : PySem.Str) " ") = none := by
    rw [split_spW]
    decide +kernel
  have hz := wrt_nil
  refine ⟨⟨List.cons_ne_nil _ _, fun p hp => ?_, fun p hp => ?_, (by show 1 ≤ 3000; decide), fun m hm => ?_, fun i p y hi hp hy => ?_⟩, Nat.le_refl _, parse_none hr, fun _ sq _ e => parse_none ?_⟩
  · rw [List.mem_singleton.mp hp]
    exact hz.nl
  · rw [List.mem_singleton.mp hp]
    exact hz.len
  · have hm : readMany (Txt.split ("" : PySem.Str) " ") = some m := hm
    rw [hr] at hm
    cases hm
  · have := (List.getElem?_eq_some_iff.mp hp).1
    have : i < 1 := this
    omega
  · rw [getD_take e (by decide)]
    exact hr
end
end SW

namespace SW
open PySem PySem.Spec PyProof.Rows L2
abbrev s_l_spoilt : Stmt := topS 33
theorem sc_l_spoilt : FnScope ["hand", "rows", "many", "kind", "first", "count", "cut", "at", "wrong"] ["hand", "rows", "many"] (defScope s_l_spoilt) := ⟨rfl, rfl, rfl, by decide +kernel, rfl, by decide +kernel, by decide +kernel⟩

theorem map_set0 {rows : List PySem.Str} {z : PySem.Str} (h : rows ≠ []) : [V.str z] ++ (rows.map V.str).drop 1 = (rows.set 0 z).map V.str := by
  cases rows with
  | nil => exact absurd rfl h
  | cons a r => rfl
theorem map_setk {rows : List PySem.Str} {z : PySem.Str} {k : Nat} (h : k < rows.length) : ((rows.map V.str).take k ++ [V.str z]) ++ (rows.map V.str).drop (k + 1) = (rows.set k z).map V.str := by
  rw [← set_parts h]
  simp
section
variable {P : Program} {w : World} {K : PySem.W.Frag} {mg : PySem.Str → Option Value} {base : Heap}
def spSpoilt : Sp := fun vs H Q _ => ∃ (h d R : Addr) (ds : List Int) (ls : List PySem.Str) (x : PySem.Str) (ts : List Tk), vs = [.ref h, .ref R, .int (ls.length : Nat)] ∧ PpOk ls x ts ∧ Hand H h d ds ∧ R ≠ h ∧ H R = some (.lst ((pRows ls x ts).map V.str)) ∧
  ∀ (t B : Addr) (sp : List PySem.Str) (r0 : Int) (row : Nat) H', But h H H' → Hand H' h d ds → H' t = some (.tup [.ref B, .int r0]) → H' B = some (.lst (sp.map V.str)) → B ≠ h → t ≠ h → ((row : Nat) : Int) = (if r0 = 0 then ((sp.length : Nat) : Int) else r0) → Spoil ls.length sp row → Q (.ref t) H'
theorem ok_l_spoilt (T : TxB mg) (D_l_spoilt : Df K mg "_law_spoilt" s_l_spoilt ["hand", "rows", "many"]) (D_l_take : Df K mg "_law_take" s_l_take ["hand", "many"]) (D_l_pick : Df K mg "_law_pick" s_l_pick ["hand", "rows"]) (D_l_wrong_first : Df K mg "_law_wrong_first" s_l_wrong_first ["hand", "many"]) (D_l_wrong_name : Df K mg "_law_wrong_name" s_l_wrong_name ["hand"]) (D_l_wrong_token : Df K mg "_law_wrong_token" s_l_wrong_token ["hand"]) (D_l_spoilt_number : Df K mg "_law_spoilt_number" s_l_spoilt_number ["hand", "row"]) : FnOk P w K mg base CX0 4 D_l_spoilt.f D_l_spoilt.fd ["hand", "rows", "many"] spSpoilt := by
  have G_l_take := ok_l_take (P := P) (w := w) (base := base) T D_l_take
  have G_l_pick := ok_l_pick (P := P) (w := w) (base := base) (K := K) T D_l_pick D_l_take
  have G_l_wrong_first := ok_l_wrong_first (P := P) (w := w) (base := base) (K := K) T D_l_wrong_first D_l_pick D_l_take
  have G_l_wrong_name := ok_l_wrong_name (P := P) (w := w) (base := base) (K := K) T D_l_wrong_name D_l_pick D_l_take
  have G_l_wrong_token := ok_l_wrong_token (P := P) (w := w) (base := base) (K := K) T D_l_wrong_token D_l_pick D_l_take
  have G_l_spoilt_number := ok_l_spoilt_number (P := P) (w := w) (base := base) (K := K) T D_l_spoilt_number D_l_take
  refine D_l_spoilt.F.ok sc_l_spoilt (fun vs H Q E h => ?_) (fun cdv A outer s H vs Q E hr h => ?_)
  · obtain ⟨h, d, R, ds, ls, x, ts, rfl, _⟩ := h
    rfl
  · obtain ⟨h, d, R, ds, ls, x, ts, rfl, ok, hH, hRh, hR, q⟩ := h
    refine ⟨_, (pss_cons (ps_set (i := 3) sc_l_spoilt.nd rfl (.inl rfl) (pe_call G_l_take (hr.mono (by decide)) (by rfl) D_l_take.g D_l_take.F.kp D_l_take.b .nil pass0 (pa_cons (pv 0) (pa_cons pe_int pa_nil))))
    (pss_cons (ps_set (i := 4) sc_l_spoilt.nd rfl (.inl rfl) (pe_op op_add (pv 2) pe_int))
    (pss_cons (ps_if (pt_cmpR op_eq (pv 3) pe_int (nomark _))
    (pss_one (ps_ret (pe_tup (pa_cons (pe_op op_cat (pe_lst (pa_cons (pe_call G_l_wrong_first (hr.mono (by decide)) (by rfl) D_l_wrong_first.g D_l_wrong_first.F.kp D_l_wrong_first.b .nil pass0 (pa_cons (pv 0) (pa_cons (pv 2) pa_nil))) pa_nil)) (pe_slice sl_list (pv 1) (po_some pe_int) po_none)) (pa_cons pe_int pa_nil)))))
    pss_nil)
    (pss_cons (ps_if (pt_cmpR op_eq (pv 3) pe_int (nomark _))
    (pss_cons (ps_set (i := 5) sc_l_spoilt.nd rfl (.inl rfl) (pe_call G_l_pick (hr.mono (by decide)) (by rfl) D_l_pick.g D_l_pick.F.kp D_l_pick.b .nil pass0 (pa_cons (pv 0) (pa_cons (pe_lst (pa_cons (pe_op op_sub (pe_callB call_len_seq (by rfl) T.n_len PySem.boot_len (pa_cons (pv 1) pa_nil)) pe_int) (pa_cons (pe_callB call_len_seq (by rfl) T.n_len PySem.boot_len (pa_cons (pv 1) pa_nil)) (pa_cons (pe_op op_add (pe_callB call_len_seq (by rfl) T.n_len PySem.boot_len (pa_cons (pv 1) pa_nil)) pe_int) (pa_cons pe_int pa_nil))))) pa_nil))))
    (pss_one (ps_ret (pe_tup (pa_cons (pe_op op_cat (pe_lst (pa_cons (pe_op op_add_str pe_str (pe_callTy call_str_int (by rfl) T.n_str (by decide +kernel) (pa_cons (pv 5) pa_nil))) pa_nil)) (pe_slice sl_list (pv 1) (po_some pe_int) po_none)) (pa_cons (pe_op op_add (pe_callB call_len_seq (by rfl) T.n_len PySem.boot_len (pa_cons (pv 1) pa_nil)) pe_int) pa_nil))))))
    pss_nil)
    (pss_cons (ps_if (pt_cmpR op_eq (pv 3) pe_int (nomark _))
    (pss_one (ps_ret (pe_tup (pa_cons (pe_op op_cat (pe_op op_cat (pe_slice sl_list (pv 1) po_none (po_some (pe_op op_sub (pv 4) pe_int))) (pe_lst (pa_cons (pe_call G_l_wrong_name (hr.mono (by decide)) (by rfl) D_l_wrong_name.g D_l_wrong_name.F.kp D_l_wrong_name.b .nil pass0 (pa_cons (pv 0) pa_nil)) pa_nil))) (pe_slice sl_list (pv 1) (po_some (pv 4)) po_none)) (pa_cons (pv 4) pa_nil)))))
    pss_nil)
    (pss_cons (ps_if (pt_cmpR op_eq (pv 3) pe_int (nomark _))
    (pss_cons (ps_set (i := 6) sc_l_spoilt.nd rfl (.inl rfl) (pe_op op_add pe_int (pe_call G_l_take (hr.mono (by decide)) (by rfl) D_l_take.g D_l_take.F.kp D_l_take.b .nil pass0 (pa_cons (pv 0) (pa_cons (pv 4) pa_nil)))))
    (pss_one (ps_ret (pe_tup (pa_cons (pe_slice sl_list (pv 1) po_none (po_some (pv 6))) (pa_cons (pe_op op_add (pv 6) pe_int) pa_nil))))))
    pss_nil)
    (pss_cons (ps_if (pt_cmpR op_eq (pv 3) pe_int (nomark _))
    (pss_one (ps_ret (pe_tup (pa_cons (pe_ix ix_list (pe_lst (pa_cons (pe_op op_cat (pv 1) (pe_lst (pa_cons pe_str pa_nil))) (pa_cons (pe_lst (pa_cons pe_str pa_nil)) pa_nil))) (pe_call G_l_take (hr.mono (by decide)) (by rfl) D_l_take.g D_l_take.F.kp D_l_take.b .nil pass0 (pa_cons (pv 0) (pa_cons pe_int pa_nil))) (fun _ _ => rfl)) (pa_cons pe_int pa_nil)))))
    pss_nil)
    (pss_cons (ps_set (i := 7) sc_l_spoilt.nd rfl (.inl rfl) (pe_op op_add (pv 4) (pe_call G_l_take (hr.mono (by decide)) (by rfl) D_l_take.g D_l_take.F.kp D_l_take.b .nil pass0 (pa_cons (pv 0) (pa_cons (pe_op op_sub (pe_callB call_len_seq (by rfl) T.n_len PySem.boot_len (pa_cons (pv 1) pa_nil)) (pv 4)) pa_nil)))))
    (pss_cons (ps_set (i := 8) sc_l_spoilt.nd rfl (.inl rfl) (pe_ix ix_list (pe_lst (pa_cons (pe_call G_l_wrong_token (hr.mono (by decide)) (by rfl) D_l_wrong_token.g D_l_wrong_token.F.kp D_l_wrong_token.b .nil pass0 (pa_cons (pv 0) pa_nil)) (pa_cons (pe_call G_l_spoilt_number (hr.mono (by decide)) (by rfl) D_l_spoilt_number.g D_l_spoilt_number.F.kp D_l_spoilt_number.b .nil pass0 (pa_cons (pv 0) (pa_cons (pe_ix ix_list (pv 1) (pv 7) (fun _ _ => rfl)) pa_nil))) pa_nil))) (pe_call G_l_take (hr.mono (by decide)) (by rfl) D_l_take.g D_l_take.F.kp D_l_take.b .nil pass0 (pa_cons (pv 0) (pa_cons pe_int pa_nil))) (fun _ _ => rfl)))
    (pss_one (ps_ret (pe_tup (pa_cons (pe_op op_cat (pe_op op_cat (pe_slice sl_list (pv 1) po_none (po_some (pv 7))) (pe_lst (pa_cons (pv 8) pa_nil))) (pe_slice sl_list (pv 1) (po_some (pe_op op_add (pv 7) pe_int)) po_none)) (pa_cons (pe_op op_add (pv 7) pe_int) pa_nil)))))))))))))), ?_⟩
    have big : ∀ n : Nat, n ≤ 100000 → n ≤ sizeLine := fun n h => Nat.le_trans h (by decide)
    obtain ⟨n1, n2⟩ := rows_n ok
    have hln := ok.ln
    have hm := ok.many
    have g0 := fun {z : PySem.Str} hz => spoil0 ok (z := z) hz
    have g1 := fun {k : Nat} h1 h2 => spoil1 ok (k := k) h1 h2
    have g2 := fun {z : PySem.Str} hz => spoil2 ok (z := z) hz
    have g3 := fun {k : Nat} h1 h2 => spoil3 ok (cut := k) h1 h2
    have g4 := spoil4 ok
    have g4b := spoil4b ok
    have g5 := fun {k : Nat} {z : PySem.Str} h1 h2 hz => spoil5 ok (k := k) (z := z) h1 h2 hz
    have hne := (rows_spr ok).ne
    have htk : ∀ {j : Nat}, ls.length + 2 ≤ j → j < (pRows ls x ts).length → ∃ t : Tk, t.ok ∧ (pRows ls x ts)[j]? = some t.row := fun h1 h2 => by
      obtain ⟨t, ht, e⟩ := rows_tok (ls := ls) (x := x) h1 h2
      exact ⟨t, ok.ts t ht, e⟩
    generalize pRows ls x ts = rows at *
    generalize ls.length = L at *
    refine ⟨_, rfl, h, d, ds, 8, rfl, by decide, hH, fun r H1 r0 r1 b1 h1 _ => ?_⟩
    have hR1 := b1 _ _ hRh hR
    refine ⟨_, rfl, _, _, rfl, rfl, ?_⟩
    -- the end of each: a tuple of a new list and a number
    have fin : ∀ {Y : Addr} {H' : Hp} {sp : List PySem.Str} {r0 : Int} {row : Nat}, But h H1 H' → Hand H' h d ds → H' Y = some (.lst (sp.map V.str)) → Y ≠ h → ((row : Nat) : Int) = (if r0 = 0 then ((sp.length : Nat) : Int) else r0) → Spoil L sp row → ∀ t, H' t = none → Q (.ref t) (upd H' t (.tup [.ref Y, .int r0])) := fun {Y H' sp r0 row} b hh e hY hrow hsp t nt => by
      generalize hg : upd _ t _ = H9
      obtain ⟨s9, e9⟩ := new_of nt hg
      exact q t Y sp r0 row H9 ((b1.trans b).same s9) (hh.same s9) e9 (s9 _ _ e) hY (hand_ne hh nt) hrow hsp
    -- kind == 0
    refine ⟨_, rfl, rfl, _, rfl, ite2 (fun _ => ?_) (fun _ => ?_)⟩
    · refine ⟨_, rfl, _, rfl, h, d, ds, (L : Nat), rfl, hln.1, h1, fun z H2 hz b2 h2 => ?_⟩
      refine ⟨by show 1 ≤ sizeLine; decide, fun a na => ?_⟩
      generalize hg : upd _ a _ = H3
      obtain ⟨s3, e3⟩ := new_of na hg
      have hR3 := s3 _ _ (b2 _ _ hRh hR1)
      refine ⟨_, rfl, 1, rfl, R, _, rfl, SqL.of (K := K) hR3, fun U nU => ?_⟩
      generalize hg : upd _ U _ = H4
      obtain ⟨s4, e4⟩ := new_of nU hg
      rw [show (some (1 : Int)) = some ((1 : Nat) : Int) from rfl, cutv_from] at e4
      refine ⟨a, U, _, _, rfl, rfl, s4 _ _ e3, e4, ?_, fun c nc => ?_⟩
      · rw [List.length_drop, List.length_map]
        exact big _ (by show 1 + _ ≤ _; omega)
      generalize hg : upd _ c _ = H5
      obtain ⟨s5, e5⟩ := new_of nc hg
      rw [map_set0 hne] at e5
      have s35 := (s3.trans s4).trans s5
      refine ⟨by show 2 ≤ sizeLine; decide, fin (r0 := 1) (row := 1) (b2.same s35) (h2.same s35) e5 (hand_ne (h2.same (s3.trans s4)) nc) rfl (g0 (wfRows_bad hln.1 z hz))⟩
    -- kind == 1
    refine ⟨_, rfl, rfl, _, rfl, ite2 (fun _ => ?_) (fun _ => ?_)⟩
    · refine ⟨_, rfl, _, rfl, R, _, rfl, .inl (SqL.of (K := K) hR1), _, _, rfl, rfl, ?_⟩
      refine ⟨_, rfl, R, _, rfl, .inl (SqL.of (K := K) hR1), _, rfl, R, _, rfl, .inl (SqL.of (K := K) hR1), _, _, rfl, rfl, by show 4 ≤ sizeLine; decide, fun A nA => ?_⟩
      generalize hg : upd _ A _ = H2
      obtain ⟨s2, e2⟩ := new_of nA hg
      have e2 : H2 A = some (.lst ([((((rows.map V.str).length : Nat) : Int) - 1), (((rows.map V.str).length : Nat) : Int), ((((rows.map V.str).length : Nat) : Int) + 1), 999999999999].map V.int)) := e2
      rw [List.length_map] at e2
      refine ⟨h, d, A, ds, _, rfl, h1.same s2, hand_ne h1 nA, e2, by show 0 < 4; decide, fun v H3 hv b3 h3 => ?_⟩
      obtain ⟨k, hk1, hk2, rfl⟩ : ∃ k : Nat, rows.length ≤ k + 1 ∧ k < 10 ^ 12 ∧ v = .int (k : Nat) := by
        obtain ⟨n, hn, rfl⟩ := List.mem_map.mp hv
        simp only [List.mem_cons, List.not_mem_nil, or_false] at hn
        have p12 : (10 : Nat) ^ 12 = 1000000000000 := by decide
        rcases hn with rfl | rfl | rfl | rfl
        · exact ⟨rows.length - 1, by omega, by omega, by congr 1; omega⟩
        · exact ⟨rows.length, by omega, by omega, rfl⟩
        · exact ⟨rows.length + 1, by omega, by omega, rfl⟩
        · exact ⟨999999999999, by omega, by omega, rfl⟩
      have hok : okN (k : Nat) := ⟨by omega, by omega⟩
      have hnl := nz_len hok
      have b13 := (Same.but (h := h) s2).trans b3
      have hR3 := b13 _ _ hRh hR1
      refine ⟨_, rfl, _, rfl, hok.log, _, _, rfl, rfl, big _ (by show 5 + (nz (k : Nat)).length ≤ _; omega), by show 1 ≤ sizeLine; decide, fun a na => ?_⟩
      generalize hg : upd _ a _ = H4
      obtain ⟨s4, e4⟩ := new_of na hg
      have hR4 := s4 _ _ hR3
      refine ⟨_, rfl, 1, rfl, R, _, rfl, SqL.of (K := K) hR4, fun U nU => ?_⟩
      generalize hg : upd _ U _ = H5
      obtain ⟨s5, e5⟩ := new_of nU hg
      rw [show (some (1 : Int)) = some ((1 : Nat) : Int) from rfl, cutv_from] at e5
      refine ⟨a, U, _, _, rfl, rfl, s5 _ _ e4, e5, ?_, fun c nc => ?_⟩
      · rw [List.length_drop, List.length_map]
        exact big _ (by show 1 + _ ≤ _; omega)
      generalize hg : upd _ c _ = H6
      obtain ⟨s6, e6⟩ := new_of nc hg
      rw [map_set0 hne] at e6
      have s46 := (s4.trans s5).trans s6
      refine ⟨_, rfl, R, _, rfl, .inl (SqL.of (K := K) (s6 _ _ (s5 _ _ hR4))), _, _, rfl, rfl, ?_⟩
      rw [List.length_map]
      refine ⟨by show 2 ≤ sizeLine; decide, fin (row := rows.length + 1) (b13.same s46) (h3.same s46) e6 (hand_ne (h3.same (s4.trans s5)) nc) ?_ (g1 hk1 hk2)⟩
      rw [if_neg (by omega)]
      omega
    -- kind == 2
    refine ⟨_, rfl, rfl, _, rfl, ite2 (fun _ => ?_) (fun _ => ?_)⟩
    · refine ⟨_, rfl, _, rfl, _, _, rfl, rfl, _, rfl, R, _, rfl, SqL.of (K := K) hR1, fun U nU => ?_⟩
      generalize hg : upd _ U _ = H2
      obtain ⟨s2, e2⟩ := new_of nU hg
      rw [show ((L : Nat) : Int) + 2 - 1 = ((L + 1 : Nat) : Int) by omega, cutv_first] at e2
      refine ⟨_, rfl, h, d, ds, rfl, h1.same s2, fun z H3 hz b3 h3 => ?_⟩
      have hUh := hand_ne h1 nU
      refine ⟨by show 1 ≤ sizeLine; decide, fun a na => ?_⟩
      generalize hg : upd _ a _ = H4
      obtain ⟨s4, e4⟩ := new_of na hg
      have b13 := (Same.but (h := h) s2).trans b3
      refine ⟨U, a, _, _, rfl, rfl, s4 _ _ (b3 _ _ hUh e2), e4, ?_, fun c nc => ?_⟩
      · rw [List.length_take, List.length_map]
        exact big _ (by show min _ _ + 1 ≤ _; omega)
      generalize hg : upd _ c _ = H5
      obtain ⟨s5, e5⟩ := new_of nc hg
      refine ⟨_, rfl, _, rfl, _, rfl, R, _, rfl, SqL.of (K := K) (s5 _ _ (s4 _ _ (b13 _ _ hRh hR1))), fun X nX => ?_⟩
      generalize hg : upd _ X _ = H6
      obtain ⟨s6, e6⟩ := new_of nX hg
      rw [show ((L : Nat) : Int) + 2 = ((L + 1 + 1 : Nat) : Int) by omega, cutv_from] at e6
      refine ⟨c, X, _, _, rfl, rfl, s6 _ _ e5, e6, ?_, fun Y nY => ?_⟩
      · rw [List.length_append, List.length_take, List.length_map, List.length_drop, List.length_map]
        exact big _ (by show min _ _ + 1 + _ ≤ _; omega)
      generalize hg : upd _ Y _ = H7
      obtain ⟨s7, e7⟩ := new_of nY hg
      rw [map_setk (by omega)] at e7
      have s47 := ((s4.trans s5).trans s6).trans s7
      refine ⟨_, rfl, by show 2 ≤ sizeLine; decide, fin (row := L + 2) (b13.same s47) (h3.same s47) e7 (hand_ne (h3.same ((s4.trans s5).trans s6)) nY) ?_ (g2 (wrongNms_bad hz))⟩
      rw [if_neg (by omega)]
      omega
    -- kind == 3
    refine ⟨_, rfl, rfl, _, rfl, ite2 (fun _ => ?_) (fun _ => ?_)⟩
    · refine ⟨_, rfl, _, rfl, h, d, ds, _, rfl, by omega, h1, fun r2 H2 r20 r21 b2 h2 _ => ?_⟩
      obtain ⟨j, rfl⟩ : ∃ j : Nat, r2 = j := ⟨r2.toNat, by omega⟩
      have hR2 := b2 _ _ hRh hR1
      refine ⟨_, _, rfl, rfl, _, rfl, _, rfl, _, rfl, R, _, rfl, SqL.of (K := K) hR2, fun U nU => ?_⟩
      generalize hg : upd _ U _ = H3
      obtain ⟨s3, e3⟩ := new_of nU hg
      rw [show (1 : Int) + (j : Nat) = ((j + 1 : Nat) : Int) by omega, cutv_first, ← List.map_take] at e3
      refine ⟨_, rfl, _, _, rfl, rfl, by show 2 ≤ sizeLine; decide, fin (row := j + 1 + 1) (b2.same s3) (h2.same s3) e3 (hand_ne h2 nU) ?_ (g3 (by omega) (by omega))⟩
      rw [if_neg (by omega)]
      omega
    -- kind == 4
    refine ⟨_, rfl, rfl, _, rfl, ite2 (fun _ => ?_) (fun _ => ?_)⟩
    · refine ⟨_, rfl, by show 1 ≤ sizeLine; decide, fun a na => ?_⟩
      generalize hg : upd _ a _ = H2
      obtain ⟨s2, e2⟩ := new_of na hg
      refine ⟨R, a, _, _, rfl, rfl, s2 _ _ hR1, e2, ?_, fun c nc => ?_⟩
      · rw [List.length_map]
        exact big _ (by show _ + 1 ≤ _; omega)
      generalize hg : upd _ c _ = H3
      obtain ⟨s3, e3⟩ := new_of nc hg
      have e3 : H3 c = some (.lst ((rows ++ [("" : PySem.Str)]).map V.str)) := by
        rw [e3, List.map_append]
        rfl
      refine ⟨by show 1 ≤ sizeLine; decide, fun b nb => ?_⟩
      generalize hg : upd _ b _ = H4
      obtain ⟨s4, e4⟩ := new_of nb hg
      refine ⟨by show 2 ≤ sizeLine; decide, fun A nA => ?_⟩
      generalize hg : upd _ A _ = H5
      obtain ⟨s5, e5⟩ := new_of nA hg
      have s25 := ((s2.trans s3).trans s4).trans s5
      have hAh := hand_ne (h1.same ((s2.trans s3).trans s4)) nA
      have hch := hand_ne (h1.same s2) nc
      have hbh := hand_ne (h1.same ((s2.trans s3))) nb
      refine ⟨_, rfl, h, d, ds, 2, rfl, by decide, h1.same s25, fun r2 H6 r20 r21 b6 h6 _ => ?_⟩
      have b16 := (Same.but (h := h) s25).trans b6
      have c2 : r2 = 0 ∨ r2 = 1 := by omega
      rcases c2 with rfl | rfl
      · refine ⟨A, _, _, _, rfl, rfl, SqL.of (K := K) (b6 _ _ hAh e5), atI_nat (j := 0) rfl, by show 2 ≤ sizeLine; decide, fin (row := rows.length + 1) b16 h6 (b6 _ _ hch (s5 _ _ (s4 _ _ e3))) hch ?_ g4⟩
        rw [if_pos rfl, List.length_append]
        rfl
      · exact ⟨A, _, _, _, rfl, rfl, SqL.of (K := K) (b6 _ _ hAh e5), atI_nat (j := 1) rfl, by show 2 ≤ sizeLine; decide, fin (sp := [("" : PySem.Str)]) (row := 1) b16 h6 (b6 _ _ hbh (s5 _ _ e4)) hbh rfl g4b⟩
    -- a token's row
    refine ⟨_, rfl, _, rfl, _, rfl, R, _, rfl, .inl (SqL.of (K := K) hR1), _, rfl, _, _, rfl, rfl, ?_⟩
    rw [List.length_map]
    refine ⟨h, d, ds, _, rfl, by omega, h1, fun r2 H2 r20 r21 b2 h2 _ => ?_⟩
    obtain ⟨j, rfl⟩ : ∃ j : Nat, r2 = j := ⟨r2.toNat, by omega⟩
    have hR2 := b2 _ _ hRh hR1
    have hk1 : L + 2 ≤ L + 2 + j := by omega
    have hk2 : L + 2 + j < rows.length := by omega
    have ek : ((L : Nat) : Int) + 2 + (j : Nat) = ((L + 2 + j : Nat) : Int) := by omega
    obtain ⟨t, okt, et⟩ := htk hk1 hk2
    refine ⟨_, _, rfl, rfl, ?_⟩
    refine ⟨_, rfl, h, d, ds, rfl, h2, fun z1 H3 hz1 b3 h3 => ?_⟩
    refine ⟨_, rfl, _, rfl, _, rfl, R, _, _, _, rfl, rfl, SqL.of (K := K) (b3 _ _ hRh hR2), (ek ▸ map_atI et : atI _ (((L : Nat) : Int) + 2 + (j : Nat)) = _), h, d, ds, t, rfl, okt, h3, fun z2 H4 hz2 b4 h4 => ?_⟩
    refine ⟨by show 2 ≤ sizeLine; decide, fun A nA => ?_⟩
    generalize hg : upd _ A _ = H5
    obtain ⟨s5, e5⟩ := new_of nA hg
    have hAh := hand_ne h4 nA
    refine ⟨_, rfl, h, d, ds, 2, rfl, by decide, h4.same s5, fun r3 H6 r30 r31 b6 h6 _ => ?_⟩
    obtain ⟨z, hz, ha⟩ : ∃ z, WrT z ∧ atI [V.str z1, V.str z2] r3 = some (.str z) := by
      have c3 : r3 = 0 ∨ r3 = 1 := by omega
      rcases c3 with rfl | rfl
      · exact ⟨z1, wrt_tok hz1, atI_nat (j := 0) rfl⟩
      · exact ⟨z2, hz2, atI_nat (j := 1) rfl⟩
    refine ⟨A, _, _, _, rfl, rfl, SqL.of (K := K) (b6 _ _ hAh e5), ha, ?_⟩
    have b16 := (((b2.trans b3).trans b4).same s5).trans b6
    have hR6 := b16 _ _ hRh hR1
    refine ⟨_, rfl, _, rfl, _, rfl, R, _, rfl, SqL.of (K := K) hR6, fun U nU => ?_⟩
    generalize hg : upd _ U _ = H7
    obtain ⟨s7, e7⟩ := new_of nU hg
    rw [ek, cutv_first] at e7
    refine ⟨_, rfl, by show 1 ≤ sizeLine; decide, fun a na => ?_⟩
    generalize hg : upd _ a _ = H8
    obtain ⟨s8, e8⟩ := new_of na hg
    refine ⟨U, a, _, _, rfl, rfl, s8 _ _ e7, e8, ?_, fun c nc => ?_⟩
    · rw [List.length_take, List.length_map]
      exact big _ (by show min _ _ + 1 ≤ _; omega)
    generalize hg : upd _ c _ = H9
    obtain ⟨s9, e9⟩ := new_of nc hg
    refine ⟨_, rfl, _, rfl, _, _, rfl, rfl, _, rfl, R, _, rfl, SqL.of (K := K) (s9 _ _ (s8 _ _ (s7 _ _ hR6))), fun X nX => ?_⟩
    generalize hg : upd _ X _ = H10
    obtain ⟨s10, e10⟩ := new_of nX hg
    rw [show ((L : Nat) : Int) + 2 + (j : Nat) + 1 = ((L + 2 + j + 1 : Nat) : Int) by omega, cutv_from] at e10
    refine ⟨c, X, _, _, rfl, rfl, s10 _ _ e9, e10, ?_, fun Y nY => ?_⟩
    · rw [List.length_append, List.length_take, List.length_map, List.length_drop, List.length_map]
      exact big _ (by show min _ _ + 1 + _ ≤ _; omega)
    generalize hg : upd _ Y _ = H11
    obtain ⟨s11, e11⟩ := new_of nY hg
    rw [map_setk hk2] at e11
    have s711 := (((s7.trans s8).trans s9).trans s10).trans s11
    refine ⟨_, rfl, _, _, rfl, rfl, by show 2 ≤ sizeLine; decide, fin (row := L + 2 + j + 1) (b16.same s711) (h6.same s711) e11 (hand_ne (h6.same (((s7.trans s8).trans s9).trans s10)) nY) ?_ (g5 hk1 hk2 hz)⟩
    rw [if_neg (by omega)]
    omega
end
end SW

namespace SW
open PySem PySem.Spec PyProof.Rows L2
theorem depth_ints : ∀ ns : List Int, PyData.depthAll (ns.map PyData.int) = 0
  | [] => rfl
  | n :: r => by
    show max 0 (PyData.depthAll (r.map PyData.int)) = 0
    rw [depth_ints r]
    rfl
theorem lay_ints : ∀ ns : List Int, PyData.canLayAll0 (ns.map PyData.int) = true
  | [] => rfl
  | n :: r => lay_ints r
theorem tk_shape {t : Tk} (h : PyData.strOk t.w = true) : t.enc.canLay0 = true ∧ t.enc.depth ≤ 2 := by
  unfold Tk.enc
  have h2 := depth_ints t.ns
  cases t.d with
  | true =>
    rw [if_pos rfl]
    refine ⟨?_, ?_⟩
    · show (PyData.strOk t.w && (PyData.canLayAll0 (t.ns.map PyData.int) && true)) = true
      rw [h, lay_ints]
      rfl
    · show max 0 (max (PyData.depthAll (t.ns.map PyData.int) + 1) 0) + 1 ≤ 2
      omega
  | false =>
    rw [if_neg Bool.false_ne_true]
    refine ⟨?_, ?_⟩
    · show (PyData.strOk t.w && PyData.canLayAll0 (t.ns.map PyData.int)) = true
      rw [h, lay_ints]
      rfl
    · show max 0 (PyData.depthAll (t.ns.map PyData.int)) + 1 ≤ 2
      omega
theorem tks_shape : ∀ {us : List Tk}, (∀ u, u ∈ us → PyData.strOk u.w = true) → PyData.canLayAll0 (us.map Tk.enc) = true ∧ PyData.depthAll (us.map Tk.enc) ≤ 2
  | [], _ => ⟨rfl, Nat.zero_le _⟩
  | u :: r, h => by
    obtain ⟨h1, h2⟩ := tk_shape (h u List.mem_cons_self)
    obtain ⟨h3, h4⟩ := tks_shape (us := r) fun v hv => h v (List.mem_cons_of_mem _ hv)
    refine ⟨?_, ?_⟩
    · show (u.enc.canLay0 && PyData.canLayAll0 (r.map Tk.enc)) = true
      rw [h1, h3]
      rfl
    · show max u.enc.depth (PyData.depthAll (r.map Tk.enc)) ≤ 2
      omega
def toldD (z x : PySem.Str) (ts : List Tk) : PyData := .tuple [.str z, .str x, .tuple (ts.map Tk.enc)]
structure ToldOk (z x : PySem.Str) (ts : List Tk) : Prop where
  zl : z.length ≤ 101000
  zc : ∀ c, c ∈ z.cps.toList → c < 128
  x : LnOk x
  tm : ts.length ≤ 1000
  ts : ∀ t, t ∈ ts → t.ok
theorem PpOk.told {ls : List PySem.Str} {x : PySem.Str} {ts : List Tk} (h : PpOk ls x ts) : ToldOk (Txt.join "\n" ls) x ts := by
  refine ⟨(lsJoin_len h).1, fun c hc => ?_, h.x, h.tm, h.ts⟩
  rcases join_mem hc with hc | ⟨p, hp, hc⟩
  · have : c ∈ [10] := hc
    rw [List.mem_singleton.mp this]
    decide
  · exact ((h.ls p hp).ch c hc).2
theorem smW_str {z : PySem.Str} (h : ∀ c, c ∈ z.cps.toList → c < 128) : smW (.str z) = true := by
  unfold smW
  rw [List.all_eq_true]
  intro c hc
  have := h c hc
  exact decide_eq_true (by omega)
theorem Tk.ok.sm {t : Tk} (h : t.ok) : smW t.enc = true ∧ shW t.enc ≤ 1000 := by
  have hw : smW (.str t.w) = true := smW_str fun c hc => by
    have := h.word.2.1 c hc
    omega
  have hwl := h.word.1
  have hi : smWs (t.ns.map PyData.int) = true := smWs_map _ _ fun n hn => by
    have := h.ns n hn
    have h1 := this.1
    have h2 := this.2
    exact decide_eq_true (by omega)
  have hs := shWs_map PyData.int 70 t.ns fun n _ => Nat.le_refl _
  have hl := h.le
  unfold Tk.enc
  cases t.d with
  | true =>
    rw [if_pos rfl]
    refine ⟨?_, ?_⟩
    · show (smW (.str t.w) && (smWs (t.ns.map PyData.int) && true)) = true
      rw [hw, hi]
      rfl
    · show 10 * t.w.length + 2 + 10 + (shWs (t.ns.map PyData.int) + 10 + 10 + 0) + 10 ≤ 1000
      omega
  | false =>
    rw [if_neg Bool.false_ne_true]
    refine ⟨?_, ?_⟩
    · show (smW (.str t.w) && smWs (t.ns.map PyData.int)) = true
      rw [hw, hi]
      rfl
    · show 10 * t.w.length + 2 + 10 + shWs (t.ns.map PyData.int) + 10 ≤ 1000
      omega
theorem told_sm {z x : PySem.Str} {ts : List Tk} (h : ToldOk z x ts) : smW (toldD z x ts) = true ∧ (toldD z x ts).depth ≤ 60 ∧ shW (toldD z x ts) ≤ sizeLine := by
  have hx := h.x
  refine ⟨?_, ?_, ?_⟩
  · show (smW (.str z) && (smW (.str x) && (smWs (ts.map Tk.enc) && true))) = true
    rw [smW_str h.zc, smW_str fun c hc => (hx.ch c hc).2, smWs_map _ _ fun t ht => (h.ts t ht).sm.1]
    rfl
  · obtain ⟨_, h2⟩ := tks_shape (us := ts) fun u hu => (h.ts u hu).word.2.2.2.2
    show max 0 (max 0 (max (PyData.depthAll (ts.map Tk.enc) + 1) 0)) + 1 ≤ 60
    omega
  · have h1 := shWs_map Tk.enc 1000 ts fun t ht => (h.ts t ht).sm.2
    have h2 := h.zl
    have h3 := hx.len
    have h4 := h.tm
    have h5 : ts.length * (1000 + 10) ≤ 1000 * 1010 := Nat.mul_le_mul_right _ h4
    show 10 * z.length + 2 + 10 + (10 * x.length + 2 + 10 + (shWs (ts.map Tk.enc) + 10 + 10 + 0)) + 10 ≤ sizeLine
    exact Nat.le_trans (show _ ≤ 3000000 by omega) (by decide)
end SW

namespace SW
open PySem PySem.Spec PyProof.Rows L2
abbrev s_law : Stmt := topS 35
theorem sc_law : FnScope ["script", "hand", "lines", "name", "tokens", "rows", "due", "t", "back", "spoilt", "row", "extra", "at"] ["script"] (defScope s_law) := ⟨rfl, rfl, rfl, by decide +kernel, rfl, by decide +kernel, by decide +kernel⟩

section
variable {P : Program} {w : World} {K : PySem.W.Frag} {mg : PySem.Str → Option Value} {base : Heap} {C CP CS fI : Addr}
theorem fld3 {X : Cx} {n : Nat} {σ : L2.St} {H : Hp} {Q : VK} {p : Addr} {z x : PySem.Str} {ts : List Tk} (T : TxP K w mg C KnW) (pp : PpAt K C H p z x (ts.map Tk.enc)) (tok : ToldOk z x ts) : True := trivial
theorem spr_sum {L : Nat} {sp : List PySem.Str} (h : SpR L sp) : (sp.map (·.length)).sum + sp.length * ("\n" : PySem.Str).length ≤ 16777216 := by
  have h2 := sum_le (fun z : PySem.Str => z.length) 1000 sp h.len
  have e : ("\n" : PySem.Str).length = 1 := rfl
  have hm := h.many
  rw [e]
  omega
def spLaw (K : PySem.W.Frag) : Sp := fun vs H Q _ => ∃ (a : Addr) (ns : List Int), vs = [.ref a] ∧ SqL K H a (ns.map V.int) ∧ ns.length ≤ 63 ∧ ∀ H', Q (.bl true) H'
theorem ok_law (T : TxP K w mg C KnW) (TE : TxE K mg CP CS fI) (c_Paper : CkP K C) (c_BadLine : CkE K fI) (D_law : Df K mg "law" s_law ["script"]) (D_read_paper : Df K mg "read_paper" s_read_paper ["text"]) (D_read_many : Df K mg "_read_many" s_read_many ["row"]) (D_read_token : Df K mg "_read_token" s_read_token ["row"]) (D_is_number : Df K mg "_is_number" s_is_number ["word"]) (D_l_draws : Df K mg "_law_draws" s_l_draws ["script", "many"]) (D_l_take : Df K mg "_law_take" s_l_take ["hand", "many"]) (D_l_wide : Df K mg "_law_wide" s_l_wide ["hand", "many"]) (D_l_number : Df K mg "_law_number" s_l_number ["hand"]) (D_l_line : Df K mg "_law_line" s_l_line ["hand"]) (D_l_token : Df K mg "_law_token" s_l_token ["hand"]) (D_l_lines : Df K mg "_law_lines" s_l_lines ["hand"]) (D_l_rows : Df K mg "_law_rows" s_l_rows ["lines", "name", "tokens"]) (D_l_tokens : Df K mg "_law_tokens" s_l_tokens ["hand"]) (D_l_pick : Df K mg "_law_pick" s_l_pick ["hand", "rows"]) (D_l_wrong_first : Df K mg "_law_wrong_first" s_l_wrong_first ["hand", "many"]) (D_l_wrong_name : Df K mg "_law_wrong_name" s_l_wrong_name ["hand"]) (D_l_wrong_token : Df K mg "_law_wrong_token" s_l_wrong_token ["hand"]) (D_l_spoilt_number : Df K mg "_law_spoilt_number" s_l_spoilt_number ["hand", "row"]) (D_l_spoilt : Df K mg "_law_spoilt" s_l_spoilt ["hand", "rows", "many"]) (D_l_row_of : Df K mg "_law_row_of" s_l_row_of ["text"]) : FnOkG P w K mg base CX0 6 D_law.f D_law.fd ["script"] (spLaw K) := by
  have G_read_paper := fn_calm (ok_read_paper (P := P) (w := w) (base := base) T TE c_Paper c_BadLine D_read_paper D_read_many D_read_token D_is_number)
  have G_l_row_of := ok_l_row_of (P := P) (w := w) (base := base) T TE c_Paper c_BadLine D_l_row_of D_read_paper D_read_many D_read_token D_is_number
  have G_l_draws := ok_l_draws (P := P) (w := w) (base := base) T.toTxB D_l_draws
  have G_l_take := ok_l_take (P := P) (w := w) (base := base) T.toTxB D_l_take
  have G_l_line := ok_l_line (P := P) (w := w) (base := base) T.toTxB D_l_line D_l_take
  have G_l_lines := ok_l_lines (P := P) (w := w) (base := base) T.toTxB D_l_lines D_l_line D_l_take
  have G_l_tokens := ok_l_tokens (P := P) (w := w) (base := base) T.toTxB D_l_tokens D_l_token D_l_number D_l_wide D_l_take
  have G_l_rows := ok_l_rows (P := P) (w := w) (base := base) T.toTxB D_l_rows
  have G_l_wrong_token := ok_l_wrong_token (P := P) (w := w) (base := base) (K := K) T.toTxB D_l_wrong_token D_l_pick D_l_take
  have G_l_spoilt := ok_l_spoilt (P := P) (w := w) (base := base) (K := K) T.toTxB D_l_spoilt D_l_take D_l_pick D_l_wrong_first D_l_wrong_name D_l_wrong_token D_l_spoilt_number
  refine Fun.okG D_law.F sc_law (fun vs H Q E h => ?_) (fun cdv A outer s H vs Q E hg hr h => ?_)
  · obtain ⟨a, ns, rfl, _⟩ := h
    rfl
  · obtain ⟨a, scr, rfl, hS, hnl, q⟩ := h
    refine ⟨_, (pss_cons (ps_set (i := 1) sc_law.nd rfl (.inl rfl) (pe_lst (pa_cons (pe_call G_l_draws (hr.mono (by decide)) (by rfl) D_l_draws.g D_l_draws.F.kp D_l_draws.b .nil pass0 (pa_cons (pv 0) (pa_cons pe_int pa_nil))) (pa_cons pe_int pa_nil))))
    (pss_cons (ps_set (i := 2) sc_law.nd rfl (.inl rfl) (pe_call G_l_lines (hr.mono (by decide)) (by rfl) D_l_lines.g D_l_lines.F.kp D_l_lines.b .nil pass0 (pa_cons (pv 1) pa_nil)))
    (pss_cons (ps_set (i := 3) sc_law.nd rfl (.inl rfl) (pe_call G_l_line (hr.mono (by decide)) (by rfl) D_l_line.g D_l_line.F.kp D_l_line.b .nil pass0 (pa_cons (pv 1) pa_nil)))
    (pss_cons (ps_set (i := 4) sc_law.nd rfl (.inl rfl) (pe_call G_l_tokens (hr.mono (by decide)) (by rfl) D_l_tokens.g D_l_tokens.F.kp D_l_tokens.b .nil pass0 (pa_cons (pv 1) pa_nil)))
    (pss_cons (ps_set (i := 5) sc_law.nd rfl (.inl rfl) (pe_call G_l_rows (hr.mono (by decide)) (by rfl) D_l_rows.g D_l_rows.F.kp D_l_rows.b .nil pass0 (pa_cons (pv 2) (pa_cons (pv 3) (pa_cons (pv 4) pa_nil)))))
    (pss_cons (ps_set (i := 6) sc_law.nd rfl (.inl rfl) (pe_callB (call_reprW hg hr.units) (by rfl) T.n_repr (by decide +kernel) (pa_cons (pe_tup (pa_cons (pe_join pe_str (pv 2)) (pa_cons (pv 3) (pa_cons (pv 4) pa_nil)))) pa_nil)))
    (pss_cons (ps_for PassesOwn.never rfl (pi_range1 (by rfl) T.n_range (pa_cons pe_int pa_nil)) (pg_name (i := 7) sc_law.nd rfl (.inl rfl))
    (pss_cons (ps_set (i := 8) sc_law.nd rfl (.inl rfl) (pe_call G_read_paper (hr.mono (by decide)) (by rfl) D_read_paper.g D_read_paper.F.kp D_read_paper.b .nil pass0 (pa_cons (pe_join pe_str (pv 5)) pa_nil)))
    (pss_cons (ps_if (pt_cmpR op_ne (pe_callB (call_reprW hg hr.units) (by rfl) T.n_repr (by decide +kernel) (pa_cons (pe_tup (pa_cons (pe_fld (pv 8) rfl) (pa_cons (pe_fld (pv 8) rfl) (pa_cons (pe_fld (pv 8) rfl) pa_nil)))) pa_nil)) (pv 6) (nomark _))
    (pss_one (ps_ret pe_bl))
    pss_nil)
    (pss_cons (ps_asg (pe_call G_l_spoilt (hr.mono (by decide)) (by rfl) D_l_spoilt.g D_l_spoilt.F.kp D_l_spoilt.b .nil pass0 (pa_cons (pv 1) (pa_cons (pv 5) (pa_cons (pe_callB call_len_seq (by rfl) T.n_len PySem.boot_len (pa_cons (pv 2) pa_nil)) pa_nil)))) (pg_tup (by rfl) (pgs_cons (pg_name (i := 9) sc_law.nd rfl (.inl rfl)) (pgs_cons (pg_name (i := 10) sc_law.nd rfl (.inl rfl)) pgs_nil))))
    (Evl.pss_cut (ps_if (pt_cmpR op_eq (pv 10) pe_int (nomark _))
    (pss_one (ps_set (i := 10) sc_law.nd rfl (.inl rfl) (pe_callB call_len_seq (by rfl) T.n_len PySem.boot_len (pa_cons (pv 9) pa_nil))))
    pss_nil)
    (pss_cons (ps_set (i := 11) sc_law.nd rfl (.inl rfl) (pe_call G_l_take (hr.mono (by decide)) (by rfl) D_l_take.g D_l_take.F.kp D_l_take.b .nil pass0 (pa_cons (pv 1) (pa_cons pe_int pa_nil))))
    (Evl.pss_cut (ps_if (PW.pt (pw_and (pt_cmpR op_eq (pv 11) pe_int (nomark _)) (pw_and1 (pt_cmpR op_le (pv 10) (pe_callB call_len_seq (by rfl) T.n_len PySem.boot_len (pa_cons (pv 9) pa_nil)) (nomark _)))))
    (pss_one (ps_set (i := 9) sc_law.nd rfl (.inl rfl) (pe_slice sl_list (pv 9) po_none (po_some (pv 10)))))
    pss_nil)
    (Evl.pss_cut (ps_if (PW.pt (pw_and (pt_cmpR op_eq (pv 11) pe_int (nomark _)) (pw_and (pt_cmpR op_lt (pv 10) (pe_callB call_len_seq (by rfl) T.n_len PySem.boot_len (pa_cons (pv 9) pa_nil)) (nomark _)) (pw_and1 (pt_cmpR op_eq (pe_callB call_len_seq (by rfl) T.n_len PySem.boot_len (pa_cons (pv 9) pa_nil)) (pe_callB call_len_seq (by rfl) T.n_len PySem.boot_len (pa_cons (pv 5) pa_nil)) (nomark _))))))
    (pss_cons (ps_set (i := 12) sc_law.nd rfl (.inl rfl) (pe_callB (call_max2 rfl) (by rfl) T.n_max (by decide +kernel) (pa_cons (pv 10) (pa_cons (pe_op op_add (pe_callB call_len_seq (by rfl) T.n_len PySem.boot_len (pa_cons (pv 2) pa_nil)) pe_int) pa_nil))))
    (pss_cons (ps_set (i := 12) sc_law.nd rfl (.inl rfl) (pe_op op_add (pv 12) (pe_call G_l_take (hr.mono (by decide)) (by rfl) D_l_take.g D_l_take.F.kp D_l_take.b .nil pass0 (pa_cons (pv 1) (pa_cons (pe_op op_sub (pe_callB call_len_seq (by rfl) T.n_len PySem.boot_len (pa_cons (pv 9) pa_nil)) (pv 12)) pa_nil)))))
    (pss_one (ps_set (i := 9) sc_law.nd rfl (.inl rfl) (pe_op op_cat (pe_op op_cat (pe_slice sl_list (pv 9) po_none (po_some (pv 12))) (pe_lst (pa_cons (pe_call G_l_wrong_token (hr.mono (by decide)) (by rfl) D_l_wrong_token.g D_l_wrong_token.F.kp D_l_wrong_token.b .nil pass0 (pa_cons (pv 1) pa_nil)) pa_nil))) (pe_slice sl_list (pv 9) (po_some (pe_op op_add (pv 12) pe_int)) po_none))))))
    pss_nil)
    (pss_one (ps_if (PW.pt (pw_or (pt_cmpR op_ne (pe_call G_l_row_of (hr.mono (by decide)) (by rfl) D_l_row_of.g D_l_row_of.F.kp D_l_row_of.b .nil pass0 (pa_cons (pe_join pe_str (pv 9)) pa_nil)) (pv 10) (nomark _)) (pw_or1 (pt_cmpR op_ne (pe_call G_l_row_of (hr.mono (by decide)) (by rfl) D_l_row_of.g D_l_row_of.F.kp D_l_row_of.b .nil pass0 (pa_cons (pe_join pe_str (pv 9)) pa_nil)) (pv 10) (nomark _)))))
    (pss_one (ps_ret pe_bl))
    pss_nil))))))))))
    (pss_cons (ps_set (i := 8) sc_law.nd rfl (.inl rfl) (pe_call G_read_paper (hr.mono (by decide)) (by rfl) D_read_paper.g D_read_paper.F.kp D_read_paper.b .nil pass0 (pa_cons (pe_join pe_str (pv 5)) pa_nil)))
    (pss_one (ps_ret (pe_cmpR op_eq (pe_callB (call_reprW hg hr.units) (by rfl) T.n_repr (by decide +kernel) (pa_cons (pe_tup (pa_cons (pe_fld (pv 8) rfl) (pa_cons (pe_fld (pv 8) rfl) (pa_cons (pe_fld (pv 8) rfl) pa_nil)))) pa_nil)) (pv 6) (nomark _)))))))))))), ?_⟩
    -- the hand
    refine ⟨_, rfl, a, scr, 220, rfl, hS, by omega, by decide, fun D ds H1 s1 nD eD => ?_⟩
    refine ⟨by show 2 ≤ sizeLine; decide, fun h nh => ?_⟩
    generalize hG : upd H1 h _ = H2
    obtain ⟨s2, e2⟩ := new_of nh hG
    have hH : Hand H2 h D ds := ⟨⟨0, e2⟩, s2 _ _ eD, ne_of_none eD nh⟩
    -- drawn
    refine ⟨_, rfl, h, D, ds, rfl, hH, fun L ls H3 lne ll lok b3 h3 hLh eL => ?_⟩
    refine ⟨_, rfl, h, D, ds, rfl, h3, fun x H4 xok b4 h4 => ?_⟩
    refine ⟨_, rfl, h, D, ds, rfl, h4, fun v ts H5 tne tl tok b5 h5 hv => ?_⟩
    have eL5 := b5 _ _ hLh (b4 _ _ hLh eL)
    have ok : PpOk ls x ts := ⟨lne, by omega, lok, xok, tne, by omega, tok⟩
    have tok' := ok.told
    have hj := lsJoin_len ok
    have jl : (ls.map (·.length)).sum + ls.length * ("\n" : PySem.Str).length ≤ 16777216 := Nat.le_trans hj.2 (by decide)
    clear b3 b4 b5 h3 h4 hH s2 s1 eL
    -- rows
    refine ⟨_, rfl, _, rfl, _, rfl, L, ls, x, v, ts, rfl, ok, eL5, hv, fun R H6 s6 eR => ?_⟩
    have hRh : R ≠ h := fun e => by
      obtain ⟨⟨k, e5⟩, _⟩ := h5
      have e6 := s6 _ _ e5
      rw [e] at eR
      rw [eR] at e6
      unfold pRows at e6
      injection e6 with e6
      injection e6 with e6
      injection e6 with e6
      cases e6
    have eL6 := s6 _ _ eL5
    have h6 := h5.same s6
    have hv6 := dp_same s6 _ _ hv
    -- due
    refine ⟨⟨_, rfl⟩, _, rfl, "\n", L, ls, rfl, rfl, .inl (SqL.of eL6), jl, _, rfl, _, rfl, by show 3 ≤ sizeLine; decide, fun t nt => ?_⟩
    generalize hG : upd H6 t _ = H7
    obtain ⟨s7, e7⟩ := new_of nt hG
    obtain ⟨g1, g2, g3⟩ := told_sm tok'
    refine ⟨t, toldD (Txt.join "\n" ls) x ts, rfl, dp_tup3 e7 (.str _) (.str _) (dp_same s7 _ _ hv6), g1, g2, g3, ?_⟩
    have eL7 := s7 _ _ eL6
    have eR7 := s7 _ _ eR
    have h7 := h6.same s7
    clear s6 s7 e7 hv6 hv eL5 eL6 eR h5 h6
    have hgood := rows_good ok
    have hspr := rows_spr ok
    have hjr := pRows_join ok
    generalize hrs : pRows ls x ts = rs at hgood hspr hjr
    have eR7 : H7 R = some (.lst (rs.map V.str)) := by rw [← hrs]; exact eR7
    have noB : ∀ n, parse rs ≠ .bad n := fun n e => by
      rw [hgood] at e
      cases e
    refine ⟨_, rfl, by decide, by decide, ?_⟩
    refine for_range (lo := 0) (n := 4) (fun i σ H9 => ∃ (y7 y8 y9 y10 y11 y12 : Option V), σ = [some (.ref a), some (.ref h), some (.ref L), some (.str x), some v, some (.ref R), some (.str (toldD (Txt.join "\n" ls) x ts).shown), y7, y8, y9, y10, y11, y12] ∧ But h H7 H9 ∧ Hand H9 h D ds)
      ⟨_, _, _, _, _, _, rfl, Same.but (Same.refl H7), h7⟩ (fun i σ H9 hi hP => ?_) (fun σ H9 hP => ?_)
    · obtain ⟨y7, y8, y9, y10, y11, y12, rfl, b9, h9⟩ := hP
      have eR9 := b9 _ _ hRh eR7
      refine ⟨⟨_, rfl⟩, _, rfl, "\n", R, _, rfl, rfl, .inl (SqL.of eR9), hjr, rs, rfl, hspr.rs, fun n hn => absurd hn (noB n), fun ls' x' ts' hg' p H10 s10 np pp => ?_⟩
      have hg' := hgood.symm.trans hg'
      injection hg' with i1 i2 i3
      subst i1 i2 i3
      obtain ⟨dx, vp, hp, hvp⟩ := pp
      refine ⟨_, rfl, p, C, dx, _, _, rfl, hp, T.cl, T.nT, rfl, _, rfl, p, C, dx, _, _, rfl, hp, T.cl, T.nN, rfl, _, rfl, p, C, dx, _, _, rfl, hp, T.cl, T.nK, rfl, by show 3 ≤ sizeLine; decide, fun t nt => ?_⟩
      generalize hg2 : upd _ t _ = H11
      obtain ⟨s11, e11⟩ := new_of nt hg2
      refine ⟨t, toldD (Txt.join "\n" ls) x ts, rfl, dp_tup3 e11 (.str _) (.str x) (dp_same s11 _ _ hvp), g1, g2, g3, _, rfl, rfl, _, rfl, iteNS rfl ?_⟩
      have b11 := (b9.same s10).same s11
      have h11 := (h9.same s10).same s11
      -- spoilt, row
      refine ⟨_, rfl, _, rfl, _, rfl, L, _, rfl, .inl (SqL.of (b11 _ _ hLh eL7)), ?_⟩
      rw [List.length_map]
      refine ⟨h, D, R, ds, ls, x, ts, rfl, ok, h11, hRh, by rw [hrs]; exact b11 _ _ hRh eR7, fun t2 B sp r0 row H12 b12 h12 e1 e2 hB _ hrow spl => ?_⟩
      refine ⟨t2, _, rfl, SqT.of e1, rfl, _, _, rfl, _, _, rfl, rfl, ?_⟩
      have b712 := b11.trans b12
      -- row == 0
      refine ⟨fun σ' H' => ∃ (y11 y12 : Option V), σ' = [some (.ref a), some (.ref h), some (.ref L), some (.str x), some v, some (.ref R), some (.str (toldD (Txt.join "\n" ls) x ts).shown), some (.int ((0 : Int) + (i : Nat))), some (.ref p), some (.ref B), some (.int (row : Nat)), y11, y12] ∧ H' = H12, ?_, ?_⟩
      · refine ⟨_, rfl, rfl, _, rfl, ite2 (fun e => ?_) (fun e => ?_)⟩
        · have e : r0 = 0 := by
            have e := of_decide_eq_true e
            injection e
          rw [if_pos e] at hrow
          refine ⟨_, rfl, B, _, rfl, .inl (SqL.of e2), ?_⟩
          rw [List.length_map, ← hrow]
          exact ⟨_, _, rfl, rfl⟩
        · have e : ¬ r0 = 0 := fun e' => by
            rw [e'] at e
            exact e rfl
          rw [if_neg e] at hrow
          rw [← hrow]
          exact ⟨_, _, rfl, rfl⟩
      intro σ' H' hM
      obtain ⟨y11, y12, rfl, rfl⟩ := hM
      -- extra
      refine ⟨_, rfl, h, D, ds, 6, rfl, by decide, h12, fun r3 H13 r30 r31 b13 h13 _ => ?_⟩
      have b713 := b712.trans b13
      have e13 := b13 _ _ hB e2
      refine ⟨fun σ' H' => ∃ (B : Addr) (sp : List PySem.Str) (y12 : Option V), σ' = [some (.ref a), some (.ref h), some (.ref L), some (.str x), some v, some (.ref R), some (.str (toldD (Txt.join "\n" ls) x ts).shown), some (.int ((0 : Int) + (i : Nat))), some (.ref p), some (.ref B), some (.int (row : Nat)), some (.int r3), y12] ∧ But h H7 H' ∧ Hand H' h D ds ∧ H' B = some (.lst (sp.map V.str)) ∧ B ≠ h ∧ Spoil ls.length sp row, ?_, ?_⟩
      · refine ⟨_, rfl, rfl, _, rfl, ite2 (fun _ => ?_) (fun _ => ⟨_, _, _, rfl, b713, h13, e13, hB, spl⟩)⟩
        refine ⟨_, rfl, _, rfl, B, _, rfl, .inl (SqL.of e13), _, _, rfl, rfl, _, rfl, ?_⟩
        rw [List.length_map]
        refine ite2 (fun e => ?_) (fun _ => ⟨_, _, _, rfl, b713, h13, e13, hB, spl⟩)
        have e := of_decide_eq_true e
        refine ⟨_, rfl, _, rfl, _, rfl, B, _, rfl, SqL.of e13, fun U nU => ?_⟩
        generalize hg2 : upd _ U _ = H14
        obtain ⟨s14, e14⟩ := new_of nU hg2
        rw [cutv_first, ← List.map_take] at e14
        exact ⟨_, _, _, rfl, b713.same s14, h13.same s14, e14, hand_ne h13 nU, spl.cut (by omega)⟩
      intro σ' H' hM
      obtain ⟨B, sp, y12, rfl, b14, h14, e14, hB, spl⟩ := hM
      refine ⟨fun σ' H' => ∃ (B : Addr) (sp : List PySem.Str) (y12 : Option V), σ' = [some (.ref a), some (.ref h), some (.ref L), some (.str x), some v, some (.ref R), some (.str (toldD (Txt.join "\n" ls) x ts).shown), some (.int ((0 : Int) + (i : Nat))), some (.ref p), some (.ref B), some (.int (row : Nat)), some (.int r3), y12] ∧ But h H7 H' ∧ Hand H' h D ds ∧ H' B = some (.lst (sp.map V.str)) ∧ B ≠ h ∧ Spoil ls.length sp row, ?_, ?_⟩
      · have skip : ∀ (N : L2.St → Hp → Prop), N = (fun σ' H' => ∃ (B : Addr) (sp : List PySem.Str) (y12 : Option V), σ' = [some (.ref a), some (.ref h), some (.ref L), some (.str x), some v, some (.ref R), some (.str (toldD (Txt.join "\n" ls) x ts).shown), some (.int ((0 : Int) + (i : Nat))), some (.ref p), some (.ref B), some (.int (row : Nat)), some (.int r3), y12] ∧ But h H7 H' ∧ Hand H' h D ds ∧ H' B = some (.lst (sp.map V.str)) ∧ B ≠ h ∧ Spoil ls.length sp row) → N [some (.ref a), some (.ref h), some (.ref L), some (.str x), some v, some (.ref R), some (.str (toldD (Txt.join "\n" ls) x ts).shown), some (.int ((0 : Int) + (i : Nat))), some (.ref p), some (.ref B), some (.int (row : Nat)), some (.int r3), y12] H' := fun N e => by
          rw [e]
          exact ⟨_, _, _, rfl, b14, h14, e14, hB, spl⟩
        refine ⟨_, rfl, rfl, _, rfl, ite2 (fun _ => ?_) (fun _ => skip _ rfl)⟩
        refine ⟨_, rfl, _, rfl, B, _, rfl, .inl (SqL.of e14), _, _, rfl, rfl, _, rfl, ?_⟩
        rw [List.length_map]
        refine ite2 (fun e => ?_) (fun _ => skip _ rfl)
        have e := of_decide_eq_true e
        refine ⟨_, rfl, B, _, rfl, .inl (SqL.of e14), _, rfl, R, _, rfl, .inl (SqL.of (b14 _ _ hRh eR7)), rfl, _, rfl, ?_⟩
        rw [List.length_map, List.length_map]
        refine ite2 (fun e' => ?_) (fun _ => skip _ rfl)
        have e' : (sp.length : Int) = (rs.length : Int) := by
          have e' := of_decide_eq_true e'
          injection e'
        have hrl : ls.length + 3 ≤ rs.length := by
          have := (rows_n ok).1
          rw [hrs] at this
          exact this
        refine ⟨_, rfl, _, rfl, L, _, rfl, .inl (SqL.of (b14 _ _ hLh eL7)), _, _, rfl, rfl, _, _, rfl, ?_⟩
        rw [List.length_map]
        obtain ⟨m, hm1, hm2, hm3, hm4⟩ : ∃ m : Nat, (if ((ls.length : Nat) : Int) + 2 > ((row : Nat) : Int) then ((ls.length : Nat) : Int) + 2 else ((row : Nat) : Int)) = (m : Nat) ∧ row ≤ m ∧ ls.length + 2 ≤ m ∧ m < sp.length := by
          by_cases hc : ((ls.length : Nat) : Int) + 2 > ((row : Nat) : Int)
          · rw [if_pos hc]
            exact ⟨ls.length + 2, by omega, by omega, by omega, by omega⟩
          · rw [if_neg hc]
            exact ⟨row, by omega, by omega, by omega, by omega⟩
        rw [hm1]
        refine ⟨_, rfl, _, rfl, _, rfl, B, _, rfl, .inl (SqL.of e14), _, rfl, _, _, rfl, rfl, ?_⟩
        rw [List.length_map]
        refine ⟨h, D, ds, _, rfl, by omega, h14, fun r4 H15 r40 r41 b15 h15 _ => ?_⟩
        obtain ⟨j, rfl⟩ : ∃ j : Nat, r4 = j := ⟨r4.toNat, by omega⟩
        have ek : ((m : Nat) : Int) + (j : Nat) = ((m + j : Nat) : Int) := by omega
        have e15 := b15 _ _ hB e14
        refine ⟨_, _, rfl, rfl, _, rfl, _, rfl, _, rfl, B, _, rfl, SqL.of e15, fun U nU => ?_⟩
        generalize hg2 : upd _ U _ = H16
        obtain ⟨s16, e16⟩ := new_of nU hg2
        rw [ek, cutv_first] at e16
        refine ⟨_, rfl, h, D, ds, rfl, h15.same s16, fun z H17 hz b17 h17 => ?_⟩
        have hUh := hand_ne h15 nU
        have b1517 := (Same.but (h := h) s16).trans b17
        refine ⟨by show 1 ≤ sizeLine; decide, fun o no => ?_⟩
        generalize hg2 : upd _ o _ = H18
        obtain ⟨s18, e18⟩ := new_of no hg2
        have hsm := spl.spr.many
        refine ⟨U, o, _, _, rfl, rfl, s18 _ _ (b17 _ _ hUh e16), e18, ?_, fun c nc => ?_⟩
        · rw [List.length_take, List.length_map]
          exact Nat.le_trans (show _ ≤ 4000 by show min _ _ + 1 ≤ _; omega) (by decide)
        generalize hg2 : upd _ c _ = H19
        obtain ⟨s19, e19⟩ := new_of nc hg2
        refine ⟨_, rfl, _, rfl, _, _, rfl, rfl, _, rfl, B, _, rfl, SqL.of (s19 _ _ (s18 _ _ (b1517 _ _ hB e15))), fun X nX => ?_⟩
        generalize hg2 : upd _ X _ = H20
        obtain ⟨s20, e20⟩ := new_of nX hg2
        rw [show ((m : Nat) : Int) + (j : Nat) + 1 = ((m + j + 1 : Nat) : Int) by omega, cutv_from] at e20
        refine ⟨c, X, _, _, rfl, rfl, s20 _ _ e19, e20, ?_, fun Y nY => ?_⟩
        · rw [List.length_append, List.length_take, List.length_map, List.length_drop, List.length_map]
          exact Nat.le_trans (show _ ≤ 4000 by show min _ _ + 1 + _ ≤ _; omega) (by decide)
        generalize hg2 : upd _ Y _ = H21
        obtain ⟨s21, e21⟩ := new_of nY hg2
        rw [map_setk (by omega)] at e21
        have s1821 := ((s18.trans s19).trans s20).trans s21
        exact ⟨_, _, _, rfl, (b14.trans (b15.trans b1517)).same s1821, h17.same s1821, e21, hand_ne (h17.same ((s18.trans s19).trans s20)) nY, spl.more (by omega) (by omega) (by omega) (wrt_tok hz)⟩
      intro σ' H' hM
      obtain ⟨B, sp, y12, rfl, b15, h15, e15, hB, spl⟩ := hM
      have hjs := spr_sum spl.spr
      refine ⟨⟨_, rfl⟩, _, rfl, "\n", B, _, rfl, rfl, .inl (SqL.of e15), hjs, sp, _, rfl, spl.spr.rs, spl.bad, fun H16 s16 => ⟨_, rfl, rfl, _, rfl, iteNS rfl ?_⟩⟩
      refine ⟨⟨_, rfl⟩, _, rfl, "\n", B, _, rfl, rfl, .inl (SqL.of (s16 _ _ e15)), hjs, sp, _, rfl, spl.spr.rs, spl.bad, fun H17 s17 => ⟨_, rfl, rfl, _, rfl, iteNS rfl ?_⟩⟩
      exact ⟨_, _, _, _, _, _, rfl, (b15.same s16).same s17, (h15.same s16).same s17⟩
    · obtain ⟨y7, y8, y9, y10, y11, y12, rfl, b9, h9⟩ := hP
      have eR9 := b9 _ _ hRh eR7
      refine ⟨⟨_, rfl⟩, _, rfl, "\n", R, _, rfl, rfl, .inl (SqL.of eR9), hjr, rs, rfl, hspr.rs, fun n hn => absurd hn (noB n), fun ls' x' ts' hg' p H10 s10 np pp => ?_⟩
      have hg' := hgood.symm.trans hg'
      injection hg' with i1 i2 i3
      subst i1 i2 i3
      obtain ⟨dx, vp, hp, hvp⟩ := pp
      refine ⟨_, rfl, p, C, dx, _, _, rfl, hp, T.cl, T.nT, rfl, _, rfl, p, C, dx, _, _, rfl, hp, T.cl, T.nN, rfl, _, rfl, p, C, dx, _, _, rfl, hp, T.cl, T.nK, rfl, by show 3 ≤ sizeLine; decide, fun t nt => ?_⟩
      generalize hg2 : upd _ t _ = H11
      obtain ⟨s11, e11⟩ := new_of nt hg2
      refine ⟨t, toldD (Txt.join "\n" ls) x ts, rfl, dp_tup3 e11 (.str _) (.str x) (dp_same s11 _ _ hvp), g1, g2, g3, _, rfl, rfl, ?_⟩
      rw [decide_eq_true rfl]
      exact q H11
end
end SW

namespace SW
open PySem PySem.Spec PyProof.Rows L2
def txp_mk {K : PySem.W.Frag} {w : World} {h : Heap} {mg : PySem.Str → Option Value} {C aS : Addr} {es : Array DictEntry} {en : Nat} {tD tM : PySem.Tok} {uD uM : Value} {u0 : Value} {u1 : Value} {u2 : Value} {u3 : Value} {u4 : Value} {u5 : Value} {u6 : Value} {u7 : Value} {u8 : Value} {u9 : Value} (X : K.In h) (G : h.Ns mainGlobals mg) (B : TxB mg)
    (aC : PySem.W.nsIn K mainGlobals "Paper" = some (some (.ref C))) (as : PySem.W.nsIn K mainGlobals "SIZES" = some (some (.ref aS))) (kl : K.lookup aS = some ⟨.type "dict", none, .dict es en, #[]⟩) (kk : PySem.W.KeysLit w.params es.toList) (lo : (aS == sysModules) = false)
    (e0 : PySem.W.nsIn K aS "on" = some (some u0)) (r0 : RelV (V.int 0) u0)
    (e1 : PySem.W.nsIn K aS "over" = some (some u1)) (r1 : RelV (V.int 0) u1)
    (e2 : PySem.W.nsIn K aS "dead" = some (some u2)) (r2 : RelV V.non u2)
    (e3 : PySem.W.nsIn K aS "pair" = some (some u3)) (r3 : RelV (V.int 2) u3)
    (e4 : PySem.W.nsIn K aS "write" = some (some u4)) (r4 : RelV (V.int 1) u4)
    (e5 : PySem.W.nsIn K aS "either" = some (some u5)) (r5 : RelV (V.int 1) u5)
    (e6 : PySem.W.nsIn K aS "all" = some (some u6)) (r6 : RelV (V.int 2) u6)
    (e7 : PySem.W.nsIn K aS "match" = some (some u7)) (r7 : RelV (V.int 2) u7)
    (e8 : PySem.W.nsIn K aS "sorted" = some (some u8)) (r8 : RelV (V.int 3) u8)
    (e9 : PySem.W.nsIn K aS "below" = some (some u9)) (r9 : RelV (V.int 3) u9)
    (g0 : PySem.W.nsIn K aS "" = some none)
    (g1 : PySem.W.nsIn K aS "onn" = some none)
    (g2 : PySem.W.nsIn K aS "ON" = some none)
    (g3 : PySem.W.nsIn K aS "met" = some none)
    (g4 : PySem.W.nsIn K aS "text" = some none)
    (g5 : PySem.W.nsIn K aS "proc" = some none)
    (g6 : PySem.W.nsIn K aS "pairs" = some none)
    (g7 : PySem.W.nsIn K aS "dead\t1" = some none)
    (g8 : PySem.W.nsIn K aS "on\t" = some none)
    (eD : PySem.W.nsIn K mainGlobals "DIGITS" = some (some uD)) (wD : uD = .str sDigits tD) (eM : PySem.W.nsIn K mainGlobals "LONGEST" = some (some uM)) (wM : uM = .int 12 tM)
    (pg : PySem.W.plainGet K C Str.empty = true) (hd : PySem.W.hasDictIn K C = true) (po : PySem.W.plainOver K C = true) (sa : PySem.W.findIn K (.ref C) "__setattr__" = some (some (.builtin "object.__setattr__")))
    (nT : PySem.W.findIn K (.ref C) "text" = some none) (nN : PySem.W.findIn K (.ref C) "name" = some none) (nK : PySem.W.findIn K (.ref C) "tokens" = some none)
    (hc : PySem.W.findIn K (.ref C) "__class__" = some (some (.builtin "object.__class__"))) (hg : PySem.W.specialIn K (.builtin "object.__class__") "__get__" = some (some (.builtin "getset_descriptor.__get__")))
    (ht : PySem.W.takesIn K (.builtin "object.__class__") = some true) (hm : PySem.W.mroIn K C (.type "object") = some true) : TxP K w mg C KnW :=
  ⟨B, aS, es, en, PySem.W.mg_of X G as, ⟨kl, kk, lo⟩, fun z hz => by
    have hz : z ∈ kinds.map (·.1) ++ wrongWs := hz
    simp only [kinds, wrongWs, List.map_cons, List.map_nil, List.cons_append, List.nil_append, List.mem_cons, List.not_mem_nil, or_false] at hz
    rcases hz with rfl | rfl | rfl | rfl | rfl | rfl | rfl | rfl | rfl | rfl | rfl | rfl | rfl | rfl | rfl | rfl | rfl | rfl | rfl
    · exact ⟨_, e0, .inr ⟨false, 0, u0, rfl, rfl, r0⟩⟩
    · exact ⟨_, e1, .inr ⟨false, 0, u1, rfl, rfl, r1⟩⟩
    · exact ⟨_, e2, .inr ⟨true, 0, u2, rfl, rfl, r2⟩⟩
    · exact ⟨_, e3, .inr ⟨false, 2, u3, rfl, rfl, r3⟩⟩
    · exact ⟨_, e4, .inr ⟨false, 1, u4, rfl, rfl, r4⟩⟩
    · exact ⟨_, e5, .inr ⟨false, 1, u5, rfl, rfl, r5⟩⟩
    · exact ⟨_, e6, .inr ⟨false, 2, u6, rfl, rfl, r6⟩⟩
    · exact ⟨_, e7, .inr ⟨false, 2, u7, rfl, rfl, r7⟩⟩
    · exact ⟨_, e8, .inr ⟨false, 3, u8, rfl, rfl, r8⟩⟩
    · exact ⟨_, e9, .inr ⟨false, 3, u9, rfl, rfl, r9⟩⟩
    · exact ⟨_, g0, .inl ⟨by decide +kernel, rfl⟩⟩
    · exact ⟨_, g1, .inl ⟨by decide +kernel, rfl⟩⟩
    · exact ⟨_, g2, .inl ⟨by decide +kernel, rfl⟩⟩
    · exact ⟨_, g3, .inl ⟨by decide +kernel, rfl⟩⟩
    · exact ⟨_, g4, .inl ⟨by decide +kernel, rfl⟩⟩
    · exact ⟨_, g5, .inl ⟨by decide +kernel, rfl⟩⟩
    · exact ⟨_, g6, .inl ⟨by decide +kernel, rfl⟩⟩
    · exact ⟨_, g7, .inl ⟨by decide +kernel, rfl⟩⟩
    · exact ⟨_, g8, .inl ⟨by decide +kernel, rfl⟩⟩, tD, m_of X G eD wD, tM, m_of X G eM wM, ⟨pg, hd, po, sa⟩, nT, nN, nK, PySem.W.mg_of X G aC, kit_self K C, hc, hg, ht, hm⟩
def ckp_mk {K : PySem.W.Frag} {C f : Addr} {oc : Value} {od an : Option Addr} {sl : Array (Option Value)} {kV doc pm cd ct : Value}
    (a : PySem.W.findIn K (.ref C) "__init__" = some (some (.ref f))) (i : PySem.W.isFn K (.ref f) = true) (l : K.lookup f = some ⟨oc, od, .func (PySem.W.fnOf "__init__" "Paper.__init__" (defArgs s_Paper) (defBody s_Paper) (defScope s_Paper) .none kV doc pm an cd ct), sl⟩) (c : PySem.W.codeIn K cd "Paper.__init__" = true) (k : PySem.W.keepIn K (.ref f) = true)
    (mk : PySem.W.makesIn K C = true) (kc : PySem.W.keepIn K (.ref C) = true) : CkP K C :=
  ⟨f, _, fun_mk (st := s_Paper) l c k, (fun_mk (st := s_Paper) l c k).binds (ps := ["self", "text", "name", "tokens"]) fun _ _ _ _ _ _ us hl => match us, hl with | [_, _, _, _], _ => rfl, ⟨mk, a, i, kc⟩⟩
def txe_mk {K : PySem.W.Frag} {h : Heap} {mg : PySem.Str → Option Value} {CP CS fI CT CR CB CN CL N : Addr} {nm q : PySem.Str} {bs bm : List Value} {sn : List PySem.Str} {sub : List Value} {ab : Bool} {col : Option Bool} {dd : Option Addr} {m0 m1 m2 m3 m5 : Option Value} (X : K.In h) (G : h.Ns mainGlobals mg)
    (x1 : PySem.W.nsIn K mainGlobals "BadPaper" = some (some (.ref CP))) (x2 : PySem.W.nsIn K mainGlobals "SwornError" = some (some (.ref CS)))
    (x3 : K.lookup CP = some (excClassObj nm q CP N bs bm true sn sub ab col dd m0 m1 m2 m3 m5 "ValueError.__new__")) (x4 : PySem.HandSPX.refsVE bm = true)
    (x5 : PySem.W.findIn K (.ref CP) "__setattr__" = some (some (.builtin "object.__setattr__"))) (x6 : PySem.W.subIn K (.ref CP) (.type "BaseException") = some true) (x7 : PySem.W.typeIn K (.ref CP) = some (.type "type")) (x8 : PySem.W.keepIn K (.ref CP) = true)
    (x9 : PySem.W.findIn K (.ref CP) "__init__" = some (some (.ref fI))) (x10 : PySem.W.typeIn K (.ref fI) = some (.type "function"))
    (x11 : PySem.W.readsIn K CS (.type "type") = true) (x12 : PySem.W.specialIn K (.ref CS) "__getattribute__" = some (some (.builtin "type.__getattribute__"))) (x13 : PySem.W.findCls K (.ref CS) (.type "type") "__init__" = some (.val (.builtin "ValueError.__init__")))
    (x14 : PySem.W.findIn K (.ref CP) "row" = some none) (x15 : PySem.W.nsIn K mainGlobals "ValueError" = some none)
    (x16 : PySem.W.findIn K (.ref CP) "__getattribute__" = some (some (.builtin "BaseException.__getattribute__"))) (x17 : PySem.W.findIn K (.ref CP) "__getattr__" = some none) (x18 : PySem.W.hasDictIn K CP = true)
    (x19 : PySem.W.findIn K (.ref CP) "__class__" = some (some (.builtin "object.__class__"))) (x20 : PySem.W.specialIn K (.builtin "object.__class__") "__get__" = some (some (.builtin "getset_descriptor.__get__"))) (x21 : PySem.W.takesIn K (.builtin "object.__class__") = some true) (x22 : PySem.W.mroIn K CP (.type "object") = some true)
    (x23 : PySem.W.exmOne K (.ref CP) (.ref CS) = some true)
    (x24 : PySem.W.nsIn K mainGlobals "BadText" = some (some (.ref CT))) (x25 : PySem.W.nsIn K mainGlobals "BadProgram" = some (some (.ref CR))) (x26 : PySem.W.nsIn K mainGlobals "BadStart" = some (some (.ref CB))) (x27 : PySem.W.nsIn K mainGlobals "NoProcedure" = some (some (.ref CN))) (x28 : PySem.W.nsIn K mainGlobals "BadLine" = some (some (.ref CL)))
    (x29 : PySem.W.kitAny K (.ref CP) [.ref CT, .ref CR, .ref CB, .ref CN] = some false) (x30 : PySem.W.kitOne K (.ref CP) (.type "ValueError") = some true) (x31 : PySem.W.kitOne K (.ref CP) (.ref CL) = some true) : TxE K mg CP CS fI where
  oex := ⟨⟨nm, q, N, bs, bm, sn, sub, ab, col, dd, m0, m1, m2, m3, m5, x3, x4⟩, x5, x6, x7, x8⟩
  iC := x9
  tI := x10
  m_BadPaper := PySem.W.mg_of X G x1
  m_SwornError := PySem.W.mg_of X G x2
  rS := x11
  gS := x12
  vS := x13
  noR := x14
  n_ValueError := PySem.W.mg_none_of X G x15
  xf := ⟨x16, x17, x6, x18⟩
  ec := ⟨x16, x17, x6, x18, x19, x20, x21, x22⟩
  te := x23
  CT := CT
  m_BadText := PySem.W.mg_of X G x24
  CR := CR
  m_BadProgram := PySem.W.mg_of X G x25
  CB := CB
  m_BadStart := PySem.W.mg_of X G x26
  CN := CN
  m_NoProcedure := PySem.W.mg_of X G x27
  CL := CL
  m_BadLine := PySem.W.mg_of X G x28
  k4 := x29
  kV := x30
  kL := x31
def cke_mk {K : PySem.W.Frag} {f : Addr} {oc : Value} {od an : Option Addr} {sl : Array (Option Value)} {kV doc pm cd ct : Value}
    (l : K.lookup f = some ⟨oc, od, .func (PySem.W.fnOf "__init__" "BadLine.__init__" (defArgs s_BadLine) (defBody s_BadLine) (defScope s_BadLine) .none kV doc pm an cd ct), sl⟩) (c : PySem.W.codeIn K cd "BadLine.__init__" = true) (k : PySem.W.keepIn K (.ref f) = true) : CkE K f :=
  ⟨_, fun_mk (st := s_BadLine) l c k, (fun_mk (st := s_BadLine) l c k).binds (ps := ["self", "row"]) fun _ _ _ _ _ _ us hl => match us, hl with | [_, _], _ => rfl⟩
end SW

namespace SW
open PySem PySem.Spec PyProof.Rows L2
theorem all_mk {P : Program} {w : World} {K : PySem.W.Frag} {mg : PySem.Str → Option Value} {fa C CP CS fI : Addr} (hfa : mg "law" = some (.ref fa)) (T : TxP K w mg C KnW) (TE : TxE K mg CP CS fI) (c_Paper : CkP K C) (c_BadLine : CkE K fI)
  (D_law : Df K mg "law" s_law ["script"]) (hb : ∀ (s : Shared) (v : Value), BindsTo s D_law.fd ⟨[v], []⟩ [("script", v)]) (D_read_paper : Df K mg "read_paper" s_read_paper ["text"]) (D_read_many : Df K mg "_read_many" s_read_many ["row"]) (D_read_token : Df K mg "_read_token" s_read_token ["row"]) (D_is_number : Df K mg "_is_number" s_is_number ["word"]) (D_l_draws : Df K mg "_law_draws" s_l_draws ["script", "many"]) (D_l_take : Df K mg "_law_take" s_l_take ["hand", "many"]) (D_l_wide : Df K mg "_law_wide" s_l_wide ["hand", "many"]) (D_l_number : Df K mg "_law_number" s_l_number ["hand"]) (D_l_line : Df K mg "_law_line" s_l_line ["hand"]) (D_l_token : Df K mg "_law_token" s_l_token ["hand"]) (D_l_lines : Df K mg "_law_lines" s_l_lines ["hand"]) (D_l_rows : Df K mg "_law_rows" s_l_rows ["lines", "name", "tokens"]) (D_l_tokens : Df K mg "_law_tokens" s_l_tokens ["hand"]) (D_l_pick : Df K mg "_law_pick" s_l_pick ["hand", "rows"]) (D_l_wrong_first : Df K mg "_law_wrong_first" s_l_wrong_first ["hand", "many"]) (D_l_wrong_name : Df K mg "_law_wrong_name" s_l_wrong_name ["hand"]) (D_l_wrong_token : Df K mg "_law_wrong_token" s_l_wrong_token ["hand"]) (D_l_spoilt_number : Df K mg "_law_spoilt_number" s_l_spoilt_number ["hand", "row"]) (D_l_spoilt : Df K mg "_law_spoilt" s_l_spoilt ["hand", "rows", "many"]) (D_l_row_of : Df K mg "_law_row_of" s_l_row_of ["text"]) :
    ∃ fd : FuncData, (∀ (s : Shared) (v : Value), BindsTo s fd ⟨[v], []⟩ [("script", v)]) ∧ ∀ base : Heap, K.In base → base.Ns mainGlobals mg → FnOkG P w K mg base CX0 6 fa fd ["script"] (spLaw K) := by
  have e := hfa.symm.trans D_law.g
  cases e
  exact ⟨D_law.fd, hb, fun base _ _ => ok_law T TE c_Paper c_BadLine D_law D_read_paper D_read_many D_read_token D_is_number D_l_draws D_l_take D_l_wide D_l_number D_l_line D_l_token D_l_lines D_l_rows D_l_tokens D_l_pick D_l_wrong_first D_l_wrong_name D_l_wrong_token D_l_spoilt_number D_l_spoilt D_l_row_of⟩
end SW

open PySem PySem.W PyProof.Rows
set_option maxHeartbeats 0 in
theorem PySem.Challenge.cw_swornrun_k24_wrong_rows_of_papers_holds : PySem.Challenge.rw_swornrun_k24_wrong_rows_of_papers.Holds := by
  w_on; o_law; k_head; (case hw => w_witness2)
  k_fill
  refine SW.walk_ofG (l := PySem.Challenge.rw_swornrun_k24_wrong_rows_of_papers) (n := 63) (k := 6) (x := "script") (sp := fun w => SW.spLaw _) rfl (by decide) rfl ⟨rfl, by decide, by decide⟩ (fun w h Y => PySem.W.kIn_of Y) ?F (fun _ _ a ns hl _ hS => ⟨a, ns, rfl, hS, hl, fun _ => rfl⟩)
  case F =>
    intro w mg fa h KX G hmg
    refine' SW.all_mk hmg (SW.txp_mk KX G ⟨PySem.W.mg_none_of KX G ?n_len, PySem.W.mg_none_of KX G ?n_range, PySem.W.mg_none_of KX G ?n_int, PySem.W.mg_none_of KX G ?n_abs, PySem.W.mg_none_of KX G ?n_isinstance, PySem.W.mg_none_of KX G ?n_list, PySem.W.mg_none_of KX G ?n_str, PySem.W.mg_none_of KX G ?n_bool, PySem.W.mg_none_of KX G ?n_tuple, PySem.W.mg_none_of KX G ?n_min, PySem.W.mg_none_of KX G ?n_max, PySem.W.mg_none_of KX G ?n_sum, PySem.W.mg_none_of KX G ?n_sorted, PySem.W.mg_none_of KX G ?n_any, PySem.W.mg_none_of KX G ?n_all, PySem.W.mg_none_of KX G ?n_zip, PySem.W.mg_none_of KX G ?n_enumerate, PySem.W.mg_none_of KX G ?n_reversed, PySem.W.mg_none_of KX G ?n_dict, PySem.W.mg_none_of KX G ?n_set, PySem.W.mg_none_of KX G ?n_repr, PySem.W.mg_none_of KX G ?n_ord⟩ ?aC ?as ?kl ?kk ?lo ?e0 ?r0 ?e1 ?r1 ?e2 ?r2 ?e3 ?r3 ?e4 ?r4 ?e5 ?r5 ?e6 ?r6 ?e7 ?r7 ?e8 ?r8 ?e9 ?r9 ?yw0 ?yw1 ?yw2 ?yw3 ?yw4 ?yw5 ?yw6 ?yw7 ?yw8 ?eD ?wD ?eM ?wM ?pg ?hd ?po ?sa ?nT ?nN ?nK ?zc ?zg ?zt ?zm) (SW.txe_mk KX G ?yx1 ?yx2 ?yx3 ?yx4 ?yx5 ?yx6 ?yx7 ?yx8 ?yx9 ?yx10 ?yx11 ?yx12 ?yx13 ?yx14 ?yx15 ?yx16 ?yx17 ?yx18 ?yx19 ?yx20 ?yx21 ?yx22 ?yx23 ?yx24 ?yx25 ?yx26 ?yx27 ?yx28 ?yx29 ?yx30 ?yx31) (SW.ckp_mk ?ia ?ii ?il ?ic ?ik ?mk ?kc) (SW.cke_mk ?yl ?yc ?yk) (SW.df_mk KX G ?a0 ?l0 ?c0 ?k0 (fun _ _ _ _ _ _ us hl => match us, hl with | [_], _ => rfl)) (fun s v => .of_eq rfl) (SW.df_mk KX G ?a1 ?l1 ?c1 ?k1 (fun _ _ _ _ _ _ us hl => match us, hl with | [_], _ => rfl)) (SW.df_mk KX G ?a2 ?l2 ?c2 ?k2 (fun _ _ _ _ _ _ us hl => match us, hl with | [_], _ => rfl)) (SW.df_mk KX G ?a3 ?l3 ?c3 ?k3 (fun _ _ _ _ _ _ us hl => match us, hl with | [_], _ => rfl)) (SW.df_mk KX G ?a4 ?l4 ?c4 ?k4 (fun _ _ _ _ _ _ us hl => match us, hl with | [_], _ => rfl)) (SW.df_mk KX G ?a5 ?l5 ?c5 ?k5 (fun _ _ _ _ _ _ us hl => match us, hl with | [_, _], _ => rfl)) (SW.df_mk KX G ?a6 ?l6 ?c6 ?k6 (fun _ _ _ _ _ _ us hl => match us, hl with | [_, _], _ => rfl)) (SW.df_mk KX G ?a7 ?l7 ?c7 ?k7 (fun _ _ _ _ _ _ us hl => match us, hl with | [_, _], _ => rfl)) (SW.df_mk KX G ?a8 ?l8 ?c8 ?k8 (fun _ _ _ _ _ _ us hl => match us, hl with | [_], _ => rfl)) (SW.df_mk KX G ?a9 ?l9 ?c9 ?k9 (fun _ _ _ _ _ _ us hl => match us, hl with | [_], _ => rfl)) (SW.df_mk KX G ?a10 ?l10 ?c10 ?k10 (fun _ _ _ _ _ _ us hl => match us, hl with | [_], _ => rfl)) (SW.df_mk KX G ?a11 ?l11 ?c11 ?k11 (fun _ _ _ _ _ _ us hl => match us, hl with | [_], _ => rfl)) (SW.df_mk KX G ?a12 ?l12 ?c12 ?k12 (fun _ _ _ _ _ _ us hl => match us, hl with | [_, _, _], _ => rfl)) (SW.df_mk KX G ?a13 ?l13 ?c13 ?k13 (fun _ _ _ _ _ _ us hl => match us, hl with | [_], _ => rfl)) (SW.df_mk KX G ?a14 ?l14 ?c14 ?k14 (fun _ _ _ _ _ _ us hl => match us, hl with | [_, _], _ => rfl)) (SW.df_mk KX G ?a15 ?l15 ?c15 ?k15 (fun _ _ _ _ _ _ us hl => match us, hl with | [_, _], _ => rfl)) (SW.df_mk KX G ?a16 ?l16 ?c16 ?k16 (fun _ _ _ _ _ _ us hl => match us, hl with | [_], _ => rfl)) (SW.df_mk KX G ?a17 ?l17 ?c17 ?k17 (fun _ _ _ _ _ _ us hl => match us, hl with | [_], _ => rfl)) (SW.df_mk KX G ?a18 ?l18 ?c18 ?k18 (fun _ _ _ _ _ _ us hl => match us, hl with | [_, _], _ => rfl)) (SW.df_mk KX G ?a19 ?l19 ?c19 ?k19 (fun _ _ _ _ _ _ us hl => match us, hl with | [_, _, _], _ => rfl)) (SW.df_mk KX G ?a20 ?l20 ?c20 ?k20 (fun _ _ _ _ _ _ us hl => match us, hl with | [_], _ => rfl))
    (case a0 => k_is)
    (case l0 => k_is)
    (case c0 => k_is)
    (case k0 => k_is)
    (case a1 => k_is)
    (case l1 => k_is)
    (case c1 => k_is)
    (case k1 => k_is)
    (case a2 => k_is)
    (case l2 => k_is)
    (case c2 => k_is)
    (case k2 => k_is)
    (case a3 => k_is)
    (case l3 => k_is)
    (case c3 => k_is)
    (case k3 => k_is)
    (case a4 => k_is)
    (case l4 => k_is)
    (case c4 => k_is)
    (case k4 => k_is)
    (case a5 => k_is)
    (case l5 => k_is)
    (case c5 => k_is)
    (case k5 => k_is)
    (case a6 => k_is)
    (case l6 => k_is)
    (case c6 => k_is)
    (case k6 => k_is)
    (case a7 => k_is)
    (case l7 => k_is)
    (case c7 => k_is)
    (case k7 => k_is)
    (case a8 => k_is)
    (case l8 => k_is)
    (case c8 => k_is)
    (case k8 => k_is)
    (case a9 => k_is)
    (case l9 => k_is)
    (case c9 => k_is)
    (case k9 => k_is)
    (case a10 => k_is)
    (case l10 => k_is)
    (case c10 => k_is)
    (case k10 => k_is)
    (case a11 => k_is)
    (case l11 => k_is)
    (case c11 => k_is)
    (case k11 => k_is)
    (case a12 => k_is)
    (case l12 => k_is)
    (case c12 => k_is)
    (case k12 => k_is)
    (case a13 => k_is)
    (case l13 => k_is)
    (case c13 => k_is)
    (case k13 => k_is)
    (case a14 => k_is)
    (case l14 => k_is)
    (case c14 => k_is)
    (case k14 => k_is)
    (case a15 => k_is)
    (case l15 => k_is)
    (case c15 => k_is)
    (case k15 => k_is)
    (case a16 => k_is)
    (case l16 => k_is)
    (case c16 => k_is)
    (case k16 => k_is)
    (case a17 => k_is)
    (case l17 => k_is)
    (case c17 => k_is)
    (case k17 => k_is)
    (case a18 => k_is)
    (case l18 => k_is)
    (case c18 => k_is)
    (case k18 => k_is)
    (case a19 => k_is)
    (case l19 => k_is)
    (case c19 => k_is)
    (case k19 => k_is)
    (case a20 => k_is)
    (case l20 => k_is)
    (case c20 => k_is)
    (case k20 => k_is)
    (case n_len => k_is)
    (case n_range => k_is)
    (case n_int => k_is)
    (case n_abs => k_is)
    (case n_isinstance => k_is)
    (case n_list => k_is)
    (case n_str => k_is)
    (case n_bool => k_is)
    (case n_tuple => k_is)
    (case n_min => k_is)
    (case n_max => k_is)
    (case n_sum => k_is)
    (case n_sorted => k_is)
    (case n_any => k_is)
    (case n_all => k_is)
    (case n_zip => k_is)
    (case n_enumerate => k_is)
    (case n_reversed => k_is)
    (case n_dict => k_is)
    (case n_set => k_is)
    (case n_repr => k_is)
    (case n_ord => k_is)
    (case aC => k_is)
    (case as => k_is)
    (case kl => k_is)
    (case kk => k_keys)
    (case lo => decide)
    (case e0 => k_is)
    (case e1 => k_is)
    (case e2 => k_is)
    (case e3 => k_is)
    (case e4 => k_is)
    (case e5 => k_is)
    (case e6 => k_is)
    (case e7 => k_is)
    (case e8 => k_is)
    (case e9 => k_is)
    (case yw0 => k_is)
    (case yw1 => k_is)
    (case yw2 => k_is)
    (case yw3 => k_is)
    (case yw4 => k_is)
    (case yw5 => k_is)
    (case yw6 => k_is)
    (case yw7 => k_is)
    (case yw8 => k_is)
    (case r0 => exact ⟨_, rfl⟩)
    (case r1 => exact ⟨_, rfl⟩)
    (case r2 => rfl)
    (case r3 => exact ⟨_, rfl⟩)
    (case r4 => exact ⟨_, rfl⟩)
    (case r5 => exact ⟨_, rfl⟩)
    (case r6 => exact ⟨_, rfl⟩)
    (case r7 => exact ⟨_, rfl⟩)
    (case r8 => exact ⟨_, rfl⟩)
    (case r9 => exact ⟨_, rfl⟩)
    (case eD => k_is)
    (case eM => k_is)
    (case wD => rfl)
    (case wM => rfl)
    (case pg => k_is)
    (case hd => k_is)
    (case po => k_is)
    (case sa => k_is)
    (case nT => k_is)
    (case nN => k_is)
    (case nK => k_is)
    (case zc => k_is)
    (case zg => k_is)
    (case zt => k_is)
    (case zm => k_is)
    (case yx1 => k_is)
    (case yx2 => k_is)
    (case yx3 => k_is)
    (case yx4 => decide +kernel)
    (case yx5 => k_is)
    (case yx6 => k_is)
    (case yx7 => k_is)
    (case yx8 => k_is)
    (case yx9 => k_is)
    (case yx10 => k_is)
    (case yx11 => k_is)
    (case yx12 => k_is)
    (case yx13 => k_is)
    (case yx14 => k_is)
    (case yx15 => k_is)
    (case yx16 => k_is)
    (case yx17 => k_is)
    (case yx18 => k_is)
    (case yx19 => k_is)
    (case yx20 => k_is)
    (case yx21 => k_is)
    (case yx22 => k_is)
    (case yx24 => k_is)
    (case yx25 => k_is)
    (case yx26 => k_is)
    (case yx27 => k_is)
    (case yx28 => k_is)
    (case yx23 => kts_exm)
    (case yx29 => kit_is)
    (case yx30 => kit_is)
    (case yx31 => kit_is)
    (case ia => k_is)
    (case ii => k_is)
    (case il => k_is)
    (case ic => k_is)
    (case ik => k_is)
    (case mk => k_is)
    (case kc => k_is)
    (case yl => k_is)
    (case yc => k_is)
    (case yk => k_is)
