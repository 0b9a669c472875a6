import PyProof.Rows.All
import Wide.All
import OpenK.AllK
import Wide.FinOn
import HandS.ForMost
import HandS.IsInst
import HandS.Evl
import HandS.SetIn
import PySem.Challenge.RW_swornrun_k01_words_of_a_row
set_option Elab.async false
set_option linter.all false
set_option maxRecDepth 100000
set_option maxHeartbeats 4000000
namespace K1
open PySem PySem.Spec PyProof.Rows L2
def topS (i : Nat) : Stmt := PySem.Challenge.pw_swornrun_k01_words_of_a_row.main.body.getD i (.Pass ⟨0, 0, 0, 0⟩)
abbrev s_split_row : Stmt := topS 8
theorem sc_split_row : FnScope ["text", "words", "at", "end"] ["text"] (defScope s_split_row) := ⟨rfl, rfl, rfl, by decide +kernel, rfl, by decide +kernel, by decide +kernel⟩
abbrev s_is_name : Stmt := topS 9
theorem sc_is_name : FnScope ["word"] ["word"] (defScope s_is_name) := ⟨rfl, rfl, rfl, by decide +kernel, rfl, by decide +kernel, by decide +kernel⟩
abbrev s_is_number : Stmt := topS 10
theorem sc_is_number : FnScope ["word"] ["word"] (defScope s_is_number) := ⟨rfl, rfl, rfl, by decide +kernel, rfl, by decide +kernel, by decide +kernel⟩
abbrev s_word_end : Stmt := topS 11
theorem sc_word_end : FnScope ["text", "at"] ["text", "at"] (defScope s_word_end) := ⟨rfl, rfl, rfl, by decide +kernel, rfl, by decide +kernel, by decide +kernel⟩
abbrev s_run_end : Stmt := topS 12
theorem sc_run_end : FnScope ["text", "at", "characters"] ["text", "at", "characters"] (defScope s_run_end) := ⟨rfl, rfl, rfl, by decide +kernel, rfl, by decide +kernel, by decide +kernel⟩
abbrev s_is_run : Stmt := topS 13
theorem sc_is_run : FnScope ["word", "characters"] ["word", "characters"] (defScope s_is_run) := ⟨rfl, rfl, rfl, by decide +kernel, rfl, by decide +kernel, by decide +kernel⟩
abbrev s_l_draws : Stmt := topS 15
theorem sc_l_draws : FnScope ["script", "many", "rests", "cell", "draws", "k", "at", "mixed"] ["script", "many"] (defScope s_l_draws) := ⟨rfl, rfl, rfl, by decide +kernel, rfl, by decide +kernel, by decide +kernel⟩
abbrev s_l_take : Stmt := topS 16
theorem sc_l_take : FnScope ["hand", "many", "at", "draws"] ["hand", "many"] (defScope s_l_take) := ⟨rfl, rfl, rfl, by decide +kernel, rfl, by decide +kernel, by decide +kernel⟩
abbrev s_l_letters : Stmt := topS 17
theorem sc_l_letters : FnScope [] [] (defScope s_l_letters) := ⟨rfl, rfl, rfl, by decide +kernel, rfl, by decide +kernel, by decide +kernel⟩
abbrev s_l_reserved : Stmt := topS 18
theorem sc_l_reserved : FnScope ["words"] [] (defScope s_l_reserved) := ⟨rfl, rfl, rfl, by decide +kernel, rfl, by decide +kernel, by decide +kernel⟩
abbrev s_l_is_name : Stmt := topS 19
theorem sc_l_is_name : FnScope ["word", "char"] ["word"] (defScope s_l_is_name) := ⟨rfl, rfl, rfl, by decide +kernel, rfl, by decide +kernel, by decide +kernel⟩
abbrev s_l_is_number : Stmt := topS 20
theorem sc_l_is_number : FnScope ["word", "char"] ["word"] (defScope s_l_is_number) := ⟨rfl, rfl, rfl, by decide +kernel, rfl, by decide +kernel, by decide +kernel⟩
abbrev s_l_run_of : Stmt := topS 21
theorem sc_l_run_of : FnScope ["hand", "chars", "most", "k"] ["hand", "chars", "most"] (defScope s_l_run_of) := ⟨rfl, rfl, rfl, by decide +kernel, rfl, by decide +kernel, by decide +kernel⟩
abbrev s_l_piece : Stmt := topS 22
theorem sc_l_piece : FnScope ["hand", "signs", "foreign", "kind"] ["hand"] (defScope s_l_piece) := ⟨rfl, rfl, rfl, by decide +kernel, rfl, by decide +kernel, by decide +kernel⟩
abbrev s_l_end_of : Stmt := topS 23
theorem sc_l_end_of : FnScope ["text", "at", "chars", "k"] ["text", "at", "chars"] (defScope s_l_end_of) := ⟨rfl, rfl, rfl, by decide +kernel, rfl, by decide +kernel, by decide +kernel⟩
abbrev s_l_words : Stmt := topS 24
theorem sc_l_words : FnScope ["text", "words", "at", "step", "end"] ["text"] (defScope s_l_words) := ⟨rfl, rfl, rfl, by decide +kernel, rfl, by decide +kernel, by decide +kernel⟩
abbrev s_l_is_right : Stmt := topS 25
theorem sc_l_is_right : FnScope ["found", "expected", "at"] ["found", "expected"] (defScope s_l_is_right) := ⟨rfl, rfl, rfl, by decide +kernel, rfl, by decide +kernel, by decide +kernel⟩
abbrev s_law : Stmt := topS 26
theorem sc_law : FnScope ["script", "hand", "pieces", "k", "text", "expected", "found", "odd", "again", "word", "answers"] ["script"] (defScope s_law) := ⟨rfl, rfl, rfl, by decide +kernel, rfl, by decide +kernel, by decide +kernel⟩
def sLetters : PySem.Str := "abcdefghijklmnopqrstuvwxyz"
def sDigits : PySem.Str := "0123456789"
def wLong : List PySem.Str := ["<=", ">=", "==", "!="]
def wShort : List PySem.Str := ["<", ">", "=", "+", "-", "(", ")", "[", "]", ",", ":"]
def wRes : List PySem.Str := ["proc", "list", "needs", "gives", "keeps", "falls", "from", "to", "let", "while", "if", "else", "end", "choose", "check", "call", "swap", "return", "skip", "and", "or", "not", "all", "sorted", "below", "either", "len", "old", "moves", "result"]
/-- what the text's top has left, as the defs' proofs ask it -/
structure Txt (K : PySem.W.Frag) (mg : PySem.Str → Option Value) where
  n_len : mg "len" = none
  n_range : mg "range" = none
  n_int : mg "int" = none
  n_abs : mg "abs" = none
  n_isinstance : mg "isinstance" = none
  n_list : mg "list" = none
  n_str : mg "str" = none
  n_bool : mg "bool" = none
  tL : Tok
  m_LETTERS : mg "LETTERS" = some (.str sLetters tL)
  tD : Tok
  m_DIGITS : mg "DIGITS" = some (.str sDigits tD)
  aLong : Addr
  m_LONG_SIGNS : mg "LONG_SIGNS" = some (.ref aLong)
  q_LONG_SIGNS : ∀ H, SqT K H aLong (wLong.map V.str)
  aShort : Addr
  m_SHORT_SIGNS : mg "SHORT_SIGNS" = some (.ref aShort)
  q_SHORT_SIGNS : ∀ H, SqT K H aShort (wShort.map V.str)
  aRes : Addr
  m_RESERVED : mg "RESERVED" = some (.ref aRes)
  q_RESERVED : ∀ H, SqT K H aRes (wRes.map V.str)
  tN : Tok
  m_LONGEST_NAME : mg "LONGEST_NAME" = some (.int 12 tN)
  tM : Tok
  m_LONGEST_NUMBER : mg "LONGEST_NUMBER" = some (.int 10 tM)
/-- a def of the text -/
structure Df (K : PySem.W.Frag) (mg : PySem.Str → Option Value) (x : PySem.Str) (st : Stmt) (ps : List PySem.Str) where
  f : Addr
  fd : FuncData
  F : Fun K x x st f fd
  rb : ∀ us : List Value, us.length = ps.length → bindArgs fd ⟨us, []⟩ = pure (ps.zip us)
  g : mg x = some (.ref f)
theorem Df.b {K : PySem.W.Frag} {mg : PySem.Str → Option Value} {x : PySem.Str} {st : Stmt} {ps : List PySem.Str} (D : Df K mg x st ps) : Binds K D.fd ps [] := .all D.rb
/-- .. of what the head tells -/
def df_mk {x : PySem.Str} {st : Stmt} {ps : List PySem.Str} {K : PySem.W.Frag} {h : Heap} {mg : PySem.Str → Option Value} (X : K.In h) (G : h.Ns mainGlobals mg) {f : Addr} {oc : Value} {od an : Option Addr} {sl : Array (Option Value)} {kV doc pm cd ct : Value}
    (a : PySem.W.nsIn K mainGlobals x = some (some (.ref f))) (l : K.lookup f = some ⟨oc, od, .func (PySem.W.fnOf x x (defArgs st) (defBody st) (defScope st) .none kV doc pm an cd ct), sl⟩) (c : PySem.W.codeIn K cd x = true) (k : PySem.W.keepIn K (.ref f) = true)
    (hb : ∀ (kV doc pm : Value) (an : Option Addr) (cd ct : Value) (us : List Value), us.length = ps.length → bindArgs (PySem.W.fnOf x x (defArgs st) (defBody st) (defScope st) .none kV doc pm an cd ct) ⟨us, []⟩ = pure (ps.zip us)) : Df K mg x st ps :=
  ⟨f, _, fun_mk l c k, hb kV doc pm an cd ct, PySem.W.mg_of X G a⟩
theorem m_of {K : PySem.W.Frag} {h : Heap} {mg : PySem.Str → Option Value} {x : PySem.Str} {v u : Value} (X : K.In h) (G : h.Ns mainGlobals mg) (e : PySem.W.nsIn K mainGlobals x = some (some v)) (q : v = u) : mg x = some u := by
  rw [← q]
  exact PySem.W.mg_of X G e
theorem sqt_mk {K : PySem.W.Frag} {aT : Addr} {od : Option Addr} {its : Array Value} {n : Nat} {sl : Array (Option Value)} {xs : List V} (l : K.lookup aT = some ⟨.type "tuple", od, .seq its n, sl⟩) (hs : its.size ≤ sizeLine) (r : Vals xs its.toList) : ∀ H, SqT K H aT xs :=
  fun H => .inr ⟨_, its, n, l, rfl, rfl, hs, r⟩
def txt_mk {K : PySem.W.Frag} {mg : PySem.Str → Option Value} {tL tD tN tM : Tok} {aLong aShort aRes : Addr} (n_len : mg "len" = none) (n_range : mg "range" = none) (n_int : mg "int" = none) (n_abs : mg "abs" = none) (n_isinstance : mg "isinstance" = none) (n_list : mg "list" = none) (n_str : mg "str" = none) (n_bool : mg "bool" = none)
    (m1 : mg "LETTERS" = some (.str sLetters tL)) (m2 : mg "DIGITS" = some (.str sDigits tD)) (m3 : mg "LONG_SIGNS" = some (.ref aLong)) (q3 : ∀ H, SqT K H aLong (wLong.map V.str)) (m4 : mg "SHORT_SIGNS" = some (.ref aShort)) (q4 : ∀ H, SqT K H aShort (wShort.map V.str))
    (m5 : mg "RESERVED" = some (.ref aRes)) (q5 : ∀ H, SqT K H aRes (wRes.map V.str)) (m6 : mg "LONGEST_NAME" = some (.int 12 tN)) (m7 : mg "LONGEST_NUMBER" = some (.int 10 tM)) : Txt K mg :=
  ⟨n_len, n_range, n_int, n_abs, n_isinstance, n_list, n_str, n_bool, tL, m1, tD, m2, aLong, m3, q3, aShort, m4, q4, aRes, m5, q5, tN, m6, tM, m7⟩
end K1

namespace K1
open PySem PySem.Spec PyProof.Rows L2
/-- how many signs of z from i on lie in c -/
def runL (c : List Nat) : List Nat → Nat
  | [] => 0
  | x :: r => if x ∈ c then runL c r + 1 else 0
theorem runL_le (c : List Nat) : ∀ l, runL c l ≤ l.length
  | [] => Nat.le_refl _
  | x :: r => by
    unfold runL
    split
    · exact Nat.succ_le_succ (runL_le c r)
    · exact Nat.zero_le _
theorem runL_nil (c : List Nat) : runL c [] = 0 := rfl
theorem runL_in {c r : List Nat} {x : Nat} (hx : x ∈ c) : runL c (x :: r) = runL c r + 1 := if_pos hx
theorem runL_out {c r : List Nat} {x : Nat} (hx : ¬ x ∈ c) : runL c (x :: r) = 0 := if_neg hx
theorem runL_drop {c l : List Nat} {j : Nat} (h : j ≤ runL c l) : runL c l = j + runL c (l.drop j) := by
  induction l generalizing j with
  | nil =>
    rw [runL_nil] at h
    have : j = 0 := by omega
    subst this
    rfl
  | cons x r ih =>
    cases j with
    | zero => exact (Nat.zero_add _).symm
    | succ j =>
      rw [List.drop_succ_cons]
      by_cases hx : x ∈ c
      · rw [runL_in hx] at h ⊢
        have := ih (j := j) (by omega)
        omega
      · rw [runL_out hx] at h
        omega
theorem runL_stop {c l : List Nat} {x : Nat} {r : List Nat} (h : l = x :: r) (hx : ¬ x ∈ c) : runL c l = 0 := by
  subst h
  exact runL_out hx
theorem runL_go {c l : List Nat} {x : Nat} {r : List Nat} (h : l = x :: r) (hx : x ∈ c) : runL c l = runL c r + 1 := by
  subst h
  exact runL_in hx
section
variable {P : Program} {w : World} {K : PySem.W.Frag} {mg : PySem.Str → Option Value} {base : Heap}
def spRunEnd : Sp := fun vs H Q _ => ∃ (z : PySem.Str) (i : Nat) (c : PySem.Str), vs = [.str z, .int i, .str c] ∧ z.length ≤ sizeLine ∧ i ≤ z.length ∧ Q (.int ((i + runL c.cps.toList (z.cps.toList.drop i) : Nat) : Int)) H
theorem ok_run_end (T : Txt K mg) (D : Df K mg "_run_end" s_run_end ["text", "at", "characters"]) : FnOk P w K mg base CX0 1 D.f D.fd ["text", "at", "characters"] spRunEnd := by
  refine D.F.ok sc_run_end (fun vs H Q E h => ?_) (fun cdv A outer s H vs Q E hr h => ?_)
  · obtain ⟨z, i, c, rfl, _⟩ := h
    rfl
  · obtain ⟨z, i, c, rfl, hz, hi, q⟩ := h
    refine ⟨_, (pss_cons (ps_while PassesOwn.never (PW.pt (pw_and (pt_cmpR op_lt (pv 1) (pe_callB call_len_str (by rfl) T.n_len PySem.boot_len (pa_cons (pv 0) pa_nil)) (nomark _)) (pw_and1 (pt_cmpR op_in_sign (pe_ix ix_str (pv 0) (pv 1) (fun _ _ => rfl)) (pv 2) (by rfl)))))
    (pss_one (ps_aug (i := 1) sc_run_end.nd rfl (.inl rfl) pe_int ip_add)))
    (pss_one (ps_ret (pv 1)))), ?_⟩
    have hl : z.cps.toList.length = z.length := rfl
    refine ⟨fun m σ H' => ∃ j : Nat, σ = [some (.str z), some (.int ((i + j : Nat) : Int)), some (.str c)] ∧ H' = H ∧ i + j + m = z.length ∧ j ≤ runL c.cps.toList (z.cps.toList.drop i), ⟨z.length - i, 0, rfl, rfl, by omega, Nat.zero_le _⟩, fun m σ H' hW => ?_⟩
    obtain ⟨j, rfl, rfl, hm, hj⟩ := hW
    have hd := runL_drop hj
    rw [List.drop_drop] at hd
    refine ⟨_, rfl, _, rfl, _, rfl, hz, _, _, rfl, rfl, _, rfl, ite2 (fun e => ?_) (fun e => ?_)⟩
    · have e1 := of_decide_eq_true e
      have hlt : i + j < z.cps.toList.length := by omega
      have ec : z.cps.toList[i + j]? = some z.cps.toList[i + j] := List.getElem?_eq_getElem hlt
      have ed : z.cps.toList.drop (i + j) = z.cps.toList[i + j] :: z.cps.toList.drop (i + j + 1) := List.drop_eq_getElem_cons hlt
      refine ⟨_, rfl, _, rfl, _, _, _, rfl, rfl, hz, atI_nat ec, _, rfl, _, _, rfl, rfl, _, rfl, ite2 (fun e2 => ?_) (fun e2 => ?_)⟩
      · have h2 := of_decide_eq_true e2
        have hg : runL c.cps.toList (z.cps.toList.drop (i + j)) = runL c.cps.toList (z.cps.toList.drop (i + j + 1)) + 1 := runL_go ed h2
        have hj2 : i + (j + 1) = i + j + 1 := by omega
        refine ⟨fun σ2 H2 => σ2 = [some (.str z), some (.int ((i + (j + 1) : Nat) : Int)), some (.str c)] ∧ H2 = H', fun σ2 H2 hN => ⟨m - 1, by omega, j + 1, hN.1, hN.2, by omega, by omega⟩, ?_⟩
        exact ⟨_, rfl, _, _, rfl, rfl, rfl, rfl⟩
      · have h2 := of_decide_eq_false (Bool.eq_false_iff.mpr e2)
        have hg : runL c.cps.toList (z.cps.toList.drop (i + j)) = 0 := runL_stop ed h2
        refine ⟨_, rfl, ?_⟩
        rw [hd, hg] at q
        exact q
    · have e1 := of_decide_eq_false (Bool.eq_false_iff.mpr e)
      have hg : z.cps.toList.drop (i + j) = [] := List.drop_eq_nil_of_le (by omega)
      rw [hd, hg] at q
      exact iteF ⟨_, rfl, q⟩
end
end K1

namespace K1
open PySem PySem.Spec PyProof.Rows L2
abbrev mk (l : List Nat) : PySem.Str := ⟨l.toArray⟩
theorem mk_cp (z : PySem.Str) : mk z.cps.toList = z := rfl
theorem cp_mk (l : List Nat) : (mk l).cps.toList = l := rfl
abbrev cL : List Nat := sLetters.cps.toList
abbrev cD : List Nat := sDigits.cps.toList
/-- the length of the word at the head, 0 if there is none -/
def wlen (l : List Nat) : Nat :=
  match l with
  | [] => 0
  | x :: r => if x ∈ cL then runL cL (x :: r) else if x ∈ cD then runL cD (x :: r) else if mk ((x :: r).take 2) ∈ wLong then 2 else if mk [x] ∈ wShort then 1 else 0
def lexF : Nat → List Nat → Option (List PySem.Str)
  | 0, _ => some []
  | _ + 1, [] => some []
  | n + 1, x :: r => if x = 32 then lexF n r else if wlen (x :: r) = 0 then none else (lexF n ((x :: r).drop (wlen (x :: r)))).map (mk ((x :: r).take (wlen (x :: r))) :: ·)
def lex (l : List Nat) : Option (List PySem.Str) := lexF l.length l
theorem lexF_more : ∀ (n m : Nat) (l : List Nat), l.length ≤ n → l.length ≤ m → lexF n l = lexF m l
  | 0, 0, _, _, _ => rfl
  | 0, m + 1, [], _, _ => rfl
  | 0, m + 1, x :: r, h, _ => absurd h (by simp)
  | n + 1, 0, [], _, _ => rfl
  | n + 1, 0, x :: r, _, h => absurd h (by simp)
  | n + 1, m + 1, [], _, _ => rfl
  | n + 1, m + 1, x :: r, h1, h2 => by
    have g1 : r.length ≤ n := Nat.le_of_succ_le_succ h1
    have g2 : r.length ≤ m := Nat.le_of_succ_le_succ h2
    unfold lexF
    by_cases hx : x = 32
    · rw [if_pos hx, if_pos hx]
      exact lexF_more n m r g1 g2
    · rw [if_neg hx, if_neg hx]
      by_cases hw : wlen (x :: r) = 0
      · rw [if_pos hw, if_pos hw]
      · rw [if_neg hw, if_neg hw]
        have hd : ((x :: r).drop (wlen (x :: r))).length ≤ r.length := by
          rw [List.length_drop, List.length_cons]
          omega
        rw [lexF_more n m _ (Nat.le_trans hd g1) (Nat.le_trans hd g2)]
theorem lex_nil : lex [] = some [] := rfl
theorem lex_space (r : List Nat) : lex (32 :: r) = lex r := by
  unfold lex
  rw [List.length_cons]
  unfold lexF
  rw [if_pos rfl]
  cases r <;> rfl
theorem lex_bad {x : Nat} {r : List Nat} (hx : x ≠ 32) (hw : wlen (x :: r) = 0) : lex (x :: r) = none := by
  show (if x = 32 then _ else if wlen (x :: r) = 0 then none else _) = _
  rw [if_neg hx, if_pos hw]
theorem lex_word {x : Nat} {r : List Nat} (hx : x ≠ 32) (hw : wlen (x :: r) ≠ 0) : lex (x :: r) = (lex ((x :: r).drop (wlen (x :: r)))).map (mk ((x :: r).take (wlen (x :: r))) :: ·) := by
  show (if x = 32 then _ else if wlen (x :: r) = 0 then none else (lexF r.length ((x :: r).drop (wlen (x :: r)))).map _) = _
  rw [if_neg hx, if_neg hw]
  have hd : ((x :: r).drop (wlen (x :: r))).length ≤ r.length := by
    rw [List.length_drop, List.length_cons]
    omega
  rw [lexF_more r.length ((x :: r).drop (wlen (x :: r))).length _ hd (Nat.le_refl _)]
  rfl
theorem long_two : ∀ a ∈ wLong, a.cps.size = 2 := by decide
theorem wlen_le (l : List Nat) : wlen l ≤ l.length := by
  cases l with
  | nil => exact Nat.le_refl _
  | cons x r =>
    unfold wlen
    dsimp only
    split
    · exact runL_le _ _
    · split
      · exact runL_le _ _
      · split
        · rename_i h
          cases r with
          | nil =>
            exact absurd (long_two _ h) (by show ¬ (1 : Nat) = 2; decide)
          | cons y r => simp
        · split
          · simp
          · exact Nat.zero_le _
theorem flat_strs (ws : List PySem.Str) : (ws.map V.str).all flatV = true := by
  induction ws with
  | nil => rfl
  | cons a r ih =>
    rw [List.map_cons, List.all_cons, ih]
    rfl
theorem inV_strs (a : PySem.Str) (ws : List PySem.Str) : inV (.str a) (ws.map V.str) = decide (a ∈ ws) := by
  induction ws with
  | nil => rfl
  | cons b r ih =>
    show ((b == a) || inV (.str a) (r.map V.str)) = _
    rw [ih]
    by_cases e : b = a
    · subst e
      simp
    · rw [beq_eq_false_iff_ne.mpr e]
      by_cases m : a ∈ r
      · simp [m]
      · simp [m, Ne.symm e]
def isRun (c l : List Nat) : Bool := decide (l ≠ []) && decide (runL c l = l.length)
theorem str_ne (z : PySem.Str) : (!decide (V.str z = V.str "")) = decide (z.cps.toList ≠ []) := by
  by_cases h : z.cps.toList = []
  · have e : z = "" := by
      rw [← mk_cp z, h]
      rfl
    subst e
    rfl
  · have e : ¬ V.str z = V.str "" := fun e => h (by
      injection e with e
      rw [e]
      rfl)
    rw [decide_eq_false e, decide_eq_true h]
    rfl
section
variable {P : Program} {w : World} {K : PySem.W.Frag} {mg : PySem.Str → Option Value} {base : Heap}
def spIsRun : Sp := fun vs H Q _ => ∃ (z c : PySem.Str), vs = [.str z, .str c] ∧ z.length ≤ sizeLine ∧ Q (.bl (isRun c.cps.toList z.cps.toList)) H
theorem ok_is_run (T : Txt K mg) (D_is_run : Df K mg "_is_run" s_is_run ["word", "characters"]) (D_run_end : Df K mg "_run_end" s_run_end ["text", "at", "characters"]) : FnOk P w K mg base CX0 2 D_is_run.f D_is_run.fd ["word", "characters"] spIsRun := by
  have G_run_end := ok_run_end (P := P) (w := w) (base := base) T D_run_end
  refine D_is_run.F.ok sc_is_run (fun vs H Q E h => ?_) (fun cdv A outer s H vs Q E hr h => ?_)
  · obtain ⟨z, c, rfl, _⟩ := h
    rfl
  · obtain ⟨z, c, rfl, hz, q⟩ := h
    refine ⟨_, (pss_one (ps_ret (pe_and (pe_cmpR op_ne (pv 0) pe_str (nomark _)) (pe_one (pe_cmpR op_eq (pe_call G_run_end (hr.mono (by decide)) (by rfl) D_run_end.g D_run_end.F.kp D_run_end.b .nil pass0 (pa_cons (pv 0) (pa_cons pe_int (pa_cons (pv 1) pa_nil)))) (pe_callB call_len_str (by rfl) T.n_len PySem.boot_len (pa_cons (pv 0) pa_nil)) (nomark _)))))), ?_⟩
    refine ⟨_, rfl, rfl, _, rfl, ?_⟩
    rw [str_ne]
    unfold isRun at q
    refine ite2 (fun e => ?_) (fun e => ?_)
    · rw [e] at q
      refine ⟨_, rfl, _, rfl, z, 0, c, rfl, hz, Nat.zero_le _, _, rfl, z, rfl, hz, rfl, ?_⟩
      rw [Bool.true_and, List.drop_zero] at *
      have e2 : decide (V.int ((0 + runL c.cps.toList z.cps.toList : Nat) : Int) = V.int (z.length : Nat)) = decide (runL c.cps.toList z.cps.toList = z.cps.toList.length) := by
        refine decide_eq_decide.mpr ⟨fun h => ?_, fun h => ?_⟩
        · injection h with h
          have : z.cps.toList.length = z.length := rfl
          omega
        · rw [Nat.zero_add, h]
          rfl
      rw [e2]
      exact q
    · rw [Bool.eq_false_iff.mpr e] at q
      exact q

/-! ### _word_end -/
theorem cut2 (z : PySem.Str) (i : Nat) (h : i < z.length) : cutS z (some (i : Int)) (some ((i : Int) + 2)) = mk ((z.cps.toList.drop i).take 2) := by
  have e1 : HT.sIx z.length 0 (some (i : Int)) = i := by
    rw [HT.sIx_nat]
    omega
  have e2 : HT.sIx z.length z.length (some ((i : Int) + 2)) = min (i + 2) z.length := by
    rw [show ((i : Int) + 2) = ((i + 2 : Nat) : Int) by omega, HT.sIx_nat]
  unfold cutS
  rw [e1, e2]
  show mk _ = mk _
  congr 1
  have hl : (z.cps.toList.drop i).length = z.length - i := by
    rw [List.length_drop]
    rfl
  by_cases h2 : i + 2 ≤ z.length
  · rw [show min (i + 2) z.length - i = 2 by omega]
  · rw [Nat.min_eq_right (by omega), List.take_of_length_le (by omega), List.take_of_length_le (by omega)]
def spWordEnd : Sp := fun vs H Q _ => ∃ (z : PySem.Str) (i : Nat), vs = [.str z, .int i] ∧ z.length ≤ sizeLine ∧ i < z.length ∧ Q (.int ((i + wlen (z.cps.toList.drop i) : Nat) : Int)) H
theorem ok_word_end (T : Txt K mg) (D_word_end : Df K mg "_word_end" s_word_end ["text", "at"]) (D_run_end : Df K mg "_run_end" s_run_end ["text", "at", "characters"]) : FnOk P w K mg base CX0 2 D_word_end.f D_word_end.fd ["text", "at"] spWordEnd := by
  have G_run_end := ok_run_end (P := P) (w := w) (base := base) T D_run_end
  refine D_word_end.F.ok sc_word_end (fun vs H Q E h => ?_) (fun cdv A outer s H vs Q E hr h => ?_)
  · obtain ⟨z, c, rfl, _⟩ := h
    rfl
  · obtain ⟨z, i, rfl, hz, hi, q⟩ := h
    refine ⟨_, (pss_cons (ps_if (pt_cmpR op_in_sign (pe_ix ix_str (pv 0) (pv 1) (fun _ _ => rfl)) (pe_glob (v := .str sLetters) rfl T.m_LETTERS ⟨_, rfl⟩) (by rfl))
    (pss_one (ps_ret (pe_call G_run_end (hr.mono (by decide)) (by rfl) D_run_end.g D_run_end.F.kp D_run_end.b .nil pass0 (pa_cons (pv 0) (pa_cons (pv 1) (pa_cons (pe_glob (v := .str sLetters) rfl T.m_LETTERS ⟨_, rfl⟩) pa_nil))))))
    pss_nil)
    (pss_cons (ps_if (pt_cmpR op_in_sign (pe_ix ix_str (pv 0) (pv 1) (fun _ _ => rfl)) (pe_glob (v := .str sDigits) rfl T.m_DIGITS ⟨_, rfl⟩) (by rfl))
    (pss_one (ps_ret (pe_call G_run_end (hr.mono (by decide)) (by rfl) D_run_end.g D_run_end.F.kp D_run_end.b .nil pass0 (pa_cons (pv 0) (pa_cons (pv 1) (pa_cons (pe_glob (v := .str sDigits) rfl T.m_DIGITS ⟨_, rfl⟩) pa_nil))))))
    pss_nil)
    (pss_cons (ps_if (pt_cmpR op_in_seq (pe_slice sl_str (pv 0) (po_some (pv 1)) (po_some (pe_op op_add (pv 1) pe_int))) (pe_glob (v := .ref T.aLong) rfl T.m_LONG_SIGNS rfl) (by rfl))
    (pss_one (ps_ret (pe_op op_add (pv 1) pe_int)))
    pss_nil)
    (pss_cons (ps_if (pt_cmpR op_in_seq (pe_ix ix_str (pv 0) (pv 1) (fun _ _ => rfl)) (pe_glob (v := .ref T.aShort) rfl T.m_SHORT_SIGNS rfl) (by rfl))
    (pss_one (ps_ret (pe_op op_add (pv 1) pe_int)))
    pss_nil)
    (pss_one (ps_ret (pv 1))))))), ?_⟩
    have hlt : i < z.cps.toList.length := hi
    have ec : z.cps.toList[i]? = some z.cps.toList[i] := List.getElem?_eq_getElem hlt
    have ed : z.cps.toList.drop i = z.cps.toList[i] :: z.cps.toList.drop (i + 1) := List.drop_eq_getElem_cons hlt
    have ew : wlen (z.cps.toList.drop i) = if z.cps.toList[i] ∈ cL then runL cL (z.cps.toList.drop i) else if z.cps.toList[i] ∈ cD then runL cD (z.cps.toList.drop i) else if mk ((z.cps.toList.drop i).take 2) ∈ wLong then 2 else if mk [z.cps.toList[i]] ∈ wShort then 1 else 0 := by
      rw [ed]
      rfl
    rw [ew] at q
    refine ⟨_, rfl, _, rfl, _, _, _, rfl, rfl, hz, atI_nat ec, _, _, rfl, rfl, _, rfl, ite2 (fun e => ?_) (fun e => ?_)⟩
    · rw [if_pos (of_decide_eq_true e)] at q
      exact ⟨_, rfl, _, rfl, z, i, sLetters, rfl, hz, Nat.le_of_lt hi, q⟩
    · rw [if_neg (of_decide_eq_false (Bool.eq_false_iff.mpr e))] at q
      refine ⟨_, rfl, _, rfl, _, _, _, rfl, rfl, hz, atI_nat ec, _, _, rfl, rfl, _, rfl, ite2 (fun e => ?_) (fun e => ?_)⟩
      · rw [if_pos (of_decide_eq_true e)] at q
        exact ⟨_, rfl, _, rfl, z, i, sDigits, rfl, hz, Nat.le_of_lt hi, q⟩
      · rw [if_neg (of_decide_eq_false (Bool.eq_false_iff.mpr e))] at q
        refine ⟨_, rfl, _, rfl, _, rfl, _, rfl, _, _, rfl, rfl, _, rfl, z, rfl, hz, T.aLong, wLong.map V.str, rfl, .inr (T.q_LONG_SIGNS _), rfl, flat_strs _, _, rfl, ?_⟩
        rw [cut2 z i hi, inV_strs, if_neg Bool.false_ne_true]
        refine ite2 (fun e => ?_) (fun e => ?_)
        · rw [if_pos (of_decide_eq_true e)] at q
          exact ⟨_, rfl, _, _, rfl, rfl, q⟩
        · rw [if_neg (of_decide_eq_false (Bool.eq_false_iff.mpr e))] at q
          refine ⟨_, rfl, _, rfl, _, _, _, rfl, rfl, hz, atI_nat ec, T.aShort, wShort.map V.str, rfl, .inr (T.q_SHORT_SIGNS _), rfl, flat_strs _, _, rfl, ?_⟩
          rw [inV_strs, if_neg Bool.false_ne_true]
          refine ite2 (fun e => ?_) (fun e => ?_)
          · rw [if_pos (of_decide_eq_true e)] at q
            exact ⟨_, rfl, _, _, rfl, rfl, q⟩
          · rw [if_neg (of_decide_eq_false (Bool.eq_false_iff.mpr e))] at q
            exact ⟨_, rfl, q⟩
end
end K1

namespace K1
open PySem PySem.Spec PyProof.Rows L2
theorem same_new {H : Hp} {p : Addr} {o : HO} (h : H p = none) : Same H (upd H p o) := fun b x e => by
  rw [upd_ne (ne_of_none e h)]
  exact e
/-- an object that H does not know has changed -/
theorem same_mut {H H' : Hp} {p : Addr} {o : HO} (s : Same H H') (h : H p = none) : Same H (upd H' p o) := fun b x e => by
  rw [upd_ne (ne_of_none e h)]
  exact s _ _ e
theorem cut_nat (z : PySem.Str) (i n : Nat) (h : i + n ≤ z.length) : cutS z (some (i : Int)) (some ((i + n : Nat) : Int)) = mk ((z.cps.toList.drop i).take n) := by
  have e1 : HT.sIx z.length 0 (some (i : Int)) = i := by
    rw [HT.sIx_nat]
    omega
  have e2 : HT.sIx z.length z.length (some ((i + n : Nat) : Int)) = i + n := by
    rw [HT.sIx_nat]
    omega
  unfold cutS
  rw [e1, e2, show i + n - i = n by omega]
/-- what a text's words are, as a value -/
def Gives (H : Hp) (o : Option (List PySem.Str)) (Q : VK) : Prop :=
  match o with
  | none => ∀ H', Same H H' → Q .non H'
  | some ws => ∀ p H', Same H H' → H p = none → H' p = some (.lst (ws.map V.str)) → Q (.ref p) H'
section
variable {P : Program} {w : World} {K : PySem.W.Frag} {mg : PySem.Str → Option Value} {base : Heap}
def spSplit : Sp := fun vs H Q _ => ∃ (z : PySem.Str), vs = [.str z] ∧ z.length ≤ 100000 ∧ Gives H (lex z.cps.toList) Q
theorem sz5 {n : Nat} (h : n ≤ 100000) : n ≤ sizeLine := Nat.le_trans h (by decide)
theorem sz5' {n : Nat} (h : n ≤ 100000) : n < sizeLine := Nat.lt_of_le_of_lt h (by decide)
theorem ok_split_row (T : Txt K mg) (D_split_row : Df K mg "split_row" s_split_row ["text"]) (D_word_end : Df K mg "_word_end" s_word_end ["text", "at"]) (D_run_end : Df K mg "_run_end" s_run_end ["text", "at", "characters"]) : FnOk P w K mg base CX0 3 D_split_row.f D_split_row.fd ["text"] spSplit := by
  have G_word_end := ok_word_end (P := P) (w := w) (base := base) T D_word_end D_run_end
  refine D_split_row.F.ok sc_split_row (fun vs H Q E h => ?_) (fun cdv A outer s H vs Q E hr h => ?_)
  · obtain ⟨z, rfl, _⟩ := h
    rfl
  · obtain ⟨z, rfl, hz5, q⟩ := h
    have hz := sz5 hz5
    refine ⟨_, (pss_cons (ps_set (i := 1) sc_split_row.nd rfl (.inl rfl) (pe_lst pa_nil))
    (pss_cons (ps_set (i := 2) sc_split_row.nd rfl (.inl rfl) pe_int)
    (pss_cons (ps_while PassesOwn.never (pt_cmpR op_lt (pv 2) (pe_callB call_len_str (by rfl) T.n_len PySem.boot_len (pa_cons (pv 0) pa_nil)) (nomark _))
    (pss_one (ps_if (pt_cmpR op_eq (pe_ix ix_str (pv 0) (pv 2) (fun _ _ => rfl)) pe_str (nomark _))
    (pss_one (ps_aug (i := 2) sc_split_row.nd rfl (.inl rfl) pe_int ip_add))
    (pss_cons (ps_set (i := 3) sc_split_row.nd rfl (.inl rfl) (pe_call G_word_end (hr.mono (by decide)) (by rfl) D_word_end.g D_word_end.F.kp D_word_end.b .nil pass0 (pa_cons (pv 0) (pa_cons (pv 2) pa_nil))))
    (pss_cons (ps_if (pt_cmpR op_eq (pv 3) (pv 2) (nomark _))
    (pss_one (ps_ret pe_non))
    pss_nil)
    (pss_cons (ps_expr (pe_bm PySem.F.plainAttrs_list PySem.F.slot_list_append PySem.F.type_list_append mt_append (pv 1) (pa_cons (pe_slice sl_str (pv 0) (po_some (pv 2)) (po_some (pv 3))) pa_nil)))
    (pss_one (ps_set (i := 2) sc_split_row.nd rfl (.inl rfl) (pv 3)))))))))
    (pss_one (ps_ret (pv 1)))))), ?_⟩
    -- words = []; at = 0
    refine ⟨Nat.zero_le _, fun p np => ?_⟩
    refine ⟨fun m σ H' => ∃ (i : Nat) (acc : List PySem.Str) (y : Option V), σ = [some (.str z), some (.ref p), some (.int (i : Nat)), y] ∧ i + m = z.length ∧ acc.length ≤ i ∧ Same H H' ∧ H' p = some (.lst (acc.map V.str)) ∧ lex z.cps.toList = (lex (z.cps.toList.drop i)).map (acc ++ ·),
      ⟨z.length, 0, [], none, rfl, by omega, Nat.le_refl _, same_new np, upd_same, ?_⟩, fun m σ H' hW => ?_⟩
    · rw [List.drop_zero]
      cases lex z.cps.toList <;> rfl
    obtain ⟨i, acc, y, rfl, hm, hal, hs, hp, hx⟩ := hW
    have hl : z.cps.toList.length = z.length := rfl
    refine ⟨_, rfl, _, rfl, z, rfl, hz, _, _, rfl, rfl, _, rfl, ite2 (fun e => ?_) (fun e => ?_)⟩
    · have e1 := of_decide_eq_true e
      have hlt : i < z.cps.toList.length := by omega
      have hi : i < z.length := by omega
      have ec : z.cps.toList[i]? = some z.cps.toList[i] := List.getElem?_eq_getElem hlt
      have ed : z.cps.toList.drop i = z.cps.toList[i] :: z.cps.toList.drop (i + 1) := List.drop_eq_getElem_cons hlt
      refine ⟨fun σ2 H2 => ∃ (j : Nat) (acc2 : List PySem.Str) (y : Option V), i < j ∧ σ2 = [some (.str z), some (.ref p), some (.int (j : Nat)), y] ∧ j ≤ z.length ∧ acc2.length ≤ j ∧ Same H H2 ∧ H2 p = some (.lst (acc2.map V.str)) ∧ lex z.cps.toList = (lex (z.cps.toList.drop j)).map (acc2 ++ ·),
        fun σ2 H2 hN => ?_, ?_⟩
      · obtain ⟨j, acc2, y2, h1, h2, h3, h4, h5, h6, h7⟩ := hN
        exact ⟨z.length - j, by omega, j, acc2, y2, h2, by omega, h4, h5, h6, h7⟩
      refine ⟨_, rfl, _, rfl, _, _, _, rfl, rfl, hz, atI_nat ec, rfl, _, rfl, ite2 (fun e => ?_) (fun e => ?_)⟩
      · -- a space
        have e2 : z.cps.toList[i] = 32 := by
          have e2 := of_decide_eq_true e
          injection e2 with e2
          injection e2 with e2
          have e3 : [z.cps.toList[i]] = [32] := congrArg Array.toList e2
          injection e3
        refine ⟨_, rfl, _, _, rfl, rfl, i + 1, acc, y, by omega, rfl, by omega, by omega, hs, hp, ?_⟩
        rw [hx, ed, e2, lex_space]
      · have e2 : z.cps.toList[i] ≠ 32 := fun e2 => e (decide_eq_true (by rw [e2]; rfl))
        refine ⟨_, rfl, _, rfl, z, i, rfl, hz, hi, ?_⟩
        have hwl := wlen_le (z.cps.toList.drop i)
        have hdl : (z.cps.toList.drop i).length = z.length - i := by
          rw [List.length_drop]
          rfl
        refine ⟨_, rfl, _, rfl, rfl, _, rfl, ite2 (fun e3 => ?_) (fun e3 => ?_)⟩
        · -- no word: return None
          have e4 := of_decide_eq_true e3
          injection e4 with e4
          have hw0 : wlen (z.cps.toList.drop i) = 0 := by omega
          rw [ed] at hw0
          rw [hx, ed, lex_bad e2 hw0] at q
          exact q H' hs
        · have hw0 : wlen (z.cps.toList.drop i) ≠ 0 := fun e4 => e3 (decide_eq_true (by rw [e4]; rfl))
          refine ⟨_, rfl, .inl ⟨rfl, _, .inl (.inl hp)⟩, _, rfl, _, rfl, _, rfl, _, rfl, _, rfl, z, rfl, hz, p, _, _, rfl, rfl, hp, ?_, ?_⟩
          · rw [List.length_map]
            exact sz5' (by omega)
          refine ⟨_, rfl, i + wlen (z.cps.toList.drop i), acc ++ [mk ((z.cps.toList.drop i).take (wlen (z.cps.toList.drop i)))], _, by omega, rfl, by omega, ?_, same_mut hs np, ?_, ?_⟩
          · rw [List.length_append, List.length_singleton]
            omega
          · rw [upd_same, cut_nat z i _ (by omega), List.map_append]
            rfl
          · rw [hx, ← List.drop_drop]
            rw [ed] at hw0 ⊢
            rw [lex_word e2 hw0, Option.map_map]
            congr 1
            funext l
            simp
    · have e1 := of_decide_eq_false (Bool.eq_false_iff.mpr e)
      have hg : z.cps.toList.drop i = [] := List.drop_eq_nil_of_le (by omega)
      rw [hx, hg, lex_nil] at q
      refine ⟨_, rfl, ?_⟩
      have q2 : H' p = some (.lst ((acc ++ []).map V.str)) → Q (V.ref p) H' := q p H' hs np
      rw [List.append_nil] at q2
      exact q2 hp
/-! ### is_name, is_number -/
def isName (z : PySem.Str) : Bool := decide (z.length ≤ 12) && (isRun cL z.cps.toList && !decide (z ∈ wRes))
def spIsName : Sp := fun vs H Q _ => ∃ (z : PySem.Str), vs = [.str z] ∧ z.length ≤ sizeLine ∧ Q (.bl (isName z)) H
theorem le_dec (n m : Nat) : decide ((n : Int) ≤ (m : Int)) = decide (n ≤ m) := decide_eq_decide.mpr Int.ofNat_le
theorem ok_is_name (T : Txt K mg) (D_is_name : Df K mg "is_name" s_is_name ["word"]) (D_is_run : Df K mg "_is_run" s_is_run ["word", "characters"]) (D_run_end : Df K mg "_run_end" s_run_end ["text", "at", "characters"]) : FnOk P w K mg base CX0 3 D_is_name.f D_is_name.fd ["word"] spIsName := by
  have G_is_run := ok_is_run (P := P) (w := w) (base := base) T D_is_run D_run_end
  refine D_is_name.F.ok sc_is_name (fun vs H Q E h => ?_) (fun cdv A outer s H vs Q E hr h => ?_)
  · obtain ⟨z, rfl, _⟩ := h
    rfl
  · obtain ⟨z, rfl, hz, q⟩ := h
    refine ⟨_, (pss_one (ps_ret (pe_and (pe_cmpR op_le (pe_callB call_len_str (by rfl) T.n_len PySem.boot_len (pa_cons (pv 0) pa_nil)) (pe_glob (v := .int 12) rfl T.m_LONGEST_NAME ⟨_, rfl⟩) (nomark _)) (pe_and (pe_call G_is_run (hr.mono (by decide)) (by rfl) D_is_run.g D_is_run.F.kp D_is_run.b .nil pass0 (pa_cons (pv 0) (pa_cons (pe_glob (v := .str sLetters) rfl T.m_LETTERS ⟨_, rfl⟩) pa_nil))) (pe_one (pe_cmpR op_notIn_seq (pv 0) (pe_glob (v := .ref T.aRes) rfl T.m_RESERVED rfl) (by rfl))))))), ?_⟩
    unfold isName at q
    rw [← le_dec] at q
    refine ⟨_, rfl, z, rfl, hz, _, _, rfl, rfl, _, rfl, ite2 (fun e => ?_) (fun e => ?_)⟩
    · rw [show decide ((z.length : Int) ≤ ((12 : Nat) : Int)) = true from e, Bool.true_and] at q
      refine ⟨_, rfl, z, sLetters, rfl, hz, _, rfl, ite2 (fun e => ?_) (fun e => ?_)⟩
      · rw [show isRun cL z.cps.toList = true from e, Bool.true_and] at q
        refine ⟨_, rfl, T.aRes, wRes.map V.str, rfl, .inr (T.q_RESERVED _), rfl, flat_strs _, ?_⟩
        rw [inV_strs, if_pos rfl]
        exact q
      · rw [show isRun cL z.cps.toList = false from Bool.eq_false_iff.mpr e, Bool.false_and] at q
        exact q
    · rw [show decide ((z.length : Int) ≤ ((12 : Nat) : Int)) = false from Bool.eq_false_iff.mpr e, Bool.false_and] at q
      exact q
def isNumber (z : PySem.Str) : Bool := decide (z.length ≤ 10) && (isRun cD z.cps.toList && (decide (z = "0") || !decide (z.cps.toList.head? = some 48)))
def spIsNumber : Sp := fun vs H Q _ => ∃ (z : PySem.Str), vs = [.str z] ∧ z.length ≤ sizeLine ∧ Q (.bl (isNumber z)) H
theorem str_dec (x y : PySem.Str) : decide (V.str x = V.str y) = decide (x = y) := decide_eq_decide.mpr ⟨fun h => by injection h, fun h => by rw [h]⟩
theorem ok_is_number (T : Txt K mg) (D_is_number : Df K mg "is_number" s_is_number ["word"]) (D_is_run : Df K mg "_is_run" s_is_run ["word", "characters"]) (D_run_end : Df K mg "_run_end" s_run_end ["text", "at", "characters"]) : FnOk P w K mg base CX0 3 D_is_number.f D_is_number.fd ["word"] spIsNumber := by
  have G_is_run := ok_is_run (P := P) (w := w) (base := base) T D_is_run D_run_end
  refine D_is_number.F.ok sc_is_number (fun vs H Q E h => ?_) (fun cdv A outer s H vs Q E hr h => ?_)
  · obtain ⟨z, rfl, _⟩ := h
    rfl
  · obtain ⟨z, rfl, hz, q⟩ := h
    refine ⟨_, (pss_one (ps_ret (pe_and (pe_cmpR op_le (pe_callB call_len_str (by rfl) T.n_len PySem.boot_len (pa_cons (pv 0) pa_nil)) (pe_glob (v := .int 10) rfl T.m_LONGEST_NUMBER ⟨_, rfl⟩) (nomark _)) (pe_and (pe_call G_is_run (hr.mono (by decide)) (by rfl) D_is_run.g D_is_run.F.kp D_is_run.b .nil pass0 (pa_cons (pv 0) (pa_cons (pe_glob (v := .str sDigits) rfl T.m_DIGITS ⟨_, rfl⟩) pa_nil))) (pe_one (pe_or (pe_cmpR op_eq (pv 0) pe_str (nomark _)) (pe_one (pe_cmpR op_ne (pe_ix ix_str (pv 0) pe_int (fun _ _ => rfl)) pe_str (nomark _))))))))), ?_⟩
    unfold isNumber at q
    rw [← le_dec] at q
    refine ⟨_, rfl, z, rfl, hz, _, _, rfl, rfl, _, rfl, ite2 (fun e => ?_) (fun e => ?_)⟩
    · rw [show decide ((z.length : Int) ≤ ((10 : Nat) : Int)) = true from e, Bool.true_and] at q
      refine ⟨_, rfl, z, sDigits, rfl, hz, _, rfl, ite2 (fun e => ?_) (fun e => ?_)⟩
      · have e1 : isRun cD z.cps.toList = true := e
        rw [e1, Bool.true_and] at q
        refine ⟨_, rfl, rfl, _, rfl, ?_⟩
        rw [str_dec]
        refine ite2 (fun e => ?_) (fun e => ?_)
        · rw [show decide (z = "0") = true from e, Bool.true_or] at q
          exact q
        · rw [show decide (z = "0") = false from Bool.eq_false_iff.mpr e, Bool.false_or] at q
          have hne : z.cps.toList ≠ [] := of_decide_eq_true (Bool.and_eq_true_iff.mp e1).1
          have hlt : 0 < z.cps.toList.length := List.length_pos_iff.mpr hne
          have ec : z.cps.toList[0]? = some z.cps.toList[0] := List.getElem?_eq_getElem hlt
          refine ⟨_, rfl, _, _, _, rfl, rfl, hz, atI_nat (j := 0) ec, rfl, ?_⟩
          have e4 : decide (V.str ⟨#[z.cps.toList[0]]⟩ = V.str "0") = decide (z.cps.toList.head? = some 48) := by
            rw [str_dec]
            refine decide_eq_decide.mpr ⟨fun h => ?_, fun h => ?_⟩
            · injection h with h
              have h3 : [z.cps.toList[0]] = [48] := congrArg Array.toList h
              injection h3 with h3
              rw [List.head?_eq_getElem?, ec, h3]
            · rw [List.head?_eq_getElem?, ec] at h
              injection h with h
              rw [h]
              rfl
          rw [e4]
          exact q
      · rw [show isRun cD z.cps.toList = false from Bool.eq_false_iff.mpr e, Bool.false_and] at q
        exact q
    · rw [show decide ((z.length : Int) ≤ ((10 : Nat) : Int)) = false from Bool.eq_false_iff.mpr e, Bool.false_and] at q
      exact q
end
end K1

namespace K1
open PySem PySem.Spec PyProof.Rows L2
/-- all that was tracked is as it was, but what stands at h -/
def But (h : Addr) (H H' : Hp) : Prop := ∀ b o, b ≠ h → H b = some o → H' b = some o
theorem But.refl (h : Addr) (H : Hp) : But h H H := fun _ _ _ e => e
theorem But.trans {h : Addr} {H H1 H2 : Hp} (a : But h H H1) (b : But h H1 H2) : But h H H2 := fun c o n e => b c o n (a c o n e)
theorem Same.but {h : Addr} {H H' : Hp} (a : Same H H') : But h H H' := fun c o _ e => a c o e
/-- the hand at h: the list of draws at d, and a place in it -/
structure Hand (H : Hp) (h d : Addr) (ds : List Int) : Prop where
  at_ : ∃ i : Nat, H h = some (.lst [.ref d, .int (i : Nat)])
  ds_ : H d = some (.lst (ds.map V.int))
  ne : d ≠ h
theorem Hand.same {H H' : Hp} {h d : Addr} {ds : List Int} (a : Hand H h d ds) (s : Same H H') : Hand H' h d ds := by
  obtain ⟨⟨i, h1⟩, h2, h3⟩ := a
  exact ⟨⟨i, s _ _ h1⟩, s _ _ h2, h3⟩
section
variable {P : Program} {w : World} {K : PySem.W.Frag} {mg : PySem.Str → Option Value} {base : Heap}
def spTake : Sp := fun vs H Q _ => ∃ (h d : Addr) (ds : List Int) (m : Int), vs = [.ref h, .int m] ∧ 0 < m ∧ Hand H h d ds ∧ ∀ r H', 0 ≤ r → r < m → But h H H' → Hand H' h d ds → (∀ b, H b = none → H' b = none) → Q (.int r) H'
theorem ok_l_take (T : Txt K mg) (D_l_take : Df K mg "_law_take" s_l_take ["hand", "many"]) : FnOk P w K mg base CX0 1 D_l_take.f D_l_take.fd ["hand", "many"] spTake := by
  refine D_l_take.F.ok sc_l_take (fun vs H Q E h => ?_) (fun cdv A outer s H vs Q E hr h => ?_)
  · obtain ⟨a, d, ds, m, rfl, _⟩ := h
    rfl
  · obtain ⟨a, d, ds, m, rfl, hm, ⟨⟨i, e1⟩, e2, e3⟩, q⟩ := h
    refine ⟨_, (pss_cons (ps_set (i := 2) sc_l_take.nd rfl (.inl rfl) (pe_ix ix_list (pv 0) pe_int (fun _ _ => rfl)))
    (pss_cons (ps_asg (pe_op op_add (pv 2) pe_int) (pg_sub (pv 0) pe_int set_list))
    (pss_cons (ps_set (i := 3) sc_l_take.nd rfl (.inl rfl) (pe_ix ix_list (pv 0) pe_int (fun _ _ => rfl)))
    (pss_cons (ps_if (pt_cmpR op_ge (pv 2) (pe_callB call_len_seq (by rfl) T.n_len PySem.boot_len (pa_cons (pv 3) pa_nil)) (nomark _))
    (pss_one (ps_ret pe_int))
    pss_nil)
    (pss_one (ps_ret (pe_op op_mod (pe_op op_fdiv (pe_callTy call_int1 (by rfl) T.n_int (by decide +kernel) (pa_cons (pe_ix ix_list (pv 3) (pv 2) (fun _ _ => rfl)) pa_nil)) pe_int) (pv 1)))))))), ?_⟩
    -- at = hand[1]
    refine ⟨_, rfl, a, _, _, _, rfl, rfl, SqL.of e1, atI_nat (j := 1) rfl, ?_⟩
    -- hand[1] = at + 1
    refine ⟨_, rfl, _, _, rfl, rfl, _, rfl, a, _, 1, 1, rfl, rfl, e1, rfl, ?_⟩
    have b1 : But a H (upd H a (.lst [.ref d, .int ((i + 1 : Nat) : Int)])) := fun b o n e => by
      rw [upd_ne n]
      exact e
    have e1' : upd H a (.lst [.ref d, .int ((i + 1 : Nat) : Int)]) a = some (.lst [.ref d, .int ((i + 1 : Nat) : Int)]) := upd_same
    have e2' : upd H a (.lst [.ref d, .int ((i + 1 : Nat) : Int)]) d = some (.lst (ds.map V.int)) := b1 _ _ e3 e2
    have fin : ∀ r, 0 ≤ r → r < m → Q (.int r) (upd H a (.lst [.ref d, .int ((i + 1 : Nat) : Int)])) := fun r h1 h2 => q r _ h1 h2 b1 ⟨⟨i + 1, e1'⟩, e2', e3⟩ fun b hb => by
      rw [upd_ne (fun e => by rw [e, e1] at hb; cases hb)]
      exact hb
    refine ⟨_, rfl, a, _, _, _, rfl, rfl, SqL.of e1', atI_nat (j := 0) rfl, ?_⟩
    refine ⟨_, rfl, _, rfl, d, _, rfl, .inl (SqL.of e2'), _, _, rfl, rfl, _, rfl, ite2 (fun e => ?_) (fun e => ?_)⟩
    · exact fin 0 (Int.le_refl 0) hm
    · have e4 := of_decide_eq_false (Bool.eq_false_iff.mpr e)
      rw [List.length_map] at e4
      have hi : i < ds.length := by omega
      have g : (ds.map V.int)[i]? = some (.int ds[i]) := by
        rw [List.getElem?_map, List.getElem?_eq_getElem hi]
        rfl
      refine ⟨_, rfl, _, rfl, d, _, _, _, rfl, rfl, SqL.of e2', atI_nat g, .inl ⟨_, rfl, _, _, rfl, rfl, ⟨by decide, by decide⟩, _, rfl, _, _, rfl, rfl, hm, ?_⟩⟩
      exact fin _ (Int.emod_nonneg _ (by omega)) (Int.emod_lt_of_pos _ hm)
/-! ### _law_draws -/
theorem ixN_nat {n j : Nat} (h : j < n) : ixN n (j : Int) = some j := by
  unfold ixN
  rw [if_pos (by omega), if_pos (by omega)]
  rfl
def spDraws (K : PySem.W.Frag) : Sp := fun vs H Q _ => ∃ (a : Addr) (ns : List Int) (m : Nat), vs = [.ref a, .int m] ∧ SqL K H a (ns.map V.int) ∧ ns.length ≤ 1000 ∧ m ≤ 1000 ∧ ∀ p (ds : List Int) H', Same H H' → H p = none → H' p = some (.lst (ds.map V.int)) → Q (.ref p) H'
theorem small_sz {n : Nat} (h : n ≤ 1000) : n < sizeLine := Nat.lt_of_le_of_lt h (by decide)
theorem ok_l_draws (T : Txt K mg) (D_l_draws : Df K mg "_law_draws" s_l_draws ["script", "many"]) : FnOk P w K mg base CX0 1 D_l_draws.f D_l_draws.fd ["script", "many"] (spDraws K) := by
  refine D_l_draws.F.ok sc_l_draws (fun vs H Q E h => ?_) (fun cdv A outer s H vs Q E hr h => ?_)
  · obtain ⟨a, ns, m, rfl, _⟩ := h
    rfl
  · obtain ⟨a, ns, m, rfl, hS, hn, hm, q⟩ := h
    refine ⟨_, (pss_cons (ps_setLc (i := 2) (own := [("cell", 3)]) (g := gName 3) (by rfl) sc_l_draws.nd rfl rfl (sw_true rfl rfl rfl (by decide +kernel)) (pi_list (pv 0)) (blkOk_by (own := [("cell", 3)]) (N := ["script", "many", "rests", "cell", "draws", "k", "at", "mixed"]) (sc := defScope s_l_draws) (by decide +kernel)) (fun _ _ _ _ _ => pg_name (i := 3) sc_l_draws.nd rfl (Or.inl rfl)) (fun _ _ _ _ _ => pts_nil) (fun _ _ _ _ _ => (pe_callB call_abs (by rfl) T.n_abs (by decide +kernel) (pa_cons (pe_callTy call_int1 (by rfl) T.n_int (by decide +kernel) (pa_cons (pv 3) pa_nil)) pa_nil))))
    (pss_cons (ps_set (i := 4) sc_l_draws.nd rfl (.inl rfl) (pe_lst pa_nil))
    (pss_cons (ps_for PassesOwn.never rfl (pi_range1 (by rfl) T.n_range (pa_cons (pv 1) pa_nil)) (pg_name (i := 5) sc_l_draws.nd rfl (.inl rfl))
    (pss_cons (ps_set (i := 3) sc_l_draws.nd rfl (.inl rfl) (pv 5))
    (Evl.pss_cut (ps_if (pt_cmpR op_gt (pe_callB call_len_seq (by rfl) T.n_len PySem.boot_len (pa_cons (pv 0) pa_nil)) pe_int (nomark _))
    (pss_cons (ps_set (i := 6) sc_l_draws.nd rfl (.inl rfl) (pe_op op_mod (pv 5) (pe_callB call_len_seq (by rfl) T.n_len PySem.boot_len (pa_cons (pv 0) pa_nil))))
    (pss_cons (ps_set (i := 3) sc_l_draws.nd rfl (.inl rfl) (pe_callTy call_int1 (by rfl) T.n_int (by decide +kernel) (pa_cons (pe_ix ix_list (pv 0) (pv 6) (fun _ _ => rfl)) pa_nil)))
    (pss_one (ps_if (PW.pt (pw_and (pt_cmpR op_ge (pv 3) (pe_op op_pow pe_int pe_int) (nomark _)) (pw_and1 (pt_cmpR op_gt (pe_ix ix_list (pv 2) (pv 6) (fun _ _ => rfl)) pe_int (nomark _)))))
    (pss_cons (ps_expr (pe_bm PySem.F.plainAttrs_list PySem.F.slot_list_append PySem.F.type_list_append mt_append (pv 4) (pa_cons (pe_op op_mod (pe_callTy call_int1 (by rfl) T.n_int (by decide +kernel) (pa_cons (pe_ix ix_list (pv 2) (pv 6) (fun _ _ => rfl)) pa_nil)) pe_int) pa_nil)))
    (pss_cons (ps_asg (pe_op op_fdiv (pe_callTy call_int1 (by rfl) T.n_int (by decide +kernel) (pa_cons (pe_ix ix_list (pv 2) (pv 6) (fun _ _ => rfl)) pa_nil)) pe_int) (pg_sub (pv 2) (pv 6) set_list))
    (pss_one ps_continue)))
    pss_nil))))
    pss_nil)
    (pss_cons (ps_set (i := 7) sc_l_draws.nd rfl (.inl rfl) (pe_op op_mod (pe_callTy call_int1 (by rfl) T.n_int (by decide +kernel) (pa_cons (pe_op op_add (pe_op op_add (pe_op op_mul (pv 3) pe_int) (pe_op op_mul (pv 5) pe_int)) pe_int) pa_nil)) pe_int))
    (pss_cons (ps_set (i := 7) sc_l_draws.nd rfl (.inl rfl) (pe_op op_mod (pe_callTy call_int1 (by rfl) T.n_int (by decide +kernel) (pa_cons (pe_op op_add (pe_op op_fdiv (pe_op op_mul (pv 7) (pv 7)) pe_int) (pv 7)) pa_nil)) pe_int))
    (pss_one (ps_expr (pe_bm PySem.F.plainAttrs_list PySem.F.slot_list_append PySem.F.type_list_append mt_append (pv 4) (pa_cons (pe_op op_mod (pe_callTy call_int1 (by rfl) T.n_int (by decide +kernel) (pa_cons (pe_op op_add (pe_op op_fdiv (pe_op op_mul (pv 7) (pv 7)) pe_int) (pe_op op_mul (pv 5) pe_int)) pa_nil)) pe_int) pa_nil)))))))))
    (pss_one (ps_ret (pv 4)))))), ?_⟩
    -- rests = [..]
    refine ⟨.ref a, rfl, a, rfl, ⟨_, hS⟩, fun D hD => ?_⟩
    refine lc_list (K := K) (a := a) (xs := ns.map V.int) (fun i H1 => Same H H1 ∧ ∃ rs : List Int, rs.length = i ∧ H1 D = some (.lst (rs.map V.int))) ⟨same_new hD, [], rfl, upd_same⟩ (fun i H1 _ h => h.1.seq hS) (fun i x H1 hx hP => ?_) (fun H1 hP => ?_)
    · obtain ⟨s1, rs, hl, e1⟩ := hP
      rw [List.getElem?_map] at hx
      cases hni : ns[i]? with
      | none =>
        rw [hni] at hx
        cases hx
      | some n =>
        rw [hni] at hx
        cases hx
        have hlt : i < ns.length := by
          obtain ⟨h1, _⟩ := List.getElem?_eq_some_iff.mp hni
          exact h1
        refine ⟨rfl, ?_⟩
        refine ⟨_, rfl, .inl ⟨n, rfl, n, rfl, _, e1, ?_, same_mut s1 hD, rs ++ [if n < 0 then -n else n], ?_, ?_⟩⟩
        · rw [List.length_map, hl]
          exact small_sz (by omega)
        · rw [List.length_append, hl]
          rfl
        · rw [upd_same, List.map_append]
          rfl
    obtain ⟨s1, rs, hl, e1⟩ := hP
    rw [List.length_map] at hl
    -- draws = []
    refine ⟨Nat.zero_le _, fun p np => ?_⟩
    have npH : H p = none := s1.free np
    have npD : D ≠ p := ne_of_none e1 np
    refine ⟨_, rfl, m, rfl, by omega, by omega, ?_⟩
    refine for_range (lo := 0) (n := (m : Int).toNat) (fun i σ H2 => ∃ (y3 y5 y6 y7 : Option V) (rs ds : List Int), σ = [some (.ref a), some (.int m), some (.ref D), y3, some (.ref p), y5, y6, y7] ∧ rs.length = ns.length ∧ ds.length = i ∧ Same H H2 ∧ H2 D = some (.lst (rs.map V.int)) ∧ H2 p = some (.lst (ds.map V.int)))
      ⟨_, _, _, _, rs, [], rfl, hl, rfl, s1.trans (same_new np), (same_new np) _ _ e1, upd_same⟩ (fun i σ H2 hi hP => ?_) (fun σ H2 hP => ?_)
    · obtain ⟨y3, y5, y6, y7, rs, ds, rfl, hl, hd, s2, e2, e3⟩ := hP
      have hA : SqL K H2 a (ns.map V.int) := s2.seq hS
      -- cell = k
      refine ⟨_, rfl, ?_⟩
      refine ⟨fun σ' H' => ∃ (c : Int) (y6 : Option V), σ' = [some (.ref a), some (.int m), some (.ref D), some (.int c), some (.ref p), some (.int (0 + i)), y6, y7] ∧ H' = H2, ?_, ?_⟩
      · refine ⟨_, rfl, a, _, rfl, .inl hA, _, _, rfl, rfl, _, rfl, ite2 (fun e => ?_) (fun e => ?_)⟩
        · have e4 := of_decide_eq_true e
          rw [List.length_map] at e4
          have hpos : 0 < ns.length := by omega
          refine ⟨_, rfl, _, rfl, a, _, rfl, .inl hA, _, _, rfl, rfl, by rw [List.length_map]; omega, ?_⟩
          rw [List.length_map]
          have hk0 : 0 ≤ ((0 : Int) + i) % (ns.length : Int) := Int.emod_nonneg _ (by omega)
          have hk1 : ((0 : Int) + i) % (ns.length : Int) < ns.length := Int.emod_lt_of_pos _ (by omega)
          dsimp only
          generalize ((0 : Int) + i) % (ns.length : Int) = k at hk0 hk1
          obtain ⟨j, rfl⟩ : ∃ j : Nat, k = j := ⟨k.toNat, by omega⟩
          have hj : j < ns.length := by omega
          have g : (ns.map V.int)[j]? = some (.int ns[j]) := by
            rw [List.getElem?_map, List.getElem?_eq_getElem hj]
            rfl
          have hj2 : j < rs.length := by omega
          have g2 : (rs.map V.int)[j]? = some (.int rs[j]) := by
            rw [List.getElem?_map, List.getElem?_eq_getElem hj2]
            rfl
          refine ⟨_, rfl, _, rfl, a, _, _, _, rfl, rfl, hA, atI_nat g, .inl ⟨_, rfl, ?_⟩⟩
          refine ⟨_, rfl, _, _, rfl, rfl, ⟨by decide, by decide, by decide⟩, _, _, rfl, rfl, _, rfl, ite2 (fun e => ?_) (fun e => ?_)⟩
          · refine ⟨_, rfl, _, rfl, D, _, _, _, rfl, rfl, SqL.of e2, atI_nat g2, _, _, rfl, rfl, _, rfl, ite2 (fun e => ?_) (fun e => ?_)⟩
            · -- draws.append(rests[at] % ..)
              refine ⟨_, rfl, .inl ⟨rfl, _, SqL.of e3⟩, _, rfl, _, rfl, D, _, _, _, rfl, rfl, SqL.of e2, atI_nat g2, .inl ⟨_, rfl, _, _, rfl, rfl, (by show (0 : Int) < _; decide), p, _, _, rfl, rfl, e3, ?_, ?_⟩⟩
              · rw [List.length_map]
                exact small_sz (by omega)
              have e2' : (upd H2 p (.lst (ds.map V.int ++ [.int (rs[j] % 1000003)]))) D = some (.lst (rs.map V.int)) := by
                rw [upd_ne npD]
                exact e2
              refine ⟨_, rfl, _, rfl, D, _, _, _, rfl, rfl, SqL.of e2', atI_nat g2, .inl ⟨_, rfl, _, _, rfl, rfl, ⟨by decide, by decide⟩, _, rfl, _, rfl, D, _, _, j, rfl, rfl, e2', ?_, ?_⟩⟩
              · rw [List.length_map]
                exact ixN_nat (by omega)
              refine ⟨_, _, _, _, rs.set j (rs[j] / 1000003), ds ++ [rs[j] % 1000003], rfl, by rw [List.length_set, hl], by rw [List.length_append, hd]; rfl, same_mut (same_mut s2 npH) hD, ?_, ?_⟩
              · rw [upd_same, List.map_set]
              · rw [upd_ne npD.symm, upd_same, List.map_append]
                rfl
            · exact ⟨_, _, rfl, rfl⟩
          · exact iteF ⟨_, _, rfl, rfl⟩
        · exact ⟨_, _, rfl, rfl⟩
      · intro σ' H' hN
        obtain ⟨c, y6, rfl, rfl⟩ := hN
        refine ⟨_, rfl, _, _, rfl, rfl, .inr ⟨by decide, by decide⟩, _, rfl, _, _, rfl, rfl, .inr ⟨by decide, by decide⟩, _, _, rfl, rfl, _, _, rfl, rfl, .inl ⟨_, rfl, _, _, rfl, rfl, (by show (0 : Int) < _; decide), ?_⟩⟩
        have m0 : 0 ≤ (c * 48271 + (0 + (i : Int)) * 69621 + 11) % 2147483647 := Int.emod_nonneg _ (by decide)
        have m1 : (c * 48271 + (0 + (i : Int)) * 69621 + 11) % 2147483647 < 2147483647 := Int.emod_lt_of_pos _ (by decide)
        dsimp only
        generalize (c * 48271 + (0 + (i : Int)) * 69621 + 11) % 2147483647 = x at m0 m1
        refine ⟨_, rfl, _, rfl, _, _, rfl, rfl, .inl ⟨by omega, by omega⟩, _, _, rfl, rfl, ⟨by decide, by decide⟩, _, rfl, _, _, rfl, rfl, .inl ⟨_, rfl, _, _, rfl, rfl, (by show (0 : Int) < _; decide), ?_⟩⟩
        have m2 : 0 ≤ (x * x / 4096 + x) % 2147483629 := Int.emod_nonneg _ (by decide)
        have m3 : (x * x / 4096 + x) % 2147483629 < 2147483629 := Int.emod_lt_of_pos _ (by decide)
        dsimp only
        generalize (x * x / 4096 + x) % 2147483629 = y at m2 m3
        refine ⟨_, rfl, .inl ⟨rfl, _, SqL.of e3⟩, _, rfl, _, rfl, _, _, rfl, rfl, .inl ⟨by omega, by omega⟩, _, _, rfl, rfl, ⟨by decide, by decide⟩, _, rfl, _, _, rfl, rfl, .inr ⟨by decide, by decide⟩, _, _, rfl, rfl, .inl ⟨_, rfl, _, _, rfl, rfl, (by show (0 : Int) < _; decide), p, _, _, rfl, rfl, e3, ?_, ?_⟩⟩
        · rw [List.length_map]
          exact small_sz (by omega)
        refine ⟨_, _, _, _, rs, ds ++ [(y * y / 4096 + (0 + (i : Int)) * 7919) % 2147483629], rfl, hl, by rw [List.length_append, hd]; rfl, same_mut s2 npH, ?_, ?_⟩
        · rw [upd_ne npD]
          exact e2
        · rw [upd_same, List.map_append]
          rfl
    · obtain ⟨y3, y5, y6, y7, rs, ds, rfl, hl, hd, s2, e2, e3⟩ := hP
      exact ⟨_, rfl, q p ds H2 s2 npH e3⟩
end
end K1

namespace K1
open PySem PySem.Spec PyProof.Rows L2
/-! ### written texts in a row; a text n times -/
def tStrs (ws : List PySem.Str) : TA := fun _ H Q => Q (ws.map V.str) H
theorem pa_strs {X : Cx} {es : List Expr} {ws : List PySem.Str} (h : StrEs es ws) : PA X es (tStrs ws) := by
  induction h with
  | nil => exact pa_nil
  | cons x j p _ ih => exact pa_cons pe_str ih
def rMulS : R2 := fun x y H Q => ∃ (z : PySem.Str) (n : Int), x = .str z ∧ y = .int n ∧ 0 ≤ n ∧ n ≤ 1000 ∧ z.length ≤ 1000 ∧ Q (.str (Txt.mul z n)) H
theorem op_mul_str {X : Cx} : OpR X (binaryOp .Mult) rMulS := by
  intro pins s σ H x y v u Q I rx ry h
  obtain ⟨z, n, rfl, rfl, h0, h1, hz, q⟩ := h
  obtain ⟨t, rfl⟩ := rx
  obtain ⟨t', rfl⟩ := ry
  refine SB.mul ⟨?_, ?_, ?_⟩ fun t' k => ⟨.str _, H, I.tok k, ⟨t', rfl⟩, q⟩
  · rw [Bool.or_eq_false_iff]
    exact ⟨decide_eq_false (by omega), decide_eq_false (by omega)⟩
  · intro hn _ hc
    have hd : (2 ^ 63 - 1 : Int) / 1000 ≤ (2 ^ 63 - 1) / n := by
      have : n * 9223372036854775 ≤ 2 ^ 63 - 1 := by omega
      have h2 : (9223372036854775 : Int) ≤ (2 ^ 63 - 1) / n := Int.le_ediv_of_mul_le (by omega) (by rw [Int.mul_comm]; exact this)
      have h3 : (2 ^ 63 - 1 : Int) / 1000 = 9223372036854775 := by decide
      omega
    have h3 : (2 ^ 63 - 1 : Int) / 1000 = 9223372036854775 := by decide
    omega
  · intro _ _
    have hb : z.length * n.toNat ≤ 1000 * 1000 := Nat.mul_le_mul hz (by omega)
    unfold Builtin.Str.tooLong
    refine decide_eq_false ?_
    have : (1000 * 1000 : Nat) ≤ sizeLine := by decide
    omega
theorem new_of {H H1 : Hp} {p : Addr} {o : HO} (n : H p = none) (h : upd H p o = H1) : Same H H1 ∧ H1 p = some o := by
  subst h
  exact ⟨same_new n, upd_same⟩
theorem foldl_app {c : Nat} : ∀ (n : Nat) (a : Array Nat), ((List.replicate n #[c]).foldl (· ++ ·) a).toList = a.toList ++ List.replicate n c
  | 0, a => by simp
  | n + 1, a => by
    rw [List.replicate_succ, List.foldl_cons, foldl_app n]
    simp [List.replicate_succ]
theorem mul_one_sign (c : Nat) (n : Int) : (Txt.mul ⟨#[c]⟩ n).cps.toList = List.replicate n.toNat c := by
  unfold Txt.mul
  by_cases h1 : n < 1
  · rw [if_pos h1, show n.toNat = 0 by omega]
    rfl
  · rw [if_neg h1]
    by_cases h2 : (n == 1 || (⟨#[c]⟩ : PySem.Str).length == 0) = true
    · rw [if_pos h2]
      have h3 : n = 1 := by
        rcases Bool.or_eq_true_iff.mp h2 with h | h
        · exact eq_of_beq h
        · exact absurd (eq_of_beq h) (by show ¬ (1 : Nat) = 0; decide)
      subst h3
      rfl
    · rw [if_neg h2]
      show ((List.replicate n.toNat #[c]).foldl (· ++ ·) #[]).toList = _
      rw [foldl_app]
      rfl
theorem join_len1 : ∀ (ys : List PySem.Str), (Str.join "" ys).length = (ys.map (·.length)).sum
  | [] => rfl
  | [x] => by
    show x.length = (x.length :: []).sum
    rw [List.sum_cons]
    rfl
  | x :: y :: r => by
    show (x ++ "" ++ Str.join "" (y :: r)).length = _
    have h := join_len1 (y :: r)
    rw [TL.len_tl] at h ⊢
    rw [TL.tl_append, TL.tl_append, List.length_append, List.length_append, h, List.map_cons, List.sum_cons, TL.len_tl]
    rfl
theorem join_len (ys : List PySem.Str) : (Txt.join "" ys).length = (ys.map (·.length)).sum := by
  rw [TL.join_eq, join_len1]
theorem sum_const {ys : List PySem.Str} {b : Nat} (h : ∀ y ∈ ys, y.length ≤ b) : (ys.map (·.length)).sum ≤ ys.length * b := by
  induction ys with
  | nil => exact Nat.zero_le _
  | cons a r ih =>
    have h1 := h a List.mem_cons_self
    have h2 := ih fun y hy => h y (List.mem_cons_of_mem _ hy)
    rw [List.map_cons, List.sum_cons, List.length_cons, Nat.add_mul]
    omega
section
variable {P : Program} {w : World} {K : PySem.W.Frag} {mg : PySem.Str → Option Value} {base : Heap}
def spLetters : Sp := fun vs H Q _ => vs = [] ∧ Q (.str sLetters) H
theorem ok_l_letters (T : Txt K mg) (D_l_letters : Df K mg "_law_letters" s_l_letters []) : FnOk P w K mg base CX0 1 D_l_letters.f D_l_letters.fd [] spLetters := by
  refine D_l_letters.F.ok sc_l_letters (fun vs H Q E h => ?_) (fun cdv A outer s H vs Q E hr h => ?_)
  · rw [h.1]
    rfl
  · obtain ⟨rfl, q⟩ := h
    exact ⟨_, (pss_one (ps_ret pe_str)), q⟩
def wResL : List PySem.Str := ["proc", "list", "needs", "gives", "keeps", "falls", "from", "to", "let", "while", "if", "else", "end", "choose", "check", "call", "swap", "return", "skip", "or", "and", "not", "all", "sorted", "below", "either", "len", "old", "moves", "result"]
def spRes : Sp := fun vs H Q _ => vs = [] ∧ ∀ p H', Same H H' → H p = none → H' p = some (.lst (wResL.map V.str)) → Q (.ref p) H'
theorem ok_l_reserved (T : Txt K mg) (D_l_reserved : Df K mg "_law_reserved" s_l_reserved []) : FnOk P w K mg base CX0 1 D_l_reserved.f D_l_reserved.fd [] spRes := by
  refine D_l_reserved.F.ok sc_l_reserved (fun vs H Q E h => ?_) (fun cdv A outer s H vs Q E hr h => ?_)
  · rw [h.1]
    rfl
  · obtain ⟨rfl, q⟩ := h
    refine ⟨_, (pss_cons (ps_set (i := 0) sc_l_reserved.nd rfl (.inl rfl) (pe_lst (pa_strs (.cons _ _ _ (.cons _ _ _ (.cons _ _ _ (.cons _ _ _ (.cons _ _ _ (.cons _ _ _ (.cons _ _ _ (.cons _ _ _ (.cons _ _ _ (.cons _ _ _ (.cons _ _ _ (.cons _ _ _ (.cons _ _ _ .nil))))))))))))))))
    (pss_cons (ps_set (i := 0) sc_l_reserved.nd rfl (.inl rfl) (pe_op op_cat (pv 0) (pe_lst (pa_strs (.cons _ _ _ (.cons _ _ _ (.cons _ _ _ (.cons _ _ _ (.cons _ _ _ (.cons _ _ _ (.cons _ _ _ (.cons _ _ _ (.cons _ _ _ (.cons _ _ _ (.cons _ _ _ (.cons _ _ _ .nil))))))))))))))))
    (pss_one (ps_ret (pe_op op_cat (pv 0) (pe_lst (pa_strs (.cons _ _ _ (.cons _ _ _ (.cons _ _ _ (.cons _ _ _ (.cons _ _ _ .nil)))))))))))), ?_⟩
    refine ⟨by decide, fun p1 n1 => ?_⟩
    generalize hg : upd _ p1 _ = H1
    obtain ⟨s1, e1⟩ := new_of n1 hg
    refine ⟨_, rfl, by decide, fun p2 n2 => ?_⟩
    generalize hg : upd _ p2 _ = H2
    obtain ⟨s2, e2⟩ := new_of n2 hg
    refine ⟨_, _, _, _, rfl, rfl, s2 _ _ e1, e2, by decide, fun p3 n3 => ?_⟩
    generalize hg : upd _ p3 _ = H3
    obtain ⟨s3, e3⟩ := new_of n3 hg
    refine ⟨_, rfl, by decide, fun p4 n4 => ?_⟩
    generalize hg : upd _ p4 _ = H4
    obtain ⟨s4, e4⟩ := new_of n4 hg
    refine ⟨_, _, _, _, rfl, rfl, s4 _ _ e3, e4, by decide, fun p5 n5 => ?_⟩
    generalize hg : upd _ p5 _ = H5
    obtain ⟨s5, e5⟩ := new_of n5 hg
    have S4 := s1.trans (s2.trans (s3.trans s4))
    exact q p5 _ (S4.trans s5) (S4.free n5) e5
end
end K1

namespace K1
open PySem PySem.Spec PyProof.Rows L2
theorem runL_all {c : List Nat} : ∀ {l : List Nat}, (∀ x ∈ l, x ∈ c) → runL c l = l.length
  | [], _ => rfl
  | x :: r, h => by
    rw [runL_in (h x List.mem_cons_self), runL_all fun y hy => h y (List.mem_cons_of_mem _ hy)]
    rfl
theorem runL_not {c : List Nat} : ∀ {l : List Nat} {x : Nat}, x ∈ l → ¬ x ∈ c → runL c l < l.length
  | y :: r, x, h, hx => by
    by_cases hy : y ∈ c
    · rw [runL_in hy]
      rcases List.mem_cons.mp h with rfl | h
      · exact absurd hy hx
      · exact Nat.succ_lt_succ (runL_not h hx)
    · rw [runL_out hy]
      exact Nat.succ_pos _
theorem isRun_all {c l : List Nat} (h0 : l ≠ []) (h : ∀ x ∈ l, x ∈ c) : isRun c l = true := by
  unfold isRun
  rw [decide_eq_true h0, decide_eq_true (runL_all h)]
  rfl
theorem isRun_not {c l : List Nat} {x : Nat} (h : x ∈ l) (hx : ¬ x ∈ c) : isRun c l = false := by
  unfold isRun
  rw [decide_eq_false (Nat.ne_of_lt (runL_not h hx)), Bool.and_false]
theorem isRun_nil (c : List Nat) : isRun c [] = false := rfl
theorem res_same (z : PySem.Str) : z ∈ wRes ↔ z ∈ wResL := by
  have h1 : ∀ a ∈ wRes, a ∈ wResL := by decide +kernel
  have h2 : ∀ a ∈ wResL, a ∈ wRes := by decide +kernel
  exact ⟨h1 z, h2 z⟩
theorem mem_of_get {l : List Nat} {i x : Nat} (h : l[i]? = some x) : x ∈ l := List.mem_of_getElem? h
theorem take_all {c l : List Nat} {i x : Nat} (h : ∀ y ∈ l.take i, y ∈ c) (e : l[i]? = some x) (hx : x ∈ c) : ∀ y ∈ l.take (i + 1), y ∈ c := by
  intro y hy
  rw [List.take_add_one, e] at hy
  rcases List.mem_append.mp hy with hy | hy
  · exact h y hy
  · rw [Option.toList_some, List.mem_singleton] at hy
    rw [hy]
    exact hx
/-- a loop over a text's signs -/
theorem for_str {x : PySem.Str} {g : TG} {tb : TS} {D : Ends} {σ : L2.St} {H : Hp} (Pv : Nat → L2.St → Hp → Prop) (h0 : Pv 0 σ H)
    (hs : ∀ i c σ H, x.cps.toList[i]? = some c → Pv i σ H → g (.str ⟨#[c]⟩) σ H fun σ2 H2 => tb { D with nx := Pv (i + 1), ct := Pv (i + 1), bk := D.nx } σ2 H2) (hd : ∀ σ H, Pv x.cps.toList.length σ H → D.nx σ H) :
    ∃ W : Nat → Nat → L2.St → Hp → Prop, (∃ m, W 0 m σ H) ∧ ∀ i m σ H, W i m σ H →
      ((Its x).stop i H ∧ D.nx σ H) ∨ ((Its x).go i H ∧ ∃ N : L2.St → Hp → Prop, (∀ σ' H', N σ' H' → ∃ m', m' < m ∧ W (i + 1) m' σ' H') ∧ ∀ v H', (Its x).yld i H v H' → g v σ H' fun σ2 H2 => tb { D with nx := N, ct := N, bk := D.nx } σ2 H2) := by
  refine ⟨fun i m σ H => m = x.cps.toList.length - i ∧ i ≤ x.cps.toList.length ∧ Pv i σ H, ⟨x.cps.toList.length, by simp, Nat.zero_le _, h0⟩, ?_⟩
  rintro i m σ H ⟨rfl, hi, p⟩
  by_cases hlt : i < x.cps.toList.length
  · refine .inr ⟨hlt, Pv (i + 1), fun σ' H' p' => ⟨x.cps.toList.length - (i + 1), by omega, rfl, hlt, p'⟩, fun v H' y => ?_⟩
    obtain ⟨e, c, hc, hv⟩ := y
    subst e hv
    exact hs i c σ _ (by rw [Array.getElem?_toList]; exact hc) p
  · have e : i = x.cps.toList.length := by omega
    subst e
    exact .inl ⟨Nat.le_refl _, hd σ H p⟩
section
variable {P : Program} {w : World} {K : PySem.W.Frag} {mg : PySem.Str → Option Value} {base : Heap}
def spLName : Sp := fun vs H Q _ => ∃ (z : PySem.Str), vs = [.str z] ∧ z.length ≤ sizeLine ∧ ∀ H', Same H H' → Q (.bl (isName z)) H'
theorem ok_l_is_name (T : Txt K mg) (D_l_is_name : Df K mg "_law_is_name" s_l_is_name ["word"]) (D_l_reserved : Df K mg "_law_reserved" s_l_reserved []) (D_l_letters : Df K mg "_law_letters" s_l_letters []) : FnOk P w K mg base CX0 2 D_l_is_name.f D_l_is_name.fd ["word"] spLName := by
  have G_l_reserved := ok_l_reserved (P := P) (w := w) (base := base) T D_l_reserved
  have G_l_letters := ok_l_letters (P := P) (w := w) (base := base) T D_l_letters
  refine D_l_is_name.F.ok sc_l_is_name (fun vs H Q E h => ?_) (fun cdv A outer s H vs Q E hr h => ?_)
  · obtain ⟨z, rfl, _⟩ := h
    rfl
  · obtain ⟨z, rfl, hz, q⟩ := h
    refine ⟨_, (pss_cons (ps_if (PW.pt (pw_or (pt_cmpR op_lt (pe_callB call_len_str (by rfl) T.n_len PySem.boot_len (pa_cons (pv 0) pa_nil)) pe_int (nomark _)) (pw_or (pt_cmpR op_gt (pe_callB call_len_str (by rfl) T.n_len PySem.boot_len (pa_cons (pv 0) pa_nil)) pe_int (nomark _)) (pw_or1 (pt_cmpR op_in_seq (pv 0) (pe_call0 G_l_reserved (hr.mono (by decide)) (by rfl) D_l_reserved.g D_l_reserved.F.kp D_l_reserved.b .nil pass0) (by rfl))))))
    (pss_one (ps_ret pe_bl))
    pss_nil)
    (pss_cons (ps_for PassesOwn.never rfl (pi_str (pv 0)) (pg_name (i := 1) sc_l_is_name.nd rfl (.inl rfl))
    (pss_one (ps_if (pt_cmpR op_notIn_sign (pv 1) (pe_call0 G_l_letters (hr.mono (by decide)) (by rfl) D_l_letters.g D_l_letters.F.kp D_l_letters.b .nil pass0) (by rfl))
    (pss_one (ps_ret pe_bl))
    pss_nil)))
    (pss_one (ps_ret pe_bl)))), ?_⟩
    have hl : z.cps.toList.length = z.length := rfl
    refine ⟨_, rfl, z, rfl, hz, _, _, rfl, rfl, _, rfl, ite2 (fun e => ?_) (fun e => ?_)⟩
    · have e1 := of_decide_eq_true e
      have e2 : z.cps.toList = [] := List.length_eq_zero_iff.mp (by omega)
      have q1 := q H (Same.refl H)
      unfold isName at q1
      rw [e2, isRun_nil, Bool.false_and, Bool.and_false] at q1
      exact iteT q1
    have e1 := of_decide_eq_false (Bool.eq_false_iff.mpr e)
    have hne : z.cps.toList ≠ [] := fun e2 => by
      rw [e2] at hl
      have : ([] : List Nat).length = 0 := rfl
      omega
    refine ⟨_, rfl, z, rfl, hz, _, _, rfl, rfl, _, rfl, ite2 (fun e => ?_) (fun e => ?_)⟩
    · have e2 := of_decide_eq_true e
      have q1 := q H (Same.refl H)
      unfold isName at q1
      rw [decide_eq_false (show ¬ z.length ≤ 12 by omega), Bool.false_and] at q1
      exact iteT q1
    have e2 := of_decide_eq_false (Bool.eq_false_iff.mpr e)
    refine ⟨_, rfl, rfl, fun p H1 s1 n1 e3 => ⟨p, _, rfl, .inl (SqL.of e3), rfl, flat_strs _, _, rfl, ?_⟩⟩
    rw [inV_strs, if_neg Bool.false_ne_true]
    refine ite2 (fun e => ?_) (fun e => ?_)
    · have e4 := (res_same z).mpr (of_decide_eq_true e)
      have q1 := q H1 s1
      unfold isName at q1
      rw [decide_eq_true e4] at q1
      simp only [Bool.not_true, Bool.and_false] at q1
      exact q1
    have e4 : ¬ z ∈ wRes := fun h => of_decide_eq_false (Bool.eq_false_iff.mpr e) ((res_same z).mp h)
    refine ⟨_, rfl, z, rfl, ?_⟩
    refine for_str (x := z) (fun i σ H2 => ∃ y, σ = [some (.str z), y] ∧ Same H H2 ∧ ∀ c ∈ z.cps.toList.take i, c ∈ cL) ⟨_, rfl, s1, fun c hc => absurd hc (by simp)⟩ (fun i c σ H2 hc hP => ?_) (fun σ H2 hP => ?_)
    · obtain ⟨y, rfl, s2, ha⟩ := hP
      refine ⟨_, rfl, rfl, c, sLetters, rfl, rfl, _, rfl, ite2 (fun e => ?_) (fun e => ?_)⟩
      · have e5 : ¬ c ∈ cL := by
          have e5 : (!decide (c ∈ cL)) = true := e
          intro h
          rw [decide_eq_true h] at e5
          cases e5
        have q1 := q H2 s2
        unfold isName at q1
        rw [isRun_not (mem_of_get hc) e5, Bool.false_and, Bool.and_false] at q1
        exact q1
      · have e5 : c ∈ cL := by
          have e5 : ¬ (!decide (c ∈ cL)) = true := e
          by_cases h : c ∈ cL
          · exact h
          · rw [decide_eq_false h] at e5
            exact absurd rfl e5
        exact ⟨_, rfl, s2, take_all ha hc e5⟩
    · obtain ⟨y, rfl, s2, ha⟩ := hP
      rw [List.take_length] at ha
      have q1 := q H2 s2
      unfold isName at q1
      rw [isRun_all hne ha, decide_eq_true (show z.length ≤ 12 by omega), decide_eq_false e4] at q1
      exact q1
def spLNumber : Sp := fun vs H Q _ => ∃ (z : PySem.Str), vs = [.str z] ∧ z.length ≤ sizeLine ∧ Q (.bl (isNumber z)) H
theorem first_dec {z : PySem.Str} {c : Nat} (ec : z.cps.toList[0]? = some c) : decide (V.str ⟨#[c]⟩ = V.str "0") = decide (z.cps.toList.head? = some 48) := by
  rw [str_dec]
  refine decide_eq_decide.mpr ⟨fun h => ?_, fun h => ?_⟩
  · injection h with h
    have h3 : [c] = [48] := congrArg Array.toList h
    injection h3 with h3
    rw [List.head?_eq_getElem?, ec, h3]
  · rw [List.head?_eq_getElem?, ec] at h
    injection h with h
    rw [h]
    rfl
theorem ok_l_is_number (T : Txt K mg) (D_l_is_number : Df K mg "_law_is_number" s_l_is_number ["word"]) : FnOk P w K mg base CX0 1 D_l_is_number.f D_l_is_number.fd ["word"] spLNumber := by
  refine D_l_is_number.F.ok sc_l_is_number (fun vs H Q E h => ?_) (fun cdv A outer s H vs Q E hr h => ?_)
  · obtain ⟨z, rfl, _⟩ := h
    rfl
  · obtain ⟨z, rfl, hz, q⟩ := h
    refine ⟨_, (Evl.pss_cut (ps_if (PW.pt (pw_or (pt_cmpR op_lt (pe_callB call_len_str (by rfl) T.n_len PySem.boot_len (pa_cons (pv 0) pa_nil)) pe_int (nomark _)) (pw_or (pt_cmpR op_gt (pe_callB call_len_str (by rfl) T.n_len PySem.boot_len (pa_cons (pv 0) pa_nil)) pe_int (nomark _)) (pw_or1 (PW.pt (pw_and (pt_cmpR op_gt (pe_callB call_len_str (by rfl) T.n_len PySem.boot_len (pa_cons (pv 0) pa_nil)) pe_int (nomark _)) (pw_and1 (pt_cmpR op_eq (pe_ix ix_str (pv 0) pe_int (fun _ _ => rfl)) pe_str (nomark _)))))))))
    (pss_one (ps_ret pe_bl))
    pss_nil)
    (pss_cons (ps_for PassesOwn.never rfl (pi_str (pv 0)) (pg_name (i := 1) sc_l_is_number.nd rfl (.inl rfl))
    (pss_one (ps_if (pt_cmpR op_notIn_sign (pv 1) pe_str (by rfl))
    (pss_one (ps_ret pe_bl))
    pss_nil)))
    (pss_one (ps_ret pe_bl)))), ?_⟩
    have hl : z.cps.toList.length = z.length := rfl
    unfold isNumber at q
    refine ⟨fun σ H' => σ = [some (.str z), none] ∧ H' = H ∧ z.cps.toList ≠ [] ∧ z.length ≤ 10 ∧ (decide (z = "0") || !decide (z.cps.toList.head? = some 48)) = true, ?_, ?_⟩
    · refine ⟨_, rfl, z, rfl, hz, _, _, rfl, rfl, _, rfl, ite2 (fun e => ?_) (fun e => ?_)⟩
      · have e1 := of_decide_eq_true e
        have e2 : z.cps.toList = [] := List.length_eq_zero_iff.mp (by omega)
        rw [e2, isRun_nil, Bool.false_and, Bool.and_false] at q
        exact iteT q
      have e1 := of_decide_eq_false (Bool.eq_false_iff.mpr e)
      have hne : z.cps.toList ≠ [] := fun e2 => by
        rw [e2] at hl
        have : ([] : List Nat).length = 0 := rfl
        omega
      have hlt : 0 < z.cps.toList.length := List.length_pos_iff.mpr hne
      have ec : z.cps.toList[0]? = some z.cps.toList[0] := List.getElem?_eq_getElem hlt
      refine ⟨_, rfl, z, rfl, hz, _, _, rfl, rfl, _, rfl, ite2 (fun e => ?_) (fun e => ?_)⟩
      · have e2 := of_decide_eq_true e
        rw [decide_eq_false (show ¬ z.length ≤ 10 by omega), Bool.false_and] at q
        exact iteT q
      have e2 := of_decide_eq_false (Bool.eq_false_iff.mpr e)
      have h10 : z.length ≤ 10 := by omega
      refine ⟨_, rfl, z, rfl, hz, _, _, rfl, rfl, _, rfl, ite2 (fun e => ?_) (fun e => ?_)⟩
      · have e3 := of_decide_eq_true e
        have hn0 : ¬ z = "0" := fun h => by
          rw [h] at e3
          exact absurd e3 (by decide)
        refine ⟨_, rfl, _, _, _, rfl, rfl, hz, atI_nat (j := 0) ec, rfl, _, rfl, ?_⟩
        rw [first_dec ec]
        refine ite2 (fun e => ?_) (fun e => ?_)
        · rw [show decide (z.cps.toList.head? = some 48) = true from e, decide_eq_false hn0] at q
          simp only [Bool.not_true, Bool.or_self, Bool.and_false] at q
          exact q
        · refine ⟨rfl, rfl, hne, h10, ?_⟩
          rw [show decide (z.cps.toList.head? = some 48) = false from Bool.eq_false_iff.mpr e, Bool.not_false, Bool.or_true]
      · have e3 := of_decide_eq_false (Bool.eq_false_iff.mpr e)
        refine iteF ⟨rfl, rfl, hne, h10, ?_⟩
        have h1 : z.cps.toList.length = 1 := by omega
        obtain ⟨c, hc⟩ := List.length_eq_one_iff.mp h1
        by_cases h48 : c = 48
        · have : z = "0" := by
            rw [← mk_cp z, hc, h48]
            rfl
          rw [decide_eq_true this]
          rfl
        · rw [hc, List.head?_cons, decide_eq_false (fun h => h48 (Option.some.inj h)), Bool.not_false, Bool.or_true]
    · intro σ H' hN
      obtain ⟨rfl, rfl, hne, h10, h0⟩ := hN
      rw [decide_eq_true h10, h0, Bool.and_true, Bool.true_and] at q
      refine ⟨_, rfl, z, rfl, ?_⟩
      refine for_str (x := z) (fun i σ H2 => ∃ y, σ = [some (.str z), y] ∧ H2 = H' ∧ ∀ c ∈ z.cps.toList.take i, c ∈ cD) ⟨_, rfl, rfl, fun c hc => absurd hc (by simp)⟩ (fun i c σ H2 hc hP => ?_) (fun σ H2 hP => ?_)
      · obtain ⟨y, rfl, rfl, ha⟩ := hP
        refine ⟨_, rfl, c, sDigits, rfl, rfl, _, rfl, ite2 (fun e => ?_) (fun e => ?_)⟩
        · have e5 : ¬ c ∈ cD := by
            have e5 : (!decide (c ∈ cD)) = true := e
            intro h
            rw [decide_eq_true h] at e5
            cases e5
          rw [isRun_not (mem_of_get hc) e5] at q
          exact q
        · have e5 : c ∈ cD := by
            have e5 : ¬ (!decide (c ∈ cD)) = true := e
            by_cases h : c ∈ cD
            · exact h
            · rw [decide_eq_false h] at e5
              exact absurd rfl e5
          exact ⟨_, rfl, rfl, take_all ha hc e5⟩
      · obtain ⟨y, rfl, rfl, ha⟩ := hP
        rw [List.take_length] at ha
        rw [isRun_all hne ha] at q
        exact q
end
end K1

namespace K1
open PySem PySem.Spec PyProof.Rows L2
theorem hand_ne {H : Hp} {h d p : Addr} {ds : List Int} (hd : Hand H h d ds) (n : H p = none) : p ≠ h := by
  obtain ⟨⟨i, e⟩, _, _⟩ := hd
  exact (ne_of_none e n).symm
theorem hand_ne2 {H : Hp} {h d p : Addr} {ds : List Int} (hd : Hand H h d ds) (n : H p = none) : p ≠ d := (ne_of_none hd.ds_ n).symm
/-- something else than the hand and its draws has changed -/
theorem Hand.upd {H : Hp} {h d p : Addr} {o : HO} {ds : List Int} (a : Hand H h d ds) (h1 : p ≠ h) (h2 : p ≠ d) : Hand (L2.upd H p o) h d ds := by
  obtain ⟨⟨i, e1⟩, e2, e3⟩ := a
  exact ⟨⟨i, (upd_ne h1.symm).trans e1⟩, (upd_ne h2.symm).trans e2, e3⟩
theorem But.new {a : Addr} {H H' : Hp} {p : Addr} {o : HO} (b : But a H H') (n : H p = none) : But a H (L2.upd H' p o) := fun c u hc e => (upd_ne (ne_of_none e n)).trans (b c u hc e)
theorem But.free {a : Addr} {H H' : Hp} {p : Addr} (b : But a H H') (hp : p ≠ a) (n : H' p = none) : H p = none := by
  cases e : H p with
  | none => rfl
  | some u =>
    rw [b p u hp e] at n
    cases n
theorem str_at {z : PySem.Str} {r : Int} (h0 : 0 ≤ r) (h1 : r < z.length) : ∃ c, atI z.cps.toList r = some c := by
  obtain ⟨j, rfl⟩ : ∃ j : Nat, r = j := ⟨r.toNat, by omega⟩
  have hl : z.cps.toList.length = z.length := rfl
  have hj : j < z.cps.toList.length := by omega
  exact ⟨_, atI_nat (List.getElem?_eq_getElem hj)⟩
theorem strs_at {ws : List PySem.Str} {r : Int} (h0 : 0 ≤ r) (h1 : r < ws.length) : ∃ z, z ∈ ws ∧ atI (ws.map V.str) r = some (.str z) := by
  obtain ⟨j, rfl⟩ : ∃ j : Nat, r = j := ⟨r.toNat, by omega⟩
  have hj : j < ws.length := by omega
  refine ⟨ws[j], List.getElem_mem hj, atI_nat ?_⟩
  rw [List.getElem?_map, List.getElem?_eq_getElem hj]
  rfl
section
variable {P : Program} {w : World} {K : PySem.W.Frag} {mg : PySem.Str → Option Value} {base : Heap}
def spRunOf : Sp := fun vs H Q _ => ∃ (h d : Addr) (ds : List Int) (c : PySem.Str) (m : Int), vs = [.ref h, .str c, .int m] ∧ 0 < c.length ∧ c.length ≤ 1000 ∧ 0 < m ∧ m ≤ 100 ∧ Hand H h d ds ∧ ∀ (z : PySem.Str) H', (z.length : Int) ≤ m → But h H H' → Hand H' h d ds → Q (.str z) H'
theorem ok_l_run_of (T : Txt K mg) (D_l_run_of : Df K mg "_law_run_of" s_l_run_of ["hand", "chars", "most"]) (D_l_take : Df K mg "_law_take" s_l_take ["hand", "many"]) : FnOk P w K mg base CX0 2 D_l_run_of.f D_l_run_of.fd ["hand", "chars", "most"] spRunOf := by
  have G_l_take := ok_l_take (P := P) (w := w) (base := base) T D_l_take
  refine D_l_run_of.F.ok sc_l_run_of (fun vs H Q E h => ?_) (fun cdv A outer s H vs Q E hr h => ?_)
  · obtain ⟨a, d, ds, c, m, rfl, _⟩ := h
    rfl
  · obtain ⟨a, d, ds, c, m, rfl, hc0, hc1, hm0, hm1, hH, q⟩ := h
    refine ⟨_, (pss_one (ps_ret (pe_join pe_str (pe_lc (own := [("k", 3)]) (g := gName 3) (by rfl) sc_l_run_of.nd (pi_range1 (by rfl) T.n_range (pa_cons (pe_op op_add pe_int (pe_call G_l_take (hr.mono (by decide)) (by rfl) D_l_take.g D_l_take.F.kp D_l_take.b .nil pass0 (pa_cons (pv 0) (pa_cons (pv 2) pa_nil)))) pa_nil)) (blkOk_by (own := [("k", 3)]) (N := ["hand", "chars", "most", "k"]) (sc := defScope s_l_run_of) (by decide +kernel)) (fun _ _ _ _ _ => pg_name (i := 3) sc_l_run_of.nd rfl (Or.inl rfl)) (fun _ _ _ _ _ => pts_nil) (fun _ _ _ _ _ => (pe_ix ix_str (pv 1) (pe_call G_l_take (hr.mono (by decide)) (by rfl) D_l_take.g D_l_take.F.kp D_l_take.b .nil pass0 (pa_cons (pv 0) (pa_cons (pe_callB call_len_str (by rfl) T.n_len PySem.boot_len (pa_cons (pv 1) pa_nil)) pa_nil))) (fun _ _ => rfl))))))), ?_⟩
    refine ⟨⟨_, rfl⟩, _, rfl, _, rfl, a, d, ds, m, rfl, hm0, hH, fun r H1 r0 r1 b1 h1 _ => ?_⟩
    refine ⟨_, _, rfl, rfl, _, rfl, by omega, by omega, fun D hD => ?_⟩
    have hDa := hand_ne h1 hD
    have hDd := hand_ne2 h1 hD
    have hD0 : H D = none := b1.free hDa hD
    refine lc_range (lo := 0) (n := (1 + r).toNat) (fun i H2 => But a H H2 ∧ Hand H2 a d ds ∧ ∃ ys : List PySem.Str, ys.length = i ∧ (∀ y ∈ ys, y.length ≤ 1) ∧ H2 D = some (.lst (ys.map V.str)))
      ⟨b1.new hD0, h1.upd hDa hDd, [], rfl, fun y hy => absurd hy (by simp), upd_same⟩ (fun i H2 hi hP => ?_) (fun H2 hP => ?_)
    · obtain ⟨b2, h2, ys, hl, hy, e2⟩ := hP
      refine ⟨rfl, ?_⟩
      refine ⟨_, rfl, _, rfl, _, rfl, c, rfl, Nat.le_trans hc1 (by decide), a, d, ds, _, rfl, by omega, h2, fun r2 H3 r20 r21 b3 h3 _ => ?_⟩
      obtain ⟨x, hx⟩ := str_at r20 r21
      have e3 := b3 _ _ hDa e2
      refine ⟨_, _, _, rfl, rfl, Nat.le_trans hc1 (by decide), hx, _, e3, ?_, ?_⟩
      · rw [List.length_map, hl]
        exact small_sz (by omega)
      refine ⟨(b2.trans b3).new hD0, h3.upd hDa hDd, ys ++ [⟨#[x]⟩], by rw [List.length_append, hl]; rfl, fun y hy' => ?_, ?_⟩
      · rcases List.mem_append.mp hy' with h | h
        · exact hy y h
        · rw [List.mem_singleton.mp h]
          exact Nat.le_refl _
      · rw [upd_same, List.map_append]
        rfl
    · obtain ⟨b2, h2, ys, hl, hy, e2⟩ := hP
      have hs := sum_const hy
      refine ⟨_, D, ys, rfl, rfl, .inl (SqL.of e2), ?_, ?_⟩
      · show _ + ys.length * 0 ≤ _
        omega
      · refine q _ H2 ?_ b2 h2
        rw [join_len]
        omega
/-! ### _law_piece -/
def wSigns : List PySem.Str := ["<=", ">=", "==", "!=", "<", ">", "=", "+", "-", "(", ")", "[", "]", ",", ":"]
theorem res_len : ∀ z ∈ wResL, z.length ≤ 20 := by decide
theorem signs_len : ∀ z ∈ wSigns, z.length ≤ 20 := by decide
def spPiece : Sp := fun vs H Q _ => ∃ (h d : Addr) (ds : List Int), vs = [.ref h] ∧ Hand H h d ds ∧ ∀ (z : PySem.Str) H', z.length ≤ 20 → But h H H' → Hand H' h d ds → Q (.str z) H'
theorem ok_l_piece (T : Txt K mg) (D_l_piece : Df K mg "_law_piece" s_l_piece ["hand"]) (D_l_take : Df K mg "_law_take" s_l_take ["hand", "many"]) (D_l_run_of : Df K mg "_law_run_of" s_l_run_of ["hand", "chars", "most"]) (D_l_reserved : Df K mg "_law_reserved" s_l_reserved []) (D_l_letters : Df K mg "_law_letters" s_l_letters []) : FnOk P w K mg base CX0 3 D_l_piece.f D_l_piece.fd ["hand"] spPiece := by
  have G_l_take := ok_l_take (P := P) (w := w) (base := base) T D_l_take
  have G_l_run_of := ok_l_run_of (P := P) (w := w) (base := base) T D_l_run_of D_l_take
  have G_l_reserved := ok_l_reserved (P := P) (w := w) (base := base) T D_l_reserved
  have G_l_letters := ok_l_letters (P := P) (w := w) (base := base) T D_l_letters
  refine D_l_piece.F.ok sc_l_piece (fun vs H Q E h => ?_) (fun cdv A outer s H vs Q E hr h => ?_)
  · obtain ⟨a, d, ds, rfl, _⟩ := h
    rfl
  · obtain ⟨a, d, ds, rfl, hH, q⟩ := h
    refine ⟨_, (pss_cons (ps_set (i := 1) sc_l_piece.nd rfl (.inl rfl) (pe_lst (pa_strs (.cons _ _ _ (.cons _ _ _ (.cons _ _ _ (.cons _ _ _ (.cons _ _ _ (.cons _ _ _ (.cons _ _ _ (.cons _ _ _ (.cons _ _ _ (.cons _ _ _ (.cons _ _ _ (.cons _ _ _ (.cons _ _ _ (.cons _ _ _ (.cons _ _ _ .nil))))))))))))))))))
    (pss_cons (ps_set (i := 2) sc_l_piece.nd rfl (.inl rfl) pe_str)
    (pss_cons (ps_set (i := 3) sc_l_piece.nd rfl (.inl rfl) (pe_call G_l_take (hr.mono (by decide)) (by rfl) D_l_take.g D_l_take.F.kp D_l_take.b .nil pass0 (pa_cons (pv 0) (pa_cons pe_int pa_nil))))
    (pss_cons (ps_if (pt_cmpR op_eq (pv 3) pe_int (nomark _))
    (pss_one (ps_ret (pe_op op_mul_str pe_str (pe_op op_add pe_int (pe_call G_l_take (hr.mono (by decide)) (by rfl) D_l_take.g D_l_take.F.kp D_l_take.b .nil pass0 (pa_cons (pv 0) (pa_cons pe_int pa_nil)))))))
    pss_nil)
    (pss_cons (ps_if (pt_cmpR op_eq (pv 3) pe_int (nomark _))
    (pss_one (ps_ret (pe_ix ix_list (pe_call0 G_l_reserved (hr.mono (by decide)) (by rfl) D_l_reserved.g D_l_reserved.F.kp D_l_reserved.b .nil pass0) (pe_call G_l_take (hr.mono (by decide)) (by rfl) D_l_take.g D_l_take.F.kp D_l_take.b .nil pass0 (pa_cons (pv 0) (pa_cons pe_int pa_nil))) (fun _ _ => rfl))))
    pss_nil)
    (pss_cons (ps_if (pt_cmpR op_eq (pv 3) pe_int (nomark _))
    (pss_one (ps_ret (pe_call G_l_run_of (hr.mono (by decide)) (by rfl) D_l_run_of.g D_l_run_of.F.kp D_l_run_of.b .nil pass0 (pa_cons (pv 0) (pa_cons (pe_call0 G_l_letters (hr.mono (by decide)) (by rfl) D_l_letters.g D_l_letters.F.kp D_l_letters.b .nil pass0) (pa_cons pe_int pa_nil))))))
    pss_nil)
    (pss_cons (ps_if (pt_cmpR op_eq (pv 3) pe_int (nomark _))
    (pss_one (ps_ret (pe_call G_l_run_of (hr.mono (by decide)) (by rfl) D_l_run_of.g D_l_run_of.F.kp D_l_run_of.b .nil pass0 (pa_cons (pv 0) (pa_cons pe_str (pa_cons pe_int pa_nil))))))
    pss_nil)
    (pss_cons (ps_if (pt_cmpR op_lt (pv 3) pe_int (nomark _))
    (pss_one (ps_ret (pe_ix ix_list (pv 1) (pe_call G_l_take (hr.mono (by decide)) (by rfl) D_l_take.g D_l_take.F.kp D_l_take.b .nil pass0 (pa_cons (pv 0) (pa_cons pe_int pa_nil))) (fun _ _ => rfl))))
    pss_nil)
    (pss_cons (ps_if (pt_cmpR op_eq (pv 3) pe_int (nomark _))
    (pss_one (ps_ret (pe_ix ix_str (pv 2) (pe_call G_l_take (hr.mono (by decide)) (by rfl) D_l_take.g D_l_take.F.kp D_l_take.b .nil pass0 (pa_cons (pv 0) (pa_cons (pe_callB call_len_str (by rfl) T.n_len PySem.boot_len (pa_cons (pv 2) pa_nil)) pa_nil))) (fun _ _ => rfl))))
    pss_nil)
    (pss_one (ps_ret (pe_call G_l_run_of (hr.mono (by decide)) (by rfl) D_l_run_of.g D_l_run_of.F.kp D_l_run_of.b .nil pass0 (pa_cons (pv 0) (pa_cons (pe_op op_add_str (pe_call0 G_l_letters (hr.mono (by decide)) (by rfl) D_l_letters.g D_l_letters.F.kp D_l_letters.b .nil pass0) pe_str) (pa_cons pe_int pa_nil))))))))))))))), ?_⟩
    -- signs, foreign
    refine ⟨by decide, fun p1 n1 => ?_⟩
    generalize hg : upd _ p1 _ = H1
    obtain ⟨s1, e1⟩ := new_of n1 hg
    have h1 := hH.same s1
    have hp1 : p1 ≠ a := hand_ne hH n1
    -- kind
    refine ⟨_, rfl, a, d, ds, 12, rfl, by decide, h1, fun r H2 r0 r1 b2 h2 _ => ?_⟩
    have B2 : But a H H2 := But.trans (Same.but s1) b2
    have e2 := b2 _ _ hp1 e1
    refine ⟨_, rfl, rfl, _, rfl, ite2 (fun _ => ?_) (fun _ => ?_)⟩
    · refine ⟨_, rfl, a, d, ds, 3, rfl, by decide, h2, fun r H3 r0 r1 b3 h3 _ => ?_⟩
      refine ⟨_, _, rfl, rfl, _, _, rfl, rfl, by omega, by omega, by decide, ?_⟩
      refine q _ H3 ?_ (B2.trans b3) h3
      show (Txt.mul ⟨#[32]⟩ (1 + r)).cps.toList.length ≤ 20
      rw [mul_one_sign, List.length_replicate]
      omega
    refine ⟨_, rfl, rfl, _, rfl, ite2 (fun _ => ?_) (fun _ => ?_)⟩
    · refine ⟨rfl, fun p H3 s3 n3 e3 => ?_⟩
      refine ⟨_, rfl, a, d, ds, 30, rfl, by decide, h2.same s3, fun r H4 r0 r1 b4 h4 _ => ?_⟩
      obtain ⟨z, hz, ha⟩ := strs_at (ws := wResL) r0 (by show r < 30; exact r1)
      refine ⟨p, _, _, _, rfl, rfl, SqL.of (b4 _ _ (hand_ne h2 n3) e3), ha, ?_⟩
      exact q z H4 (res_len z hz) (B2.trans (But.trans (Same.but s3) b4)) h4
    refine ⟨_, rfl, rfl, _, rfl, ite2 (fun _ => ?_) (fun _ => ?_)⟩
    · refine ⟨_, rfl, rfl, a, d, ds, sLetters, 14, rfl, by decide, by decide, by decide, by decide, h2, fun z H3 hz b3 h3 => ?_⟩
      exact q z H3 (by omega) (B2.trans b3) h3
    refine ⟨_, rfl, rfl, _, rfl, ite2 (fun _ => ?_) (fun _ => ?_)⟩
    · refine ⟨_, rfl, a, d, ds, "0123456789", 12, rfl, by decide, by decide, by decide, by decide, h2, fun z H3 hz b3 h3 => ?_⟩
      exact q z H3 (by omega) (B2.trans b3) h3
    refine ⟨_, rfl, _, _, rfl, rfl, _, rfl, ite2 (fun _ => ?_) (fun _ => ?_)⟩
    · refine ⟨_, rfl, _, rfl, a, d, ds, 15, rfl, by decide, h2, fun r H4 r0 r1 b4 h4 _ => ?_⟩
      obtain ⟨z, hz, ha⟩ := strs_at (ws := wSigns) r0 (by show r < 15; exact r1)
      refine ⟨p1, _, _, _, rfl, rfl, SqL.of (b4 _ _ hp1 e2), ha, ?_⟩
      exact q z H4 (signs_len z hz) (B2.trans b4) h4
    refine ⟨_, rfl, rfl, _, rfl, ite2 (fun _ => ?_) (fun _ => ?_)⟩
    · refine ⟨_, rfl, _, rfl, _, rfl, _, rfl, by decide, a, d, ds, _, rfl, by decide, h2, fun r H3 r0 r1 b3 h3 _ => ?_⟩
      obtain ⟨x, hx⟩ := str_at r0 r1
      refine ⟨_, _, _, rfl, rfl, by decide, hx, ?_⟩
      exact q _ H3 (by show (1 : Nat) ≤ 20; decide) (B2.trans b3) h3
    · refine ⟨_, rfl, rfl, _, _, rfl, rfl, by decide, a, d, ds, sLetters ++ "0123456789 <>=+-()[],:", 2, rfl, by decide, by decide, by decide, by decide, h2, fun z H3 hz b3 h3 => ?_⟩
      exact q z H3 (by omega) (B2.trans b3) h3
/-! ### _law_end_of, _law_words -/
def spEndOf : Sp := fun vs H Q _ => ∃ (z : PySem.Str) (i : Nat) (c : PySem.Str), vs = [.str z, .int i, .str c] ∧ z.length ≤ 100000 ∧ i ≤ z.length ∧ Q (.int ((i + runL c.cps.toList (z.cps.toList.drop i) : Nat) : Int)) H
theorem ok_l_end_of (T : Txt K mg) (D_l_end_of : Df K mg "_law_end_of" s_l_end_of ["text", "at", "chars"]) : FnOk P w K mg base CX0 1 D_l_end_of.f D_l_end_of.fd ["text", "at", "chars"] spEndOf := by
  refine D_l_end_of.F.ok sc_l_end_of (fun vs H Q E h => ?_) (fun cdv A outer s H vs Q E hr h => ?_)
  · obtain ⟨z, i, c, rfl, _⟩ := h
    rfl
  · obtain ⟨z, i, c, rfl, hz, hi, q⟩ := h
    refine ⟨_, (pss_cons (ps_for PassesOwn.never rfl (pi_range2 (by rfl) T.n_range (pa_cons (pv 1) (pa_cons (pe_callB call_len_str (by rfl) T.n_len PySem.boot_len (pa_cons (pv 0) pa_nil)) pa_nil))) (pg_name (i := 3) sc_l_end_of.nd rfl (.inl rfl))
    (pss_one (ps_if (pt_cmpR op_notIn_sign (pe_ix ix_str (pv 0) (pv 3) (fun _ _ => rfl)) (pv 2) (by rfl))
    (pss_one (ps_ret (pv 3)))
    pss_nil)))
    (pss_one (ps_ret (pe_callB call_len_str (by rfl) T.n_len PySem.boot_len (pa_cons (pv 0) pa_nil))))), ?_⟩
    have hl : z.cps.toList.length = z.length := rfl
    refine ⟨_, rfl, _, rfl, z, rfl, sz5 hz, _, _, rfl, ⟨by omega, by omega, by omega, by omega⟩, ?_⟩
    refine for_range (lo := (i : Int)) (n := ((z.length : Int) - i).toNat) (fun j σ H2 => ∃ y, σ = [some (.str z), some (.int i), some (.str c), y] ∧ H2 = H ∧ j ≤ runL c.cps.toList (z.cps.toList.drop i)) ⟨_, rfl, rfl, Nat.zero_le _⟩ (fun j σ H2 hj hP => ?_) (fun σ H2 hP => ?_)
    · obtain ⟨y, rfl, rfl, hr⟩ := hP
      have hlt : i + j < z.cps.toList.length := by omega
      have ec : z.cps.toList[i + j]? = some z.cps.toList[i + j] := List.getElem?_eq_getElem hlt
      have ed : z.cps.toList.drop (i + j) = z.cps.toList[i + j] :: z.cps.toList.drop (i + j + 1) := List.drop_eq_getElem_cons hlt
      have hd := runL_drop hr
      rw [List.drop_drop] at hd
      refine ⟨_, rfl, _, rfl, _, _, _, rfl, rfl, sz5 hz, atI_nat (j := i + j) ec, _, rfl, ?_⟩
      refine ⟨_, _, rfl, rfl, _, rfl, ite2 (fun e => ?_) (fun e => ?_)⟩
      · have e5 : ¬ z.cps.toList[i + j] ∈ c.cps.toList := by
          have e5 : (!decide (z.cps.toList[i + j] ∈ c.cps.toList)) = true := e
          intro h
          rw [decide_eq_true h] at e5
          cases e5
        have hg : runL c.cps.toList (z.cps.toList.drop (i + j)) = 0 := runL_stop ed e5
        rw [hd, hg] at q
        exact ⟨_, rfl, q⟩
      · have e5 : z.cps.toList[i + j] ∈ c.cps.toList := by
          have e5 : ¬ (!decide (z.cps.toList[i + j] ∈ c.cps.toList)) = true := e
          by_cases h : z.cps.toList[i + j] ∈ c.cps.toList
          · exact h
          · rw [decide_eq_false h] at e5
            exact absurd rfl e5
        have hg : runL c.cps.toList (z.cps.toList.drop (i + j)) = runL c.cps.toList (z.cps.toList.drop (i + j + 1)) + 1 := runL_go ed e5
        exact ⟨_, rfl, rfl, by omega⟩
    · obtain ⟨y, rfl, rfl, hr⟩ := hP
      have hle := runL_le c.cps.toList (z.cps.toList.drop i)
      rw [List.length_drop] at hle
      have he : runL c.cps.toList (z.cps.toList.drop i) = z.length - i := by omega
      refine ⟨_, rfl, z, rfl, sz5 hz, ?_⟩
      rw [he, show i + (z.length - i) = z.length by omega] at q
      exact q
end
end K1

namespace K1
open PySem PySem.Spec PyProof.Rows L2
/-! ### the mathematics of the law's own words -/
def sOne : PySem.Str := "<>=+-()[],: "
theorem one_iff (x : Nat) : x ∈ sOne.cps.toList ↔ (x = 32 ∨ mk [x] ∈ wShort) := by
  have h1 : sOne.cps.toList = [60, 62, 61, 43, 45, 40, 41, 91, 93, 44, 58] ++ [32] := by decide
  have h2 : wShort = [60, 62, 61, 43, 45, 40, 41, 91, 93, 44, 58].map fun c => mk [c] := by decide
  rw [h1, h2, List.mem_append, List.mem_singleton, List.mem_map]
  refine ⟨fun h => ?_, fun h => ?_⟩
  · rcases h with h | h
    · exact .inr ⟨x, h, rfl⟩
    · exact .inl h
  · rcases h with h | ⟨c, hc, e⟩
    · exact .inr h
    · injection e with e
      have e2 : [c] = [x] := congrArg Array.toList e
      injection e2 with e2
      rw [← e2]
      exact .inl hc
theorem nL : ¬ (32 : Nat) ∈ cL := by decide
theorem nD : ¬ (32 : Nat) ∈ cD := by decide
theorem long_at : ∀ a ∈ wLong, a.cps[0]? ≠ some 32 ∧ a.cps[1]? ≠ some 32 := by decide
theorem long_sp (l : List Nat) : ¬ mk ((32 :: l).take 2) ∈ wLong := fun h => (long_at _ h).1 rfl
theorem runL_end {c : List Nat} (h : ¬ 32 ∈ c) : ∀ l, runL c (l ++ [32]) = runL c l
  | [] => by
    show runL c [32] = 0
    exact runL_out h
  | x :: r => by
    by_cases hx : x ∈ c
    · rw [List.cons_append, runL_in hx, runL_in hx, runL_end h r]
    · rw [List.cons_append, runL_out hx, runL_out hx]
theorem wlen_end (x : Nat) (r : List Nat) : wlen (x :: r ++ [32]) = wlen (x :: r) := by
  show (if x ∈ cL then runL cL (x :: r ++ [32]) else if x ∈ cD then runL cD (x :: r ++ [32]) else if mk ((x :: (r ++ [32])).take 2) ∈ wLong then 2 else if mk [x] ∈ wShort then 1 else 0) =
    (if x ∈ cL then runL cL (x :: r) else if x ∈ cD then runL cD (x :: r) else if mk ((x :: r).take 2) ∈ wLong then 2 else if mk [x] ∈ wShort then 1 else 0)
  rw [runL_end nL, runL_end nD]
  cases r with
  | nil =>
    have h1 : ¬ mk ((x :: ([] ++ [32])).take 2) ∈ wLong := fun h => (long_at _ h).2 rfl
    have h2 : ¬ mk ([x].take 2) ∈ wLong := fun h => absurd (long_two _ h) (by show ¬ (1 : Nat) = 2; decide)
    rw [if_neg h1, if_neg h2]
  | cons y s => rfl
theorem lex_end1 : ∀ (n : Nat) (l : List Nat), l.length ≤ n → lex (l ++ [32]) = lex l
  | _, [], _ => by
    show lex [32] = lex []
    rw [lex_space]
  | 0, x :: r, h => absurd h (by simp)
  | n + 1, x :: r, h => by
    have hr : r.length ≤ n := Nat.le_of_succ_le_succ h
    by_cases hx : x = 32
    · subst hx
      rw [List.cons_append, lex_space, lex_space]
      exact lex_end1 n r hr
    · by_cases hw : wlen (x :: r) = 0
      · have hw2 : wlen (x :: (r ++ [32])) = 0 := (wlen_end x r).trans hw
        rw [List.cons_append, lex_bad hx hw, lex_bad hx hw2]
      · have hw2 : wlen (x :: (r ++ [32])) ≠ 0 := fun e => hw ((wlen_end x r).symm.trans e)
        have hwe : wlen (x :: (r ++ [32])) = wlen (x :: r) := wlen_end x r
        rw [List.cons_append, lex_word hx hw, lex_word hx hw2, hwe]
        have hle := wlen_le (x :: r)
        have e1 : (x :: (r ++ [32])).drop (wlen (x :: r)) = (x :: r).drop (wlen (x :: r)) ++ [32] := by
          rw [← List.cons_append, List.drop_append_of_le_length hle]
        have e2 : (x :: (r ++ [32])).take (wlen (x :: r)) = (x :: r).take (wlen (x :: r)) := by
          rw [← List.cons_append, List.take_append_of_le_length hle]
        rw [e1, e2, lex_end1 n _ (by
          rw [List.length_drop, List.length_cons]
          omega)]
theorem lex_end (l : List Nat) : lex (l ++ [32]) = lex l := lex_end1 l.length l (Nat.le_refl _)
theorem lex_spaces (n : Nat) (l : List Nat) : lex (List.replicate n 32 ++ l) = lex l := by
  induction n with
  | zero => rfl
  | succ n ih =>
    rw [List.replicate_succ, List.cons_append, lex_space, ih]
theorem lex_bound : ∀ (n : Nat) (l : List Nat) (ws : List PySem.Str), l.length ≤ n → lex l = some ws → ws.length ≤ l.length ∧ ∀ z ∈ ws, z.length ≤ l.length
  | _, [], ws, _, e => by
    cases e
    exact ⟨Nat.le_refl _, fun z h => absurd h (by simp)⟩
  | 0, x :: r, _, h, _ => absurd h (by simp)
  | n + 1, x :: r, ws, h, e => by
    have hr : r.length ≤ n := Nat.le_of_succ_le_succ h
    by_cases hx : x = 32
    · subst hx
      rw [lex_space] at e
      obtain ⟨h1, h2⟩ := lex_bound n r ws hr e
      exact ⟨Nat.le_succ_of_le h1, fun z hz => Nat.le_succ_of_le (h2 z hz)⟩
    · by_cases hw : wlen (x :: r) = 0
      · rw [lex_bad hx hw] at e
        cases e
      · rw [lex_word hx hw] at e
        have hle := wlen_le (x :: r)
        have hd : ((x :: r).drop (wlen (x :: r))).length = r.length + 1 - wlen (x :: r) := by
          rw [List.length_drop, List.length_cons]
        cases e2 : lex ((x :: r).drop (wlen (x :: r))) with
        | none =>
          rw [e2] at e
          cases e
        | some vs =>
          rw [e2] at e
          cases e
          obtain ⟨h1, h2⟩ := lex_bound n _ vs (by omega) e2
          refine ⟨?_, fun z hz => ?_⟩
          · rw [List.length_cons, List.length_cons]
            omega
          · rw [List.length_cons]
            rcases List.mem_cons.mp hz with rfl | hz
            · show ((x :: r).take (wlen (x :: r))).length ≤ _
              rw [List.length_take, List.length_cons]
              omega
            · have := h2 z hz
              omega
section
variable {P : Program} {w : World} {K : PySem.W.Frag} {mg : PySem.Str → Option Value} {base : Heap}
theorem ok_l_words (T : Txt K mg) (D_l_words : Df K mg "_law_words" s_l_words ["text"]) (D_l_end_of : Df K mg "_law_end_of" s_l_end_of ["text", "at", "chars"]) (D_l_letters : Df K mg "_law_letters" s_l_letters []) : FnOk P w K mg base CX0 2 D_l_words.f D_l_words.fd ["text"] spSplit := by
  have G_l_end_of := ok_l_end_of (P := P) (w := w) (base := base) T D_l_end_of
  have G_l_letters := ok_l_letters (P := P) (w := w) (base := base) T D_l_letters
  refine D_l_words.F.ok sc_l_words (fun vs H Q E h => ?_) (fun cdv A outer s H vs Q E hr h => ?_)
  · obtain ⟨z, rfl, _⟩ := h
    rfl
  · obtain ⟨z, rfl, hz5, q⟩ := h
    have hz := sz5 hz5
    have hl : z.cps.toList.length = z.length := rfl
    refine ⟨_, (pss_cons (ps_set (i := 1) sc_l_words.nd rfl (.inl rfl) (pe_lst pa_nil))
    (pss_cons (ps_set (i := 2) sc_l_words.nd rfl (.inl rfl) pe_int)
    (pss_cons (ps_for PassesOwn.never rfl (pi_range1 (by rfl) T.n_range (pa_cons (pe_callB call_len_str (by rfl) T.n_len PySem.boot_len (pa_cons (pv 0) pa_nil)) pa_nil)) (pg_name (i := 3) sc_l_words.nd rfl (.inl rfl))
    (pss_cons (ps_if (pt_cmpR op_ge (pv 2) (pe_callB call_len_str (by rfl) T.n_len PySem.boot_len (pa_cons (pv 0) pa_nil)) (nomark _))
    (pss_one ps_break)
    pss_nil)
    (pss_cons (ps_set (i := 4) sc_l_words.nd rfl (.inl rfl) (pe_op op_add (pv 2) pe_int))
    (Evl.pss_cut (ps_if (pt_cmpR op_in_sign (pe_ix ix_str (pv 0) (pv 2) (fun _ _ => rfl)) (pe_call0 G_l_letters (hr.mono (by decide)) (by rfl) D_l_letters.g D_l_letters.F.kp D_l_letters.b .nil pass0) (by rfl))
    (pss_one (ps_set (i := 4) sc_l_words.nd rfl (.inl rfl) (pe_call G_l_end_of (hr.mono (by decide)) (by rfl) D_l_end_of.g D_l_end_of.F.kp D_l_end_of.b .nil pass0 (pa_cons (pv 0) (pa_cons (pv 2) (pa_cons (pe_call0 G_l_letters (hr.mono (by decide)) (by rfl) D_l_letters.g D_l_letters.F.kp D_l_letters.b .nil pass0) pa_nil))))))
    (pss_one (ps_if (pt_cmpR op_in_sign (pe_ix ix_str (pv 0) (pv 2) (fun _ _ => rfl)) pe_str (by rfl))
    (pss_one (ps_set (i := 4) sc_l_words.nd rfl (.inl rfl) (pe_call G_l_end_of (hr.mono (by decide)) (by rfl) D_l_end_of.g D_l_end_of.F.kp D_l_end_of.b .nil pass0 (pa_cons (pv 0) (pa_cons (pv 2) (pa_cons pe_str pa_nil))))))
    (pss_one (ps_if (pt_cmpR op_in_seq (pe_slice sl_str (pv 0) (po_some (pv 2)) (po_some (pe_op op_add (pv 2) pe_int))) (pe_lst (pa_strs (.cons _ _ _ (.cons _ _ _ (.cons _ _ _ (.cons _ _ _ .nil)))))) (by rfl))
    (pss_one (ps_set (i := 4) sc_l_words.nd rfl (.inl rfl) (pe_op op_add (pv 2) pe_int)))
    (pss_one (ps_if (pt_cmpR op_notIn_sign (pe_ix ix_str (pv 0) (pv 2) (fun _ _ => rfl)) pe_str (by rfl))
    (pss_one (ps_ret pe_non))
    pss_nil)))))))
    (pss_cons (ps_if (pt_cmpR op_ne (pe_ix ix_str (pv 0) (pv 2) (fun _ _ => rfl)) pe_str (nomark _))
    (pss_one (ps_expr (pe_bm PySem.F.plainAttrs_list PySem.F.slot_list_append PySem.F.type_list_append mt_append (pv 1) (pa_cons (pe_slice sl_str (pv 0) (po_some (pv 2)) (po_some (pv 4))) pa_nil))))
    pss_nil)
    (pss_one (ps_set (i := 2) sc_l_words.nd rfl (.inl rfl) (pv 4))))))))
    (pss_one (ps_ret (pv 1)))))), ?_⟩
    refine ⟨Nat.zero_le _, fun p np => ?_⟩
    refine ⟨_, rfl, z, rfl, hz, _, rfl, by omega, by omega, ?_⟩
    have fin : ∀ (acc : List PySem.Str) (H2 : Hp), Same H H2 → H2 p = some (.lst (acc.map V.str)) → lex z.cps.toList = (lex []).map (acc ++ ·) → Q (.ref p) H2 := fun acc H2 hs hp hx => by
      rw [hx, lex_nil] at q
      have q2 : H2 p = some (.lst ((acc ++ []).map V.str)) → Q (V.ref p) H2 := q p H2 hs np
      rw [List.append_nil] at q2
      exact q2 hp
    refine for_range (lo := 0) (n := ((z.length : Nat) : Int).toNat) (fun j σ H2 => ∃ (i : Nat) (acc : List PySem.Str) (y1 y2 : Option V), σ = [some (.str z), some (.ref p), some (.int (i : Nat)), y1, y2] ∧ j ≤ i ∧ i ≤ z.length ∧ acc.length ≤ i ∧ Same H H2 ∧ H2 p = some (.lst (acc.map V.str)) ∧ lex z.cps.toList = (lex (z.cps.toList.drop i)).map (acc ++ ·))
      ⟨0, [], none, none, rfl, Nat.le_refl _, Nat.zero_le _, Nat.le_refl _, same_new np, upd_same, ?_⟩ (fun j σ H2 hj hP => ?_) (fun σ H2 hP => ?_)
    · rw [List.drop_zero]
      cases lex z.cps.toList <;> rfl
    · obtain ⟨i, acc, y1, y2, rfl, hji, hiz, hal, hs, hp, hx⟩ := hP
      refine ⟨_, rfl, _, rfl, z, rfl, hz, _, _, rfl, rfl, _, rfl, ite2 (fun e => ?_) (fun e => ?_)⟩
      · have e1 := of_decide_eq_true e
        have hg : z.cps.toList.drop i = [] := List.drop_eq_nil_of_le (by omega)
        rw [hg] at hx
        exact ⟨_, rfl, fin acc H2 hs hp hx⟩
      have e1 := of_decide_eq_false (Bool.eq_false_iff.mpr e)
      have hi : i < z.length := by omega
      have hlt : i < z.cps.toList.length := hi
      have ec : z.cps.toList[i]? = some z.cps.toList[i] := List.getElem?_eq_getElem hlt
      have ed : z.cps.toList.drop i = z.cps.toList[i] :: z.cps.toList.drop (i + 1) := List.drop_eq_getElem_cons hlt
      have ew : wlen (z.cps.toList.drop i) = if z.cps.toList[i] ∈ cL then runL cL (z.cps.toList.drop i) else if z.cps.toList[i] ∈ cD then runL cD (z.cps.toList.drop i) else if mk ((z.cps.toList.drop i).take 2) ∈ wLong then 2 else if mk [z.cps.toList[i]] ∈ wShort then 1 else 0 := by
        rw [ed]
        rfl
      generalize hc : z.cps.toList[i] = c at *
      -- end = at + 1
      refine ⟨_, rfl, _, _, rfl, rfl, ?_⟩
      refine ⟨fun σ3 H3 => ∃ (k : Nat) (y1 : Option V), σ3 = [some (.str z), some (.ref p), some (.int (i : Nat)), y1, some (.int ((i + k : Nat) : Int))] ∧ ((c = 32 ∧ k = 1) ∨ (c ≠ 32 ∧ k = wlen (z.cps.toList.drop i) ∧ k ≠ 0)) ∧ Same H H3 ∧ H3 p = some (.lst (acc.map V.str)), ?_, ?_⟩
      · refine ⟨_, rfl, _, rfl, _, _, _, rfl, rfl, hz, atI_nat ec, rfl, c, sLetters, rfl, rfl, _, rfl, ite2 (fun e => ?_) (fun e => ?_)⟩
        · have hm : c ∈ cL := of_decide_eq_true e
          rw [if_pos hm] at ew
          have h32 : c ≠ 32 := fun z => nL (z ▸ hm)
          have hpos : runL cL (z.cps.toList.drop i) ≠ 0 := by
            rw [ed, runL_in hm]
            exact Nat.succ_ne_zero _
          exact ⟨_, rfl, _, rfl, rfl, z, i, sLetters, rfl, hz5, Nat.le_of_lt hi, _, _, rfl, .inr ⟨h32, ew.symm, hpos⟩, hs, hp⟩
        have hm : ¬ c ∈ cL := of_decide_eq_false (Bool.eq_false_iff.mpr e)
        rw [if_neg hm] at ew
        refine ⟨_, rfl, _, rfl, _, _, _, rfl, rfl, hz, atI_nat ec, c, sDigits, rfl, rfl, _, rfl, ite2 (fun e => ?_) (fun e => ?_)⟩
        · have hm : c ∈ cD := of_decide_eq_true e
          rw [if_pos hm] at ew
          have h32 : c ≠ 32 := fun z => nD (z ▸ hm)
          have hpos : runL cD (z.cps.toList.drop i) ≠ 0 := by
            rw [ed, runL_in hm]
            exact Nat.succ_ne_zero _
          exact ⟨_, rfl, _, rfl, z, i, sDigits, rfl, hz5, Nat.le_of_lt hi, _, _, rfl, .inr ⟨h32, ew.symm, hpos⟩, hs, hp⟩
        have hm2 : ¬ c ∈ cD := of_decide_eq_false (Bool.eq_false_iff.mpr e)
        rw [if_neg hm2] at ew
        refine ⟨_, rfl, _, rfl, _, rfl, _, rfl, _, _, rfl, rfl, _, rfl, z, rfl, hz, by decide, fun p2 n2 => ?_⟩
        generalize hg : upd _ p2 _ = H3
        obtain ⟨s3, e3⟩ := new_of n2 hg
        have S3 := hs.trans s3
        have P3 := s3 _ _ hp
        refine ⟨p2, wLong.map V.str, rfl, .inl (SqL.of e3), rfl, flat_strs _, _, rfl, ?_⟩
        rw [cut2 z i hi, inV_strs, if_neg Bool.false_ne_true]
        refine ite2 (fun e => ?_) (fun e => ?_)
        · have hm3 := of_decide_eq_true e
          rw [if_pos hm3] at ew
          have h32 : c ≠ 32 := fun h => by
            rw [ed, h] at hm3
            exact long_sp _ hm3
          exact ⟨_, rfl, _, _, rfl, rfl, 2, _, rfl, .inr ⟨h32, ew.symm, by decide⟩, S3, P3⟩
        have hm3 := of_decide_eq_false (Bool.eq_false_iff.mpr e)
        rw [if_neg hm3] at ew
        refine ⟨_, rfl, _, rfl, _, _, _, rfl, rfl, hz, atI_nat ec, c, sOne, rfl, rfl, _, rfl, ite2 (fun e => ?_) (fun e => ?_)⟩
        · have e5 : ¬ c ∈ sOne.cps.toList := by
            have e5 : (!decide (c ∈ sOne.cps.toList)) = true := e
            intro h
            rw [decide_eq_true h] at e5
            cases e5
          rw [one_iff] at e5
          have h32 : c ≠ 32 := fun h => e5 (.inl h)
          rw [if_neg (fun h => e5 (.inr h))] at ew
          rw [ed] at ew
          rw [hx, ed, lex_bad h32 ew] at q
          exact q H3 S3
        · have e5 : c ∈ sOne.cps.toList := by
            have e5 : ¬ (!decide (c ∈ sOne.cps.toList)) = true := e
            by_cases h : c ∈ sOne.cps.toList
            · exact h
            · rw [decide_eq_false h] at e5
              exact absurd rfl e5
          by_cases h32 : c = 32
          · exact ⟨1, _, rfl, .inl ⟨h32, rfl⟩, S3, P3⟩
          · rcases (one_iff c).mp e5 with h | h
            · exact absurd h h32
            · rw [if_pos h] at ew
              exact ⟨1, _, rfl, .inr ⟨h32, ew.symm, by decide⟩, S3, P3⟩
      · intro σ3 H3 hN
        obtain ⟨k, y1, rfl, hk, hs3, hp3⟩ := hN
        have hwl := wlen_le (z.cps.toList.drop i)
        have hdl : (z.cps.toList.drop i).length = z.length - i := by
          rw [List.length_drop]
          rfl
        have e4 : (!decide (V.str ⟨#[c]⟩ = V.str " ")) = decide (c ≠ 32) := by
          by_cases h : c = 32
          · subst h
            rfl
          · rw [decide_eq_true h, decide_eq_false (fun h2 => h ?_)]
            · rfl
            · injection h2 with h2
              injection h2 with h2
              have h3 : [c] = [32] := congrArg Array.toList h2
              injection h3
        refine ⟨_, rfl, _, rfl, _, _, _, rfl, rfl, hz, atI_nat ec, rfl, _, rfl, ?_⟩
        rw [e4]
        refine ite2 (fun e => ?_) (fun e => ?_)
        · have h32 := of_decide_eq_true e
          rcases hk with hk | ⟨_, hk, hk0⟩
          · exact absurd hk.1 h32
          refine ⟨_, rfl, .inl ⟨rfl, _, .inl (.inl hp3)⟩, _, rfl, _, rfl, _, rfl, _, rfl, _, rfl, z, rfl, hz, p, _, _, rfl, rfl, hp3, ?_, ?_⟩
          · rw [List.length_map]
            exact sz5' (by omega)
          refine ⟨_, rfl, i + k, acc ++ [mk ((z.cps.toList.drop i).take k)], _, _, rfl, by omega, by omega, ?_, same_mut hs3 np, ?_, ?_⟩
          · rw [List.length_append, List.length_singleton]
            omega
          · rw [upd_same, cut_nat z i _ (by omega), List.map_append]
            rfl
          · rw [hx, ← List.drop_drop, hk]
            rw [hk, ed] at hk0
            rw [ed, lex_word h32 hk0, Option.map_map]
            congr 1
            funext l
            simp
        · have h32 : c = 32 := by
            have e5 := of_decide_eq_false (Bool.eq_false_iff.mpr e)
            omega
          rcases hk with ⟨_, rfl⟩ | hk
          · refine ⟨_, rfl, i + 1, acc, _, _, rfl, by omega, by omega, by omega, hs3, hp3, ?_⟩
            rw [hx, ed, h32, lex_space]
          · exact absurd h32 hk.1
    · obtain ⟨i, acc, y1, y2, rfl, hji, hiz, hal, hs, hp, hx⟩ := hP
      have hg : z.cps.toList.drop i = [] := List.drop_eq_nil_of_le (by omega)
      rw [hg] at hx
      exact ⟨_, rfl, fin acc H2 hs hp hx⟩
end
end K1

namespace K1
open PySem PySem.Spec PyProof.Rows L2
/-- a value that stands for some words, or for None -/
def Rep (H : Hp) (v : V) : Option (List PySem.Str) → Prop
  | none => v = .non
  | some ws => ∃ a, v = .ref a ∧ H a = some (.lst (ws.map V.str))
section
variable {P : Program} {w : World} {K : PySem.W.Frag} {mg : PySem.Str → Option Value} {base : Heap}
def spRight : Sp := fun vs H Q _ => ∃ (fv ev : V) (o : Option (List PySem.Str)), vs = [fv, ev] ∧ Rep H fv o ∧ Rep H ev o ∧ (∀ ws, o = some ws → ws.length ≤ 100000) ∧ Q (.bl true) H
theorem kit_list {K : PySem.W.Frag} : PySem.W.kitOne K (.type "list") (.type "list") = some true := kit_ty (by decide +kernel)
theorem kit_str {K : PySem.W.Frag} : PySem.W.kitOne K (.type "str") (.type "str") = some true := kit_ty (by decide +kernel)
theorem kit_bool {K : PySem.W.Frag} : PySem.W.kitOne K (.type "bool") (.type "bool") = some true := kit_ty (by decide +kernel)
theorem ok_l_is_right (T : Txt K mg) (D_l_is_right : Df K mg "_law_is_right" s_l_is_right ["found", "expected"]) : FnOk P w K mg base CX0 1 D_l_is_right.f D_l_is_right.fd ["found", "expected"] spRight := by
  refine D_l_is_right.F.ok sc_l_is_right (fun vs H Q E h => ?_) (fun cdv A outer s H vs Q E hr h => ?_)
  · obtain ⟨fv, ev, o, rfl, _⟩ := h
    rfl
  · obtain ⟨fv, ev, o, rfl, hf, he, hb, q⟩ := h
    refine ⟨_, (pss_cons (ps_if (pt_cmpR op_isN (pv 1) pe_non (nomark _))
    (pss_one (ps_ret (pe_cmpR op_isN (pv 0) pe_non (nomark _))))
    pss_nil)
    (pss_cons (ps_if (PW.pt (pw_or (pt_not (pt_val (pe_callB call_isi (by rfl) T.n_isinstance (by decide +kernel) (pa_cons (pv 0) (pa_cons (pe_bltn (v := .ty "list") (u := .type "list") (by rfl) T.n_list (by decide +kernel) rfl) pa_nil))))) (pw_or1 (pt_cmpR op_ne (pe_callB call_len_seq (by rfl) T.n_len PySem.boot_len (pa_cons (pv 0) pa_nil)) (pe_callB call_len_seq (by rfl) T.n_len PySem.boot_len (pa_cons (pv 1) pa_nil)) (nomark _)))))
    (pss_one (ps_ret pe_bl))
    pss_nil)
    (pss_cons (ps_for PassesOwn.never rfl (pi_range1 (by rfl) T.n_range (pa_cons (pe_callB call_len_seq (by rfl) T.n_len PySem.boot_len (pa_cons (pv 1) pa_nil)) pa_nil)) (pg_name (i := 2) sc_l_is_right.nd rfl (.inl rfl))
    (pss_one (ps_if (PW.pt (pw_or (pt_not (pt_val (pe_callB call_isi (by rfl) T.n_isinstance (by decide +kernel) (pa_cons (pe_ix ix_list (pv 0) (pv 2) (fun _ _ => rfl)) (pa_cons (pe_bltn (v := .ty "str") (u := .type "str") (by rfl) T.n_str (by decide +kernel) rfl) pa_nil))))) (pw_or1 (pt_cmpR op_ne (pe_ix ix_list (pv 0) (pv 2) (fun _ _ => rfl)) (pe_ix ix_list (pv 1) (pv 2) (fun _ _ => rfl)) (nomark _)))))
    (pss_one (ps_ret pe_bl))
    pss_nil)))
    (pss_one (ps_ret pe_bl))))), ?_⟩
    cases o with
    | none =>
      have e1 : fv = .non := hf
      have e2 : ev = .non := he
      subst e1 e2
      exact ⟨_, rfl, rfl, _, rfl, iteT ⟨_, rfl, rfl, q⟩⟩
    | some ws =>
      obtain ⟨f, rfl, hf⟩ := hf
      obtain ⟨e, rfl, he⟩ := he
      have hw := hb ws rfl
      refine ⟨_, rfl, rfl, _, rfl, iteF ?_⟩
      refine ⟨_, rfl, _, _, _, _, true, rfl, .ty "list", .base (.lst hf), kit_list, _, rfl, iteF ?_⟩
      refine ⟨_, rfl, f, _, rfl, .inl (SqL.of hf), _, rfl, e, _, rfl, .inl (SqL.of he), rfl, _, rfl, ?_⟩
      rw [decide_eq_true rfl]
      refine iteF ?_
      refine ⟨_, rfl, e, _, rfl, .inl (SqL.of he), _, rfl, by rw [List.length_map]; omega, by rw [List.length_map]; omega, ?_⟩
      refine for_range (lo := 0) (n := (((ws.map V.str).length : Nat) : Int).toNat) (fun j σ H2 => ∃ y, σ = [some (.ref f), some (.ref e), y] ∧ H2 = H) ⟨_, rfl, rfl⟩ (fun j σ H2 hj hP => ?_) (fun σ H2 hP => ?_)
      · obtain ⟨y, rfl, rfl⟩ := hP
        rw [List.length_map] at hj
        have hj2 : j < ws.length := by omega
        have g : (ws.map V.str)[j]? = some (.str ws[j]) := by
          rw [List.getElem?_map, List.getElem?_eq_getElem hj2]
          rfl
        have g2 : atI (ws.map V.str) (0 + (j : Int)) = some (.str ws[j]) := at_of (by omega) g
        refine ⟨_, rfl, _, rfl, f, _, _, _, rfl, rfl, SqL.of hf, g2, _, _, _, _, true, rfl, .ty "str", .base (.str _), kit_str, _, rfl, iteF ?_⟩
        refine ⟨_, rfl, _, rfl, f, _, _, _, rfl, rfl, SqL.of hf, g2, _, rfl, _, rfl, e, _, _, _, rfl, rfl, SqL.of he, g2, rfl, _, rfl, ?_⟩
        rw [decide_eq_true rfl]
        exact iteF ⟨_, rfl, rfl⟩
      · obtain ⟨y, rfl, rfl⟩ := hP
        exact q
/-! ### the law -/
theorem Gives.of {H : Hp} {o : Option (List PySem.Str)} {Q : VK} (h : ∀ v H', Same H H' → Rep H' v o → (∀ a, v = .ref a → H a = none) → Q v H') : Gives H o Q := by
  cases o with
  | none => exact fun H' s => h .non H' s rfl fun a e => by cases e
  | some ws =>
    exact fun p H' s n e => h (.ref p) H' s ⟨p, rfl, e⟩ fun a ea => by
      cases ea
      exact n
theorem Rep.same {H H' : Hp} {v : V} {o : Option (List PySem.Str)} (r : Rep H v o) (s : Same H H') : Rep H' v o := by
  cases o with
  | none => exact r
  | some ws =>
    obtain ⟨a, e, h⟩ := r
    exact ⟨a, e, s _ _ h⟩
theorem lex_again (z : PySem.Str) (n : Int) : lex ((Txt.mul " " n ++ z) ++ "  ").cps.toList = lex z.cps.toList := by
  have h1 : ((Txt.mul " " n ++ z) ++ "  ").cps.toList = (List.replicate n.toNat 32 ++ (z.cps.toList ++ [32])) ++ [32] := by
    have h2 := TL.tl_append (Txt.mul " " n ++ z) "  "
    have h3 := TL.tl_append (Txt.mul " " n) z
    have h4 : (Txt.mul " " n).cps.toList = List.replicate n.toNat 32 := mul_one_sign 32 n
    unfold TL.tl at h2 h3
    rw [h2, h3, h4]
    simp
    rfl
  rw [h1, lex_end, lex_spaces, lex_end]
theorem app_len (x y : PySem.Str) : (x ++ y).length = x.length + y.length := by
  rw [TL.len_tl, TL.tl_append, List.length_append, ← TL.len_tl, ← TL.len_tl]
theorem mul_len (n : Int) : (Txt.mul " " n).length = n.toNat := by
  rw [TL.len_tl]
  show (Txt.mul ⟨#[32]⟩ n).cps.toList.length = _
  rw [mul_one_sign, List.length_replicate]
def spLaw (K : PySem.W.Frag) : Sp := fun vs H Q _ => ∃ (a : Addr) (ns : List Int), vs = [.ref a] ∧ SqL K H a (ns.map V.int) ∧ ns.length ≤ 63 ∧ ∀ H', Q (.bl true) H'
def wSeven : List PySem.Str := ["0", "00", "01", "1234567890", "12345678901", "abcdefghijkl", "abcdefghijklm"]
theorem seven_len : ∀ z ∈ wSeven, z.length ≤ 1000 := by decide
theorem res_len2 (z : PySem.Str) (h : z ∈ wResL) : z.length ≤ 1000 := Nat.le_trans (res_len z h) (by decide)
theorem ok_law (T : Txt K mg) (D_law : Df K mg "law" s_law ["script"]) (D_split_row : Df K mg "split_row" s_split_row ["text"]) (D_is_name : Df K mg "is_name" s_is_name ["word"]) (D_is_number : Df K mg "is_number" s_is_number ["word"]) (D_word_end : Df K mg "_word_end" s_word_end ["text", "at"]) (D_run_end : Df K mg "_run_end" s_run_end ["text", "at", "characters"]) (D_is_run : Df K mg "_is_run" s_is_run ["word", "characters"]) (D_l_draws : Df K mg "_law_draws" s_l_draws ["script", "many"]) (D_l_take : Df K mg "_law_take" s_l_take ["hand", "many"]) (D_l_letters : Df K mg "_law_letters" s_l_letters []) (D_l_reserved : Df K mg "_law_reserved" s_l_reserved []) (D_l_is_name : Df K mg "_law_is_name" s_l_is_name ["word"]) (D_l_is_number : Df K mg "_law_is_number" s_l_is_number ["word"]) (D_l_run_of : Df K mg "_law_run_of" s_l_run_of ["hand", "chars", "most"]) (D_l_piece : Df K mg "_law_piece" s_l_piece ["hand"]) (D_l_end_of : Df K mg "_law_end_of" s_l_end_of ["text", "at", "chars"]) (D_l_words : Df K mg "_law_words" s_l_words ["text"]) (D_l_is_right : Df K mg "_law_is_right" s_l_is_right ["found", "expected"]) : FnOk P w K mg base CX0 4 D_law.f D_law.fd ["script"] (spLaw K) := by
  have G_split_row := ok_split_row (P := P) (w := w) (base := base) T D_split_row D_word_end D_run_end
  have G_is_name := ok_is_name (P := P) (w := w) (base := base) T D_is_name D_is_run D_run_end
  have G_is_number := ok_is_number (P := P) (w := w) (base := base) T D_is_number D_is_run D_run_end
  have G_l_draws := ok_l_draws (P := P) (w := w) (base := base) T D_l_draws
  have G_l_take := ok_l_take (P := P) (w := w) (base := base) T D_l_take
  have G_l_reserved := ok_l_reserved (P := P) (w := w) (base := base) T D_l_reserved
  have G_l_is_name := ok_l_is_name (P := P) (w := w) (base := base) T D_l_is_name D_l_reserved D_l_letters
  have G_l_is_number := ok_l_is_number (P := P) (w := w) (base := base) T D_l_is_number
  have G_l_piece := ok_l_piece (P := P) (w := w) (base := base) T D_l_piece D_l_take D_l_run_of D_l_reserved D_l_letters
  have G_l_words := ok_l_words (P := P) (w := w) (base := base) T D_l_words D_l_end_of D_l_letters
  have G_l_is_right := ok_l_is_right (P := P) (w := w) (base := base) T D_l_is_right
  refine D_law.F.ok sc_law (fun vs H Q E h => ?_) (fun cdv A outer s H vs Q E hr h => ?_)
  · obtain ⟨a, ns, rfl, _⟩ := h
    rfl
  · obtain ⟨a, ns, rfl, hS, hn, q⟩ := h
    refine ⟨_, (pss_cons (ps_set (i := 1) sc_law.nd rfl (.inl rfl) (pe_lst (pa_cons (pe_call G_l_draws (hr.mono (by decide)) (by rfl) D_l_draws.g D_l_draws.F.kp D_l_draws.b .nil pass0 (pa_cons (pv 0) (pa_cons pe_int pa_nil))) (pa_cons pe_int pa_nil))))
    (pss_cons (ps_set (i := 2) sc_law.nd rfl (.inl rfl) (pe_lst pa_nil))
    (pss_cons (ps_for PassesOwn.never rfl (pi_range1 (by rfl) T.n_range (pa_cons (pe_call G_l_take (hr.mono (by decide)) (by rfl) D_l_take.g D_l_take.F.kp D_l_take.b .nil pass0 (pa_cons (pv 1) (pa_cons pe_int pa_nil))) pa_nil)) (pg_name (i := 3) sc_law.nd rfl (.inl rfl))
    (pss_one (ps_expr (pe_bm PySem.F.plainAttrs_list PySem.F.slot_list_append PySem.F.type_list_append mt_append (pv 2) (pa_cons (pe_call G_l_piece (hr.mono (by decide)) (by rfl) D_l_piece.g D_l_piece.F.kp D_l_piece.b .nil pass0 (pa_cons (pv 1) pa_nil)) pa_nil)))))
    (pss_cons (ps_set (i := 4) sc_law.nd rfl (.inl rfl) (pe_join pe_str (pv 2)))
    (pss_cons (ps_set (i := 5) sc_law.nd rfl (.inl rfl) (pe_call G_l_words (hr.mono (by decide)) (by rfl) D_l_words.g D_l_words.F.kp D_l_words.b .nil pass0 (pa_cons (pv 4) pa_nil)))
    (pss_cons (ps_set (i := 6) sc_law.nd rfl (.inl rfl) (pe_call G_split_row (hr.mono (by decide)) (by rfl) D_split_row.g D_split_row.F.kp D_split_row.b .nil pass0 (pa_cons (pv 4) pa_nil)))
    (pss_cons (ps_if (pt_not (pt_val (pe_call G_l_is_right (hr.mono (by decide)) (by rfl) D_l_is_right.g D_l_is_right.F.kp D_l_is_right.b .nil pass0 (pa_cons (pv 6) (pa_cons (pv 5) pa_nil)))))
    (pss_one (ps_ret pe_bl))
    pss_nil)
    (pss_cons (ps_set (i := 7) sc_law.nd rfl (.inl rfl) (pe_lst (pa_cons (pv 4) (pa_cons pe_str (pa_cons (pe_ix ix_list (pe_call0 G_l_reserved (hr.mono (by decide)) (by rfl) D_l_reserved.g D_l_reserved.F.kp D_l_reserved.b .nil pass0) (pe_call G_l_take (hr.mono (by decide)) (by rfl) D_l_take.g D_l_take.F.kp D_l_take.b .nil pass0 (pa_cons (pv 1) (pa_cons pe_int pa_nil))) (fun _ _ => rfl)) (pa_cons (pe_call G_l_piece (hr.mono (by decide)) (by rfl) D_l_piece.g D_l_piece.F.kp D_l_piece.b .nil pass0 (pa_cons (pv 1) pa_nil)) (pa_cons (pe_op op_add_str (pe_call G_l_piece (hr.mono (by decide)) (by rfl) D_l_piece.g D_l_piece.F.kp D_l_piece.b .nil pass0 (pa_cons (pv 1) pa_nil)) (pe_call G_l_piece (hr.mono (by decide)) (by rfl) D_l_piece.g D_l_piece.F.kp D_l_piece.b .nil pass0 (pa_cons (pv 1) pa_nil))) pa_nil)))))))
    (pss_cons (ps_expr (pe_bm PySem.F.plainAttrs_list PySem.F.slot_list_append PySem.F.type_list_append mt_append (pv 7) (pa_cons (pe_ix ix_list (pe_lst (pa_strs (.cons _ _ _ (.cons _ _ _ (.cons _ _ _ (.cons _ _ _ (.cons _ _ _ (.cons _ _ _ (.cons _ _ _ .nil))))))))) (pe_call G_l_take (hr.mono (by decide)) (by rfl) D_l_take.g D_l_take.F.kp D_l_take.b .nil pass0 (pa_cons (pv 1) (pa_cons pe_int pa_nil))) (fun _ _ => rfl)) pa_nil)))
    (Evl.pss_cut (ps_if (pt_cmpR op_notN (pv 5) pe_non (nomark _))
    (pss_cons (ps_expr (pe_bm PySem.F.plainAttrs_list PySem.F.slot_list_append PySem.F.type_list_append mt_append (pv 6) (pa_cons pe_str pa_nil)))
    (pss_one (ps_set (i := 7) sc_law.nd rfl (.inl rfl) (pe_op op_cat (pv 7) (pv 5)))))
    pss_nil)
    (pss_cons (ps_for PassesOwn.never rfl (pi_list (pe_lst (pa_cons (pv 4) (pa_cons (pe_op op_add_str (pe_op op_add_str (pe_op op_mul_str pe_str (pe_call G_l_take (hr.mono (by decide)) (by rfl) D_l_take.g D_l_take.F.kp D_l_take.b .nil pass0 (pa_cons (pv 1) (pa_cons pe_int pa_nil)))) (pv 4)) pe_str) pa_nil)))) (pg_name (i := 8) sc_law.nd rfl (.inl rfl))
    (pss_one (ps_if (pt_not (pt_val (pe_call G_l_is_right (hr.mono (by decide)) (by rfl) D_l_is_right.g D_l_is_right.F.kp D_l_is_right.b .nil pass0 (pa_cons (pe_call G_split_row (hr.mono (by decide)) (by rfl) D_split_row.g D_split_row.F.kp D_split_row.b .nil pass0 (pa_cons (pv 8) pa_nil)) (pa_cons (pv 5) pa_nil)))))
    (pss_one (ps_ret pe_bl))
    pss_nil)))
    (pss_cons (ps_for PassesOwn.never rfl (pi_list (pv 7)) (pg_name (i := 9) sc_law.nd rfl (.inl rfl))
    (pss_cons (ps_set (i := 10) sc_law.nd rfl (.inl rfl) (pe_lst (pa_cons (pe_call G_is_name (hr.mono (by decide)) (by rfl) D_is_name.g D_is_name.F.kp D_is_name.b .nil pass0 (pa_cons (pv 9) pa_nil)) (pa_cons (pe_call G_is_number (hr.mono (by decide)) (by rfl) D_is_number.g D_is_number.F.kp D_is_number.b .nil pass0 (pa_cons (pv 9) pa_nil)) pa_nil))))
    (pss_cons (ps_if (PW.pt (pw_or (pt_not (pt_val (pe_callB call_isi (by rfl) T.n_isinstance (by decide +kernel) (pa_cons (pe_ix ix_list (pv 10) pe_int (fun _ _ => rfl)) (pa_cons (pe_bltn (v := .ty "bool") (u := .type "bool") (by rfl) T.n_bool (by decide +kernel) rfl) pa_nil))))) (pw_or1 (pt_not (pt_val (pe_callB call_isi (by rfl) T.n_isinstance (by decide +kernel) (pa_cons (pe_ix ix_list (pv 10) pe_int (fun _ _ => rfl)) (pa_cons (pe_bltn (v := .ty "bool") (u := .type "bool") (by rfl) T.n_bool (by decide +kernel) rfl) pa_nil))))))))
    (pss_one (ps_ret pe_bl))
    pss_nil)
    (pss_one (ps_if (pt_cmpR (op_neD hr.units) (pv 10) (pe_lst (pa_cons (pe_call G_l_is_name (hr.mono (by decide)) (by rfl) D_l_is_name.g D_l_is_name.F.kp D_l_is_name.b .nil pass0 (pa_cons (pv 9) pa_nil)) (pa_cons (pe_call G_l_is_number (hr.mono (by decide)) (by rfl) D_l_is_number.g D_l_is_number.F.kp D_l_is_number.b .nil pass0 (pa_cons (pv 9) pa_nil)) pa_nil))) (nomark _))
    (pss_one (ps_ret pe_bl))
    pss_nil)))))
    (pss_one (ps_ret pe_bl)))))))))))))), ?_⟩
    -- hand = [_law_draws(script, 400), 0]
    refine ⟨_, rfl, a, ns, 400, rfl, hS, by omega, by omega, fun pd ds H1 s1 n1 e1 => ⟨by show (2 : Nat) ≤ sizeLine; decide, fun h nh => ?_⟩⟩
    generalize hg : upd _ h _ = H2
    obtain ⟨s2, e2⟩ := new_of nh hg
    have hne : pd ≠ h := ne_of_none e1 nh
    have hH2 : Hand H2 h pd ds := ⟨⟨0, e2⟩, s2 _ _ e1, hne⟩
    -- pieces = []
    refine ⟨Nat.zero_le _, fun pp np => ?_⟩
    generalize hg : upd _ pp _ = H3
    obtain ⟨s3, e3⟩ := new_of np hg
    have hH3 := hH2.same s3
    have hpp : pp ≠ h := hand_ne hH2 np
    have hpd : pp ≠ pd := hand_ne2 hH2 np
    -- for k in range(_law_take(hand, 16))
    refine ⟨_, rfl, h, pd, ds, 16, rfl, by decide, hH3, fun r H4 r0 r1 b4 hH4 _ => ⟨_, rfl, by omega, by omega, ?_⟩⟩
    refine for_range (lo := 0) (n := r.toNat) (fun i σ H5 => ∃ (y3 : Option V) (ps : List PySem.Str), σ = [some (.ref a), some (.ref h), some (.ref pp), y3, none, none, none, none, none, none, none] ∧ Hand H5 h pd ds ∧ H5 pp = some (.lst (ps.map V.str)) ∧ ps.length = i ∧ ∀ z ∈ ps, z.length ≤ 20)
      ⟨_, [], rfl, hH4, b4 _ _ hpp e3, rfl, fun z hz => absurd hz (by simp)⟩ (fun i σ H5 hi hP => ?_) (fun σ H5 hP => ?_)
    · obtain ⟨y3, ps, rfl, hH5, e5, hl, hz⟩ := hP
      refine ⟨_, rfl, .inl ⟨rfl, _, SqL.of e5⟩, _, rfl, h, pd, ds, rfl, hH5, fun z H6 hzl b6 hH6 => ?_⟩
      have e6 := b6 _ _ hpp e5
      refine ⟨pp, _, _, rfl, rfl, e6, ?_, ?_⟩
      · rw [List.length_map, hl]
        exact small_sz (by omega)
      refine ⟨_, ps ++ [z], rfl, hH6.upd hpp hpd, ?_, by rw [List.length_append, hl]; rfl, fun y hy => ?_⟩
      · rw [upd_same, List.map_append]
        rfl
      · rcases List.mem_append.mp hy with hy | hy
        · exact hz y hy
        · rw [List.mem_singleton.mp hy]
          exact hzl
    obtain ⟨y3, ps, rfl, hH5, e5, hl, hz⟩ := hP
    have hs := sum_const hz
    -- text
    refine ⟨⟨_, rfl⟩, _, rfl, _, pp, ps, rfl, rfl, .inl (SqL.of e5), ?_, ?_⟩
    · show _ + ps.length * 0 ≤ _
      omega
    have ht : (Txt.join "" ps).length ≤ 300 := by
      rw [join_len]
      omega
    generalize Txt.join "" ps = z at ht
    have hb : ∀ ws, lex z.cps.toList = some ws → ws.length ≤ 300 ∧ ∀ y ∈ ws, y.length ≤ 300 := fun ws e => by
      obtain ⟨h1, h2⟩ := lex_bound z.cps.toList.length z.cps.toList ws (Nat.le_refl _) e
      have hl : z.cps.toList.length = z.length := rfl
      exact ⟨by omega, fun y hy => by have := h2 y hy; omega⟩
    have hb2 : ∀ ws, lex z.cps.toList = some ws → ws.length ≤ 100000 := fun ws e => by have := (hb ws e).1; omega
    -- expected, found
    refine ⟨_, rfl, z, rfl, by omega, Gives.of fun ev H6 s6 re6 ne6 => ?_⟩
    refine ⟨_, rfl, z, rfl, by omega, Gives.of fun fv H7 s7 rf7 nf7 => ?_⟩
    have re7 := re6.same s7
    have hH7 := (hH5.same s6).same s7
    refine ⟨_, rfl, _, rfl, fv, ev, _, rfl, rf7, re7, hb2, _, rfl, iteF ?_⟩
    -- odd
    refine ⟨_, rfl, rfl, fun p8 H8 s8 n8 e8 => ?_⟩
    refine ⟨_, rfl, h, pd, ds, 30, rfl, by decide, hH7.same s8, fun r2 H9 r20 r21 b9 hH9 _ => ?_⟩
    obtain ⟨z1, hz1, ha1⟩ := strs_at (ws := wResL) r20 (by show r2 < 30; exact r21)
    refine ⟨p8, _, _, _, rfl, rfl, SqL.of (b9 _ _ (hand_ne hH7 n8) e8), ha1, ?_⟩
    refine ⟨_, rfl, h, pd, ds, rfl, hH9, fun z2 H10 hz2 b10 hH10 => ?_⟩
    refine ⟨_, rfl, h, pd, ds, rfl, hH10, fun z3 H11 hz3 b11 hH11 => ?_⟩
    refine ⟨_, rfl, h, pd, ds, rfl, hH11, fun z4 H12 hz4 b12 hH12 => ?_⟩
    refine ⟨_, _, rfl, rfl, Nat.le_trans (show z3.length + z4.length ≤ 100 by omega) (by decide), by show (5 : Nat) ≤ sizeLine; decide, fun po npo => ?_⟩
    generalize hg : upd _ po _ = H13
    obtain ⟨s13, e13⟩ := new_of npo hg
    have B13 : But h H7 H13 := (But.trans (Same.but s8) (b9.trans (b10.trans (b11.trans b12)))).trans (Same.but s13)
    have hH13 := hH12.same s13
    have npo12 := hand_ne hH12 npo
    -- odd.append(..)
    refine ⟨_, rfl, .inl ⟨rfl, _, SqL.of e13⟩, by decide, fun p14 n14 => ?_⟩
    generalize hg : upd _ p14 _ = H14
    obtain ⟨s14, e14⟩ := new_of n14 hg
    refine ⟨_, rfl, h, pd, ds, 7, rfl, by decide, hH13.same s14, fun r5 H15 r50 r51 b15 hH15 _ => ?_⟩
    obtain ⟨z5, hz5, ha5⟩ := strs_at (ws := wSeven) r50 (by show r5 < 7; exact r51)
    have e15 := b15 _ _ npo12 (s14 _ _ e13)
    refine ⟨p14, _, _, _, rfl, rfl, SqL.of (b15 _ _ (hand_ne hH13 n14) e14), ha5, po, _, _, rfl, rfl, e15, by show (5 : Nat) < sizeLine; decide, ?_⟩
    have B15 : But h H7 H15 := (B13.trans (Same.but s14)).trans b15
    have npo7 : H7 po = none := (But.trans (Same.but s8) (b9.trans (b10.trans (b11.trans b12)))).free npo12 npo
    have npod : po ≠ pd := hand_ne2 hH12 npo
    generalize hg : upd _ po _ = H16
    have B16 : But h H7 H16 := hg ▸ B15.new npo7
    have hH16 : Hand H16 h pd ds := hg ▸ hH15.upd npo12 npod
    have e16 : H16 po = some (.lst ([z, "", z1, z2, z3 ++ z4, z5].map V.str)) := hg ▸ upd_same
    have all16 : ∀ y ∈ [z, "", z1, z2, z3 ++ z4, z5], y.length ≤ 1000 := fun y hy => by
      simp only [List.mem_cons, List.not_mem_nil, or_false] at hy
      rcases hy with rfl | rfl | rfl | rfl | rfl | rfl
      · omega
      · decide
      · exact res_len2 _ hz1
      · omega
      · rw [app_len]
        omega
      · exact seven_len _ hz5
    -- if expected is not None
    refine ⟨fun σ H' => ∃ (oa : Addr) (os : List PySem.Str) (fv2 : V), σ = [some (.ref a), some (.ref h), some (.ref pp), y3, some (.str z), some ev, some fv2, some (.ref oa), none, none, none] ∧ H' oa = some (.lst (os.map V.str)) ∧ (∀ y ∈ os, y.length ≤ 1000) ∧ Rep H' ev (lex z.cps.toList) ∧ Hand H' h pd ds, ?_, ?_⟩
    · cases ho : lex z.cps.toList with
      | none =>
        rw [ho] at re7 rf7
        have e1 : ev = .non := re7
        subst e1
        exact ⟨_, rfl, rfl, _, rfl, iteF ⟨po, _, fv, rfl, e16, all16, rfl, hH16⟩⟩
      | some ws =>
        rw [ho] at re7 rf7
        obtain ⟨e, rfl, he⟩ := re7
        obtain ⟨f, rfl, hf⟩ := rf7
        have hfe : f ≠ e := by
          have h1 := nf7 f rfl
          rw [ho] at re6
          obtain ⟨e', e2, he'⟩ := re6
          cases e2
          exact fun z => by
            rw [z, he'] at h1
            cases h1
        have hfh : f ≠ h := by
          have h1 := nf7 f rfl
          exact hand_ne (hH5.same s6) h1
        have hfd : f ≠ pd := hand_ne2 (hH5.same s6) (nf7 f rfl)
        have heh : e ≠ h := hand_ne hH5 (ne6 e rfl)
        have hfo : f ≠ po := ne_of_none hf npo7
        have heo : e ≠ po := ne_of_none he npo7
        have hf16 := B16 _ _ hfh hf
        have he16 := B16 _ _ heh he
        obtain ⟨w1, w2⟩ := hb ws ho
        refine ⟨_, rfl, rfl, _, rfl, iteT ?_⟩
        refine ⟨_, rfl, .inl ⟨rfl, _, SqL.of hf16⟩, f, _, _, rfl, rfl, hf16, by rw [List.length_map]; exact small_sz (by omega), ?_⟩
        generalize hg : upd _ f _ = H17
        have he17 : H17 e = some (.lst (ws.map V.str)) := hg ▸ (upd_ne hfe.symm).trans he16
        have ho17 : H17 po = some (.lst ([z, "", z1, z2, z3 ++ z4, z5].map V.str)) := hg ▸ (upd_ne hfo.symm).trans e16
        have hH17 : Hand H17 h pd ds := hg ▸ hH16.upd hfh hfd
        refine ⟨_, rfl, _, rfl, po, e, _, _, rfl, rfl, ho17, he17, ?_, fun p18 n18 => ?_⟩
        · rw [List.length_map, List.length_map]
          exact Nat.le_of_lt (small_sz (show 6 + ws.length ≤ 1000 by omega))
        generalize hg : upd _ p18 _ = H18
        obtain ⟨s18, e18⟩ := new_of n18 hg
        refine ⟨p18, [z, "", z1, z2, z3 ++ z4, z5] ++ ws, .ref f, rfl, ?_, fun y hy => ?_, ⟨e, rfl, s18 _ _ he17⟩, hH17.same s18⟩
        · rw [e18, List.map_append]
        · rcases List.mem_append.mp hy with hy | hy
          · exact all16 y hy
          · have := w2 y hy
            omega
    · intro σ H20 hN
      obtain ⟨oa, os, fv2, rfl, e20, all20, re20, hH20⟩ := hN
      -- for again in [..]
      refine ⟨_, rfl, _, rfl, h, pd, ds, 9, rfl, by decide, hH20, fun r6 H21 r60 r61 b21 hH21 _ => ?_⟩
      have hm6 := mul_len r6
      refine ⟨_, _, rfl, rfl, r60, by omega, by decide, _, rfl, _, _, rfl, rfl, Nat.le_trans (show (Txt.mul " " r6).length + z.length ≤ 1000 by omega) (by decide), _, _, rfl, rfl, ?_, by show (2 : Nat) ≤ sizeLine; decide, fun pq npq => ?_⟩
      · have := app_len (Txt.mul " " r6) z
        exact Nat.le_trans (show (Txt.mul " " r6 ++ z).length + ("  " : PySem.Str).length ≤ 1002 by rw [this]; show _ + 2 ≤ _; omega) (by decide)
      generalize hg : upd _ pq _ = H22
      obtain ⟨s22, e22⟩ := new_of npq hg
      have hoh : oa ≠ h := fun z => by
        obtain ⟨⟨i, hi⟩, _, _⟩ := hH20
        rw [z, hi] at e20
        injection e20 with e20
        injection e20 with e20
        cases os with
        | nil => cases e20
        | cons y r =>
          injection e20 with e20 _
          cases e20
      have e22o := s22 _ _ (b21 _ _ hoh e20)
      have re22 : Rep H22 ev (lex z.cps.toList) := by
        cases ho : lex z.cps.toList with
        | none =>
          rw [ho] at re20
          exact re20
        | some ws =>
          rw [ho] at re20
          obtain ⟨e, rfl, he⟩ := re20
          refine ⟨e, rfl, s22 _ _ (b21 _ _ (fun z => ?_) he)⟩
          obtain ⟨⟨i, hi⟩, _, _⟩ := hH20
          rw [z, hi] at he
          injection he with he
          injection he with he
          cases ws with
          | nil => cases he
          | cons y r =>
            injection he with he _
            cases he
      have hlex : ∀ y ∈ [z, (Txt.mul " " r6 ++ z) ++ "  "], lex y.cps.toList = lex z.cps.toList ∧ y.length ≤ 100000 := fun y hy => by
        simp only [List.mem_cons, List.not_mem_nil, or_false] at hy
        rcases hy with rfl | rfl
        · exact ⟨rfl, by omega⟩
        · refine ⟨lex_again z r6, ?_⟩
          rw [app_len, app_len]
          show _ + 2 ≤ _
          omega
      refine ⟨pq, rfl, ⟨_, SqL.of e22⟩, ?_⟩
      refine for_list (a := pq) (xs := [z, (Txt.mul " " r6 ++ z) ++ "  "].map V.str) (fun i σ H' => ∃ y8, σ = [some (.ref a), some (.ref h), some (.ref pp), y3, some (.str z), some ev, some fv2, some (.ref oa), y8, none, none] ∧ Same H22 H') ⟨_, rfl, Same.refl _⟩ (fun i σ H' _ hP => SqL.of (hP.choose_spec.2 _ _ e22)) (fun i x σ H' hx hP => ?_) (fun σ H' hP => ?_)
      · obtain ⟨y8, rfl, s23⟩ := hP
        rw [List.getElem?_map] at hx
        cases hy : [z, (Txt.mul " " r6 ++ z) ++ "  "][i]? with
        | none =>
          rw [hy] at hx
          cases hx
        | some y =>
          rw [hy] at hx
          cases hx
          obtain ⟨hy1, hy2⟩ := hlex y (List.mem_of_getElem? hy)
          refine ⟨_, rfl, y, rfl, hy2, ?_⟩
          rw [hy1]
          refine Gives.of fun gv H24 s24 rg24 _ => ?_
          refine ⟨_, rfl, gv, ev, _, rfl, rg24, (re22.same s23).same s24, hb2, _, rfl, iteF ⟨_, rfl, s23.trans s24⟩⟩
      -- for word in odd
      · obtain ⟨y8, rfl, s23⟩ := hP
        have e24 := s23 _ _ e22o
        refine ⟨_, rfl, oa, rfl, ⟨_, SqL.of e24⟩, ?_⟩
        refine for_list (a := oa) (xs := os.map V.str) (fun i σ H2 => ∃ y9 y10, σ = [some (.ref a), some (.ref h), some (.ref pp), y3, some (.str z), some ev, some fv2, some (.ref oa), y8, y9, y10] ∧ Same H' H2) ⟨_, _, rfl, Same.refl _⟩ (fun i σ H2 _ hP => SqL.of (hP.choose_spec.choose_spec.2 _ _ e24)) (fun i x σ H2 hx hP => ?_) (fun σ H2 hP => ?_)
        · obtain ⟨y9, y10, rfl, s25⟩ := hP
          rw [List.getElem?_map] at hx
          cases hy : os[i]? with
          | none =>
            rw [hy] at hx
            cases hx
          | some y =>
            rw [hy] at hx
            cases hx
            have hyl := all20 y (List.mem_of_getElem? hy)
            have hys : y.length ≤ sizeLine := Nat.le_trans hyl (by decide)
            refine ⟨_, rfl, y, rfl, hys, _, rfl, y, rfl, hys, by show (2 : Nat) ≤ sizeLine; decide, fun p26 n26 => ?_⟩
            generalize hg : upd _ p26 _ = H26
            obtain ⟨s26, e26⟩ := new_of n26 hg
            refine ⟨_, rfl, p26, _, _, _, rfl, rfl, SqL.of e26, atI_nat (j := 0) rfl, _, _, _, _, true, rfl, .ty "bool", .base (.bl _), kit_bool, _, rfl, iteF ?_⟩
            refine ⟨_, rfl, p26, _, _, _, rfl, rfl, SqL.of e26, atI_nat (j := 1) rfl, _, _, _, _, true, rfl, .ty "bool", .base (.bl _), kit_bool, _, rfl, iteF ?_⟩
            refine ⟨_, rfl, _, rfl, y, rfl, hys, fun H27 s27 => ⟨_, rfl, y, rfl, hys, by show (2 : Nat) ≤ sizeLine; decide, fun p28 n28 => ?_⟩⟩
            generalize hg : upd _ p28 _ = H28
            obtain ⟨s28, e28⟩ := new_of n28 hg
            refine ⟨.list [.bool (isName y), .bool (isNumber y)], .list [.bool (isName y), .bool (isNumber y)], .lst (SqL.of (s28 _ _ (s27 _ _ e26))) (.cons (.bl _) (.cons (.bl _) .nil)), .lst (SqL.of e28) (.cons (.bl _) (.cons (.bl _) .nil)), rfl, rfl, _, rfl, ?_⟩
            have ee : PyData.eqv (.list [.bool (isName y), .bool (isNumber y)]) (.list [.bool (isName y), .bool (isNumber y)]) = true := by
              simp [PyData.eqv, PyData.eqvAll]
            rw [ee]
            exact iteF ⟨_, _, rfl, s25.trans (s26.trans (s27.trans s28))⟩
        · exact q H2
end
end K1

namespace K1
open PySem PySem.Spec PyProof.Rows L2
theorem all_mk {P : Program} {w : World} {K : PySem.W.Frag} {mg : PySem.Str → Option Value} {fa : Addr} (hfa : mg "law" = some (.ref fa)) (T : Txt K mg)
  (D_law : Df K mg "law" s_law ["script"]) (hb : ∀ (s : Shared) (v : Value), BindsTo s D_law.fd ⟨[v], []⟩ [("script", v)]) (D_split_row : Df K mg "split_row" s_split_row ["text"]) (D_is_name : Df K mg "is_name" s_is_name ["word"]) (D_is_number : Df K mg "is_number" s_is_number ["word"]) (D_word_end : Df K mg "_word_end" s_word_end ["text", "at"]) (D_run_end : Df K mg "_run_end" s_run_end ["text", "at", "characters"]) (D_is_run : Df K mg "_is_run" s_is_run ["word", "characters"]) (D_l_draws : Df K mg "_law_draws" s_l_draws ["script", "many"]) (D_l_take : Df K mg "_law_take" s_l_take ["hand", "many"]) (D_l_letters : Df K mg "_law_letters" s_l_letters []) (D_l_reserved : Df K mg "_law_reserved" s_l_reserved []) (D_l_is_name : Df K mg "_law_is_name" s_l_is_name ["word"]) (D_l_is_number : Df K mg "_law_is_number" s_l_is_number ["word"]) (D_l_run_of : Df K mg "_law_run_of" s_l_run_of ["hand", "chars", "most"]) (D_l_piece : Df K mg "_law_piece" s_l_piece ["hand"]) (D_l_end_of : Df K mg "_law_end_of" s_l_end_of ["text", "at", "chars"]) (D_l_words : Df K mg "_law_words" s_l_words ["text"]) (D_l_is_right : Df K mg "_law_is_right" s_l_is_right ["found", "expected"]) :
    ∃ fd : FuncData, (∀ (s : Shared) (v : Value), BindsTo s fd ⟨[v], []⟩ [("script", v)]) ∧ ∀ base : Heap, K.In base → base.Ns mainGlobals mg → FnOk P w K mg base CX0 5 fa fd ["script"] (spLaw K) := by
  have e := hfa.symm.trans D_law.g
  cases e
  exact ⟨D_law.fd, hb, fun base _ _ => (ok_law T D_law D_split_row D_is_name D_is_number D_word_end D_run_end D_is_run D_l_draws D_l_take D_l_letters D_l_reserved D_l_is_name D_l_is_number D_l_run_of D_l_piece D_l_end_of D_l_words D_l_is_right).mono (by decide)⟩
end K1

open PySem PySem.W PyProof.Rows
set_option maxHeartbeats 0 in
theorem PySem.Challenge.cw_swornrun_k01_words_of_a_row_holds : PySem.Challenge.rw_swornrun_k01_words_of_a_row.Holds := by
  w_on; o_law; k_head; (case hw => w_witness2)
  k_fill
  refine L2.walk_of (l := PySem.Challenge.rw_swornrun_k01_words_of_a_row) (n := 63) (k := 5) (x := "script") (CX := fun _ => L2.CX0) (sp := fun w => K1.spLaw _) rfl (by decide) rfl ⟨rfl, by decide, by decide⟩ (fun w h Y => PySem.W.kIn_of Y) ?F (fun _ _ a ns hl _ hS => ⟨a, ns, rfl, hS, hl, fun _ => rfl⟩) (fun _ _ _ _ _ h => h)
  case F =>
    intro w mg fa h KX G hmg
    refine' K1.all_mk hmg (K1.txt_mk (PySem.W.mg_none_of KX G ?n_len) (PySem.W.mg_none_of KX G ?n_range) (PySem.W.mg_none_of KX G ?n_int) (PySem.W.mg_none_of KX G ?n_abs) (PySem.W.mg_none_of KX G ?n_isinstance) (PySem.W.mg_none_of KX G ?n_list) (PySem.W.mg_none_of KX G ?n_str) (PySem.W.mg_none_of KX G ?n_bool) (K1.m_of KX G ?m1 ?w1) (K1.m_of KX G ?m2 ?w2) (PySem.W.mg_of KX G ?m3) (K1.sqt_mk ?q3 ?s3 ?v3) (PySem.W.mg_of KX G ?m4) (K1.sqt_mk ?q4 ?s4 ?v4) (PySem.W.mg_of KX G ?m5) (K1.sqt_mk ?q5 ?s5 ?v5) (K1.m_of KX G ?m6 ?w6) (K1.m_of KX G ?m7 ?w7)) (K1.df_mk KX G ?a0 ?l0 ?c0 ?k0 (fun _ _ _ _ _ _ us hl => match us, hl with | [_], _ => rfl)) (fun s v => .of_eq rfl) (K1.df_mk KX G ?a1 ?l1 ?c1 ?k1 (fun _ _ _ _ _ _ us hl => match us, hl with | [_], _ => rfl)) (K1.df_mk KX G ?a2 ?l2 ?c2 ?k2 (fun _ _ _ _ _ _ us hl => match us, hl with | [_], _ => rfl)) (K1.df_mk KX G ?a3 ?l3 ?c3 ?k3 (fun _ _ _ _ _ _ us hl => match us, hl with | [_], _ => rfl)) (K1.df_mk KX G ?a4 ?l4 ?c4 ?k4 (fun _ _ _ _ _ _ us hl => match us, hl with | [_, _], _ => rfl)) (K1.df_mk KX G ?a5 ?l5 ?c5 ?k5 (fun _ _ _ _ _ _ us hl => match us, hl with | [_, _, _], _ => rfl)) (K1.df_mk KX G ?a6 ?l6 ?c6 ?k6 (fun _ _ _ _ _ _ us hl => match us, hl with | [_, _], _ => rfl)) (K1.df_mk KX G ?a7 ?l7 ?c7 ?k7 (fun _ _ _ _ _ _ us hl => match us, hl with | [_, _], _ => rfl)) (K1.df_mk KX G ?a8 ?l8 ?c8 ?k8 (fun _ _ _ _ _ _ us hl => match us, hl with | [_, _], _ => rfl)) (K1.df_mk KX G ?a9 ?l9 ?c9 ?k9 (fun _ _ _ _ _ _ us hl => match us, hl with | [], _ => rfl)) (K1.df_mk KX G ?a10 ?l10 ?c10 ?k10 (fun _ _ _ _ _ _ us hl => match us, hl with | [], _ => rfl)) (K1.df_mk KX G ?a11 ?l11 ?c11 ?k11 (fun _ _ _ _ _ _ us hl => match us, hl with | [_], _ => rfl)) (K1.df_mk KX G ?a12 ?l12 ?c12 ?k12 (fun _ _ _ _ _ _ us hl => match us, hl with | [_], _ => rfl)) (K1.df_mk KX G ?a13 ?l13 ?c13 ?k13 (fun _ _ _ _ _ _ us hl => match us, hl with | [_, _, _], _ => rfl)) (K1.df_mk KX G ?a14 ?l14 ?c14 ?k14 (fun _ _ _ _ _ _ us hl => match us, hl with | [_], _ => rfl)) (K1.df_mk KX G ?a15 ?l15 ?c15 ?k15 (fun _ _ _ _ _ _ us hl => match us, hl with | [_, _, _], _ => rfl)) (K1.df_mk KX G ?a16 ?l16 ?c16 ?k16 (fun _ _ _ _ _ _ us hl => match us, hl with | [_], _ => rfl)) (K1.df_mk KX G ?a17 ?l17 ?c17 ?k17 (fun _ _ _ _ _ _ us hl => match us, hl with | [_, _], _ => rfl))
    (case a0 => k_is)
    (case l0 => k_is)
    (case c0 => k_is)
    (case k0 => k_is)
    (case a1 => k_is)
    (case l1 => k_is)
    (case c1 => k_is)
    (case k1 => k_is)
    (case a2 => k_is)
    (case l2 => k_is)
    (case c2 => k_is)
    (case k2 => k_is)
    (case a3 => k_is)
    (case l3 => k_is)
    (case c3 => k_is)
    (case k3 => k_is)
    (case a4 => k_is)
    (case l4 => k_is)
    (case c4 => k_is)
    (case k4 => k_is)
    (case a5 => k_is)
    (case l5 => k_is)
    (case c5 => k_is)
    (case k5 => k_is)
    (case a6 => k_is)
    (case l6 => k_is)
    (case c6 => k_is)
    (case k6 => k_is)
    (case a7 => k_is)
    (case l7 => k_is)
    (case c7 => k_is)
    (case k7 => k_is)
    (case a8 => k_is)
    (case l8 => k_is)
    (case c8 => k_is)
    (case k8 => k_is)
    (case a9 => k_is)
    (case l9 => k_is)
    (case c9 => k_is)
    (case k9 => k_is)
    (case a10 => k_is)
    (case l10 => k_is)
    (case c10 => k_is)
    (case k10 => k_is)
    (case a11 => k_is)
    (case l11 => k_is)
    (case c11 => k_is)
    (case k11 => k_is)
    (case a12 => k_is)
    (case l12 => k_is)
    (case c12 => k_is)
    (case k12 => k_is)
    (case a13 => k_is)
    (case l13 => k_is)
    (case c13 => k_is)
    (case k13 => k_is)
    (case a14 => k_is)
    (case l14 => k_is)
    (case c14 => k_is)
    (case k14 => k_is)
    (case a15 => k_is)
    (case l15 => k_is)
    (case c15 => k_is)
    (case k15 => k_is)
    (case a16 => k_is)
    (case l16 => k_is)
    (case c16 => k_is)
    (case k16 => k_is)
    (case a17 => k_is)
    (case l17 => k_is)
    (case c17 => k_is)
    (case k17 => k_is)
    (case n_len => k_is)
    (case n_range => k_is)
    (case n_int => k_is)
    (case n_abs => k_is)
    (case n_isinstance => k_is)
    (case n_list => k_is)
    (case n_str => k_is)
    (case n_bool => k_is)
    (case m1 => k_is)
    (case m2 => k_is)
    (case m3 => k_is)
    (case q3 => k_is)
    (case m4 => k_is)
    (case q4 => k_is)
    (case m5 => k_is)
    (case q5 => k_is)
    (case m6 => k_is)
    (case m7 => k_is)
    (case w1 => rfl)
    (case w2 => rfl)
    (case w6 => rfl)
    (case w7 => rfl)
    (case s3 => decide)
    (case v3 => (repeat (first | exact Paired.nil | refine Paired.cons ⟨_, rfl⟩ ?_)))
    (case s4 => decide)
    (case v4 => (repeat (first | exact Paired.nil | refine Paired.cons ⟨_, rfl⟩ ?_)))
    (case s5 => decide)
    (case v5 => (repeat (first | exact Paired.nil | refine Paired.cons ⟨_, rfl⟩ ?_)))
