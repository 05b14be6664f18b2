import PyProof.Rows.All
import Wide.All
import OpenK.AllK
import Wide.FinOn
import HandS.ForMost
import HandS.Evl
import HandS.Steps
import HandS.Wide
import HandS.IsInst
import HandS.Defaults
import HandS.Style
import HandS.Codes
import HandS.Walk
import HandS.Flow
import HandS.TupAny
import KE.KxText
import PySem.Challenge.RW_claimworlds_k01_names_told
set_option Elab.async false
set_option linter.all false
set_option maxRecDepth 100000
set_option maxHeartbeats 1000000
namespace CW
open PySem PySem.Spec PyProof.Rows L2

/-! heaps that grow -/
abbrev Xt (H H' : Hp) : Prop := ∀ a o, H a = some o → H' a = some o
theorem xrefl (H : Hp) : Xt H H := fun _ _ h => h
theorem xtr {H H1 H2 : Hp} (a : Xt H H1) (b : Xt H1 H2) : Xt H H2 := fun x o h => b x o (a x o h)
theorem xnew {H : Hp} {p : Addr} {o : HO} (h : H p = none) : Xt H (upd H p o) := fun a u e => by
  rw [upd_ne (ne_of_none e h)]; exact e
theorem xmut {H H' : Hp} {p : Addr} {o : HO} (e : Xt H H') (h : H p = none) : Xt H (upd H' p o) := fun a u ha => by
  rw [upd_ne (ne_of_none ha h)]; exact e a u ha
theorem xfree {H H' : Hp} {p : Addr} (e : Xt H H') (h : H' p = none) : H p = none := by
  cases h1 : H p with
  | none => rfl
  | some o => rw [e p o h1] at h; cases h
theorem xl {K : PySem.W.Frag} {H H' : Hp} {a : Addr} {xs : List V} (e : Xt H H') (h : SqL K H a xs) : SqL K H' a xs := by
  rcases h with (h | ⟨o, h⟩) | h
  · exact .inl (.inl (e _ _ h))
  · exact .inl (.inr ⟨o, e _ _ h⟩)
  · exact .inr h
theorem xt {K : PySem.W.Frag} {H H' : Hp} {a : Addr} {xs : List V} (e : Xt H H') (h : SqT K H a xs) : SqT K H' a xs := by
  rcases h with (h | ⟨o, h⟩) | h
  · exact .inl (.inl (e _ _ h))
  · exact .inl (.inr ⟨o, e _ _ h⟩)
  · exact .inr h
theorem sql {K : PySem.W.Frag} {H : Hp} {a : Addr} {xs : List V} (h : H a = some (.lst xs)) : SqL K H a xs := .inl (.inl h)
theorem sqt {K : PySem.W.Frag} {H : Hp} {a : Addr} {xs : List V} (h : H a = some (.tup xs)) : SqT K H a xs := .inl (.inl h)
theorem szle {n : Nat} (h : n ≤ 100000) : n ≤ sizeLine := Nat.le_trans h (by decide)
theorem szlt {n : Nat} (h : n < 100000) : n < sizeLine := Nat.lt_of_lt_of_le h (by decide)

/-! steps -/
section
variable {K : PySem.W.Frag} {σ : L2.St} {H : Hp} {Q : VK} {D : Ends} {t u : TS} {te ta tb tc : TE} {tt tw : TT} {g : TG} {i : Nat} {v x y : V} {r : R2}
theorem k_seq (h : t { D with nx := u D } σ H) : tSeq t u D σ H := h
theorem k_next (h : D.nx σ H) : tNext D σ H := h
theorem k_asg (h : te σ H fun x H1 => g x σ H1 D.nx) : tAsg te g D σ H := h
theorem k_name {R : L2.St → Hp → Prop} (h : R (σ.set i (some v)) H) : gName i v σ H R := h
theorem k_drop (h : te σ H fun _ H1 => D.nx σ H1) : tDrop te D σ H := h
theorem k_ret (h : te σ H D.rt) : tRet te D σ H := h
theorem k_ifs (h : tt σ H fun b H1 => if b = true then t D σ H1 else u D σ H1) : tIfS tt t u D σ H := h
theorem k_var (h : σ[i]? = some (some v)) (q : Q v H) : tVar i σ H Q := ⟨v, h, q⟩
theorem k_c (q : Q v H) : tC v σ H Q := q
theorem k_op (h : ta σ H fun x H1 => tb σ H1 fun y H2 => r x y H2 Q) : tOp r ta tb σ H Q := h
theorem k_un {r : V → Hp → VK → Prop} (h : ta σ H fun x H1 => r x H1 Q) : tUn r ta σ H Q := h
theorem k_cons {tr : TA} {R : List V → Hp → Prop} (h : ta σ H fun x H1 => tr σ H1 fun xs H2 => R (x :: xs) H2) : tCons ta tr σ H R := h
theorem k_nil {R : List V → Hp → Prop} (h : R [] H) : tNil σ H R := h
theorem k_cb {rr : List V → Hp → VK → Prop} {ts : TA} (h : ts σ H fun vs H1 => rr vs H1 Q) : tCB rr ts σ H Q := h
theorem k_call {sp : Sp} {dvs : List V} {E : XK} {ts : TA} (h : ts σ H fun vs H1 => sp (vs ++ dvs) H1 Q E) : tCall sp dvs E ts σ H Q := h
theorem k_callN {n m : Nat} {sp : Sp} {gV : List V → List V → List V} {E : XK} {ts tk : TA} (h : ts σ H fun vs H1 => tk σ H1 fun zs H2 => vs.length = n ∧ zs.length = m ∧ sp (gV vs zs) H2 Q E) : tCallN n m sp gV E ts tk σ H Q := h
theorem k_test {R : Bool → Hp → Prop} (h : te σ H fun x H' => ∃ k, x = .bl k ∧ R k H') : tTest te σ H R := h
theorem k_tb {R : Bool → Hp → Prop} (h : te σ H fun x H' => ∃ k, x = .bl k ∧ R k H') : tB te σ H R := h
theorem k_not {R : Bool → Hp → Prop} (h : tt σ H fun c H1 => R (!c) H1) : tNot tt σ H R := h
theorem k_and {R : Bool → Hp → Prop} (h : tt σ H fun c H1 => if c = true then tw σ H1 R else R false H1) : tAnd tt tw σ H R := h
theorem k_or {R : Bool → Hp → Prop} (h : tt σ H fun c H1 => if c = true then R true H1 else tw σ H1 R) : tOr tt tw σ H R := h
theorem k_andV (h : ta σ H fun x H1 => ∃ c, x = .bl c ∧ if c = true then tb σ H1 Q else Q (.bl false) H1) : tAndV ta tb σ H Q := h
theorem k_orV (h : ta σ H fun x H1 => ∃ c, x = .bl c ∧ if c = true then Q (.bl true) H1 else tb σ H1 Q) : tOrV ta tb σ H Q := h
theorem k_notV (h : ta σ H fun x H1 => ∃ c, x = .bl c ∧ Q (.bl (!c)) H1) : tNotV ta σ H Q := h
theorem k_ife (h : tt σ H fun c H1 => if c = true then ta σ H1 Q else tb σ H1 Q) : tIf tt ta tb σ H Q := h
theorem k_chain {r' : R2} (h : ta σ H fun x H1 => tb σ H1 fun y H2 => r x y H2 fun z H3 => ∃ k, z = .bl k ∧ (if k = true then tc σ H3 fun w' H4 => r' y w' H4 Q else Q (.bl false) H3)) : tChain r r' ta tb tc σ H Q := h
theorem k_lst {ts : TA} (h : ts σ H fun xs H1 => xs.length ≤ sizeLine ∧ ∀ p H2, H1 p = none → Xt H1 H2 → H2 p = some (.lst xs) → Q (.ref p) H2) (mono : ∀ R R' : List V → Hp → Prop, (∀ xs H1, R xs H1 → R' xs H1) → ts σ H R → ts σ H R') : tLst ts σ H Q :=
  mono _ _ (fun xs H1 ⟨h1, h2⟩ => ⟨h1, fun p hp => h2 p _ hp (xnew hp) upd_same⟩) h
/-- a literal true test -/
theorem k_bl {b : Bool} {R : Bool → Hp → Prop} (h : R b H) : ∃ k, V.bl b = .bl k ∧ R k H := ⟨b, rfl, h⟩
theorem k_yes {A B : Prop} (h : A) : if true = true then A else B := iteT h
theorem k_no {A B : Prop} (h : B) : if false = true then A else B := iteF h
theorem k_if {c : Prop} [Decidable c] {A B : Prop} (h1 : c → A) (h2 : ¬ c → B) : if decide c = true then A else B := by
  by_cases h : c
  · rw [decide_eq_true h]; exact iteT (h1 h)
  · rw [decide_eq_false h]; exact iteF (h2 h)
theorem k_ifn {c : Prop} [Decidable c] {A B : Prop} (h1 : ¬ c → A) (h2 : c → B) : if (!decide c) = true then A else B := by
  by_cases h : c
  · rw [decide_eq_true h]; exact iteF (h2 h)
  · rw [decide_eq_false h]; exact iteT (h1 h)
theorem k_ifb {c : Bool} {A B : Prop} (h1 : c = true → A) (h2 : c = false → B) : if c = true then A else B := by
  cases c with
  | true => exact iteT (h1 rfl)
  | false => exact iteF (h2 rfl)
/-! value operations -/
theorem v_I0 {gg : Int → Int → V} {i j : Int} (q : Q (gg i j) H) : rI0 gg (.int i) (.int j) H Q := ⟨i, j, rfl, rfl, q⟩
theorem v_I {C : Int → Int → Prop} {gg : Int → Int → V} {i j : Int} (hc : C i j) (q : Q (gg i j) H) : rI C gg (.int i) (.int j) H Q := ⟨i, j, rfl, rfl, hc, q⟩
theorem v_neg {i : Int} (q : Q (.int (-i)) H) : rU (fun i => .int (-i)) (.int i) H Q := ⟨i, rfl, q⟩
theorem v_eq (h : scal x y = true) (q : Q (.bl (decide (x = y))) H) : rEq x y H Q := ⟨h, q⟩
theorem v_ne (h : scal x y = true) (q : Q (.bl (!decide (x = y))) H) : rNe x y H Q := ⟨h, q⟩
/-- + -/
def rPlus (K : PySem.W.Frag) : R2 := fun x y H Q => rI0 (fun i j => .int (i + j)) x y H Q ∨ ((∃ i j, x = .str i ∧ y = .str j ∧ i.length + j.length ≤ sizeLine ∧ Q (.str (i ++ j)) H) ∨ (rCat x y H Q ∨ rCatA K x y H Q))
theorem v_plus_int {i j : Int} (q : Q (.int (i + j)) H) : rPlus K (.int i) (.int j) H Q := .inl ⟨i, j, rfl, rfl, q⟩
theorem v_plus_str {a b : Str} (hz : a.length + b.length ≤ sizeLine) (q : Q (.str (a ++ b)) H) : rPlus K (.str a) (.str b) H Q := .inr (.inl ⟨a, b, rfl, rfl, hz, q⟩)
theorem v_plus_lst {a b : Addr} {xs ys : List V} (ha : H a = some (.lst xs)) (hb : H b = some (.lst ys)) (hz : xs.length + ys.length ≤ sizeLine) (q : ∀ p H', H p = none → Xt H H' → H' p = some (.lst (xs ++ ys)) → Q (.ref p) H') : rPlus K (.ref a) (.ref b) H Q :=
  .inr (.inr (.inl ⟨a, b, xs, ys, rfl, rfl, ha, hb, hz, fun p hp => q p _ hp (xnew hp) upd_same⟩))
theorem v_plus_tup {a b : Addr} {xs ys : List V} (ha : SqT K H a xs) (hb : SqT K H b ys) (hz : xs.length + ys.length ≤ sizeLine) (q : ∀ p H', Xt H H' → SqT K H' p (xs ++ ys) → Q (.ref p) H') : rPlus K (.ref a) (.ref b) H Q := by
  refine .inr (.inr (.inr ⟨a, b, xs, ys, rfl, rfl, ha, hb, hz, fun e => ?_, fun _ e => ?_, fun _ _ p hp => q p _ (xnew hp) (sqt upd_same)⟩))
  · subst e; exact q b H (xrefl H) hb
  · subst e; exact q a H (xrefl H) (by rw [List.append_nil]; exact ha)
/-- * -/
def rTimes : R2 := fun x y H Q => rI CMul (fun i j => .int (i * j)) x y H Q ∨ (∃ (a : Str) (n : Int), x = .str a ∧ y = .int n ∧ 0 ≤ n ∧ n ≤ 1000 ∧ a.length ≤ 1000 ∧ ∀ z : Str, z.length = a.length * n.toNat → Q (.str z) H)
theorem v_times_int {i j : Int} (h : CMul i j) (q : Q (.int (i * j)) H) : rTimes (.int i) (.int j) H Q := .inl ⟨i, j, rfl, rfl, h, q⟩
end

theorem rep_len (xs : Array Nat) : ∀ n : Nat, ((List.replicate n xs).foldl (· ++ ·) #[]).size = xs.size * n := by
  have h : ∀ (n : Nat) (acc : Array Nat), ((List.replicate n xs).foldl (· ++ ·) acc).size = acc.size + xs.size * n := by
    intro n
    induction n with
    | zero => intro acc; simp
    | succ n ih =>
      intro acc
      rw [List.replicate_succ, List.foldl_cons, ih, Array.size_append, Nat.mul_succ]
      omega
  intro n
  rw [h n #[]]
  simp
section
variable {X : Cx}
theorem op_plus : OpR X (binaryOp .Add) (rPlus X.K) := OpR.or op_add (OpR.or op_add_str (OpR.or op_cat op_catA))
theorem op_mul_str : OpR X (binaryOp .Mult) (fun x y H Q => ∃ (a : Str) (n : Int), x = .str a ∧ y = .int n ∧ 0 ≤ n ∧ n ≤ 1000 ∧ a.length ≤ 1000 ∧ ∀ z : Str, z.length = a.length * n.toNat → Q (.str z) H) := by
  intro pins s σ H x y v u Q I rx ry h
  obtain ⟨a, n, rfl, rfl, h0, h1, h2, q⟩ := h
  obtain ⟨t, rfl⟩ := rx
  obtain ⟨t', rfl⟩ := ry
  have hm : a.length * n.toNat ≤ 1000 * 1000 := Nat.mul_le_mul h2 (by omega)
  refine PySem.P.mul_str ?_ ?_ ?_ ?_
  · rw [decide_eq_false (by omega), decide_eq_false (by omega)]; rfl
  · intro hn _ hgt
    have : (1000 : Int) ≤ (2 ^ 63 - 1) / n := Int.le_ediv_of_mul_le (by omega) (by omega)
    omega
  · intro _ _
    have e : (PySem.Builtin.Str.tooLong (a.length * n.toNat)) = false := by
      unfold PySem.Builtin.Str.tooLong
      apply decide_eq_false
      have : (1000 * 1000 : Nat) ≤ sizeLine := by decide
      first | omega | skip
    exact e
  · by_cases hn : n < 1
    · rw [if_pos hn]
      have e0 : n.toNat = 0 := by omega
      exact ⟨by decide, ⟨.str Str.empty, H, I.tok _, ⟨_, rfl⟩, q _ (by rw [e0, Nat.mul_zero]; rfl)⟩⟩
    · rw [if_neg hn]
      by_cases h3 : (n == 1 || a.length == 0) = true
      · rw [if_pos h3]
        refine ⟨.str a, H, I, ⟨_, rfl⟩, q _ ?_⟩
        rw [Bool.or_eq_true] at h3
        rcases h3 with h3 | h3
        · have : n = 1 := eq_of_beq h3
          subst this; simp
        · have : a.length = 0 := eq_of_beq h3
          rw [this]; simp
      · rw [if_neg h3]
        refine ⟨?_, ⟨.str _, H, I.tok _, ⟨_, rfl⟩, q _ ?_⟩⟩
        · show ((List.replicate n.toNat a.cps).foldl (· ++ ·) #[]).size ≤ sizeLine
          rw [rep_len]
          exact Nat.le_trans hm (by decide)
        · exact rep_len a.cps n.toNat
theorem op_times : OpR X (binaryOp .Mult) rTimes := OpR.or op_mul op_mul_str
/-- f(k = v, ..) -/
theorem pe_callN0 {CX : CXT} {k : Nat} {f : Addr} {fd : FuncData} {ps ks : List Str} {sp : Sp} {E : XK} {x : Str} {p pos : Pos} {kws : List Keyword} {tk : TA} {g : List Value → List Value → List Value} {gV : List V → List V → List V}
    (F : FnOk X.prog X.w X.K X.mg X.base CX k f fd ps sp) (hr : Room k X.A) (hg : Gl X x) (hm : X.mg x = some (.ref f)) (hk : PySem.W.keepIn X.K (.ref f) = true) (hb : KBn X.K fd ps 0 ks g gV) (hx : Passes CX X E)
    (hkw : PK X kws tk) (hall : (backToKw pos (keywordEach kws X.env)).all (·.1.isSome) = true := by rfl) (hks : (backToKw pos (keywordEach kws X.env)).filterMap (·.1) = ks := by rfl)
    (hdb : (x == ("__debug__" : Str)) = false := by decide)
    (hpl : ((backTo pos (starEach [] X.env)).any (·.1) || (backToKw pos (keywordEach kws X.env)).any (·.1.isNone)) = false := by rfl) :
    PE X (.Call (.Name x p) [] kws pos) (tCallN 0 ks.length sp gV E tNil tk) := by
  refine ⟨fun pins s σ H Q I h => ?_⟩
  refine wpAny_Call_Name_kw (ld_glob I hg hm ?_ hdb)
  refine PySem.W.callWith_KW0 (h₀ := X.base) I.ok.mod.kin hk hall ?_ hpl
  refine thn (hkw.run pos pins s σ H _ I h) fun ws s2 ⟨zs, H2, I2, rz, l1, l2, q2⟩ => ⟨I2.kIn, ?_⟩
  rw [hks]
  exact run_fnN (us := []) (vs := []) F hr hb hx I2 .nil rz rfl l2 q2
end
end CW

set_option Elab.async false
set_option linter.all false
set_option maxRecDepth 100000
set_option maxHeartbeats 1000000
namespace CW
open PySem PySem.Spec PyProof.Rows L2
section
variable {X : Cx}
def rLenU (K : PySem.W.Frag) : List V → Hp → VK → Prop := fun xs H Q => (∃ p ys, xs = [.ref p] ∧ (SqL K H p ys ∨ SqT K H p ys) ∧ Q (.int ys.length) H) ∨ ∃ z : Str, xs = [.str z] ∧ z.length ≤ sizeLine ∧ Q (.int z.length) H
theorem call_lenU : CallR X (.builtin "len") (rLenU X.K) := CallR.or call_len_seq call_len_str
def rInt1 : List V → Hp → VK → Prop := fun xs H Q => (∃ i, xs = [.int i] ∧ Q (.int i) H) ∨ ∃ k, xs = [.bl k] ∧ Q (.int (if k then 1 else 0)) H
theorem call_intU : CallR X (.type "int") rInt1 := call_int1
def rSlU (K : PySem.W.Frag) : V → Option Int → Option Int → Hp → VK → Prop := fun x lo hi H Q => rSlL K x lo hi H Q ∨ (rSlS x lo hi H Q ∨ rSlA K x lo hi H Q)
theorem sl_any : SlR X (rSlU X.K) := SlR.or sl_list (SlR.or sl_str sl_tupA)
def rInU (K : PySem.W.Frag) : R2 := fun x y H Q => rInS x y H Q ∨ rIn K false x y H Q
theorem op_inU : OpR X (compareOp .In) (rInU X.K) := OpR.or op_inS op_in_seq
def rNotInU (K : PySem.W.Frag) : R2 := fun x y H Q => rNotInS x y H Q ∨ rIn K true x y H Q
theorem op_notInU : OpR X (compareOp .NotIn) (rNotInU X.K) := OpR.or op_notInS op_notIn_seq
end
section
variable {K : PySem.W.Frag} {σ : L2.St} {H : Hp} {Q : VK} {D : Ends} {te ta tb : TE} {a : Addr} {xs : List V} {z : Str} {i : Int} {v x : V} {c : Nat}
theorem v_len_l (h : SqL K H a xs) (q : Q (.int xs.length) H) : rLenU K [.ref a] H Q := .inl ⟨a, xs, rfl, .inl h, q⟩
theorem v_len_t (h : SqT K H a xs) (q : Q (.int xs.length) H) : rLenU K [.ref a] H Q := .inl ⟨a, xs, rfl, .inr h, q⟩
theorem v_len_s (h : z.length ≤ sizeLine) (q : Q (.int z.length) H) : rLenU K [.str z] H Q := .inr ⟨z, rfl, h, q⟩
theorem v_int (q : Q (.int i) H) : rInt1 [.int i] H Q := .inl ⟨i, rfl, q⟩
theorem v_ix_l (h : SqL K H a xs) (ha : atI xs i = some v) (q : Q v H) : rIx K (.ref a) (.int i) H Q := .inl ⟨a, xs, i, v, rfl, rfl, h, ha, q⟩
theorem v_ix_t (h : SqT K H a xs) (ha : atI xs i = some v) (q : Q v H) : rIx K (.ref a) (.int i) H Q := .inr (.inl ⟨a, xs, i, v, rfl, rfl, h, ha, q⟩)
theorem v_ix_s (h : z.length ≤ sizeLine) (ha : atI z.cps.toList i = some c) (q : Q (.str ⟨#[c]⟩) H) : rIx K (.str z) (.int i) H Q := .inr (.inr ⟨z, i, c, rfl, rfl, h, ha, q⟩)
theorem k_sl {r : V → Option Int → Option Int → Hp → VK → Prop} {tl th : TO} (h : te σ H fun x H1 => tl σ H1 fun lo H2 => th σ H2 fun hi H3 => r x lo hi H3 Q) : tSl r te tl th σ H Q := h
theorem k_nopart {R : Option Int → Hp → Prop} (h : R none H) : tNoPart σ H R := h
theorem k_part {R : Option Int → Hp → Prop} (h : te σ H fun x H1 => ∃ i, x = .int i ∧ R (some i) H1) : tPart te σ H R := h
theorem v_sl_l {lo hi : Option Int} (h : SqL K H a xs) (q : ∀ p H', H p = none → Xt H H' → H' p = some (.lst (cutV xs lo hi)) → Q (.ref p) H') : rSlU K (.ref a) lo hi H Q :=
  .inl ⟨a, xs, rfl, h, fun p hp => q p _ hp (xnew hp) upd_same⟩
theorem v_sl_s {lo hi : Option Int} (h : z.length ≤ sizeLine) (q : Q (.str (cutS z lo hi)) H) : rSlU K (.str z) lo hi H Q := .inr (.inl ⟨z, rfl, h, q⟩)
theorem v_in_s {w : Str} (q : Q (.bl (decide (c ∈ w.cps.toList))) H) : rInU K (.str ⟨#[c]⟩) (.str w) H Q := .inl ⟨c, w, rfl, rfl, q⟩
theorem v_notin_s {w : Str} (q : Q (.bl (!decide (c ∈ w.cps.toList))) H) : rNotInU K (.str ⟨#[c]⟩) (.str w) H Q := .inl ⟨c, w, rfl, rfl, q⟩
theorem v_in_q (h : SqL K H a xs ∨ SqT K H a xs) (hx : flatV x = true) (hf : xs.all flatV = true) (q : Q (.bl (inV x xs)) H) : rInU K x (.ref a) H Q := .inr ⟨a, xs, rfl, h, hx, hf, q⟩
theorem v_notin_q (h : SqL K H a xs ∨ SqT K H a xs) (hx : flatV x = true) (hf : xs.all flatV = true) (q : Q (.bl (!inV x xs)) H) : rNotInU K x (.ref a) H Q := .inr ⟨a, xs, rfl, h, hx, hf, q⟩
theorem k_m0 {r : V → List V → Hp → VK → Prop} (h : te σ H fun x H1 => (∃ a, x = .str a) ∧ r x [] H1 Q) : tM0 r te σ H Q := h
theorem k_m1 {r : V → List V → Hp → VK → Prop} (h : te σ H fun x H1 => (∃ a, x = .str a) ∧ ta σ H1 fun y H2 => r x [y] H2 Q) : tM1 r te ta σ H Q := h
def LcB (J : It) (g : TG) (tt : TT) (te : TE) (vs : List Nat) (σ : L2.St) (Q : VK) (H1 : Hp) : Prop := ∀ D, H1 D = none → ∃ W : Nat → Nat → Hp → Prop, (∃ m, W 0 m (upd H1 D (.lst []))) ∧ ∀ i m H, W i m H →
  (J.stop i H ∧ Q (.ref D) H) ∨ (J.go i H ∧ ∃ Nx : Hp → Prop, (∀ H', Nx H' → ∃ m', m' < m ∧ W (i + 1) m' H') ∧ ∀ x H', J.yld i H x H' → g x (wipe σ vs) H' fun σ2 H2 => wipe σ2 vs = wipe σ vs ∧ tt σ2 H2 fun b H3 =>
    if b = true then te σ2 H3 fun y H4 => ∃ acc, H4 D = some (.lst acc) ∧ acc.length < sizeLine ∧ Nx (upd H4 D (.lst (acc ++ [y]))) else Nx H3)
theorem k_lcl {g : TG} {tt : TT} {vs : List Nat} {wi : TI} (h : wi σ H fun J H1 => LcB J g tt te vs σ Q H1) : tLc wi g tt te vs σ H Q := h
end
/-- what a comprehension without a test gathers: P of the turn, the value and the heap -/
structure LcW (P : Nat → V → Hp → Prop) (H1 : Hp) (Dl : Addr) (i : Nat) (H : Hp) : Prop where
  x : Xt H1 H
  ys : ∃ ys, H Dl = some (.lst ys) ∧ ys.length = i ∧ ∀ j y, ys[j]? = some y → P j y H
theorem LcW.turn {P : Nat → V → Hp → Prop} (mono : ∀ i y H H', Xt H H' → P i y H → P i y H') (hup : ∀ i y H b xs ys, H b = some (.lst xs) → P i y H → P i y (upd H b (.lst ys))) {H1 H H4 : Hp} {Dl : Addr} {i : Nat} {y : V} (hD : H1 Dl = none) (w : LcW P H1 Dl i H) (hx : Xt H H4) (hp : P i y H4) (hi : i < 100000) :
    ∃ acc, H4 Dl = some (.lst acc) ∧ acc.length < sizeLine ∧ LcW P H1 Dl (i + 1) (upd H4 Dl (.lst (acc ++ [y]))) := by
  obtain ⟨x, ys, e, l, h⟩ := w
  refine ⟨ys, hx _ _ e, by rw [l]; exact szlt hi, ⟨xmut (xtr x hx) hD, ys ++ [y], upd_same, by simp [l], fun j z hz => ?_⟩⟩
  refine hup _ _ _ _ ys _ (hx _ _ e) ?_
  by_cases hj : j < ys.length
  · rw [List.getElem?_append_left hj] at hz
    exact mono _ _ _ _ hx (h j z hz)
  · have : j = ys.length := by
      have := (List.getElem?_eq_some_iff.mp hz).1
      simp at this; omega
    subst this
    simp at hz
    subst hz
    rw [l]; exact hp
section
variable {K : PySem.W.Frag} {σ : L2.St} {H : Hp} {Q : VK} {te : TE} {vs : List Nat} {j : Nat} {Dl : Addr} {g : TG} {tt : TT}
theorem k_yesT {R : Bool → Hp → Prop} (h : R true H) : tYes σ H R := h
/-- a relation that does not look at the heap -/
abbrev PV0 (P : Nat → V → Prop) : Nat → V → Hp → Prop := fun i y _ => P i y
theorem lc_rng {n : Nat} {lo : Int} (P : Nat → V → Prop) (hD : H Dl = none) (hn : n < 100000) (hw : ∀ x, wipe ((wipe σ vs).set j (some x)) vs = wipe σ vs)
    (body : ∀ i H', i < n → Xt H H' → ∀ R : VK, (∀ y H2, Xt H' H2 → P i y → R y H2) → te ((wipe σ vs).set j (some (.int (lo + (i : Int))))) H' R)
    (k : ∀ ys H2, ys.length = n → (∀ (i : Nat) (y : V), ys[i]? = some y → P i y) → Xt H H2 → H2 Dl = some (.lst ys) → Q (.ref Dl) H2) :
    ∃ W : Nat → Nat → Hp → Prop, (∃ m, W 0 m (upd H Dl (.lst []))) ∧ ∀ i m H, W i m H →
      ((Itr lo n).stop i H ∧ Q (.ref Dl) H) ∨ ((Itr lo n).go i H ∧ ∃ Nx : Hp → Prop, (∀ H', Nx H' → ∃ m', m' < m ∧ W (i + 1) m' H') ∧ ∀ x H', (Itr lo n).yld i H x H' → gName j x (wipe σ vs) H' fun σ2 H2 => wipe σ2 vs = wipe σ vs ∧ tYes σ2 H2 fun b H3 =>
        if b = true then te σ2 H3 fun y H4 => ∃ acc, H4 Dl = some (.lst acc) ∧ acc.length < sizeLine ∧ Nx (upd H4 Dl (.lst (acc ++ [y]))) else Nx H3) :=
  lc_range (g := gName j) (tt := tYes) (te := te) (σ := σ) (vs := vs) (fun i H' => LcW (PV0 P) H Dl i H') ⟨xnew hD, [], upd_same, rfl, fun _ _ e => by simp at e⟩
    (fun i H' hi w => ⟨hw _, by refine k_yesT ?_; rw [if_pos rfl]; exact (body i H' hi w.x _ fun y H2 x2 hp => w.turn (fun _ _ _ _ _ h => h) (fun _ _ _ _ _ _ _ h => h) hD x2 hp (by omega))⟩)
    (fun H' w => by obtain ⟨x, ys, e, l, h⟩ := w; exact k ys H' l h x e)
theorem lc_lst {a : Addr} {xs : List V} (P : Nat → V → Prop) (hs : SqL K H a xs) (hD : H Dl = none) (hn : xs.length < 100000) (hw : ∀ x, wipe ((wipe σ vs).set j (some x)) vs = wipe σ vs)
    (body : ∀ i x H', xs[i]? = some x → Xt H H' → ∀ R : VK, (∀ y H2, Xt H' H2 → P i y → R y H2) → te ((wipe σ vs).set j (some x)) H' R)
    (k : ∀ ys H2, ys.length = xs.length → (∀ (i : Nat) (y : V), ys[i]? = some y → P i y) → Xt H H2 → H2 Dl = some (.lst ys) → Q (.ref Dl) H2) :
    ∃ W : Nat → Nat → Hp → Prop, (∃ m, W 0 m (upd H Dl (.lst []))) ∧ ∀ i m H, W i m H →
      ((Itl K a).stop i H ∧ Q (.ref Dl) H) ∨ ((Itl K a).go i H ∧ ∃ Nx : Hp → Prop, (∀ H', Nx H' → ∃ m', m' < m ∧ W (i + 1) m' H') ∧ ∀ x H', (Itl K a).yld i H x H' → gName j x (wipe σ vs) H' fun σ2 H2 => wipe σ2 vs = wipe σ vs ∧ tYes σ2 H2 fun b H3 =>
        if b = true then te σ2 H3 fun y H4 => ∃ acc, H4 Dl = some (.lst acc) ∧ acc.length < sizeLine ∧ Nx (upd H4 Dl (.lst (acc ++ [y]))) else Nx H3) :=
  lc_list (g := gName j) (tt := tYes) (te := te) (σ := σ) (vs := vs) (fun i H' => LcW (PV0 P) H Dl i H') ⟨xnew hD, [], upd_same, rfl, fun _ _ e => by simp at e⟩ (fun i H' _ w => xl w.x hs)
    (fun i x H' hi w => ⟨hw _, by refine k_yesT ?_; rw [if_pos rfl]; exact (body i x H' hi w.x _ fun y H2 x2 hp => w.turn (fun _ _ _ _ _ h => h) (fun _ _ _ _ _ _ _ h => h) hD x2 hp (by have := (List.getElem?_eq_some_iff.mp hi).1; omega))⟩)
    (fun H' w => by obtain ⟨x, ys, e, l, h⟩ := w; exact k ys H' l h x e)
theorem walk_text (z : Str) : Walk (Its z) z.cps.size (fun _ => True) (fun i H v H' => H' = H ∧ ∃ c, z.cps[i]? = some c ∧ v = .str ⟨#[c]⟩) :=
  ⟨fun _ _ h _ => h, fun _ _ => Nat.le_refl _, fun _ _ _ _ _ _ h => h⟩
theorem lc_txt {z : Str} (P : Nat → V → Prop) (hD : H Dl = none) (hn : z.length < 100000) (hw : ∀ x, wipe ((wipe σ vs).set j (some x)) vs = wipe σ vs)
    (body : ∀ i c H', z.cps[i]? = some c → Xt H H' → ∀ R : VK, (∀ y H2, Xt H' H2 → P i y → R y H2) → te ((wipe σ vs).set j (some (.str ⟨#[c]⟩))) H' R)
    (k : ∀ ys H2, ys.length = z.length → (∀ (i : Nat) (y : V), ys[i]? = some y → P i y) → Xt H H2 → H2 Dl = some (.lst ys) → Q (.ref Dl) H2) :
    ∃ W : Nat → Nat → Hp → Prop, (∃ m, W 0 m (upd H Dl (.lst []))) ∧ ∀ i m H, W i m H →
      ((Its z).stop i H ∧ Q (.ref Dl) H) ∨ ((Its z).go i H ∧ ∃ Nx : Hp → Prop, (∀ H', Nx H' → ∃ m', m' < m ∧ W (i + 1) m' H') ∧ ∀ x H', (Its z).yld i H x H' → gName j x (wipe σ vs) H' fun σ2 H2 => wipe σ2 vs = wipe σ vs ∧ tYes σ2 H2 fun b H3 =>
        if b = true then te σ2 H3 fun y H4 => ∃ acc, H4 Dl = some (.lst acc) ∧ acc.length < sizeLine ∧ Nx (upd H4 Dl (.lst (acc ++ [y]))) else Nx H3) :=
  lc_it (walk_text z) (g := gName j) (tt := tYes) (te := te) (σ := σ) (vs := vs) (fun i H' => LcW (PV0 P) H Dl i H') ⟨xnew hD, [], upd_same, rfl, fun _ _ e => by simp at e⟩ (fun _ _ _ _ => trivial)
    (fun i x H' H2 hi w hy => by
      obtain ⟨e, c, hc, e2⟩ := hy
      subst e; subst e2
      exact ⟨hw _, by refine k_yesT ?_; rw [if_pos rfl]; exact (body i c H2 hc w.x _ fun y H2 x2 hp => w.turn (fun _ _ _ _ _ h => h) (fun _ _ _ _ _ _ _ h => h) hD x2 hp (by
        have h2 : z.cps.size < 100000 := hn
        omega))⟩)
    (fun H' w => by obtain ⟨x, ys, e, l, h⟩ := w; exact k ys H' l h x e)
/-- the signs that pass a test, in order -/
theorem lc_txtF {z : Str} (f : Nat → Bool) (hD : H Dl = none) (hn : z.length < 100000) (hw : ∀ x, wipe ((wipe σ vs).set j (some x)) vs = wipe σ vs)
    (test : ∀ c H', Xt H H' → ∀ R : Bool → Hp → Prop, R (f c) H' → tt ((wipe σ vs).set j (some (.str ⟨#[c]⟩))) H' R)
    (body : ∀ c H', Xt H H' → ∀ R : VK, R (.str ⟨#[c]⟩) H' → te ((wipe σ vs).set j (some (.str ⟨#[c]⟩))) H' R)
    (k : ∀ H2, Xt H H2 → H2 Dl = some (.lst ((z.cps.toList.filter f).map fun c => V.str ⟨#[c]⟩)) → Q (.ref Dl) H2) :
    ∃ W : Nat → Nat → Hp → Prop, (∃ m, W 0 m (upd H Dl (.lst []))) ∧ ∀ i m H, W i m H →
      ((Its z).stop i H ∧ Q (.ref Dl) H) ∨ ((Its z).go i H ∧ ∃ Nx : Hp → Prop, (∀ H', Nx H' → ∃ m', m' < m ∧ W (i + 1) m' H') ∧ ∀ x H', (Its z).yld i H x H' → gName j x (wipe σ vs) H' fun σ2 H2 => wipe σ2 vs = wipe σ vs ∧ tt σ2 H2 fun b H3 =>
        if b = true then te σ2 H3 fun y H4 => ∃ acc, H4 Dl = some (.lst acc) ∧ acc.length < sizeLine ∧ Nx (upd H4 Dl (.lst (acc ++ [y]))) else Nx H3) := by
  refine lc_it (walk_text z) (g := gName j) (tt := tt) (te := te) (σ := σ) (vs := vs) (fun i H' => Xt H H' ∧ H' Dl = some (.lst (((z.cps.toList.take i).filter f).map fun c => V.str ⟨#[c]⟩))) ⟨xnew hD, upd_same⟩ (fun _ _ _ _ => trivial)
    (fun i x H' H2 hi w hy => ?_) (fun H' w => ?_)
  · obtain ⟨e, c, hc, e2⟩ := hy
    subst e; subst e2
    have hc' : z.cps.toList[i]? = some c := by rw [Array.getElem?_toList]; exact hc
    have et : z.cps.toList.take (i + 1) = z.cps.toList.take i ++ [c] := by rw [List.take_add_one, hc']; rfl
    refine ⟨hw _, test c H2 w.1 _ ?_⟩
    cases hf : f c with
    | true =>
      refine iteT (body c H2 w.1 _ ⟨_, w.2, szlt ?_, xmut w.1 hD, ?_⟩)
      · rw [List.length_map]
        have h1 := List.length_filter_le f (z.cps.toList.take i)
        have h2 : (z.cps.toList.take i).length ≤ z.cps.toList.length := by rw [List.length_take]; omega
        have h3 : z.cps.toList.length < 100000 := by rw [Array.length_toList]; exact hn
        omega
      · rw [upd_same, et, List.filter_append, List.map_append]
        have : [c].filter f = [c] := by rw [List.filter_cons, if_pos hf]; rfl
        rw [this]; rfl
    | false =>
      refine iteF ⟨w.1, ?_⟩
      rw [et, List.filter_append]
      have : [c].filter f = [] := by rw [List.filter_cons, if_neg (by rw [hf]; decide)]; rfl
      rw [this, List.append_nil]; exact w.2
  · refine k H' w.1 ?_
    have e := w.2
    rw [List.take_of_length_le (by rw [Array.length_toList]; exact Nat.le_refl _)] at e
    exact e
theorem b_rng {n : Nat} {lo : Int} (P : Nat → V → Prop) (hn : n < 100000) (hw : ∀ x, wipe ((wipe σ vs).set j (some x)) vs = wipe σ vs)
    (body : ∀ i H', i < n → Xt H H' → ∀ R : VK, (∀ y H2, Xt H' H2 → P i y → R y H2) → te ((wipe σ vs).set j (some (.int (lo + (i : Int))))) H' R)
    (k : ∀ Dl ys H2, H Dl = none → ys.length = n → (∀ (i : Nat) (y : V), ys[i]? = some y → P i y) → Xt H H2 → H2 Dl = some (.lst ys) → Q (.ref Dl) H2) : LcB (Itr lo n) (gName j) tYes te vs σ Q H :=
  fun Dl hD => lc_rng P hD hn hw body fun ys H2 l h x e => k Dl ys H2 hD l h x e
theorem b_lst {a : Addr} {xs : List V} (P : Nat → V → Prop) (hs : SqL K H a xs) (hn : xs.length < 100000) (hw : ∀ x, wipe ((wipe σ vs).set j (some x)) vs = wipe σ vs)
    (body : ∀ i x H', xs[i]? = some x → Xt H H' → ∀ R : VK, (∀ y H2, Xt H' H2 → P i y → R y H2) → te ((wipe σ vs).set j (some x)) H' R)
    (k : ∀ Dl ys H2, H Dl = none → ys.length = xs.length → (∀ (i : Nat) (y : V), ys[i]? = some y → P i y) → Xt H H2 → H2 Dl = some (.lst ys) → Q (.ref Dl) H2) : LcB (Itl K a) (gName j) tYes te vs σ Q H :=
  fun Dl hD => lc_lst P hs hD hn hw body fun ys H2 l h x e => k Dl ys H2 hD l h x e
theorem b_txt {z : Str} (P : Nat → V → Prop) (hn : z.length < 100000) (hw : ∀ x, wipe ((wipe σ vs).set j (some x)) vs = wipe σ vs)
    (body : ∀ i c H', z.cps[i]? = some c → Xt H H' → ∀ R : VK, (∀ y H2, Xt H' H2 → P i y → R y H2) → te ((wipe σ vs).set j (some (.str ⟨#[c]⟩))) H' R)
    (k : ∀ Dl ys H2, H Dl = none → ys.length = z.length → (∀ (i : Nat) (y : V), ys[i]? = some y → P i y) → Xt H H2 → H2 Dl = some (.lst ys) → Q (.ref Dl) H2) : LcB (Its z) (gName j) tYes te vs σ Q H :=
  fun Dl hD => lc_txt P hD hn hw body fun ys H2 l h x e => k Dl ys H2 hD l h x e
theorem b_txtF {z : Str} (f : Nat → Bool) (hn : z.length < 100000) (hw : ∀ x, wipe ((wipe σ vs).set j (some x)) vs = wipe σ vs)
    (test : ∀ c H', Xt H H' → ∀ R : Bool → Hp → Prop, R (f c) H' → tt ((wipe σ vs).set j (some (.str ⟨#[c]⟩))) H' R)
    (body : ∀ c H', Xt H H' → ∀ R : VK, R (.str ⟨#[c]⟩) H' → te ((wipe σ vs).set j (some (.str ⟨#[c]⟩))) H' R)
    (k : ∀ Dl H2, H Dl = none → Xt H H2 → H2 Dl = some (.lst ((z.cps.toList.filter f).map fun c => V.str ⟨#[c]⟩)) → Q (.ref Dl) H2) : LcB (Its z) (gName j) tt te vs σ Q H :=
  fun Dl hD => lc_txtF f hD hn hw test body fun H2 x e => k Dl H2 hD x e
end
end CW

set_option Elab.async false
set_option linter.all false
set_option maxRecDepth 100000
set_option maxHeartbeats 1000000
namespace CW
open PySem PySem.Spec PyProof.Rows L2
section
variable {K : PySem.W.Frag} {σ : L2.St} {H : Hp} {Q : VK} {D : Ends} {te to : TE} {a l : Addr} {xs : List V} {z : Str} {i : Int} {v x : V} {c : Nat} {t : TA}
def NewL (xs : List V) (H : Hp) (Q : VK) : Prop := xs.length ≤ sizeLine ∧ ∀ p, H p = none → Q (.ref p) (upd H p (.lst xs))
def NewT (xs : List V) (H : Hp) (Q : VK) : Prop := xs.length ≤ sizeLine ∧ ∀ p, H p = none → Q (.ref p) (upd H p (.tup xs))
theorem k_lst0 (h : t σ H fun xs H1 => NewL xs H1 Q) : tLst t σ H Q := h
theorem k_tup0 (h : t σ H fun xs H1 => NewT xs H1 Q) : tTup t σ H Q := h
theorem v_new (hz : xs.length ≤ 100000) (q : ∀ p H2, H p = none → Xt H H2 → H2 p = some (.lst xs) → Q (.ref p) H2) : NewL xs H Q :=
  ⟨szle hz, fun p hp => q p _ hp (xnew hp) upd_same⟩
theorem v_newT (hz : xs.length ≤ 100000) (q : ∀ p H2, H p = none → Xt H H2 → H2 p = some (.tup xs) → Q (.ref p) H2) : NewT xs H Q :=
  ⟨szle hz, fun p hp => q p _ hp (xnew hp) upd_same⟩
theorem k_cut {t' u' : TS} (Mid : L2.St → Hp → Prop) (h1 : t' { D with nx := Mid } σ H) (h2 : ∀ σ' H', Mid σ' H' → u' D σ' H') : Evl.tCut t' u' D σ H := ⟨Mid, h1, h2⟩
theorem v_times_str {n : Int} (h : 0 ≤ n ∧ n ≤ 1000 ∧ z.length ≤ 1000) (q : ∀ w : Str, w.length = z.length * n.toNat → Q (.str w) H) : rTimes (.str z) (.int n) H Q := .inr ⟨z, n, rfl, rfl, h.1, h.2.1, h.2.2, q⟩
theorem k_bm {T : String} {r : V → List V → Hp → VK → Prop} (h : to σ H fun x H1 => tyV K T x H1 ∧ t σ H1 fun xs H2 => r x xs H2 Q) : tBM K T r to t σ H Q := h
theorem v_app (e : H l = some (.lst xs)) (hz : xs.length < 100000) (q : Q .non (upd H l (.lst (xs ++ [v])))) : rAppend (.ref l) [v] H Q := ⟨l, xs, v, rfl, rfl, e, szlt hz, q⟩
theorem ty_l (e : H l = some (.lst xs)) : tyV K "list" (.ref l) H := .inl ⟨rfl, xs, sql e⟩
theorem k_for {wi : TI} {g : TG} {tb : TS} (h : wi σ H fun J H1 => ∃ W : Nat → Nat → L2.St → Hp → Prop, (∃ m, W 0 m σ H1) ∧ ∀ i m σ H, W i m σ H →
  (J.stop i H ∧ D.nx σ H) ∨ (J.go i H ∧ ∃ N : L2.St → Hp → Prop, (∀ σ' H', N σ' H' → ∃ m', m' < m ∧ W (i + 1) m' σ' H') ∧ ∀ x H', J.yld i H x H' → g x σ H' fun σ2 H2 => tb { D with nx := N, ct := N, bk := D.nx } σ2 H2)) : tFor wi g tb D σ H := h
theorem k_ilist {R : It → Hp → Prop} (h : te σ H fun x H1 => ∃ a, x = .ref a ∧ (∃ xs, SqL K H1 a xs) ∧ R (Itl K a) H1) : iList K te σ H R := h
theorem k_itup {R : It → Hp → Prop} (h : te σ H fun x H1 => ∃ a, x = .ref a ∧ (∃ xs, SqT K H1 a xs) ∧ R (Itt K a) H1) : iTup K te σ H R := h
theorem k_istr {R : It → Hp → Prop} (h : te σ H fun v H1 => ∃ x, v = .str x ∧ R (Its x) H1) : iStr te σ H R := h
theorem k_irng1 {R : It → Hp → Prop} (h : t σ H fun vs H1 => ∃ j : Int, vs = [.int j] ∧ -(2 ^ 62) ≤ j ∧ j < 2 ^ 62 ∧ R (Itr 0 j.toNat) H1) : iRng1 t σ H R := h
theorem k_irng2 {R : It → Hp → Prop} (h : t σ H fun vs H1 => ∃ i j : Int, vs = [.int i, .int j] ∧ (-(2 ^ 62) ≤ i ∧ i < 2 ^ 62 ∧ -(2 ^ 62) ≤ j ∧ j < 2 ^ 62) ∧ R (Itr i (j - i).toNat) H1) : iRng2 t σ H R := h
def rRevL (K : PySem.W.Frag) : V → Hp → VK → Prop := fun x H Q => ∃ a xs, x = .ref a ∧ SqL K H a xs ∧ ∀ p, H p = none → Q (.ref p) (upd H p (.lst xs.reverse))
theorem k_rev (h : te σ H fun x H1 => rRevL K x H1 Q) : tRevL K te σ H Q := h
theorem v_rev (h : SqL K H a xs) (q : ∀ p H2, H p = none → Xt H H2 → H2 p = some (.lst xs.reverse) → Q (.ref p) H2) : rRevL K (.ref a) H Q :=
  ⟨a, xs, rfl, h, fun p hp => q p _ hp (xnew hp) upd_same⟩
theorem v_isi_str (q : Q (.bl true) H) : rIsi K [.str z, .ty "str"] H Q := ⟨.str z, .ty "str", .type "str", .type "str", true, rfl, .ty "str", .base (.str z), kit_ty (by decide +kernel), q⟩
theorem v_isi_bool {b : Bool} (q : Q (.bl true) H) : rIsi K [.bl b, .ty "bool"] H Q := ⟨.bl b, .ty "bool", .type "bool", .type "bool", true, rfl, .ty "bool", .base (.bl b), kit_ty (by decide +kernel), q⟩
theorem v_all {bs : List Bool} (h : SqL K H a (bs.map V.bl)) (q : Q (.bl (bs.all id)) H) : rAll K [.ref a] H Q := ⟨a, bs, rfl, h, q⟩
def rJoin (K : PySem.W.Frag) : V → List V → Hp → VK → Prop := fun x xs H Q => ∃ a p, ∃ ys : List Str, x = .str a ∧ xs = [.ref p] ∧ (SqL K H p (ys.map V.str) ∨ SqT K H p (ys.map V.str)) ∧
      (ys.map (·.length)).sum + ys.length * a.length ≤ 16777216 ∧ Q (.str (Txt.join a ys)) H
def rUpper : V → List V → Hp → VK → Prop := fun x xs H Q => ∃ a, x = .str a ∧ xs = [] ∧ a.length ≤ 5592405 ∧ Q (.str (Txt.upper a)) H
theorem v_join {ys : List Str} {s : Str} (h : SqL K H a (ys.map V.str)) (hz : (ys.map (·.length)).sum + ys.length * s.length ≤ 16777216) (q : Q (.str (Txt.join s ys)) H) : rJoin K (.str s) [.ref a] H Q :=
  ⟨s, a, ys, rfl, rfl, .inl h, hz, q⟩
theorem v_upper (hz : z.length ≤ 100000) (q : Q (.str (Txt.upper z)) H) : rUpper (.str z) [] H Q := ⟨z, rfl, rfl, Nat.le_trans hz (by decide), q⟩
theorem k_m0s {r : V → List V → Hp → VK → Prop} (h : te σ H fun x H1 => (∃ a, x = .str a) ∧ r x [] H1 Q) : tM0 r te σ H Q := h
theorem v_isstr {A : Prop} (h : A) : (∃ a, V.str z = .str a) ∧ A := ⟨⟨z, rfl⟩, h⟩
end
section
variable {X : Cx} {o e : Expr} {to te : TE}
theorem pe_joinN {apos pos : Pos} (ho : PE X o to) (he : PE X e te) (hs : starEach [e] X.env = [(false, eval e X.env)] := by rfl) (hbase : attributeBase o "join" X.env (eval o X.env) = eval o X.env := by rfl) (hline : (apos.endLine == pos.line) = true := by rfl) :
    PE X (.Call (.Attribute o "join" apos) [e] [] pos) (tM1 (rJoin X.K) to te) := pe_join ho he hs hbase hline
theorem pe_upperN {apos pos : Pos} (ho : PE X o to) (hbase : attributeBase o "upper" X.env (eval o X.env) = eval o X.env := by rfl) (hline : (apos.endLine == pos.line) = true := by rfl) :
    PE X (.Call (.Attribute o "upper" apos) [] [] pos) (tM0 rUpper to) := pe_upper ho hbase hline
end
/-! places -/
theorem atI_ok {α : Type} {l : List α} {i : Int} (h0 : 0 ≤ i) (h1 : i < (l.length : Int)) : ∃ c, atI l i = some c ∧ l[i.toNat]? = some c := by
  have h : i.toNat < l.length := by omega
  obtain ⟨j, rfl⟩ : ∃ j : Nat, i = (j : Int) := ⟨i.toNat, by omega⟩
  exact ⟨l[j]'(by omega), atI_nat (List.getElem?_eq_getElem (by omega)), by rw [Int.toNat_natCast]; exact List.getElem?_eq_getElem (by omega)⟩
theorem atI_int {ns : List Int} {i : Int} (h0 : 0 ≤ i) (h1 : i < (ns.length : Int)) : ∃ n, atI (ns.map V.int) i = some (.int n) ∧ ns[i.toNat]? = some n := by
  obtain ⟨c, e1, e2⟩ := atI_ok (l := ns.map V.int) h0 (by rw [List.length_map]; exact h1)
  rw [List.getElem?_map] at e2
  cases q : ns[i.toNat]? with
  | none => rw [q] at e2; cases e2
  | some n => rw [q] at e2; cases e2; exact ⟨n, e1, rfl⟩
theorem atI_mod {α : Type} {l : List α} {i : Int} (h : 0 < l.length) : ∃ c, atI l (i % (l.length : Int)) = some c := by
  obtain ⟨c, e, _⟩ := atI_ok (l := l) (i := i % (l.length : Int)) (Int.emod_nonneg _ (by omega)) (Int.emod_lt_of_pos _ (by omega))
  exact ⟨c, e⟩
theorem map_int_at {ns : List Int} {i : Nat} {x : V} (h : (ns.map V.int)[i]? = some x) : ∃ n, x = .int n ∧ ns[i]? = some n := by
  rw [List.getElem?_map] at h
  cases q : ns[i]? with
  | none => rw [q] at h; cases h
  | some n => rw [q] at h; cases h; exact ⟨n, rfl, rfl⟩
/-! digits -/
def DigOk (ds ss : List Int) : Prop := ds.length = ss.length ∧ ∀ (j : Nat) (d s : Int), ds[j]? = some d → ss[j]? = some s → 0 ≤ d ∧ d < s
theorem DigOk.nil : DigOk [] [] := ⟨rfl, fun _ _ _ h => by simp at h⟩
theorem DigOk.snoc {ds ss : List Int} {i : Nat} {d s : Int} (h : DigOk ds (ss.take i)) (hs : ss[i]? = some s) (h0 : 0 ≤ d) (h1 : d < s) : DigOk (ds ++ [d]) (ss.take (i + 1)) := by
  have hi : i < ss.length := (List.getElem?_eq_some_iff.mp hs).1
  have hl : ds.length = i := by rw [h.1, List.length_take]; omega
  refine ⟨by rw [List.length_append, hl, List.length_take, List.length_singleton]; omega, fun j e t he ht => ?_⟩
  by_cases hj : j < i
  · rw [List.getElem?_append_left (by omega)] at he
    rw [List.getElem?_take_of_lt (by omega)] at ht
    exact h.2 j e t he (by rw [List.getElem?_take_of_lt hj]; exact ht)
  · have : j = i := by
      have := (List.getElem?_eq_some_iff.mp he).1
      rw [List.length_append, List.length_singleton] at this; omega
    subst this
    rw [List.getElem?_take_of_lt (by omega), hs] at ht
    rw [List.getElem?_append_right (by omega), hl] at he
    simp at he
    cases ht
    subst he
    exact ⟨h0, h1⟩
/-! texts -/
theorem len_app (a b : Str) : (a ++ b).length = a.length + b.length := Array.size_append
theorem len_cut (z : Str) (lo hi : Option Int) : (cutS z lo hi).length ≤ z.length := by
  show (((z.cps.toList.drop (HT.sIx z.length 0 lo)).take (HT.sIx z.length z.length hi - HT.sIx z.length 0 lo)).toArray).size ≤ z.cps.size
  rw [List.size_toArray, List.length_take, List.length_drop, Array.length_toList]
  omega
theorem len_one (c : Nat) : (⟨#[c]⟩ : Str).length = 1 := rfl
theorem len_up (x : Str) : (Txt.upper x).length ≤ 3 * x.length := PyProof.Rows.len_upper x
theorem cut_from1 (z : Str) : (cutS z (some 1) none).cps.toList = z.cps.toList.drop 1 := by
  show ((z.cps.toList.drop (HT.sIx z.length 0 (some 1))).take (HT.sIx z.length z.length none - HT.sIx z.length 0 (some 1))).toArray.toList = _
  have e : HT.sIx z.length 0 (some 1) = min 1 z.length := HT.sIx_nat z.length 0 1
  rw [e, HT.sIx_none]
  have hl : z.cps.toList.length = z.length := by rw [Array.length_toList]; rfl
  by_cases h : z.length = 0
  · have : z.cps.toList = [] := List.length_eq_zero_iff.mp (by omega)
    rw [this]; simp
  · rw [show min 1 z.length = 1 by omega]
    exact List.take_of_length_le (by rw [List.length_drop]; omega)
/-! lengths -/
theorem lb_app {a b : Str} {n m : Nat} (h1 : a.length ≤ n) (h2 : b.length ≤ m) : (a ++ b).length ≤ n + m := by rw [len_app]; exact Nat.add_le_add h1 h2
theorem lb_cut {z : Str} {lo hi : Option Int} {n : Nat} (h : z.length ≤ n) : (cutS z lo hi).length ≤ n := Nat.le_trans (len_cut z lo hi) h
theorem lb_one {c : Nat} : (⟨#[c]⟩ : Str).length ≤ 1 := Nat.le_refl 1
theorem lb_up {z : Str} {n : Nat} (h : z.length ≤ n) : (Txt.upper z).length ≤ 3 * n := Nat.le_trans (len_up z) (Nat.mul_le_mul_left 3 h)
/-! lists of values told one by one -/
theorem list_map_of {α : Type} {ys : List V} {l : List α} {f : α → V} (hl : ys.length = l.length) (h : ∀ (i : Nat) (y : V), ys[i]? = some y → ∃ c, l[i]? = some c ∧ y = f c) : ys = l.map f := by
  apply List.ext_getElem?
  intro i
  rw [List.getElem?_map]
  cases e : ys[i]? with
  | none =>
    have : l.length ≤ i := by rw [← hl]; exact List.getElem?_eq_none_iff.mp e
    rw [List.getElem?_eq_none_iff.mpr this]; rfl
  | some y =>
    obtain ⟨c, h1, h2⟩ := h i y e
    rw [h1, h2]; rfl
theorem list_const {ys : List V} {v : V} {n : Nat} (hl : ys.length = n) (h : ∀ (i : Nat) (y : V), ys[i]? = some y → y = v) : ys = List.replicate n v := by
  rw [List.eq_replicate_iff]
  refine ⟨hl, fun b hb => ?_⟩
  obtain ⟨i, hi⟩ := List.getElem?_of_mem hb
  exact h i b hi
theorem list_ex {α : Type} {f : α → V} : ∀ {ys : List V}, (∀ (i : Nat) (y : V), ys[i]? = some y → ∃ c, y = f c) → ∃ cs : List α, ys = cs.map f
  | [], _ => ⟨[], rfl⟩
  | y :: r, h => by
    obtain ⟨c, e⟩ := h 0 y rfl
    obtain ⟨cs, e2⟩ := list_ex (ys := r) fun i z hz => h (i + 1) z hz
    exact ⟨c :: cs, by rw [e, e2]; rfl⟩
theorem atI_mem {α : Type} {l : List α} {i : Int} {c : α} (h : atI l i = some c) : c ∈ l := by
  unfold atI at h
  cases e : ixN l.length i with
  | none => rw [e] at h; cases h
  | some j => rw [e] at h; exact List.mem_of_getElem? h
theorem cutV_mem {xs : List V} {lo hi : Option Int} {v : V} (h : v ∈ cutV xs lo hi) : v ∈ xs := List.mem_of_mem_drop (List.mem_of_mem_take h)
theorem DigOk.get {ds ss : List Int} (h : DigOk ds ss) {s : Int} (k : Nat) (i : Int) (hi : i = (k : Int)) (hs : ss[k]? = some s) : ∃ d, atI (ds.map V.int) i = some (.int d) ∧ 0 ≤ d ∧ d < s := by
  have hk : k < ss.length := (List.getElem?_eq_some_iff.mp hs).1
  have hk2 : k < ds.length := by rw [h.1]; exact hk
  refine ⟨ds[k], ?_, h.2 k _ s (List.getElem?_eq_getElem hk2) hs⟩
  rw [hi]
  exact atI_nat (by rw [List.getElem?_map, List.getElem?_eq_getElem hk2]; rfl)
theorem cutV_at {xs : List V} {k i : Nat} {hi : Option Int} {x : V} (hk : k ≤ xs.length) (h : (cutV xs (some (k : Int)) hi)[i]? = some x) : xs[k + i]? = some x := by
  unfold cutV at h
  rw [HT.sIx_nat, show min k xs.length = k by omega] at h
  rw [List.getElem?_take] at h
  split at h
  · rw [List.getElem?_drop] at h; exact h
  · cases h
theorem DigOk.at {ds ss : List Int} (h : DigOk ds ss) {j : Nat} {d : Int} (hd : ds[j]? = some d) : ∃ s, ss[j]? = some s ∧ 0 ≤ d ∧ d < s := by
  have hj : j < ss.length := by rw [← h.1]; exact (List.getElem?_eq_some_iff.mp hd).1
  exact ⟨ss[j], List.getElem?_eq_getElem hj, h.2 j d _ hd (List.getElem?_eq_getElem hj)⟩
/-- signs glued -/
theorem sum_ones : ∀ cs : List Nat, ((cs.map fun c => (⟨#[c]⟩ : Str)).map (·.length)).sum = cs.length
  | [] => rfl
  | c :: r => by
    show 1 + ((r.map fun c => (⟨#[c]⟩ : Str)).map (·.length)).sum = r.length + 1
    rw [sum_ones r]; omega
theorem v_joinC {K : PySem.W.Frag} {H : Hp} {Q : VK} {a : Addr} {ys : List V} (e : H a = some (.lst ys)) (h : ∀ (i : Nat) (y : V), ys[i]? = some y → ∃ c : Nat, y = V.str ⟨#[c]⟩) (hz : ys.length ≤ 100000) (q : ∀ z : Str, z.length = ys.length → Q (.str z) H) :
    rJoin K (.str (Str.ofString "")) [.ref a] H Q := by
  obtain ⟨cs, rfl⟩ := list_ex (f := fun c : Nat => V.str ⟨#[c]⟩) h
  have e2 : (cs.map fun c : Nat => V.str ⟨#[c]⟩) = (cs.map fun c => (⟨#[c]⟩ : Str)).map V.str := by rw [List.map_map]; rfl
  rw [List.length_map] at hz
  refine v_join (ys := cs.map fun c => (⟨#[c]⟩ : Str)) (sql (by rw [← e2]; exact e)) ?_ (q _ ?_)
  · rw [sum_ones, show (Str.ofString "").length = 0 by decide, Nat.mul_zero]; omega
  · rw [PySem.W.KT.join_ones _ (fun z hz => by
      obtain ⟨c, _, rfl⟩ := List.mem_map.mp hz
      rfl), List.length_map, List.length_map]
end CW

set_option Elab.async false
set_option linter.all false
set_option maxRecDepth 100000
set_option maxHeartbeats 1000000
namespace CW
open PySem PySem.Spec PyProof.Rows L2
theorem abs_rel {u : Value} {x : V} (h : absV u = some x) : RelV x u := by
  cases u <;> simp [absV] at h <;> subst h <;> first | rfl | exact ⟨_, rfl⟩
theorem abs_vals : ∀ {us : List Value} {xs : List V}, us.map absV = xs.map some → Vals xs us
  | [], [], _ => .nil
  | [], _ :: _, h => by cases h
  | _ :: _, [], h => by cases h
  | u :: us, x :: xs, h => by
    rw [List.map_cons, List.map_cons] at h
    injection h with h1 h2
    exact .cons (abs_rel h1) (abs_vals h2)
section
variable {K : PySem.W.Frag} {x qual : Str} {st : Stmt} {f : Addr} {fd : FuncData} {ps ks : List Str}
theorem fun_kbn (F : Fun K x qual st f fd) (h : ∀ (kV doc pm : Value) (an : Option Addr) (cdv ct : Value) (ws : List Value), ws.length = ks.length → bindArgs (PySem.W.fnOf x qual (defArgs st) (defBody st) (defScope st) .none kV doc pm an cdv ct) ⟨[], ks.zip ws⟩ = pure (ps.zip ws)) :
    KBn K fd ps 0 ks (fun _ ws => ws) (fun _ zs => zs) := by
  obtain ⟨oc, od, kV, doc, pm, an, cdv, ct, osl, rfl, lk, hcd⟩ := F.ex
  refine ⟨fun s us ws _ h0 h1 => ?_, fun _ r => r⟩
  cases us with
  | cons _ _ => cases h0
  | nil => exact BindsTo.of_eq (h kV doc pm an cdv ct ws h1)
theorem sqt_K {a : Addr} {oc : Value} {od : Option Addr} {its : Array Value} {n : Nat} {sl : Array (Option Value)} {xs : List V} (l : K.lookup a = some ⟨oc, od, .seq its n, sl⟩) (c : oc = .type "tuple") (z : its.size ≤ sizeLine) (h : its.toList.map absV = xs.map some) (H : Hp) : SqT K H a xs :=
  .inr ⟨_, its, n, l, c, rfl, z, abs_vals h⟩
end
end CW


set_option Elab.async false
set_option linter.all false
set_option maxRecDepth 100000
set_option maxHeartbeats 2000000
namespace K01
open PySem PySem.Spec PyProof.Rows L2 CW
def topS (i : Nat) : Stmt := PySem.Challenge.pw_claimworlds_k01_names_told.main.body.getD i (.Pass ⟨0, 0, 0, 0⟩)
abbrev s_is_name : Stmt := topS 6
abbrev N_is_name : List Str := ["value"]
theorem sc_is_name : FnScope N_is_name ["value"] (defScope s_is_name) := ⟨rfl, rfl, rfl, by decide +kernel, rfl, by decide +kernel, by decide +kernel⟩
abbrev s_is_variable_name : Stmt := topS 7
abbrev N_is_variable_name : List Str := ["value"]
theorem sc_is_variable_name : FnScope N_is_variable_name ["value"] (defScope s_is_variable_name) := ⟨rfl, rfl, rfl, by decide +kernel, rfl, by decide +kernel, by decide +kernel⟩
abbrev s__has_form : Stmt := topS 8
abbrev N__has_form : List Str := ["value", "sign"]
theorem sc__has_form : FnScope N__has_form ["value"] (defScope s__has_form) := ⟨rfl, rfl, rfl, by decide +kernel, rfl, by decide +kernel, by decide +kernel⟩
abbrev s__law_cell : Stmt := topS 10
abbrev N__law_cell : List Str := ["script", "k", "seed", "cell"]
theorem sc__law_cell : FnScope N__law_cell ["script", "k"] (defScope s__law_cell) := ⟨rfl, rfl, rfl, by decide +kernel, rfl, by decide +kernel, by decide +kernel⟩
abbrev s__law_digits : Stmt := topS 11
abbrev N__law_digits : List Str := ["cell", "sizes", "row", "rest", "size", "seed", "k", "twice"]
theorem sc__law_digits : FnScope N__law_digits ["cell", "sizes"] (defScope s__law_digits) := ⟨rfl, rfl, rfl, by decide +kernel, rfl, by decide +kernel, by decide +kernel⟩
abbrev s__law_sign : Stmt := topS 12
abbrev N__law_sign : List Str := ["k", "signs"]
theorem sc__law_sign : FnScope N__law_sign ["k"] (defScope s__law_sign) := ⟨rfl, rfl, rfl, by decide +kernel, rfl, by decide +kernel, by decide +kernel⟩
abbrev s__law_words : Stmt := topS 13
abbrev N__law_words : List Str := ["words"]
theorem sc__law_words : FnScope N__law_words [] (defScope s__law_words) := ⟨rfl, rfl, rfl, by decide +kernel, rfl, by decide +kernel, by decide +kernel⟩
abbrev s__law_text : Stmt := topS 14
abbrev N__law_text : List Str := ["cell", "row", "small", "good", "at", "word", "k", "digit"]
theorem sc__law_text : FnScope N__law_text ["cell"] (defScope s__law_text) := ⟨rfl, rfl, rfl, by decide +kernel, rfl, by decide +kernel, by decide +kernel⟩
abbrev s__law_each_sign : Stmt := topS 15
abbrev N__law_each_sign : List Str := ["cell", "row", "small", "good", "at", "k", "digit"]
theorem sc__law_each_sign : FnScope N__law_each_sign ["cell"] (defScope s__law_each_sign) := ⟨rfl, rfl, rfl, by decide +kernel, rfl, by decide +kernel, by decide +kernel⟩
abbrev s__law_plain : Stmt := topS 16
abbrev N__law_plain : List Str := ["text", "sign"]
theorem sc__law_plain : FnScope N__law_plain ["text"] (defScope s__law_plain) := ⟨rfl, rfl, rfl, by decide +kernel, rfl, by decide +kernel, by decide +kernel⟩
abbrev s__law_is_name : Stmt := topS 17
abbrev N__law_is_name : List Str := ["text"]
theorem sc__law_is_name : FnScope N__law_is_name ["text"] (defScope s__law_is_name) := ⟨rfl, rfl, rfl, by decide +kernel, rfl, by decide +kernel, by decide +kernel⟩
abbrev s__law_is_variable_name : Stmt := topS 18
abbrev N__law_is_variable_name : List Str := ["text"]
theorem sc__law_is_variable_name : FnScope N__law_is_variable_name ["text"] (defScope s__law_is_variable_name) := ⟨rfl, rfl, rfl, by decide +kernel, rfl, by decide +kernel, by decide +kernel⟩
abbrev s__law_asked : Stmt := topS 19
abbrev N__law_asked : List Str := ["text", "one", "two"]
theorem sc__law_asked : FnScope N__law_asked ["text"] (defScope s__law_asked) := ⟨rfl, rfl, rfl, by decide +kernel, rfl, by decide +kernel, by decide +kernel⟩
abbrev s_law : Stmt := topS 20
abbrev N_law : List Str := ["script", "texts", "text", "k"]
theorem sc_law : FnScope N_law ["script"] (defScope s_law) := ⟨rfl, rfl, rfl, by decide +kernel, rfl, by decide +kernel, by decide +kernel⟩
structure Top (K : PySem.W.Frag) (mg : Str → Option Value) where
  f_is_name : Addr
  fd_is_name : FuncData
  F_is_name : Fun K "is_name" "is_name" s_is_name f_is_name fd_is_name
  b_is_name : Binds K fd_is_name ["value"] []
  g_is_name : mg "is_name" = some (.ref f_is_name)
  f_is_variable_name : Addr
  fd_is_variable_name : FuncData
  F_is_variable_name : Fun K "is_variable_name" "is_variable_name" s_is_variable_name f_is_variable_name fd_is_variable_name
  b_is_variable_name : Binds K fd_is_variable_name ["value"] []
  g_is_variable_name : mg "is_variable_name" = some (.ref f_is_variable_name)
  f__has_form : Addr
  fd__has_form : FuncData
  F__has_form : Fun K "_has_form" "_has_form" s__has_form f__has_form fd__has_form
  b__has_form : Binds K fd__has_form ["value"] []
  g__has_form : mg "_has_form" = some (.ref f__has_form)
  f__law_cell : Addr
  fd__law_cell : FuncData
  F__law_cell : Fun K "_law_cell" "_law_cell" s__law_cell f__law_cell fd__law_cell
  b__law_cell : Binds K fd__law_cell ["script", "k"] []
  g__law_cell : mg "_law_cell" = some (.ref f__law_cell)
  f__law_digits : Addr
  fd__law_digits : FuncData
  F__law_digits : Fun K "_law_digits" "_law_digits" s__law_digits f__law_digits fd__law_digits
  b__law_digits : Binds K fd__law_digits ["cell", "sizes"] []
  g__law_digits : mg "_law_digits" = some (.ref f__law_digits)
  f__law_sign : Addr
  fd__law_sign : FuncData
  F__law_sign : Fun K "_law_sign" "_law_sign" s__law_sign f__law_sign fd__law_sign
  b__law_sign : Binds K fd__law_sign ["k"] []
  g__law_sign : mg "_law_sign" = some (.ref f__law_sign)
  f__law_words : Addr
  fd__law_words : FuncData
  F__law_words : Fun K "_law_words" "_law_words" s__law_words f__law_words fd__law_words
  b__law_words : Binds K fd__law_words [] []
  g__law_words : mg "_law_words" = some (.ref f__law_words)
  f__law_text : Addr
  fd__law_text : FuncData
  F__law_text : Fun K "_law_text" "_law_text" s__law_text f__law_text fd__law_text
  b__law_text : Binds K fd__law_text ["cell"] []
  g__law_text : mg "_law_text" = some (.ref f__law_text)
  f__law_each_sign : Addr
  fd__law_each_sign : FuncData
  F__law_each_sign : Fun K "_law_each_sign" "_law_each_sign" s__law_each_sign f__law_each_sign fd__law_each_sign
  b__law_each_sign : Binds K fd__law_each_sign ["cell"] []
  g__law_each_sign : mg "_law_each_sign" = some (.ref f__law_each_sign)
  f__law_plain : Addr
  fd__law_plain : FuncData
  F__law_plain : Fun K "_law_plain" "_law_plain" s__law_plain f__law_plain fd__law_plain
  b__law_plain : Binds K fd__law_plain ["text"] []
  g__law_plain : mg "_law_plain" = some (.ref f__law_plain)
  f__law_is_name : Addr
  fd__law_is_name : FuncData
  F__law_is_name : Fun K "_law_is_name" "_law_is_name" s__law_is_name f__law_is_name fd__law_is_name
  b__law_is_name : Binds K fd__law_is_name ["text"] []
  g__law_is_name : mg "_law_is_name" = some (.ref f__law_is_name)
  f__law_is_variable_name : Addr
  fd__law_is_variable_name : FuncData
  F__law_is_variable_name : Fun K "_law_is_variable_name" "_law_is_variable_name" s__law_is_variable_name f__law_is_variable_name fd__law_is_variable_name
  b__law_is_variable_name : Binds K fd__law_is_variable_name ["text"] []
  g__law_is_variable_name : mg "_law_is_variable_name" = some (.ref f__law_is_variable_name)
  f__law_asked : Addr
  fd__law_asked : FuncData
  F__law_asked : Fun K "_law_asked" "_law_asked" s__law_asked f__law_asked fd__law_asked
  b__law_asked : Binds K fd__law_asked ["text"] []
  g__law_asked : mg "_law_asked" = some (.ref f__law_asked)
  f_law : Addr
  fd_law : FuncData
  F_law : Fun K "law" "law" s_law f_law fd_law
  b_law : Binds K fd_law ["script"] []
  g_law : mg "law" = some (.ref f_law)
  kb_is_name : KBn K fd_is_name ["value"] 0 ["value"] (fun _ ws => ws) (fun _ zs => zs)
  kb_is_variable_name : KBn K fd_is_variable_name ["value"] 0 ["value"] (fun _ ws => ws) (fun _ zs => zs)
  n_all : mg "all" = none
  n_bool : mg "bool" = none
  n_int : mg "int" = none
  n_isinstance : mg "isinstance" = none
  n_len : mg "len" = none
  n_range : mg "range" = none
  n_str : mg "str" = none
  a_WORDS : Addr
  c_WORDS : mg "WORDS" = some (.ref a_WORDS)
  q_WORDS : ∀ H : Hp, SqT K H a_WORDS [.str "all", .str "some", .str "not", .str "and", .str "or", .str "implies", .str "iff", .str "true", .str "false", .str "truth", .str "sort", .str "function", .str "axiom"]
  t_CAPITALS : Tok
  c_CAPITALS : mg "CAPITALS" = some (.str "ABCDEFGHIJKLMNOPQRSTUVWXYZ" t_CAPITALS)
  t_SMALL_SIGNS : Tok
  c_SMALL_SIGNS : mg "SMALL_SIGNS" = some (.str "abcdefghijklmnopqrstuvwxyz0123456789" t_SMALL_SIGNS)
  t_DIGITS : Tok
  c_DIGITS : mg "DIGITS" = some (.str "0123456789" t_DIGITS)
  t_LONGEST : Tok
  c_LONGEST : mg "LONGEST" = some (.int 8 t_LONGEST)
/-! the mathematics -/
def smallS : Str := Str.ofString "abcdefghijklmnopqrstuvwxyz0123456789"
def smallL : List Nat := smallS.cps.toList
def letL : List Nat := (Str.ofString "abcdefghijklmnopqrstuvwxyz").cps.toList
def capL : List Nat := (Str.ofString "ABCDEFGHIJKLMNOPQRSTUVWXYZ").cps.toList
def digL : List Nat := (Str.ofString "0123456789").cps.toList
def W13 : List V := [.str "all", .str "some", .str "not", .str "and", .str "or", .str "implies", .str "iff", .str "true", .str "false", .str "truth", .str "sort", .str "function", .str "axiom"]
def W12 : List V := [.str "predicate", .str "z", .str "zz0", .str "atom", .str "same", .str "given", .str "either", .str "fill", .str "predicat", .str "none", .str "taken", .str "is"]
def plainF (z : Str) : Bool := decide (1 ≤ z.length ∧ z.length ≤ 8) && (z.cps.toList.drop 1).all fun c => decide (c ∈ smallL)
def headIn (z : Str) (l : List Nat) : Bool := match z.cps.toList with
  | [] => false
  | c :: _ => decide (c ∈ l)
def nameF (z : Str) : Bool := plainF z && (headIn z letL && !inV (.str z) W13)
def varF (z : Str) : Bool := plainF z && headIn z capL
/-! the promises -/
def sp__law_sign (_ : PySem.W.Frag) : Sp := fun vs H Q _ => ∃ (k : Int), vs = [.int k] ∧ ∀ c, Q (.str ⟨#[c]⟩) H
def sp__law_cell (K : PySem.W.Frag) : Sp := fun vs H Q _ => ∃ (l : Addr) (ns : List Int) (k : Int), vs = [.ref l, .int k] ∧ SqL K H l (ns.map V.int) ∧ ns.length ≤ 63 ∧ (0 ≤ k ∧ k ≤ 1000) ∧ ∀ v, Q (.int v) H
def sp__law_digits (K : PySem.W.Frag) : Sp := fun vs H Q _ => ∃ (c : Int) (a : Addr) (ss : List Int), vs = [.int c, .ref a] ∧ SqL K H a (ss.map V.int) ∧ ss.length ≤ 1000 ∧ (∀ x ∈ ss, 0 < x ∧ x < 1073741824) ∧ ∀ p H' ds, Xt H H' → H' p = some (.lst (ds.map V.int)) → DigOk ds ss → Q (.ref p) H'
def sp__law_words (_ : PySem.W.Frag) : Sp := fun vs H Q _ => vs = [] ∧ ∀ p H', Xt H H' → H' p = some (.lst (W13 ++ W12)) → Q (.ref p) H'
def sp__law_text (_ : PySem.W.Frag) : Sp := fun vs H Q _ => ∃ c : Int, vs = [.int c] ∧ ∀ z H', z.length ≤ 3000 → Xt H H' → Q (.str z) H'
def AllS (n : Nat) (ys : List V) : Prop := ∀ y ∈ ys, ∃ z : Str, y = .str z ∧ z.length ≤ n
def sp__law_each_sign (_ : PySem.W.Frag) : Sp := fun vs H Q _ => ∃ c : Int, vs = [.int c] ∧ ∀ p H' ys, Xt H H' → H' p = some (.lst ys) → ys.length = 95 → AllS 3000 ys → Q (.ref p) H'
def sp__has_form (_ : PySem.W.Frag) : Sp := fun vs H Q _ => ∃ z : Str, vs = [.str z] ∧ z.length ≤ 3000 ∧ ∀ H', Xt H H' → Q (.bl (plainF z)) H'
def sp__law_plain := sp__has_form
def sp_is_name (_ : PySem.W.Frag) : Sp := fun vs H Q _ => ∃ z : Str, vs = [.str z] ∧ z.length ≤ 3000 ∧ ∀ H', Xt H H' → Q (.bl (nameF z)) H'
def sp__law_is_name := sp_is_name
def sp_is_variable_name (_ : PySem.W.Frag) : Sp := fun vs H Q _ => ∃ z : Str, vs = [.str z] ∧ z.length ≤ 3000 ∧ ∀ H', Xt H H' → Q (.bl (varF z)) H'
def sp__law_is_variable_name := sp_is_variable_name
def sp__law_asked (_ : PySem.W.Frag) : Sp := fun vs H Q _ => ∃ z : Str, vs = [.str z] ∧ z.length ≤ 3000 ∧ ∀ H', Xt H H' → Q (.bl true) H'
def sp_law (K : PySem.W.Frag) : Sp := fun vs H Q _ => ∃ (a : Addr) (ns : List Int), vs = [.ref a] ∧ SqL K H a (ns.map V.int) ∧ ns.length ≤ 63 ∧ ∀ H', Q (.bl true) H'
theorem signs_len : ((Str.ofString " !\"#$&'()*+,-./0123456789:;<=>?@ABCDEFGHIJKLMNOPQRSTUVWXYZ[\\]^_`") ++ (Str.ofString "abcdefghijklmnopqrstuvwxyz{|}~\n")).cps.toList.length = 95 := by decide +kernel
theorem smallS_len : smallS.cps.toList.length = 36 := by decide +kernel
theorem words_ok : ∀ v ∈ W13 ++ W12, ∃ z : Str, v = .str z ∧ 1 ≤ z.length ∧ z.length ≤ 9 := by
  have h : (W13 ++ W12).all (fun v => match v with | .str z => decide (1 ≤ z.length) && decide (z.length ≤ 9) | _ => false) = true := by decide +kernel
  intro v hv
  have h2 := List.all_eq_true.mp h v hv
  cases v with
  | str z =>
    rw [Bool.and_eq_true] at h2
    exact ⟨z, rfl, of_decide_eq_true h2.1, of_decide_eq_true h2.2⟩
  | _ => cases h2
theorem head_of {z : Str} (h : 1 ≤ z.length) : ∃ c r, z.cps.toList = c :: r ∧ atI z.cps.toList 0 = some c := by
  have hl : z.cps.toList.length = z.length := by rw [Array.length_toList]; rfl
  cases e : z.cps.toList with
  | nil => rw [e] at hl; simp at hl; omega
  | cons c r => exact ⟨c, r, rfl, atI_nat (j := 0) rfl⟩
theorem letters (c : Nat) : (decide (c ∈ smallL) && !decide (c ∈ digL)) = decide (c ∈ letL) := by
  by_cases h : c < 128
  · revert h
    have : ∀ c : Fin 128, (decide (c.val ∈ smallL) && !decide (c.val ∈ digL)) = decide (c.val ∈ letL) := by decide +kernel
    exact fun h => this ⟨c, h⟩
  · have a1 : ∀ x ∈ smallL, x < 128 := by decide +kernel
    have a2 : ∀ x ∈ letL, x < 128 := by decide +kernel
    rw [decide_eq_false (fun z => h (a1 c z)), decide_eq_false (fun z => h (a2 c z))]
    rfl
theorem plainF_no {z : Str} (h : ¬ (1 ≤ z.length ∧ z.length ≤ 8)) : plainF z = false := by
  unfold plainF
  rw [decide_eq_false h]
  rfl
theorem plainF_yes {z : Str} (h1 : 1 ≤ z.length) (h2 : z.length ≤ 8) : plainF z = (z.cps.toList.drop 1).all fun c => decide (c ∈ smallL) := by
  unfold plainF
  rw [decide_eq_true ⟨h1, h2⟩]
  rfl
theorem plain_len {z : Str} (h : plainF z = true) : 1 ≤ z.length ∧ z.length ≤ 8 := by
  unfold plainF at h
  rw [Bool.and_eq_true] at h
  exact of_decide_eq_true h.1
theorem all_filter (l : List Nat) (f : Nat → Bool) : l.all f = decide ((l.filter fun c => !f c).length = 0) := by
  induction l with
  | nil => rfl
  | cons c r ih =>
    rw [List.all_cons, ih, List.filter_cons]
    cases f c with
    | true => rfl
    | false => simp
theorem len_cap {z : Str} {n : Int} (h : 0 ≤ n) : (cutS z none (some n)).length ≤ n.toNat := by
  show (((z.cps.toList.drop (HT.sIx z.length 0 none)).take (HT.sIx z.length z.length (some n) - HT.sIx z.length 0 none)).toArray).size ≤ n.toNat
  rw [List.size_toArray, List.length_take, HT.sIx_none]
  have e : HT.sIx z.length z.length (some n) = min n.toNat z.length := by
    show (if n < 0 then _ else _) = _
    rw [if_neg (by omega)]
  rw [e]; omega
theorem allS_of {n : Nat} {ys : List V} (h : ∀ (i : Nat) (y : V), ys[i]? = some y → ∃ z : Str, y = .str z ∧ z.length ≤ n) : AllS n ys := fun y hy => by
  obtain ⟨i, hi⟩ := List.getElem?_of_mem hy
  exact h i y hi
theorem each36 (j : Nat) (s : Int) (h : 4 ≤ j) (e : ([7, 8, 2, 26, 36, 36, 36, 36, 36, 36] : List Int)[j]? = some s) : s = 36 := by
  have hj : j < 10 := (List.getElem?_eq_some_iff.mp e).1
  have a : ∀ j : Fin 10, 4 ≤ j.val → ([7, 8, 2, 26, 36, 36, 36, 36, 36, 36] : List Int)[j.val]? = some 36 := by decide
  have b := a ⟨j, hj⟩ h
  rw [e] at b
  exact Option.some.inj b
local macro_rules | `(tactic| walk_at "lb") => `(tactic| repeat' (with_reducible first | refine' lb_app ?_ ?_ | refine' lb_cut ?_ | exact lb_one | refine' lb_up ?_ | exact Nat.le_refl _))
local macro_rules | `(tactic| walk_at "s1") => `(tactic| with_reducible first
  | refine k_seq ?_ | refine k_asg ?_ | refine k_ret ?_ | refine k_drop ?_ | refine k_ifs ?_ | refine k_next ?_
  | refine k_name ?_ | refine k_c ?_ | refine k_op ?_ | refine k_cons ?_ | refine k_nil ?_ | refine k_cb ?_ | refine k_call ?_ | refine k_un ?_
  | refine k_test ?_ | refine k_tb ?_ | refine k_not ?_ | refine k_and ?_ | refine k_or ?_ | refine k_andV ?_ | refine k_orV ?_ | refine k_notV ?_ | refine k_ife ?_ | refine k_chain ?_
  | refine k_callN ?_ | refine k_lst0 ?_ | refine k_tup0 ?_ | refine k_bm ?_ | refine k_for ?_ | refine k_ilist ?_ | refine k_itup ?_ | refine k_istr ?_ | refine k_irng1 ?_ | refine k_irng2 ?_ | refine k_rev ?_ | refine v_isstr ?_ | refine v_isi_str ?_ | refine v_isi_bool ?_ | refine k_sl ?_ | refine k_nopart ?_ | refine k_part ?_ | refine k_lcl ?_ | refine k_m0 ?_ | refine k_m1 ?_ | refine k_bl ?_
  | refine v_I0 ?_ | refine v_plus_int ?_ | refine v_int ?_ | refine v_neg ?_ | refine v_in_s ?_ | refine v_notin_s ?_)
local macro_rules | `(tactic| walk_at "s") => `(tactic| first
  | walk_at "s1"
  | ((with_reducible refine' k_var ?hv ?_); case hv => exact rfl)
  | ((with_reducible refine' v_I ?hc ?_); case hc => first | (show (0 : Int) < _; first | decide | omega | assumption) | exact ⟨by decide, by decide⟩ | exact ⟨by decide, by decide, by decide⟩ | exact ⟨by omega, by decide⟩)
  | ((with_reducible refine' v_times_int ?hc ?_); case hc => first | exact .inr ⟨by decide, by decide⟩ | exact .inl ⟨by decide, by decide⟩ | exact .inr ⟨by omega, by omega⟩ | exact .inl ⟨by omega, by omega⟩)
  | ((with_reducible refine' v_eq ?hc ?_); case hc => exact rfl)
  | ((with_reducible refine' v_ne ?hc ?_); case hc => exact rfl)
  | ((with_reducible refine' v_len_l ?hc ?_); case hc => first | assumption | exact sql (by assumption))
  | ((with_reducible refine' v_len_s ?hc ?_); case hc => first | exact szle (by omega) | decide)
  | ((with_reducible refine' v_ix_l ?hs ?ha ?_); (case hs => first | assumption | exact sql (by assumption)); (case ha => assumption))
  | ((with_reducible refine' v_sl_s ?hc ?_); case hc => first | exact szle (Nat.le_trans (by walk_at "lb") (by omega)) | exact szle (by omega) | decide)
  | ((with_reducible refine' v_plus_str ?hc ?_); case hc => first | exact szle (Nat.le_trans (Nat.add_le_add (by walk_at "lb") (by walk_at "lb")) (by omega)) | exact szle (by omega) | decide)
  | ((with_reducible refine' v_new ?hz ?_); case hz => first | decide | (simp only [List.length_cons, List.length_nil]; decide))
  | ((with_reducible refine' v_newT ?hz ?_); case hz => first | decide | (simp only [List.length_cons, List.length_nil]; decide))
  | ((with_reducible refine' v_upper ?hz ?_); case hz => (refine Nat.le_trans (by walk_at "lb") ?_; omega))
  | ((with_reducible refine' v_times_str ?hz ?_); case hz => exact ⟨by omega, by omega, by omega⟩)
  | refine ⟨(rfl : List.length _ = _), (rfl : List.length _ = _), ?_⟩
  | with_reducible refine' ⟨_, rfl, ?_⟩
  | refine k_no ?_ | refine k_yes ?_)
section
variable {P : Program} {w : World} {K : PySem.W.Frag} {mg : Str → Option Value} {base : Heap}
theorem ok__has_form (T : Top K mg) : FnOk P w K mg base CX0 1 T.f__has_form T.fd__has_form ["value"] (sp__has_form K) := by
  refine T.F__has_form.ok sc__has_form (fun vs H Q E h => ?_) (fun cdv A outer s H vs Q E hr h => ?_)
  · obtain ⟨z, rfl, hz, q⟩ := h
    rfl
  · obtain ⟨z, rfl, hz, q⟩ := h
    refine ⟨_, (pss_cons (ps_if (PW.pt (pw_or (pt_not (pt_val (pe_callB (r := rIsi K) call_isi (by rfl) T.n_isinstance PyProof.Rows.boot_isinstance (pa_cons (pv 0) (pa_cons (pe_bltn (v := .ty "str") (by rfl) T.n_str (by decide +kernel) rfl) pa_nil))))) (pw_or1 (pt_not (pt_chain op_le op_le pe_int (pe_callB (r := rLenU K) call_lenU (by rfl) T.n_len PySem.boot_len (pa_cons (pv 0) pa_nil)) (pe_glob (v := .int 8) (by rfl) T.c_LONGEST ⟨_, rfl⟩)))))) (pss_one (ps_ret pe_bl)) pss_nil)
      (pss_one (ps_ret (pe_callB (r := rAll K) (cr_all rfl) (by rfl) T.n_all PyProof.Rows.boot_all (pa_cons (pe_lc (own := [("sign", 1)]) (g := gName 1) rfl sc__has_form.nd (pi_str (pe_slice (r := rSlU K) sl_any (pv 0) (po_some pe_int) po_none)) (blkOk_by (N := N__has_form) (sc := defScope s__has_form) (by decide +kernel)) (fun _ _ _ _ _ => pg_name (i := 1) sc__has_form.nd rfl (Or.inl rfl)) (fun _ _ _ _ _ => pts_nil) (fun _ _ _ _ _ => (pe_cmpR (r := rInU K) op_inU (pv 1) (pe_glob (v := .str "abcdefghijklmnopqrstuvwxyz0123456789") (by rfl) T.c_SMALL_SIGNS ⟨_, rfl⟩) (by with_unfolding_all rfl)))) pa_nil))))), ?_⟩
    repeat walk_at "s"
    refine k_if (fun h1 => ?_) (fun h1 => ?_)
    · repeat walk_at "s"
      refine k_ifn (fun h2 => ?_) (fun h2 => ?_)
      · repeat walk_at "s"
        have e := plainF_no (z := z) (by omega)
        rw [← e]; exact q H (xrefl H)
      · repeat walk_at "s"
        refine' b_txt (fun i y => ∃ c, (cutS z (some 1) none).cps.toList[i]? = some c ∧ y = .bl (decide (c ∈ smallL))) ?hn (fun x => ?hw) ?hb ?hk
        case hn => have := len_cut z (some 1) none; omega
        case hw => rfl
        case hb =>
          intro i c H' hc x R hR
          repeat walk_at "s"
          exact hR _ _ (xrefl _) ⟨c, by rw [Array.getElem?_toList]; exact hc, rfl⟩
        case hk =>
          intro D ys H2 hD hl hP x2 e2
          repeat walk_at "s"
          have e := list_map_of (l := (cutS z (some 1) none).cps.toList) (f := fun c => V.bl (decide (c ∈ smallL))) (by rw [hl, Array.length_toList]; rfl) hP
          have e3 : ys = ((cutS z (some 1) none).cps.toList.map fun c => decide (c ∈ smallL)).map V.bl := by rw [e, List.map_map]; rfl
          refine v_all (bs := (cutS z (some 1) none).cps.toList.map fun c => decide (c ∈ smallL)) (sql (by rw [← e3]; exact e2)) ?_
          rw [List.all_map, cut_from1]
          have e4 := plainF_yes (z := z) (by omega) (by omega)
          have e5 : (z.cps.toList.drop 1).all (id ∘ fun c => decide (c ∈ smallL)) = plainF z := e4.symm
          rw [e5]
          exact q H2 x2
    · repeat walk_at "s"
      have e := plainF_no (z := z) (by omega)
      rw [← e]; exact q H (xrefl H)

theorem ok__law_cell (T : Top K mg) : FnOk P w K mg base CX0 1 T.f__law_cell T.fd__law_cell ["script", "k"] (sp__law_cell K) := by
  refine T.F__law_cell.ok sc__law_cell (fun vs H Q E h => ?_) (fun cdv A outer s H vs Q E hr h => ?_)
  · obtain ⟨l, ns, k, rfl, hS, hn, hk, q⟩ := h
    rfl
  · obtain ⟨l, ns, k, rfl, hS, hn, hk, q⟩ := h
    refine ⟨_, (pss_cons (ps_if (pt_cmpR op_lt (pv 1) (pe_callB (r := rLenU K) call_lenU (by rfl) T.n_len PySem.boot_len (pa_cons (pv 0) pa_nil)) (nomark _)) (pss_one (ps_ret (pe_ix (r := rIx K) ix_seq (pv 0) (pv 1) (fun _ _ => rfl)))) pss_nil)
      (pss_cons (ps_set (i := 2) sc__law_cell.nd rfl (Or.inl rfl) pe_int)
      (pss_cons (ps_for PassesOwn.never rfl (pi_list (pv 0)) (pg_name (i := 3) sc__law_cell.nd rfl (Or.inl rfl)) (pss_one (ps_set (i := 2) sc__law_cell.nd rfl (Or.inl rfl) (pe_op op_mod (pe_callTy call_intU (by rfl) T.n_int PyProof.Rows.boot_int (pa_cons (pe_op (r := rPlus K) op_plus (pe_op op_times (pv 2) pe_int) (pe_op op_mod (pe_callTy call_intU (by rfl) T.n_int PyProof.Rows.boot_int (pa_cons (pv 3) pa_nil)) pe_int)) pa_nil)) pe_int))))
      (pss_one (ps_ret (pe_op op_mod (pe_callTy call_intU (by rfl) T.n_int PyProof.Rows.boot_int (pa_cons (pe_op op_times (pe_op op_times (pe_op (r := rPlus K) op_plus (pv 2) pe_int) (pe_op (r := rPlus K) op_plus (pv 1) pe_int)) pe_int) pa_nil)) pe_int)))))), ?_⟩
    repeat walk_at "s"
    refine k_if (fun hlt => ?_) (fun hge => ?_)
    · rw [List.length_map] at hlt
      obtain ⟨n, e, _⟩ := atI_int (ns := ns) (i := k) hk.1 hlt
      repeat walk_at "s"
      exact q n
    · repeat walk_at "s"
      refine ⟨⟨_, hS⟩, for_list (xs := ns.map V.int) (fun i σ' H' => ∃ sd y, σ' = [some (.ref l), some (.int k), some (.int sd), y] ∧ 0 ≤ sd ∧ sd < 1000003 ∧ H' = H) ⟨17, none, rfl, by decide, by decide, rfl⟩ ?_ ?_ ?_⟩
      · rintro i σ' H' hi ⟨sd, y, rfl, h1, h2, rfl⟩
        exact hS
      · rintro i x σ' H' hx ⟨sd, y, rfl, h1, h2, rfl⟩
        obtain ⟨n, rfl, _⟩ := map_int_at hx
        repeat walk_at "s"
        exact ⟨_, _, rfl, by omega, by omega, rfl⟩
      · rintro σ' H' ⟨sd, y, rfl, h1, h2, rfl⟩
        repeat walk_at "s"
        exact q _

theorem ok__law_digits (T : Top K mg) : FnOk P w K mg base CX0 1 T.f__law_digits T.fd__law_digits ["cell", "sizes"] (sp__law_digits K) := by
  refine T.F__law_digits.ok sc__law_digits (fun vs H Q E h => ?_) (fun cdv A outer s H vs Q E hr h => ?_)
  · obtain ⟨c, a, ss, rfl, hS, hl, hb, q⟩ := h
    rfl
  · obtain ⟨c, a, ss, rfl, hS, hl, hb, q⟩ := h
    refine ⟨_, (pss_cons (ps_set (i := 2) sc__law_digits.nd rfl (Or.inl rfl) (pe_lst pa_nil))
      (pss_cons (ps_set (i := 3) sc__law_digits.nd rfl (Or.inl rfl) (pe_callTy call_intU (by rfl) T.n_int PyProof.Rows.boot_int (pa_cons (pv 0) pa_nil)))
      (pss_cons (ps_if (pt_cmpR op_ge (pv 3) (pe_op op_pow pe_int pe_int) (nomark _)) (pss_cons (ps_set (i := 3) sc__law_digits.nd rfl (Or.inl rfl) (pe_op op_sub (pv 3) (pe_op op_pow pe_int pe_int)))
      (pss_cons (ps_for PassesOwn.never rfl (pi_list (pv 1)) (pg_name (i := 4) sc__law_digits.nd rfl (Or.inl rfl)) (pss_cons (ps_expr (pe_bm PySem.F.plainAttrs_list PySem.F.slot_list_append PySem.F.type_list_append mt_append (pv 2) (pa_cons (pe_op op_mod (pe_callTy call_intU (by rfl) T.n_int PyProof.Rows.boot_int (pa_cons (pv 3) pa_nil)) (pv 4)) pa_nil)))
      (pss_one (ps_set (i := 3) sc__law_digits.nd rfl (Or.inl rfl) (pe_op op_fdivW (pe_callTy call_intU (by rfl) T.n_int PyProof.Rows.boot_int (pa_cons (pv 3) pa_nil)) (pv 4))))))
      (pss_one (ps_ret (pv 2))))) pss_nil)
      (pss_cons (ps_set (i := 5) sc__law_digits.nd rfl (Or.inl rfl) (pe_op op_mod (pe_callTy call_intU (by rfl) T.n_int PyProof.Rows.boot_int (pa_cons (pv 3) pa_nil)) pe_int))
      (pss_cons (ps_for PassesOwn.never rfl (pi_range1 (by rfl) T.n_range (pa_cons (pe_callB (r := rLenU K) call_lenU (by rfl) T.n_len PySem.boot_len (pa_cons (pv 1) pa_nil)) pa_nil)) (pg_name (i := 6) sc__law_digits.nd rfl (Or.inl rfl)) (pss_cons (ps_set (i := 5) sc__law_digits.nd rfl (Or.inl rfl) (pe_op op_mod (pe_callTy call_intU (by rfl) T.n_int PyProof.Rows.boot_int (pa_cons (pe_op (r := rPlus K) op_plus (pe_op (r := rPlus K) op_plus (pe_op op_times (pv 5) pe_int) (pe_op op_times pe_int (pv 6))) pe_int) pa_nil)) pe_int))
      (pss_cons (ps_set (i := 7) sc__law_digits.nd rfl (Or.inl rfl) (pe_op op_mod (pe_callTy call_intU (by rfl) T.n_int PyProof.Rows.boot_int (pa_cons (pe_op op_times (pv 5) (pe_op (r := rPlus K) op_plus (pe_op op_fdivW (pv 5) pe_int) pe_int)) pa_nil)) pe_int))
      (pss_one (ps_expr (pe_bm PySem.F.plainAttrs_list PySem.F.slot_list_append PySem.F.type_list_append mt_append (pv 2) (pa_cons (pe_op op_mod (pe_op op_fdivW (pv 7) pe_int) (pe_ix (r := rIx K) ix_seq (pv 1) (pv 6) (fun _ _ => rfl))) pa_nil)))))))
      (pss_one (ps_ret (pv 2)))))))), ?_⟩
    repeat walk_at "s"
    intro o H1 no x1 eo
    repeat walk_at "s"
    refine k_if (fun hge => ?_) (fun hlt => ?_)
    · repeat walk_at "s"
      refine ⟨⟨_, xl x1 hS⟩, for_list (xs := ss.map V.int) (fun i σ' H' => ∃ (rest : Int) (y : Option V) (ds : List Int), σ' = [some (.int c), some (.ref a), some (.ref o), some (.int rest), y, none, none, none] ∧ i ≤ ss.length ∧ Xt H H' ∧ H' o = some (.lst (ds.map V.int)) ∧ DigOk ds (ss.take i)) ⟨_, none, [], rfl, Nat.zero_le _, x1, eo, DigOk.nil⟩ ?_ ?_ ?_⟩
      · rintro i σ' H' hi ⟨rest, y, ds, rfl, hi2, x2, e2, hd⟩
        exact xl x2 hS
      · rintro i x σ' H' hx ⟨rest, y, ds, rfl, hi2, x2, e2, hd⟩
        obtain ⟨n, rfl, hn⟩ := map_int_at hx
        have hb2 := hb n (List.mem_of_getElem? hn)
        have hi3 : i < ss.length := (List.getElem?_eq_some_iff.mp hn).1
        have hdl : ds.length = i := by rw [hd.1, List.length_take]; omega
        repeat walk_at "s"
        refine ⟨ty_l e2, ?_⟩
        repeat walk_at "s"
        refine v_app e2 (by rw [List.length_map]; omega) ?_
        repeat walk_at "s"
        refine v_I (wide_div (b := 30) hb2.1 (by omega) (by decide) (by decide)) ?_
        repeat walk_at "s"
        refine ⟨_, _, ds ++ [rest % n], rfl, hi3, xmut x2 no, ?_, hd.snoc hn (Int.emod_nonneg _ (by omega)) (Int.emod_lt_of_pos _ hb2.1)⟩
        rw [upd_same, List.map_append]
        rfl
      · rintro σ' H' ⟨rest, y, ds, rfl, hi2, x2, e2, hd⟩
        repeat walk_at "s"
        rw [List.length_map, List.take_length] at hd
        exact q o H' ds x2 e2 hd
    · repeat walk_at "s"
      refine v_len_l (xl x1 hS) ?_
      repeat walk_at "s"
      rw [List.length_map]
      refine ⟨by omega, by omega, ?_⟩
      rw [Int.toNat_natCast]
      refine for_range (lo := 0) (n := ss.length) (fun i σ' H' => ∃ (rest sd : Int) (y z : Option V) (ds : List Int), σ' = [some (.int c), some (.ref a), some (.ref o), some (.int rest), none, some (.int sd), y, z] ∧ i ≤ ss.length ∧ (0 ≤ sd ∧ sd < 2147483647) ∧ Xt H H' ∧ H' o = some (.lst (ds.map V.int)) ∧ DigOk ds (ss.take i)) ⟨_, _, none, none, [], rfl, Nat.zero_le _, ⟨by omega, by omega⟩, x1, eo, DigOk.nil⟩ ?_ ?_
      · rintro i σ' H' hi ⟨rest, sd, y, z, ds, rfl, hi2, ⟨h1, h2⟩, x2, e2, hd⟩
        obtain ⟨n, hn⟩ : ∃ n, ss[i]? = some n := ⟨_, List.getElem?_eq_getElem hi⟩
        have hb2 := hb n (List.mem_of_getElem? hn)
        have hdl : ds.length = i := by rw [hd.1, List.length_take]; omega
        have ha : atI (ss.map V.int) (0 + (i : Int)) = some (.int n) := by
          rw [Int.zero_add]
          exact atI_nat (by rw [List.getElem?_map, hn]; rfl)
        repeat walk_at "s"
        have h3 : 0 ≤ (sd * 48271 + 974711 * (0 + (i : Int)) + 12345) % 2147483647 := by omega
        have h4 : (sd * 48271 + 974711 * (0 + (i : Int)) + 12345) % 2147483647 < 2147483647 := by omega
        generalize (sd * 48271 + 974711 * (0 + (i : Int)) + 12345) % 2147483647 = sd2 at h3 h4 ⊢
        repeat walk_at "s"
        refine ⟨ty_l e2, ?_⟩
        repeat walk_at "s"
        refine v_ix_l (xl x2 hS) ha ?_
        repeat walk_at "s"
        refine v_app e2 (by rw [List.length_map]; omega) ?_
        repeat walk_at "s"
        refine ⟨rest, _, _, _, ds ++ [sd2 * (sd2 / 65537 + 3) % 2147483629 / 19 % n], rfl, hi, ⟨h3, h4⟩, xmut x2 no, ?_, hd.snoc hn (Int.emod_nonneg _ (by omega)) (Int.emod_lt_of_pos _ hb2.1)⟩
        rw [upd_same, List.map_append]
        rfl
      · rintro σ' H' ⟨rest, sd, y, z, ds, rfl, hi2, ⟨h1, h2⟩, x2, e2, hd⟩
        repeat walk_at "s"
        rw [List.take_length] at hd
        exact q o H' ds x2 e2 hd

theorem ok__law_sign (T : Top K mg) : FnOk P w K mg base CX0 1 T.f__law_sign T.fd__law_sign ["k"] (sp__law_sign K) := by
  refine T.F__law_sign.ok sc__law_sign (fun vs H Q E h => ?_) (fun cdv A outer s H vs Q E hr h => ?_)
  · obtain ⟨k, rfl, q⟩ := h
    rfl
  · obtain ⟨k, rfl, q⟩ := h
    refine ⟨_, (pss_cons (ps_set (i := 1) sc__law_sign.nd rfl (Or.inl rfl) pe_str)
      (pss_cons (ps_set (i := 1) sc__law_sign.nd rfl (Or.inl rfl) (pe_op (r := rPlus K) op_plus (pv 1) pe_str))
      (pss_one (ps_ret (pe_ix (r := rIx K) ix_seq (pv 1) (pe_op op_mod (pe_callTy call_intU (by rfl) T.n_int PyProof.Rows.boot_int (pa_cons (pv 0) pa_nil)) pe_int) (fun _ _ => rfl)))))), ?_⟩
    repeat walk_at "s"
    obtain ⟨c, hc⟩ := atI_mod (l := ((Str.ofString " !\"#$&'()*+,-./0123456789:;<=>?@ABCDEFGHIJKLMNOPQRSTUVWXYZ[\\]^_`") ++ (Str.ofString "abcdefghijklmnopqrstuvwxyz{|}~\n")).cps.toList) (i := k) (by rw [signs_len]; decide)
    rw [signs_len] at hc
    exact v_ix_s (by decide +kernel) hc (q c)

theorem ok__law_words (T : Top K mg) : FnOk P w K mg base CX0 1 T.f__law_words T.fd__law_words [] (sp__law_words K) := by
  refine T.F__law_words.ok sc__law_words (fun vs H Q E h => ?_) (fun cdv A outer s H vs Q E hr h => ?_)
  · obtain ⟨rfl, q⟩ := h
    rfl
  · obtain ⟨rfl, q⟩ := h
    refine ⟨_, (pss_cons (ps_set (i := 0) sc__law_words.nd rfl (Or.inl rfl) (pe_lst (pa_cons pe_str (pa_cons pe_str (pa_cons pe_str (pa_cons pe_str (pa_cons pe_str (pa_cons pe_str (pa_cons pe_str (pa_cons pe_str (pa_cons pe_str (pa_cons pe_str (pa_cons pe_str (pa_cons pe_str (pa_cons pe_str pa_nil)))))))))))))))
      (pss_one (ps_ret (pe_op (r := rPlus K) op_plus (pv 0) (pe_lst (pa_cons pe_str (pa_cons pe_str (pa_cons pe_str (pa_cons pe_str (pa_cons pe_str (pa_cons pe_str (pa_cons pe_str (pa_cons pe_str (pa_cons pe_str (pa_cons pe_str (pa_cons pe_str (pa_cons pe_str pa_nil))))))))))))))))), ?_⟩
    repeat walk_at "s"
    intro p1 H1 n1 x1 e1
    repeat walk_at "s"
    intro p2 H2 n2 x2 e2
    refine v_plus_lst (x2 _ _ e1) e2 (by decide) fun p3 H3 n3 x3 e3 => ?_
    exact q p3 H3 (xtr (xtr x1 x2) x3) e3

theorem ok__law_plain (T : Top K mg) : FnOk P w K mg base CX0 1 T.f__law_plain T.fd__law_plain ["text"] (sp__law_plain K) := by
  refine T.F__law_plain.ok sc__law_plain (fun vs H Q E h => ?_) (fun cdv A outer s H vs Q E hr h => ?_)
  · obtain ⟨z, rfl, hz, q⟩ := h
    rfl
  · obtain ⟨z, rfl, hz, q⟩ := h
    refine ⟨_, (pss_cons (ps_if (PW.pt (pw_or (pt_cmpR op_lt (pe_callB (r := rLenU K) call_lenU (by rfl) T.n_len PySem.boot_len (pa_cons (pv 0) pa_nil)) pe_int (nomark _)) (pw_or1 (pt_cmpR op_gt (pe_callB (r := rLenU K) call_lenU (by rfl) T.n_len PySem.boot_len (pa_cons (pv 0) pa_nil)) pe_int (nomark _))))) (pss_one (ps_ret pe_bl)) pss_nil)
      (pss_one (ps_ret (pe_cmpR op_eq (pe_callB (r := rLenU K) call_lenU (by rfl) T.n_len PySem.boot_len (pa_cons (pe_lc (own := [("sign", 1)]) (g := gName 1) rfl sc__law_plain.nd (pi_str (pe_slice (r := rSlU K) sl_any (pv 0) (po_some pe_int) po_none)) (blkOk_by (N := N__law_plain) (sc := defScope s__law_plain) (by decide +kernel)) (fun _ _ _ _ _ => pg_name (i := 1) sc__law_plain.nd rfl (Or.inl rfl)) (fun _ _ _ _ _ => pts_one (pt_cmpR (r := rNotInU K) op_notInU (pv 1) pe_str (by with_unfolding_all rfl))) (fun _ _ _ _ _ => (pv 1))) pa_nil)) pe_int (nomark _))))), ?_⟩
    repeat walk_at "s"
    refine k_if (fun h1 => ?_) (fun h1 => ?_)
    · repeat walk_at "s"
      have e := plainF_no (z := z) (by omega)
      rw [← e]; exact q H (xrefl H)
    · repeat walk_at "s"
      refine k_if (fun h2 => ?_) (fun h2 => ?_)
      · repeat walk_at "s"
        have e := plainF_no (z := z) (by omega)
        rw [← e]; exact q H (xrefl H)
      · repeat walk_at "s"
        refine' b_txtF (fun c => !decide (c ∈ smallL)) ?hn (fun x => ?hw) ?ht ?hb ?hk
        case hn => have := len_cut z (some 1) none; omega
        case hw => rfl
        case ht =>
          intro c H' x R hR
          repeat walk_at "s"
          exact hR
        case hb =>
          intro c H' x R hR
          repeat walk_at "s"
          exact hR
        case hk =>
          intro D H2 hD x2 e2
          repeat walk_at "s"
          rw [List.length_map, cut_from1]
          have e4 := plainF_yes (z := z) (by omega) (by omega)
          rw [all_filter] at e4
          have e5 : decide (V.int (((z.cps.toList.drop 1).filter fun c => !decide (c ∈ smallL)).length : Int) = V.int 0) = plainF z := by
            rw [e4]
            refine decide_eq_decide.mpr ⟨fun h => ?_, fun h => ?_⟩
            · have := V.int.inj h; omega
            · rw [h]; rfl
          rw [e5]
          exact q H2 x2

theorem ok_is_name (T : Top K mg) : FnOk P w K mg base CX0 2 T.f_is_name T.fd_is_name ["value"] (sp_is_name K) := by
  refine T.F_is_name.ok sc_is_name (fun vs H Q E h => ?_) (fun cdv A outer s H vs Q E hr h => ?_)
  · obtain ⟨z, rfl, hz, q⟩ := h
    rfl
  · obtain ⟨z, rfl, hz, q⟩ := h
    refine ⟨_, (pss_one (ps_ret (pe_and (pe_call (ok__has_form T) (hr.mono (by decide)) (by rfl) T.g__has_form T.F__has_form.kp T.b__has_form .nil pass0 (pa_cons (pv 0) pa_nil)) (pe_and (pe_cmpR (r := rInU K) op_inU (pe_ix (r := rIx K) ix_seq (pv 0) pe_int (fun _ _ => rfl)) (pe_glob (v := .str "abcdefghijklmnopqrstuvwxyz0123456789") (by rfl) T.c_SMALL_SIGNS ⟨_, rfl⟩) (by with_unfolding_all rfl)) (pe_and (pe_cmpR (r := rNotInU K) op_notInU (pe_ix (r := rIx K) ix_seq (pv 0) pe_int (fun _ _ => rfl)) (pe_glob (v := .str "0123456789") (by rfl) T.c_DIGITS ⟨_, rfl⟩) (by with_unfolding_all rfl)) (pe_one (pe_cmpR (r := rNotInU K) op_notInU (pv 0) (pe_glob (v := .ref T.a_WORDS) (by rfl) T.c_WORDS rfl) (by with_unfolding_all rfl)))))))), ?_⟩
    repeat walk_at "s"
    refine ⟨z, rfl, hz, fun H1 x1 => ?_⟩
    repeat walk_at "s"
    refine k_ifb (fun hp => ?_) (fun hp => ?_)
    · have hl := plain_len hp
      obtain ⟨c, r, ez, ec⟩ := head_of hl.1
      have eh : headIn z letL = decide (c ∈ letL) := by unfold headIn; rw [ez]
      have en : nameF z = (decide (c ∈ letL) && !inV (.str z) W13) := by unfold nameF; rw [hp, eh]; rfl
      rw [← letters c] at en
      repeat walk_at "s"
      refine v_ix_s (szle (by omega)) ec ?_
      repeat walk_at "s"
      refine k_if (fun h1 => ?_) (fun h1 => ?_)
      · repeat walk_at "s"
        refine v_ix_s (szle (by omega)) ec ?_
        repeat walk_at "s"
        refine k_ifn (fun h2 => ?_) (fun h2 => ?_)
        · repeat walk_at "s"
          refine v_notin_q (.inr (T.q_WORDS H1)) rfl (by decide +kernel) ?_
          have e1 : (decide (c ∈ smallL) && !decide (c ∈ digL)) = true := by rw [decide_eq_true (show c ∈ smallL from h1), decide_eq_false (show ¬ c ∈ digL from h2)]; rfl
          rw [e1, Bool.true_and] at en
          rw [show (!inV (V.str z) [V.str "all", V.str "some", V.str "not", V.str "and", V.str "or", V.str "implies", V.str "iff", V.str "true", V.str "false", V.str "truth", V.str "sort", V.str "function", V.str "axiom"]) = nameF z from en.symm]
          exact q H1 x1
        · have e1 : (decide (c ∈ smallL) && !decide (c ∈ digL)) = false := by rw [decide_eq_true (show c ∈ smallL from h1), decide_eq_true (show c ∈ digL from h2)]; rfl
          rw [e1, Bool.false_and] at en
          rw [← en]
          exact q H1 x1
      · have e1 : (decide (c ∈ smallL) && !decide (c ∈ digL)) = false := by rw [decide_eq_false (show ¬ c ∈ smallL from h1)]; rfl
        rw [e1, Bool.false_and] at en
        rw [← en]
        exact q H1 x1
    · have en : nameF z = false := by unfold nameF; rw [hp]; rfl
      rw [← en]
      exact q H1 x1

theorem ok_is_variable_name (T : Top K mg) : FnOk P w K mg base CX0 2 T.f_is_variable_name T.fd_is_variable_name ["value"] (sp_is_variable_name K) := by
  refine T.F_is_variable_name.ok sc_is_variable_name (fun vs H Q E h => ?_) (fun cdv A outer s H vs Q E hr h => ?_)
  · obtain ⟨z, rfl, hz, q⟩ := h
    rfl
  · obtain ⟨z, rfl, hz, q⟩ := h
    refine ⟨_, (pss_one (ps_ret (pe_and (pe_call (ok__has_form T) (hr.mono (by decide)) (by rfl) T.g__has_form T.F__has_form.kp T.b__has_form .nil pass0 (pa_cons (pv 0) pa_nil)) (pe_one (pe_cmpR (r := rInU K) op_inU (pe_ix (r := rIx K) ix_seq (pv 0) pe_int (fun _ _ => rfl)) (pe_glob (v := .str "ABCDEFGHIJKLMNOPQRSTUVWXYZ") (by rfl) T.c_CAPITALS ⟨_, rfl⟩) (by with_unfolding_all rfl)))))), ?_⟩
    repeat walk_at "s"
    refine ⟨z, rfl, hz, fun H1 x1 => ?_⟩
    repeat walk_at "s"
    refine k_ifb (fun hp => ?_) (fun hp => ?_)
    · have hl := plain_len hp
      obtain ⟨c, r, ez, ec⟩ := head_of hl.1
      have eh : headIn z capL = decide (c ∈ capL) := by unfold headIn; rw [ez]
      have en : varF z = decide (c ∈ capL) := by unfold varF; rw [hp, eh]; rfl
      repeat walk_at "s"
      refine v_ix_s (szle (by omega)) ec ?_
      repeat walk_at "s"
      rw [show decide (c ∈ (Str.ofString "ABCDEFGHIJKLMNOPQRSTUVWXYZ").cps.toList) = varF z from en.symm]
      exact q H1 x1
    · have en : varF z = false := by unfold varF; rw [hp]; rfl
      rw [← en]
      exact q H1 x1

theorem ok__law_text (T : Top K mg) : FnOk P w K mg base CX0 2 T.f__law_text T.fd__law_text ["cell"] (sp__law_text K) := by
  refine T.F__law_text.ok sc__law_text (fun vs H Q E h => ?_) (fun cdv A outer s H vs Q E hr h => ?_)
  · obtain ⟨c, rfl, q⟩ := h
    rfl
  · obtain ⟨c, rfl, q⟩ := h
    refine ⟨_, (pss_cons (ps_set (i := 1) sc__law_text.nd rfl (Or.inl rfl) (pe_call (ok__law_digits T) (hr.mono (by decide)) (by rfl) T.g__law_digits T.F__law_digits.kp T.b__law_digits .nil pass0 (pa_cons (pv 0) (pa_cons (pe_op (r := rPlus K) op_plus (pe_lst (pa_cons pe_int (pa_cons pe_int (pa_cons pe_int (pa_cons pe_int (pa_cons pe_int (pa_cons pe_int (pa_cons pe_int pa_nil)))))))) (pe_lc (own := [("k", 6)]) (g := gName 6) rfl sc__law_text.nd (pi_range1 (by rfl) T.n_range (pa_cons pe_int pa_nil)) (blkOk_by (N := N__law_text) (sc := defScope s__law_text) (by decide +kernel)) (fun _ _ _ _ _ => pg_name (i := 6) sc__law_text.nd rfl (Or.inl rfl)) (fun _ _ _ _ _ => pts_nil) (fun _ _ _ _ _ => pe_int))) pa_nil))))
      (pss_cons (ps_set (i := 2) sc__law_text.nd rfl (Or.inr rfl) pe_str)
      (pss_cons (ps_if (pt_cmpR op_lt (pe_ix (r := rIx K) ix_seq (pv 1) pe_int (fun _ _ => rfl)) pe_int (nomark _)) (pss_one (ps_ret (pe_joinN pe_str (pe_lc (own := [("digit", 7)]) (g := gName 7) rfl sc__law_text.nd (pi_list (pe_slice (r := rSlU K) sl_any (pv 1) (po_some pe_int) (po_some (pe_op (r := rPlus K) op_plus pe_int (pe_ix (r := rIx K) ix_seq (pv 1) pe_int (fun _ _ => rfl)))))) (blkOk_by (N := N__law_text) (sc := defScope s__law_text) (by decide +kernel)) (fun _ _ _ _ _ => pg_name (i := 7) sc__law_text.nd rfl (Or.inl rfl)) (fun _ _ _ _ _ => pts_nil) (fun _ _ _ _ _ => (pe_call (ok__law_sign T) (hr.mono (by decide)) (by rfl) T.g__law_sign T.F__law_sign.kp T.b__law_sign .nil pass0 (pa_cons (pv 7) pa_nil))))))) pss_nil)
      (pss_cons (ps_set (i := 3) sc__law_text.nd rfl (Or.inl rfl) (pe_op (r := rPlus K) op_plus (pe_ix (r := rIx K) ix_seq (pv 2) (pe_ix (r := rIx K) ix_seq (pv 1) pe_int (fun _ _ => rfl)) (fun _ _ => rfl)) (pe_joinN pe_str (pe_lc (own := [("digit", 7)]) (g := gName 7) rfl sc__law_text.nd (pi_list (pe_slice (r := rSlU K) sl_any (pv 1) (po_some pe_int) (po_some (pe_op (r := rPlus K) op_plus pe_int (pe_ix (r := rIx K) ix_seq (pv 1) pe_int (fun _ _ => rfl)))))) (blkOk_by (N := N__law_text) (sc := defScope s__law_text) (by decide +kernel)) (fun _ _ _ _ _ => pg_name (i := 7) sc__law_text.nd rfl (Or.inl rfl)) (fun _ _ _ _ _ => pts_nil) (fun _ _ _ _ _ => (pe_ix (r := rIx K) ix_seq (pv 2) (pe_op op_mod (pe_callTy call_intU (by rfl) T.n_int PyProof.Rows.boot_int (pa_cons (pv 7) pa_nil)) pe_int) (fun _ _ => rfl)))))))
      (Evl.pss_cut (ps_if (pt_cmpR op_eq (pe_op op_mod (pe_ix (r := rIx K) ix_seq (pv 1) pe_int (fun _ _ => rfl)) pe_int) pe_int (nomark _)) (pss_one (ps_set (i := 3) sc__law_text.nd rfl (Or.inl rfl) (pe_op (r := rPlus K) op_plus (pe_upperN (pe_ix (r := rIx K) ix_seq (pv 3) pe_int (fun _ _ => rfl))) (pe_slice (r := rSlU K) sl_any (pv 3) (po_some pe_int) po_none)))) pss_nil)
      (pss_cons (ps_if (pt_cmpR op_lt (pe_ix (r := rIx K) ix_seq (pv 1) pe_int (fun _ _ => rfl)) pe_int (nomark _)) (pss_one (ps_ret (pv 3))) pss_nil)
      (pss_cons (ps_set (i := 4) sc__law_text.nd rfl (Or.inl rfl) (pe_op op_mod (pe_callTy call_intU (by rfl) T.n_int PyProof.Rows.boot_int (pa_cons (pe_ix (r := rIx K) ix_seq (pv 1) pe_int (fun _ _ => rfl)) pa_nil)) (pe_op (r := rPlus K) op_plus (pe_callB (r := rLenU K) call_lenU (by rfl) T.n_len PySem.boot_len (pa_cons (pv 3) pa_nil)) pe_int)))
      (pss_cons (ps_if (pt_cmpR op_lt (pe_ix (r := rIx K) ix_seq (pv 1) pe_int (fun _ _ => rfl)) pe_int (nomark _)) (pss_one (ps_ret (pe_op (r := rPlus K) op_plus (pe_op (r := rPlus K) op_plus (pe_slice (r := rSlU K) sl_any (pv 3) po_none (po_some (pv 4))) (pe_call (ok__law_sign T) (hr.mono (by decide)) (by rfl) T.g__law_sign T.F__law_sign.kp T.b__law_sign .nil pass0 (pa_cons (pe_ix (r := rIx K) ix_seq (pv 1) pe_int (fun _ _ => rfl)) pa_nil))) (pe_slice (r := rSlU K) sl_any (pv 3) (po_some (pe_op (r := rPlus K) op_plus (pv 4) pe_int)) po_none)))) pss_nil)
      (pss_cons (ps_if (pt_cmpR op_lt (pe_ix (r := rIx K) ix_seq (pv 1) pe_int (fun _ _ => rfl)) pe_int (nomark _)) (pss_one (ps_ret (pe_op (r := rPlus K) op_plus (pe_op (r := rPlus K) op_plus (pe_slice (r := rSlU K) sl_any (pv 3) po_none (po_some (pv 4))) (pe_call (ok__law_sign T) (hr.mono (by decide)) (by rfl) T.g__law_sign T.F__law_sign.kp T.b__law_sign .nil pass0 (pa_cons (pe_ix (r := rIx K) ix_seq (pv 1) pe_int (fun _ _ => rfl)) pa_nil))) (pe_slice (r := rSlU K) sl_any (pv 3) (po_some (pv 4)) po_none)))) pss_nil)
      (pss_cons (ps_if (pt_cmpR op_eq (pe_ix (r := rIx K) ix_seq (pv 1) pe_int (fun _ _ => rfl)) pe_int (nomark _)) (pss_one (ps_ret (pe_op (r := rPlus K) op_plus (pe_slice (r := rSlU K) sl_any (pv 3) po_none (po_some (pv 4))) (pe_slice (r := rSlU K) sl_any (pv 3) (po_some (pe_op (r := rPlus K) op_plus (pv 4) pe_int)) po_none)))) pss_nil)
      (pss_cons (ps_if (pt_cmpR op_eq (pe_ix (r := rIx K) ix_seq (pv 1) pe_int (fun _ _ => rfl)) pe_int (nomark _)) (pss_one (ps_ret (pe_slice (r := rSlU K) sl_any (pe_op op_times (pv 3) pe_int) po_none (po_some (pe_op (r := rPlus K) op_plus pe_int (pe_op op_mod (pe_callTy call_intU (by rfl) T.n_int PyProof.Rows.boot_int (pa_cons (pe_ix (r := rIx K) ix_seq (pv 1) pe_int (fun _ _ => rfl)) pa_nil)) pe_int)))))) pss_nil)
      (pss_cons (ps_set (i := 5) sc__law_text.nd rfl (Or.inl rfl) (pe_ix (r := rIx K) ix_seq (pe_call0 (ok__law_words T) (hr.mono (by decide)) (by rfl) T.g__law_words T.F__law_words.kp T.b__law_words .nil pass0) (pe_ix (r := rIx K) ix_seq (pv 1) pe_int (fun _ _ => rfl)) (fun _ _ => rfl)))
      (pss_one (ps_ret (pe_ix (r := rIx K) ix_seq (pe_lst (pa_cons (pv 5) (pa_cons (pe_slice (r := rSlU K) sl_any (pv 5) po_none (po_some (pe_un un_neg pe_int))) (pa_cons (pe_op (r := rPlus K) op_plus (pv 5) (pe_ix (r := rIx K) ix_seq (pv 2) (pe_ix (r := rIx K) ix_seq (pv 1) pe_int (fun _ _ => rfl)) (fun _ _ => rfl))) (pa_cons (pe_op (r := rPlus K) op_plus (pe_upperN (pe_ix (r := rIx K) ix_seq (pv 5) pe_int (fun _ _ => rfl))) (pe_slice (r := rSlU K) sl_any (pv 5) (po_some pe_int) po_none)) pa_nil))))) (pe_op op_mod (pe_callTy call_intU (by rfl) T.n_int PyProof.Rows.boot_int (pa_cons (pe_ix (r := rIx K) ix_seq (pv 1) pe_int (fun _ _ => rfl)) pa_nil)) pe_int) (fun _ _ => rfl)))))))))))))))), ?_⟩
    repeat walk_at "s"
    intro p1 H1 n1 x1 e1
    repeat walk_at "s"
    refine ⟨by decide, by decide, ?_⟩
    refine' b_rng (fun _ y => y = .int 95) ?hn (fun x => ?hw) ?hb ?hk
    case hn => decide
    case hw => rfl
    case hb =>
      intro i H' hi x R hR
      repeat walk_at "s"
      exact hR _ _ (xrefl _) rfl
    case hk =>
      intro D ys H2 hD hl hP x2 e2
      have ey := list_const hl hP
      subst ey
      repeat walk_at "s"
      refine v_plus_lst (x2 _ _ e1) e2 (by decide) fun p3 H3 n3 x3 e3 => ?_
      repeat walk_at "s"
      refine ⟨c, p3, [18, 13, 9, 12, 95, 26, 25, 95, 95, 95, 95, 95, 95, 95, 95, 95, 95, 95, 95], rfl, sql e3, by decide, by decide, fun p4 H4 ds x4 e4 hd => ?_⟩
      obtain ⟨d0, g0, a0, b0⟩ := hd.get 0 (0 : Int) rfl rfl
      obtain ⟨d1, g1, a1, b1⟩ := hd.get 1 (1 : Int) rfl rfl
      obtain ⟨d2, g2, a2, b2⟩ := hd.get 2 (2 : Int) rfl rfl
      obtain ⟨d3, g3, a3, b3⟩ := hd.get 3 (3 : Int) rfl rfl
      obtain ⟨d4, g4, a4, b4⟩ := hd.get 4 (4 : Int) rfl rfl
      obtain ⟨d5, g5, a5, b5⟩ := hd.get 5 (5 : Int) rfl rfl
      obtain ⟨d6, g6, a6, b6⟩ := hd.get 6 (6 : Int) rfl rfl
      obtain ⟨c5, h5, _⟩ := atI_ok (l := smallS.cps.toList) a5 (by rw [smallS_len]; omega)
      have dl : (ds.map V.int).length = 19 := by rw [List.length_map, hd.1]; rfl
      have dint : ∀ (lo hi : Option Int) (i : Nat) (x : V), (cutV (ds.map V.int) lo hi)[i]? = some x → ∃ n, x = .int n := fun lo hi i x h => by
        obtain ⟨n, _, e⟩ := List.mem_map.mp (cutV_mem (List.mem_of_getElem? h))
        exact ⟨n, e.symm⟩
      have x04 := xtr x1 (xtr x2 (xtr x3 x4))
      repeat walk_at "s"
      refine k_if (fun hc1 => ?_) (fun hc1 => ?_)
      · repeat walk_at "s"
        refine v_sl_l (sql e4) fun p5 H5 n5 x5 e5 => ?_
        repeat walk_at "s"
        refine ⟨⟨_, sql e5⟩, ?_⟩
        have cl := cutV_length (ds.map V.int) (some 7) (some (7 + d1))
        refine' b_lst (fun _ y => ∃ c : Nat, y = .str ⟨#[c]⟩) (sql e5) ?hn (fun x => ?hw) ?hb ?hk
        case hn => omega
        case hw => rfl
        case hb =>
          intro i x H' hx xx R hR
          obtain ⟨n, rfl⟩ := dint _ _ _ _ hx
          repeat walk_at "s"
          exact ⟨_, rfl, fun ci => hR _ _ (xrefl _) ⟨ci, rfl⟩⟩
        case hk =>
          intro D2 ys H6 hD2 hl2 hP2 x6 e6
          exact v_joinC e6 hP2 (by omega) fun z hz => q z H6 (by omega) (xtr x04 (xtr x5 x6))
      · repeat walk_at "s"
        refine v_ix_s (by decide) h5 ?_
        repeat walk_at "s"
        refine v_sl_l (sql e4) fun p5 H5 n5 x5 e5 => ?_
        repeat walk_at "s"
        refine ⟨⟨_, sql e5⟩, ?_⟩
        have cl := cutV_length (ds.map V.int) (some 7) (some (7 + d2))
        refine' b_lst (fun _ y => ∃ c : Nat, y = .str ⟨#[c]⟩) (sql e5) ?hn (fun x => ?hw) ?hb ?hk
        case hn => omega
        case hw => rfl
        case hb =>
          intro i x H' hx xx R hR
          obtain ⟨n, rfl⟩ := dint _ _ _ _ hx
          obtain ⟨ci, hci⟩ := atI_mod (l := smallS.cps.toList) (i := n) (by rw [smallS_len]; decide)
          rw [smallS_len] at hci
          repeat walk_at "s"
          exact v_ix_s (by decide) hci (hR _ _ (xrefl _) ⟨ci, rfl⟩)
        case hk =>
          intro D2 ys H6 hD2 hl2 hP2 x6 e6
          refine v_joinC e6 hP2 (by omega) fun z hz => ?_
          have hz2 : z.length ≤ 19 := by omega
          have e46 := x6 _ _ (x5 _ _ e4)
          have x06 := xtr x04 (xtr x5 x6)
          have hg : 1 ≤ (({ cps := #[c5] } : Str) ++ z).length := by rw [len_app, len_one]; omega
          obtain ⟨c0, r0, _, h0⟩ := head_of hg
          repeat walk_at "s"
          refine k_cut (fun σ' H' => ∃ g : Str, σ' = [some (.int c), some (.ref p4), some (.str smallS), some (.str g), none, none, none, none] ∧ g.length ≤ 30 ∧ H' = H6) ?_ ?_
          · repeat walk_at "s"
            refine k_if (fun hc => ?_) (fun hc => ?_)
            · repeat walk_at "s"
              refine v_ix_s (szle (Nat.le_trans (by walk_at "lb") (by omega))) h0 ?_
              repeat walk_at "s"
              exact ⟨Nat.le_trans (by walk_at "lb") (by omega), rfl⟩
            · repeat walk_at "s"
              exact ⟨Nat.le_trans (by walk_at "lb") (by omega), rfl⟩
          · rintro σ' H' ⟨g, rfl, hg2, rfl⟩
            repeat walk_at "s"
            refine k_if (fun hc2 => ?_) (fun hc2 => ?_)
            · repeat walk_at "s"
              exact q g _ (by omega) x06
            · repeat walk_at "s"
              refine k_if (fun hc3 => ?_) (fun hc3 => ?_)
              · repeat walk_at "s"
                refine ⟨_, rfl, fun ck => ?_⟩
                repeat walk_at "s"
                exact q _ _ (Nat.le_trans (by walk_at "lb") (by omega)) x06
              · repeat walk_at "s"
                refine k_if (fun hc4 => ?_) (fun hc4 => ?_)
                · repeat walk_at "s"
                  refine ⟨_, rfl, fun ck => ?_⟩
                  repeat walk_at "s"
                  exact q _ _ (Nat.le_trans (by walk_at "lb") (by omega)) x06
                · repeat walk_at "s"
                  refine k_if (fun hc5 => ?_) (fun hc5 => ?_)
                  · repeat walk_at "s"
                    exact q _ _ (Nat.le_trans (by walk_at "lb") (by omega)) x06
                  · repeat walk_at "s"
                    refine k_if (fun hc6 => ?_) (fun hc6 => ?_)
                    · repeat walk_at "s"
                      intro w60 hw60
                      have hw61 : w60.length ≤ 1800 := by rw [hw60]; exact Nat.mul_le_mul hg2 (by decide : Int.toNat 60 ≤ 60)
                      repeat walk_at "s"
                      exact q _ _ (Nat.le_trans (by walk_at "lb") (by omega)) x06
                    · repeat walk_at "s"
                      refine ⟨rfl, fun p7 H7 x7 e7 => ?_⟩
                      have e47 := x7 _ _ e46
                      obtain ⟨wv, hw, _⟩ := atI_ok (l := W13 ++ W12) a6 (by show d6 < 25; omega)
                      obtain ⟨wd, rfl, hw1, hw2⟩ := words_ok _ (atI_mem hw)
                      obtain ⟨cw, rw_, _, hcw⟩ := head_of hw1
                      repeat walk_at "s"
                      refine v_ix_s (by decide) h5 ?_
                      repeat walk_at "s"
                      refine v_ix_s (szle (by omega)) hcw ?_
                      repeat walk_at "s"
                      intro p8 H8 n8 x8 e8
                      have e48 := x8 _ _ e47
                      obtain ⟨vv, hv⟩ := atI_mod (l := [V.str wd, V.str (cutS wd none (some (-1))), V.str (wd ++ { cps := #[c5] }), V.str (Txt.upper { cps := #[cw] } ++ cutS wd (some 1) none)]) (i := d0) (Nat.succ_pos _)
                      repeat walk_at "s"
                      have hm := atI_mem hv
                      simp only [List.mem_cons, List.not_mem_nil, or_false] at hm
                      rcases hm with rfl | rfl | rfl | rfl
                      all_goals exact q _ _ (Nat.le_trans (by walk_at "lb") (by omega)) (xtr x06 (xtr x7 x8))

theorem ok__law_each_sign (T : Top K mg) : FnOk P w K mg base CX0 2 T.f__law_each_sign T.fd__law_each_sign ["cell"] (sp__law_each_sign K) := by
  refine T.F__law_each_sign.ok sc__law_each_sign (fun vs H Q E h => ?_) (fun cdv A outer s H vs Q E hr h => ?_)
  · obtain ⟨c, rfl, q⟩ := h
    rfl
  · obtain ⟨c, rfl, q⟩ := h
    refine ⟨_, (pss_cons (ps_set (i := 1) sc__law_each_sign.nd rfl (Or.inl rfl) (pe_call (ok__law_digits T) (hr.mono (by decide)) (by rfl) T.g__law_digits T.F__law_digits.kp T.b__law_digits .nil pass0 (pa_cons (pv 0) (pa_cons (pe_op (r := rPlus K) op_plus (pe_lst (pa_cons pe_int (pa_cons pe_int (pa_cons pe_int (pa_cons pe_int pa_nil))))) (pe_lc (own := [("k", 5)]) (g := gName 5) rfl sc__law_each_sign.nd (pi_range1 (by rfl) T.n_range (pa_cons pe_int pa_nil)) (blkOk_by (N := N__law_each_sign) (sc := defScope s__law_each_sign) (by decide +kernel)) (fun _ _ _ _ _ => pg_name (i := 5) sc__law_each_sign.nd rfl (Or.inl rfl)) (fun _ _ _ _ _ => pts_nil) (fun _ _ _ _ _ => pe_int))) pa_nil))))
      (pss_cons (ps_set (i := 2) sc__law_each_sign.nd rfl (Or.inr rfl) pe_str)
      (pss_cons (ps_set (i := 3) sc__law_each_sign.nd rfl (Or.inr rfl) (pe_op (r := rPlus K) op_plus (pe_ix (r := rIx K) ix_seq (pv 2) (pe_ix (r := rIx K) ix_seq (pv 1) pe_int (fun _ _ => rfl)) (fun _ _ => rfl)) (pe_joinN pe_str (pe_lc (own := [("digit", 6)]) (g := gName 6) rfl sc__law_each_sign.nd (pi_list (pe_slice (r := rSlU K) sl_any (pv 1) (po_some pe_int) (po_some (pe_op (r := rPlus K) op_plus pe_int (pe_ix (r := rIx K) ix_seq (pv 1) pe_int (fun _ _ => rfl)))))) (blkOk_by (N := N__law_each_sign) (sc := defScope s__law_each_sign) (by decide +kernel)) (fun _ _ _ _ _ => pg_name (i := 6) sc__law_each_sign.nd rfl (Or.inl rfl)) (fun _ _ _ _ _ => pts_nil) (fun _ _ _ _ _ => (pe_ix (r := rIx K) ix_seq (pv 2) (pv 6) (fun _ _ => rfl)))))))
      (Evl.pss_cut (ps_if (pt_cmpR op_eq (pe_ix (r := rIx K) ix_seq (pv 1) pe_int (fun _ _ => rfl)) pe_int (nomark _)) (pss_one (ps_set (i := 3) sc__law_each_sign.nd rfl (Or.inr rfl) (pe_op (r := rPlus K) op_plus (pe_upperN (pe_ix (r := rIx K) ix_seq (pv 3) pe_int (fun _ _ => rfl))) (pe_slice (r := rSlU K) sl_any (pv 3) (po_some pe_int) po_none)))) pss_nil)
      (pss_cons (ps_set (i := 4) sc__law_each_sign.nd rfl (Or.inr rfl) (pe_op op_mod (pe_callTy call_intU (by rfl) T.n_int PyProof.Rows.boot_int (pa_cons (pe_ix (r := rIx K) ix_seq (pv 1) pe_int (fun _ _ => rfl)) pa_nil)) (pe_op (r := rPlus K) op_plus (pe_callB (r := rLenU K) call_lenU (by rfl) T.n_len PySem.boot_len (pa_cons (pv 3) pa_nil)) pe_int)))
      (pss_one (ps_ret (pe_lc (own := [("k", 5)]) (g := gName 5) rfl sc__law_each_sign.nd (pi_range1 (by rfl) T.n_range (pa_cons pe_int pa_nil)) (blkOk_by (N := N__law_each_sign) (sc := defScope s__law_each_sign) (by decide +kernel)) (fun _ _ _ _ _ => pg_name (i := 5) sc__law_each_sign.nd rfl (Or.inl rfl)) (fun _ _ _ _ _ => pts_nil) (fun _ _ _ _ _ => (pe_op (r := rPlus K) op_plus (pe_op (r := rPlus K) op_plus (pe_slice (r := rSlU K) sl_any (pv 3) po_none (po_some (pv 4))) (pe_call (ok__law_sign T) (hr.mono (by decide)) (by rfl) T.g__law_sign T.F__law_sign.kp T.b__law_sign .nil pass0 (pa_cons (pv 5) pa_nil))) (pe_slice (r := rSlU K) sl_any (pv 3) (po_some (pv 4)) po_none))))))))))), ?_⟩
    repeat walk_at "s"
    intro p1 H1 n1 x1 e1
    repeat walk_at "s"
    refine ⟨by decide, by decide, ?_⟩
    refine' b_rng (fun _ y => y = .int 36) ?hn (fun x => ?hw) ?hb ?hk
    case hn => decide
    case hw => rfl
    case hb =>
      intro i H' hi x R hR
      repeat walk_at "s"
      exact hR _ _ (xrefl _) rfl
    case hk =>
      intro D ys H2 hD hl hP x2 e2
      have ey := list_const hl hP
      subst ey
      repeat walk_at "s"
      refine v_plus_lst (x2 _ _ e1) e2 (by decide) fun p3 H3 n3 x3 e3 => ?_
      repeat walk_at "s"
      refine ⟨c, p3, [7, 8, 2, 26, 36, 36, 36, 36, 36, 36], rfl, sql e3, by decide, by decide, fun p4 H4 ds x4 e4 hd => ?_⟩
      obtain ⟨d0, g0, a0, b0⟩ := hd.get 0 (0 : Int) rfl rfl
      obtain ⟨d1, g1, a1, b1⟩ := hd.get 1 (1 : Int) rfl rfl
      obtain ⟨d2, g2, a2, b2⟩ := hd.get 2 (2 : Int) rfl rfl
      obtain ⟨d3, g3, a3, b3⟩ := hd.get 3 (3 : Int) rfl rfl
      obtain ⟨c3, h3, _⟩ := atI_ok (l := smallS.cps.toList) a3 (by rw [smallS_len]; omega)
      have dl : (ds.map V.int).length = 10 := by rw [List.length_map, hd.1]; rfl
      repeat walk_at "s"
      refine v_ix_s (by decide) h3 ?_
      repeat walk_at "s"
      refine v_sl_l (sql e4) fun p5 H5 n5 x5 e5 => ?_
      repeat walk_at "s"
      refine ⟨⟨_, sql e5⟩, ?_⟩
      have cl := cutV_length (ds.map V.int) (some 4) (some (4 + d0))
      refine' b_lst (fun _ y => ∃ c : Nat, y = .str ⟨#[c]⟩) (sql e5) ?hn (fun x => ?hw) ?hb ?hk
      case hn => omega
      case hw => rfl
      case hb =>
        intro i x H' hx xx R hR
        have hx2 := cutV_at (k := 4) (by omega) hx
        obtain ⟨n, rfl, hn⟩ := map_int_at hx2
        obtain ⟨t, ht, hn0, hn1⟩ := hd.at hn
        have := each36 _ t (by omega) ht
        subst this
        obtain ⟨ci, hci, _⟩ := atI_ok (l := smallS.cps.toList) hn0 (by rw [smallS_len]; omega)
        repeat walk_at "s"
        exact v_ix_s (by decide) hci (hR _ _ (xrefl _) ⟨ci, rfl⟩)
      case hk =>
        intro D2 ys H6 hD2 hl2 hP2 x6 e6
        refine v_joinC e6 hP2 (by omega) fun z hz => ?_
        have hz2 : z.length ≤ 10 := by omega
        repeat walk_at "s"
        have e46 := x6 _ _ (x5 _ _ e4)
        have hg : 1 ≤ (({ cps := #[c3] } : Str) ++ z).length := by rw [len_app, len_one]; omega
        obtain ⟨c0, r0, _, h0⟩ := head_of hg
        refine k_cut (fun σ' H' => ∃ g : Str, σ' = [some (.int c), some (.ref p4), some (.str smallS), some (.str g), none, none, none] ∧ g.length ≤ 300 ∧ Xt H6 H') ?_ ?_
        · repeat walk_at "s"
          refine k_if (fun hc => ?_) (fun hc => ?_)
          · repeat walk_at "s"
            refine v_ix_s (szle (Nat.le_trans (by walk_at "lb") (by omega))) h0 ?_
            repeat walk_at "s"
            exact ⟨Nat.le_trans (by walk_at "lb") (by omega), xrefl _⟩
          · repeat walk_at "s"
            exact ⟨Nat.le_trans (by walk_at "lb") (by omega), xrefl _⟩
        · rintro σ' H' ⟨g, rfl, hg2, xg⟩
          have e4g := xg _ _ e46
          repeat walk_at "s"
          refine ⟨by decide, by decide, ?_⟩
          refine' b_rng (fun _ y => ∃ z : Str, y = .str z ∧ z.length ≤ 3000) ?hn (fun x => ?hw) ?hb ?hk
          case hn => decide
          case hw => rfl
          case hb =>
            intro i H' hi x R hR
            repeat walk_at "s"
            refine ⟨_, rfl, fun ck => ?_⟩
            repeat walk_at "s"
            exact hR _ _ (xrefl _) ⟨_, rfl, Nat.le_trans (by walk_at "lb") (by omega)⟩
          case hk =>
            intro D3 ys3 H7 hD3 hl3 hP3 x7 e7
            exact q D3 H7 ys3 (xtr x1 (xtr x2 (xtr x3 (xtr x4 (xtr x5 (xtr x6 (xtr xg x7))))))) e7 hl3 (allS_of hP3)

theorem ok__law_is_name (T : Top K mg) : FnOk P w K mg base CX0 2 T.f__law_is_name T.fd__law_is_name ["text"] (sp__law_is_name K) := by
  refine T.F__law_is_name.ok sc__law_is_name (fun vs H Q E h => ?_) (fun cdv A outer s H vs Q E hr h => ?_)
  · obtain ⟨z, rfl, hz, q⟩ := h
    rfl
  · obtain ⟨z, rfl, hz, q⟩ := h
    refine ⟨_, (pss_cons (ps_if (PW.pt (pw_or (pt_not (pt_val (pe_call (ok__law_plain T) (hr.mono (by decide)) (by rfl) T.g__law_plain T.F__law_plain.kp T.b__law_plain .nil pass0 (pa_cons (pv 0) pa_nil)))) (pw_or1 (pt_cmpR (r := rInU K) op_inU (pv 0) (pe_slice (r := rSlU K) sl_any (pe_call0 (ok__law_words T) (hr.mono (by decide)) (by rfl) T.g__law_words T.F__law_words.kp T.b__law_words .nil pass0) po_none (po_some pe_int)) (by with_unfolding_all rfl))))) (pss_one (ps_ret pe_bl)) pss_nil)
      (pss_one (ps_ret (pe_cmpR (r := rInU K) op_inU (pe_ix (r := rIx K) ix_seq (pv 0) pe_int (fun _ _ => rfl)) pe_str (by with_unfolding_all rfl))))), ?_⟩
    repeat walk_at "s"
    refine ⟨z, rfl, hz, fun H1 x1 => ?_⟩
    repeat walk_at "s"
    refine k_ifb (fun hp => ?_) (fun hp => ?_)
    · have hp2 : plainF z = false := by
        cases e : plainF z with
        | true => rw [e] at hp; cases hp
        | false => rfl
      repeat walk_at "s"
      have en : nameF z = false := by unfold nameF; rw [hp2]; rfl
      rw [← en]
      exact q H1 x1
    · have hp2 : plainF z = true := by
        cases e : plainF z with
        | true => rfl
        | false => rw [e] at hp; cases hp
      have hl := plain_len hp2
      obtain ⟨c, r, ez, ec⟩ := head_of hl.1
      have eh : headIn z letL = decide (c ∈ letL) := by unfold headIn; rw [ez]
      have en : nameF z = (decide (c ∈ letL) && !inV (.str z) W13) := by unfold nameF; rw [hp2, eh]; rfl
      repeat walk_at "s"
      refine ⟨rfl, fun p2 H2 x2 e2 => ?_⟩
      repeat walk_at "s"
      refine v_sl_l (sql e2) fun p3 H3 n3 x3 e3 => ?_
      have ew : cutV (W13 ++ W12) none (some 13) = W13 := by decide +kernel
      rw [ew] at e3
      refine v_in_q (.inl (sql e3)) rfl (by decide +kernel) ?_
      repeat walk_at "s"
      refine k_ifb (fun h1 => ?_) (fun h1 => ?_)
      · repeat walk_at "s"
        rw [h1] at en
        rw [show false = nameF z by rw [en]; cases decide (c ∈ letL) <;> rfl]
        exact q H3 (xtr x1 (xtr x2 x3))
      · repeat walk_at "s"
        refine v_ix_s (szle (by omega)) ec ?_
        repeat walk_at "s"
        rw [h1] at en
        rw [show decide (c ∈ (Str.ofString "abcdefghijklmnopqrstuvwxyz").cps.toList) = nameF z by rw [en]; exact (Bool.and_true _).symm]
        exact q H3 (xtr x1 (xtr x2 x3))

theorem ok__law_is_variable_name (T : Top K mg) : FnOk P w K mg base CX0 2 T.f__law_is_variable_name T.fd__law_is_variable_name ["text"] (sp__law_is_variable_name K) := by
  refine T.F__law_is_variable_name.ok sc__law_is_variable_name (fun vs H Q E h => ?_) (fun cdv A outer s H vs Q E hr h => ?_)
  · obtain ⟨z, rfl, hz, q⟩ := h
    rfl
  · obtain ⟨z, rfl, hz, q⟩ := h
    refine ⟨_, (pss_one (ps_ret (pe_and (pe_call (ok__law_plain T) (hr.mono (by decide)) (by rfl) T.g__law_plain T.F__law_plain.kp T.b__law_plain .nil pass0 (pa_cons (pv 0) pa_nil)) (pe_one (pe_cmpR (r := rInU K) op_inU (pe_ix (r := rIx K) ix_seq (pv 0) pe_int (fun _ _ => rfl)) pe_str (by with_unfolding_all rfl)))))), ?_⟩
    repeat walk_at "s"
    refine ⟨z, rfl, hz, fun H1 x1 => ?_⟩
    repeat walk_at "s"
    refine k_ifb (fun hp => ?_) (fun hp => ?_)
    · have hl := plain_len hp
      obtain ⟨c, r, ez, ec⟩ := head_of hl.1
      have eh : headIn z capL = decide (c ∈ capL) := by unfold headIn; rw [ez]
      have en : varF z = decide (c ∈ capL) := by unfold varF; rw [hp, eh]; rfl
      repeat walk_at "s"
      refine v_ix_s (szle (by omega)) ec ?_
      repeat walk_at "s"
      rw [show decide (c ∈ (Str.ofString "ABCDEFGHIJKLMNOPQRSTUVWXYZ").cps.toList) = varF z from en.symm]
      exact q H1 x1
    · have en : varF z = false := by unfold varF; rw [hp]; rfl
      rw [← en]
      exact q H1 x1

theorem ok__law_asked (T : Top K mg) : FnOk P w K mg base CX0 3 T.f__law_asked T.fd__law_asked ["text"] (sp__law_asked K) := by
  refine T.F__law_asked.ok sc__law_asked (fun vs H Q E h => ?_) (fun cdv A outer s H vs Q E hr h => ?_)
  · obtain ⟨z, rfl, hz, q⟩ := h
    rfl
  · obtain ⟨z, rfl, hz, q⟩ := h
    refine ⟨_, (pss_cons (ps_set (i := 1) sc__law_asked.nd rfl (Or.inl rfl) (pe_call (ok_is_name T) (hr.mono (by decide)) (by rfl) T.g_is_name T.F_is_name.kp T.b_is_name .nil pass0 (pa_cons (pv 0) pa_nil)))
      (pss_cons (ps_set (i := 2) sc__law_asked.nd rfl (Or.inl rfl) (pe_call (ok_is_variable_name T) (hr.mono (by decide)) (by rfl) T.g_is_variable_name T.F_is_variable_name.kp T.b_is_variable_name .nil pass0 (pa_cons (pv 0) pa_nil)))
      (pss_cons (ps_if (PW.pt (pw_or (pt_not (pt_val (pe_callB (r := rIsi K) call_isi (by rfl) T.n_isinstance PyProof.Rows.boot_isinstance (pa_cons (pv 1) (pa_cons (pe_bltn (v := .ty "bool") (by rfl) T.n_bool (by decide +kernel) rfl) pa_nil))))) (pw_or1 (pt_not (pt_val (pe_callB (r := rIsi K) call_isi (by rfl) T.n_isinstance PyProof.Rows.boot_isinstance (pa_cons (pv 2) (pa_cons (pe_bltn (v := .ty "bool") (by rfl) T.n_bool (by decide +kernel) rfl) pa_nil)))))))) (pss_one (ps_ret pe_bl)) pss_nil)
      (pss_cons (ps_if (PW.pt (pw_or (pt_cmpR op_ne (pe_callN0 (ok_is_name T) (hr.mono (by decide)) (by rfl) T.g_is_name T.F_is_name.kp T.kb_is_name pass0 (pk_cons (pv 0) pk_nil)) (pv 1) (nomark _)) (pw_or1 (pt_cmpR op_ne (pe_callN0 (ok_is_variable_name T) (hr.mono (by decide)) (by rfl) T.g_is_variable_name T.F_is_variable_name.kp T.kb_is_variable_name pass0 (pk_cons (pv 0) pk_nil)) (pv 2) (nomark _))))) (pss_one (ps_ret pe_bl)) pss_nil)
      (pss_one (ps_ret (pe_and (pe_cmpR op_eq (pv 1) (pe_call (ok__law_is_name T) (hr.mono (by decide)) (by rfl) T.g__law_is_name T.F__law_is_name.kp T.b__law_is_name .nil pass0 (pa_cons (pv 0) pa_nil)) (nomark _)) (pe_one (pe_cmpR op_eq (pv 2) (pe_call (ok__law_is_variable_name T) (hr.mono (by decide)) (by rfl) T.g__law_is_variable_name T.F__law_is_variable_name.kp T.b__law_is_variable_name .nil pass0 (pa_cons (pv 0) pa_nil)) (nomark _)))))))))), ?_⟩
    repeat walk_at "s"
    refine ⟨z, rfl, hz, fun H1 x1 => ?_⟩
    repeat walk_at "s"
    refine ⟨z, rfl, hz, fun H2 x2 => ?_⟩
    repeat walk_at "s"
    refine ⟨z, rfl, hz, fun H3 x3 => ?_⟩
    repeat walk_at "s"
    rw [decide_eq_true rfl]
    repeat walk_at "s"
    refine ⟨z, rfl, hz, fun H4 x4 => ?_⟩
    repeat walk_at "s"
    rw [decide_eq_true rfl]
    repeat walk_at "s"
    refine ⟨z, rfl, hz, fun H5 x5 => ?_⟩
    repeat walk_at "s"
    rw [decide_eq_true rfl]
    repeat walk_at "s"
    refine ⟨z, rfl, hz, fun H6 x6 => ?_⟩
    repeat walk_at "s"
    rw [decide_eq_true rfl]
    exact q H6 (xtr x1 (xtr x2 (xtr x3 (xtr x4 (xtr x5 x6)))))

theorem ok_law (T : Top K mg) : FnOk P w K mg base CX0 4 T.f_law T.fd_law ["script"] (sp_law K) := by
  refine T.F_law.ok sc_law (fun vs H Q E h => ?_) (fun cdv A outer s H vs Q E hr h => ?_)
  · obtain ⟨a, ns, rfl, hS, hn, q⟩ := h
    rfl
  · obtain ⟨a, ns, rfl, hS, hn, q⟩ := h
    refine ⟨_, (pss_cons (ps_setLc (i := 1) (own := [("k", 3)]) (g := gName 3) rfl sc_law.nd rfl rfl (sw_true rfl rfl rfl (by decide +kernel)) (pi_range2 (by rfl) T.n_range (pa_cons pe_int (pa_cons (pe_op (r := rPlus K) op_plus pe_int (pe_op op_mod (pe_callTy call_intU (by rfl) T.n_int PyProof.Rows.boot_int (pa_cons (pe_call (ok__law_cell T) (hr.mono (by decide)) (by rfl) T.g__law_cell T.F__law_cell.kp T.b__law_cell .nil pass0 (pa_cons (pv 0) (pa_cons pe_int pa_nil))) pa_nil)) pe_int)) pa_nil))) (blkOk_by (N := N_law) (sc := defScope s_law) (by decide +kernel)) (fun _ _ _ _ _ => pg_name (i := 3) sc_law.nd rfl (Or.inl rfl)) (fun _ _ _ _ _ => pts_nil) (fun _ _ _ _ _ => (pe_call (ok__law_text T) (hr.mono (by decide)) (by rfl) T.g__law_text T.F__law_text.kp T.b__law_text .nil pass0 (pa_cons (pe_call (ok__law_cell T) (hr.mono (by decide)) (by rfl) T.g__law_cell T.F__law_cell.kp T.b__law_cell .nil pass0 (pa_cons (pv 0) (pa_cons (pv 3) pa_nil))) pa_nil))))
      (pss_cons (ps_set (i := 1) sc_law.nd rfl (Or.inl rfl) (pe_op (r := rPlus K) op_plus (pe_op (r := rPlus K) op_plus (pv 1) (pe_lst (pa_cons pe_str (pa_cons (pe_slice (r := rSlU K) sl_any (pe_ix (r := rIx K) ix_seq (pv 1) pe_int (fun _ _ => rfl)) po_none (po_some pe_int)) pa_nil)))) (pe_call (ok__law_each_sign T) (hr.mono (by decide)) (by rfl) T.g__law_each_sign T.F__law_each_sign.kp T.b__law_each_sign .nil pass0 (pa_cons (pe_call (ok__law_cell T) (hr.mono (by decide)) (by rfl) T.g__law_cell T.F__law_cell.kp T.b__law_cell .nil pass0 (pa_cons (pv 0) (pa_cons pe_int pa_nil))) pa_nil))))
      (pss_cons (ps_for PassesOwn.never rfl (pi_list (pe_op (r := rPlus K) op_plus (pv 1) (pe_revL (pv 1)))) (pg_name (i := 2) sc_law.nd rfl (Or.inl rfl)) (pss_one (ps_if (pt_not (pt_val (pe_call (ok__law_asked T) (hr.mono (by decide)) (by rfl) T.g__law_asked T.F__law_asked.kp T.b__law_asked .nil pass0 (pa_cons (pv 2) pa_nil)))) (pss_one (ps_ret pe_bl)) pss_nil)))
      (pss_one (ps_ret pe_bl))))), ?_⟩
    repeat walk_at "s"
    refine ⟨a, ns, 0, rfl, hS, hn, by omega, fun v0 => ?_⟩
    repeat walk_at "s"
    refine ⟨_, _, rfl, by omega, ?_⟩
    refine' b_rng (fun _ y => ∃ z : Str, y = .str z ∧ z.length ≤ 3000) ?hn (fun x => ?hw) ?hb ?hk
    case hn => omega
    case hw => rfl
    case hb =>
      intro i H' hi x R hR
      repeat walk_at "s"
      refine ⟨a, ns, _, rfl, xl x hS, hn, by omega, fun v => ?_⟩
      repeat walk_at "s"
      exact ⟨_, rfl, fun z H2 hz x2 => hR _ _ x2 ⟨z, rfl, hz⟩⟩
    case hk =>
      intro D ys H2 hD hl hP x2 e2
      have hy := allS_of hP
      obtain ⟨y0, r0, rfl⟩ : ∃ y r, ys = y :: r := by
        cases ys with
        | nil => rw [List.length_nil] at hl; omega
        | cons y r => exact ⟨y, r, rfl⟩
      obtain ⟨z0, rfl, hz0⟩ := hy y0 List.mem_cons_self
      repeat walk_at "s"
      refine v_ix_l (sql e2) (atI_nat (j := 0) rfl) ?_
      repeat walk_at "s"
      intro p3 H3 n3 x3 e3
      refine v_plus_lst (x3 _ _ e2) e3 (by simp only [List.length_cons, List.length_nil]; exact szle (by rw [List.length_cons] at hl; omega)) fun p4 H4 n4 x4 e4 => ?_
      repeat walk_at "s"
      refine ⟨a, ns, 41, rfl, xl (xtr x2 (xtr x3 x4)) hS, hn, by omega, fun v1 => ?_⟩
      repeat walk_at "s"
      refine ⟨_, rfl, fun p5 H5 zs x5 e5 hz5 hz6 => ?_⟩
      refine v_plus_lst (x5 _ _ e4) e5 (by simp only [List.length_append, List.length_cons, List.length_nil]; exact szle (by rw [List.length_cons] at hl; omega)) fun p6 H6 n6 x6 e6 => ?_
      have hall : AllS 3000 (V.str z0 :: r0 ++ [V.str (Str.ofString ""), V.str (cutS z0 none (some 1))] ++ zs) := by
        intro y hy2
        rcases List.mem_append.mp hy2 with hy2 | hy2
        · rcases List.mem_append.mp hy2 with hy2 | hy2
          · exact hy y hy2
          · simp only [List.mem_cons, List.not_mem_nil, or_false] at hy2
            rcases hy2 with rfl | rfl
            · exact ⟨_, rfl, by decide⟩
            · exact ⟨_, rfl, Nat.le_trans (by walk_at "lb") hz0⟩
        · exact hz6 y hy2
      have hlen : (V.str z0 :: r0 ++ [V.str (Str.ofString ""), V.str (cutS z0 none (some 1))] ++ zs).length ≤ 200 := by
        simp only [List.length_append, List.length_cons, List.length_nil]
        rw [List.length_cons] at hl
        omega
      generalize V.str z0 :: r0 ++ [V.str (Str.ofString ""), V.str (cutS z0 none (some 1))] ++ zs = ts at e6 hall hlen
      repeat walk_at "s"
      refine v_rev (sql e6) fun p7 H7 n7 x7 e7 => ?_
      refine v_plus_lst (x7 _ _ e6) e7 (by rw [List.length_reverse]; exact szle (by omega)) fun p8 H8 n8 x8 e8 => ?_
      repeat walk_at "s"
      refine ⟨⟨_, sql e8⟩, for_list (xs := ts ++ ts.reverse) (fun i σ' H' => (∃ y, σ' = [some (.ref a), some (.ref p6), y, none]) ∧ Xt H8 H') ⟨⟨none, rfl⟩, xrefl _⟩ ?_ ?_ ?_⟩
      · rintro i σ' H' hi ⟨_, x9⟩
        exact xl x9 (sql e8)
      · rintro i x σ' H' hx ⟨⟨y, rfl⟩, x9⟩
        obtain ⟨z, rfl, hz⟩ : ∃ z : Str, x = .str z ∧ z.length ≤ 3000 := by
          have hm := List.mem_of_getElem? hx
          rcases List.mem_append.mp hm with hm | hm
          · exact hall x hm
          · exact hall x (List.mem_reverse.mp hm)
        repeat walk_at "s"
        refine ⟨z, rfl, hz, fun H9 x10 => ?_⟩
        repeat walk_at "s"
        exact ⟨⟨_, rfl⟩, xtr x9 x10⟩
      · rintro σ' H' ⟨⟨y, rfl⟩, x9⟩
        repeat walk_at "s"
        exact q _

end
theorem all_mk {l : PySem.W.OpenLaw} {w : World} {K : PySem.W.Frag} {h : Heap} {mg : Str → Option Value} {fa : Addr} (X : K.In h) (G : h.Ns mainGlobals mg) (hfa : mg "law" = some (.ref fa))
    {od0 an0 : Option Addr} {sl0 : Array (Option Value)} {oc0 kV0 dc0 pm0 cd0 ct0 : Value} {f0 : Addr}
    (a0 : PySem.W.nsIn K mainGlobals "is_name" = some (some (.ref f0))) (l0 : K.lookup f0 = some ⟨oc0, od0, .func (PySem.W.fnOf "is_name" "is_name" (defArgs s_is_name) (defBody s_is_name) (defScope s_is_name) .none kV0 dc0 pm0 an0 cd0 ct0), sl0⟩) (c0 : PySem.W.codeIn K cd0 "is_name" = true) (k0 : PySem.W.keepIn K (.ref f0) = true)
    {od1 an1 : Option Addr} {sl1 : Array (Option Value)} {oc1 kV1 dc1 pm1 cd1 ct1 : Value} {f1 : Addr}
    (a1 : PySem.W.nsIn K mainGlobals "is_variable_name" = some (some (.ref f1))) (l1 : K.lookup f1 = some ⟨oc1, od1, .func (PySem.W.fnOf "is_variable_name" "is_variable_name" (defArgs s_is_variable_name) (defBody s_is_variable_name) (defScope s_is_variable_name) .none kV1 dc1 pm1 an1 cd1 ct1), sl1⟩) (c1 : PySem.W.codeIn K cd1 "is_variable_name" = true) (k1 : PySem.W.keepIn K (.ref f1) = true)
    {od2 an2 : Option Addr} {sl2 : Array (Option Value)} {oc2 kV2 dc2 pm2 cd2 ct2 : Value} {f2 : Addr}
    (a2 : PySem.W.nsIn K mainGlobals "_has_form" = some (some (.ref f2))) (l2 : K.lookup f2 = some ⟨oc2, od2, .func (PySem.W.fnOf "_has_form" "_has_form" (defArgs s__has_form) (defBody s__has_form) (defScope s__has_form) .none kV2 dc2 pm2 an2 cd2 ct2), sl2⟩) (c2 : PySem.W.codeIn K cd2 "_has_form" = true) (k2 : PySem.W.keepIn K (.ref f2) = true)
    {od3 an3 : Option Addr} {sl3 : Array (Option Value)} {oc3 kV3 dc3 pm3 cd3 ct3 : Value} {f3 : Addr}
    (a3 : PySem.W.nsIn K mainGlobals "_law_cell" = some (some (.ref f3))) (l3 : K.lookup f3 = some ⟨oc3, od3, .func (PySem.W.fnOf "_law_cell" "_law_cell" (defArgs s__law_cell) (defBody s__law_cell) (defScope s__law_cell) .none kV3 dc3 pm3 an3 cd3 ct3), sl3⟩) (c3 : PySem.W.codeIn K cd3 "_law_cell" = true) (k3 : PySem.W.keepIn K (.ref f3) = true)
    {od4 an4 : Option Addr} {sl4 : Array (Option Value)} {oc4 kV4 dc4 pm4 cd4 ct4 : Value} {f4 : Addr}
    (a4 : PySem.W.nsIn K mainGlobals "_law_digits" = some (some (.ref f4))) (l4 : K.lookup f4 = some ⟨oc4, od4, .func (PySem.W.fnOf "_law_digits" "_law_digits" (defArgs s__law_digits) (defBody s__law_digits) (defScope s__law_digits) .none kV4 dc4 pm4 an4 cd4 ct4), sl4⟩) (c4 : PySem.W.codeIn K cd4 "_law_digits" = true) (k4 : PySem.W.keepIn K (.ref f4) = true)
    {od5 an5 : Option Addr} {sl5 : Array (Option Value)} {oc5 kV5 dc5 pm5 cd5 ct5 : Value} {f5 : Addr}
    (a5 : PySem.W.nsIn K mainGlobals "_law_sign" = some (some (.ref f5))) (l5 : K.lookup f5 = some ⟨oc5, od5, .func (PySem.W.fnOf "_law_sign" "_law_sign" (defArgs s__law_sign) (defBody s__law_sign) (defScope s__law_sign) .none kV5 dc5 pm5 an5 cd5 ct5), sl5⟩) (c5 : PySem.W.codeIn K cd5 "_law_sign" = true) (k5 : PySem.W.keepIn K (.ref f5) = true)
    {od6 an6 : Option Addr} {sl6 : Array (Option Value)} {oc6 kV6 dc6 pm6 cd6 ct6 : Value} {f6 : Addr}
    (a6 : PySem.W.nsIn K mainGlobals "_law_words" = some (some (.ref f6))) (l6 : K.lookup f6 = some ⟨oc6, od6, .func (PySem.W.fnOf "_law_words" "_law_words" (defArgs s__law_words) (defBody s__law_words) (defScope s__law_words) .none kV6 dc6 pm6 an6 cd6 ct6), sl6⟩) (c6 : PySem.W.codeIn K cd6 "_law_words" = true) (k6 : PySem.W.keepIn K (.ref f6) = true)
    {od7 an7 : Option Addr} {sl7 : Array (Option Value)} {oc7 kV7 dc7 pm7 cd7 ct7 : Value} {f7 : Addr}
    (a7 : PySem.W.nsIn K mainGlobals "_law_text" = some (some (.ref f7))) (l7 : K.lookup f7 = some ⟨oc7, od7, .func (PySem.W.fnOf "_law_text" "_law_text" (defArgs s__law_text) (defBody s__law_text) (defScope s__law_text) .none kV7 dc7 pm7 an7 cd7 ct7), sl7⟩) (c7 : PySem.W.codeIn K cd7 "_law_text" = true) (k7 : PySem.W.keepIn K (.ref f7) = true)
    {od8 an8 : Option Addr} {sl8 : Array (Option Value)} {oc8 kV8 dc8 pm8 cd8 ct8 : Value} {f8 : Addr}
    (a8 : PySem.W.nsIn K mainGlobals "_law_each_sign" = some (some (.ref f8))) (l8 : K.lookup f8 = some ⟨oc8, od8, .func (PySem.W.fnOf "_law_each_sign" "_law_each_sign" (defArgs s__law_each_sign) (defBody s__law_each_sign) (defScope s__law_each_sign) .none kV8 dc8 pm8 an8 cd8 ct8), sl8⟩) (c8 : PySem.W.codeIn K cd8 "_law_each_sign" = true) (k8 : PySem.W.keepIn K (.ref f8) = true)
    {od9 an9 : Option Addr} {sl9 : Array (Option Value)} {oc9 kV9 dc9 pm9 cd9 ct9 : Value} {f9 : Addr}
    (a9 : PySem.W.nsIn K mainGlobals "_law_plain" = some (some (.ref f9))) (l9 : K.lookup f9 = some ⟨oc9, od9, .func (PySem.W.fnOf "_law_plain" "_law_plain" (defArgs s__law_plain) (defBody s__law_plain) (defScope s__law_plain) .none kV9 dc9 pm9 an9 cd9 ct9), sl9⟩) (c9 : PySem.W.codeIn K cd9 "_law_plain" = true) (k9 : PySem.W.keepIn K (.ref f9) = true)
    {od10 an10 : Option Addr} {sl10 : Array (Option Value)} {oc10 kV10 dc10 pm10 cd10 ct10 : Value} {f10 : Addr}
    (a10 : PySem.W.nsIn K mainGlobals "_law_is_name" = some (some (.ref f10))) (l10 : K.lookup f10 = some ⟨oc10, od10, .func (PySem.W.fnOf "_law_is_name" "_law_is_name" (defArgs s__law_is_name) (defBody s__law_is_name) (defScope s__law_is_name) .none kV10 dc10 pm10 an10 cd10 ct10), sl10⟩) (c10 : PySem.W.codeIn K cd10 "_law_is_name" = true) (k10 : PySem.W.keepIn K (.ref f10) = true)
    {od11 an11 : Option Addr} {sl11 : Array (Option Value)} {oc11 kV11 dc11 pm11 cd11 ct11 : Value} {f11 : Addr}
    (a11 : PySem.W.nsIn K mainGlobals "_law_is_variable_name" = some (some (.ref f11))) (l11 : K.lookup f11 = some ⟨oc11, od11, .func (PySem.W.fnOf "_law_is_variable_name" "_law_is_variable_name" (defArgs s__law_is_variable_name) (defBody s__law_is_variable_name) (defScope s__law_is_variable_name) .none kV11 dc11 pm11 an11 cd11 ct11), sl11⟩) (c11 : PySem.W.codeIn K cd11 "_law_is_variable_name" = true) (k11 : PySem.W.keepIn K (.ref f11) = true)
    {od12 an12 : Option Addr} {sl12 : Array (Option Value)} {oc12 kV12 dc12 pm12 cd12 ct12 : Value} {f12 : Addr}
    (a12 : PySem.W.nsIn K mainGlobals "_law_asked" = some (some (.ref f12))) (l12 : K.lookup f12 = some ⟨oc12, od12, .func (PySem.W.fnOf "_law_asked" "_law_asked" (defArgs s__law_asked) (defBody s__law_asked) (defScope s__law_asked) .none kV12 dc12 pm12 an12 cd12 ct12), sl12⟩) (c12 : PySem.W.codeIn K cd12 "_law_asked" = true) (k12 : PySem.W.keepIn K (.ref f12) = true)
    {od13 an13 : Option Addr} {sl13 : Array (Option Value)} {oc13 kV13 dc13 pm13 cd13 ct13 : Value} {f13 : Addr}
    (a13 : PySem.W.nsIn K mainGlobals "law" = some (some (.ref f13))) (l13 : K.lookup f13 = some ⟨oc13, od13, .func (PySem.W.fnOf "law" "law" (defArgs s_law) (defBody s_law) (defScope s_law) .none kV13 dc13 pm13 an13 cd13 ct13), sl13⟩) (c13 : PySem.W.codeIn K cd13 "law" = true) (k13 : PySem.W.keepIn K (.ref f13) = true)
    {a_WORDS : Addr} {oc_WORDS : Value} {od_WORDS : Option Addr} {it_WORDS : Array Value} {n_WORDS : Nat} {sl_WORDS : Array (Option Value)} (z_WORDS : PySem.W.nsIn K mainGlobals "WORDS" = some (some (.ref a_WORDS))) (l_WORDS : K.lookup a_WORDS = some ⟨oc_WORDS, od_WORDS, .seq it_WORDS n_WORDS, sl_WORDS⟩) (v1_WORDS : oc_WORDS = .type "tuple") (v2_WORDS : it_WORDS.size ≤ sizeLine) (v3_WORDS : it_WORDS.toList.map absV = ([.str "all", .str "some", .str "not", .str "and", .str "or", .str "implies", .str "iff", .str "true", .str "false", .str "truth", .str "sort", .str "function", .str "axiom"] : List V).map some)
    {t_CAPITALS : Tok} (z_CAPITALS : PySem.W.nsIn K mainGlobals "CAPITALS" = some (some (.str "ABCDEFGHIJKLMNOPQRSTUVWXYZ" t_CAPITALS)))
    {t_SMALL_SIGNS : Tok} (z_SMALL_SIGNS : PySem.W.nsIn K mainGlobals "SMALL_SIGNS" = some (some (.str "abcdefghijklmnopqrstuvwxyz0123456789" t_SMALL_SIGNS)))
    {t_DIGITS : Tok} (z_DIGITS : PySem.W.nsIn K mainGlobals "DIGITS" = some (some (.str "0123456789" t_DIGITS)))
    {t_LONGEST : Tok} (z_LONGEST : PySem.W.nsIn K mainGlobals "LONGEST" = some (some (.int 8 t_LONGEST)))
    (n_all : PySem.W.nsIn K mainGlobals "all" = some none)
    (n_bool : PySem.W.nsIn K mainGlobals "bool" = some none)
    (n_int : PySem.W.nsIn K mainGlobals "int" = some none)
    (n_isinstance : PySem.W.nsIn K mainGlobals "isinstance" = some none)
    (n_len : PySem.W.nsIn K mainGlobals "len" = some none)
    (n_range : PySem.W.nsIn K mainGlobals "range" = some none)
    (n_str : PySem.W.nsIn K mainGlobals "str" = some none)
    : ∃ fd : FuncData, (∀ (s : Shared) (v : Value), BindsTo s fd ⟨[v], []⟩ [("script", v)]) ∧ ∀ base : Heap, K.In base → base.Ns mainGlobals mg → FnOk l.prog w K mg base CX0 4 fa fd ["script"] (sp_law K) := by
  have e := hfa.symm.trans (PySem.W.mg_of X G a13)
  cases e
  have F0 := fun_mk (st := s_is_name) l0 c0 k0
  have F1 := fun_mk (st := s_is_variable_name) l1 c1 k1
  have F2 := fun_mk (st := s__has_form) l2 c2 k2
  have F3 := fun_mk (st := s__law_cell) l3 c3 k3
  have F4 := fun_mk (st := s__law_digits) l4 c4 k4
  have F5 := fun_mk (st := s__law_sign) l5 c5 k5
  have F6 := fun_mk (st := s__law_words) l6 c6 k6
  have F7 := fun_mk (st := s__law_text) l7 c7 k7
  have F8 := fun_mk (st := s__law_each_sign) l8 c8 k8
  have F9 := fun_mk (st := s__law_plain) l9 c9 k9
  have F10 := fun_mk (st := s__law_is_name) l10 c10 k10
  have F11 := fun_mk (st := s__law_is_variable_name) l11 c11 k11
  have F12 := fun_mk (st := s__law_asked) l12 c12 k12
  have F13 := fun_mk (st := s_law) l13 c13 k13
  let T : Top K mg := { f_is_name := f0, fd_is_name := _, F_is_name := F0, b_is_name := F0.binds (ps := ["value"]) (fun _ _ _ _ _ _ us hl => match us, hl with | [_], _ => rfl), g_is_name := PySem.W.mg_of X G a0, f_is_variable_name := f1, fd_is_variable_name := _, F_is_variable_name := F1, b_is_variable_name := F1.binds (ps := ["value"]) (fun _ _ _ _ _ _ us hl => match us, hl with | [_], _ => rfl), g_is_variable_name := PySem.W.mg_of X G a1, f__has_form := f2, fd__has_form := _, F__has_form := F2, b__has_form := F2.binds (ps := ["value"]) (fun _ _ _ _ _ _ us hl => match us, hl with | [_], _ => rfl), g__has_form := PySem.W.mg_of X G a2, f__law_cell := f3, fd__law_cell := _, F__law_cell := F3, b__law_cell := F3.binds (ps := ["script", "k"]) (fun _ _ _ _ _ _ us hl => match us, hl with | [_, _], _ => rfl), g__law_cell := PySem.W.mg_of X G a3, f__law_digits := f4, fd__law_digits := _, F__law_digits := F4, b__law_digits := F4.binds (ps := ["cell", "sizes"]) (fun _ _ _ _ _ _ us hl => match us, hl with | [_, _], _ => rfl), g__law_digits := PySem.W.mg_of X G a4, f__law_sign := f5, fd__law_sign := _, F__law_sign := F5, b__law_sign := F5.binds (ps := ["k"]) (fun _ _ _ _ _ _ us hl => match us, hl with | [_], _ => rfl), g__law_sign := PySem.W.mg_of X G a5, f__law_words := f6, fd__law_words := _, F__law_words := F6, b__law_words := F6.binds (ps := []) (fun _ _ _ _ _ _ us hl => match us, hl with | [], _ => rfl), g__law_words := PySem.W.mg_of X G a6, f__law_text := f7, fd__law_text := _, F__law_text := F7, b__law_text := F7.binds (ps := ["cell"]) (fun _ _ _ _ _ _ us hl => match us, hl with | [_], _ => rfl), g__law_text := PySem.W.mg_of X G a7, f__law_each_sign := f8, fd__law_each_sign := _, F__law_each_sign := F8, b__law_each_sign := F8.binds (ps := ["cell"]) (fun _ _ _ _ _ _ us hl => match us, hl with | [_], _ => rfl), g__law_each_sign := PySem.W.mg_of X G a8, f__law_plain := f9, fd__law_plain := _, F__law_plain := F9, b__law_plain := F9.binds (ps := ["text"]) (fun _ _ _ _ _ _ us hl => match us, hl with | [_], _ => rfl), g__law_plain := PySem.W.mg_of X G a9, f__law_is_name := f10, fd__law_is_name := _, F__law_is_name := F10, b__law_is_name := F10.binds (ps := ["text"]) (fun _ _ _ _ _ _ us hl => match us, hl with | [_], _ => rfl), g__law_is_name := PySem.W.mg_of X G a10, f__law_is_variable_name := f11, fd__law_is_variable_name := _, F__law_is_variable_name := F11, b__law_is_variable_name := F11.binds (ps := ["text"]) (fun _ _ _ _ _ _ us hl => match us, hl with | [_], _ => rfl), g__law_is_variable_name := PySem.W.mg_of X G a11, f__law_asked := f12, fd__law_asked := _, F__law_asked := F12, b__law_asked := F12.binds (ps := ["text"]) (fun _ _ _ _ _ _ us hl => match us, hl with | [_], _ => rfl), g__law_asked := PySem.W.mg_of X G a12, f_law := fa, fd_law := _, F_law := F13, b_law := F13.binds (ps := ["script"]) (fun _ _ _ _ _ _ us hl => match us, hl with | [_], _ => rfl), g_law := PySem.W.mg_of X G a13, kb_is_name := fun_kbn F0 (fun _ _ _ _ _ _ ws hl => match ws, hl with | [_], _ => rfl), kb_is_variable_name := fun_kbn F1 (fun _ _ _ _ _ _ ws hl => match ws, hl with | [_], _ => rfl), n_all := PySem.W.mg_none_of X G n_all, n_bool := PySem.W.mg_none_of X G n_bool, n_int := PySem.W.mg_none_of X G n_int, n_isinstance := PySem.W.mg_none_of X G n_isinstance, n_len := PySem.W.mg_none_of X G n_len, n_range := PySem.W.mg_none_of X G n_range, n_str := PySem.W.mg_none_of X G n_str, a_WORDS := a_WORDS, c_WORDS := PySem.W.mg_of X G z_WORDS, q_WORDS := fun H => sqt_K l_WORDS v1_WORDS v2_WORDS v3_WORDS H, t_CAPITALS := t_CAPITALS, c_CAPITALS := PySem.W.mg_of X G z_CAPITALS, t_SMALL_SIGNS := t_SMALL_SIGNS, c_SMALL_SIGNS := PySem.W.mg_of X G z_SMALL_SIGNS, t_DIGITS := t_DIGITS, c_DIGITS := PySem.W.mg_of X G z_DIGITS, t_LONGEST := t_LONGEST, c_LONGEST := PySem.W.mg_of X G z_LONGEST }
  exact ⟨_, fun s v => .of_eq rfl, fun base _ _ => ok_law T⟩
end K01

open PySem PySem.W PyProof.Rows
set_option maxRecDepth 100000 in
set_option maxHeartbeats 0 in
theorem PySem.Challenge.cw_claimworlds_k01_names_told_holds : PySem.Challenge.rw_claimworlds_k01_names_told.Holds := by
  w_on; o_law; k_head; (case hw => w_witness2)
  k_fill
  refine L2.walk_of (l := PySem.Challenge.rw_claimworlds_k01_names_told) (n := 63) (k := 4) (x := "script") (CX := fun _ => L2.CX0) (sp := fun w => K01.sp_law _) rfl (by decide) rfl ⟨rfl, by decide, by decide⟩ (fun w h Y => PySem.W.kIn_of Y) ?F (fun _ _ a ns hl _ hS => ⟨a, ns, rfl, hS, hl, fun _ => rfl⟩) (fun _ _ _ _ _ h => h)
  case F =>
    intro w mg fa h KX G hmg
    refine' K01.all_mk KX G hmg ?a0 ?l0 ?c0 ?k0 ?a1 ?l1 ?c1 ?k1 ?a2 ?l2 ?c2 ?k2 ?a3 ?l3 ?c3 ?k3 ?a4 ?l4 ?c4 ?k4 ?a5 ?l5 ?c5 ?k5 ?a6 ?l6 ?c6 ?k6 ?a7 ?l7 ?c7 ?k7 ?a8 ?l8 ?c8 ?k8 ?a9 ?l9 ?c9 ?k9 ?a10 ?l10 ?c10 ?k10 ?a11 ?l11 ?c11 ?k11 ?a12 ?l12 ?c12 ?k12 ?a13 ?l13 ?c13 ?k13 ?z_WORDS ?l_WORDS ?v1_WORDS ?v2_WORDS ?v3_WORDS ?z_CAPITALS ?z_SMALL_SIGNS ?z_DIGITS ?z_LONGEST ?n_all ?n_bool ?n_int ?n_isinstance ?n_len ?n_range ?n_str
    (case a0 => k_is); (case l0 => k_is); (case c0 => k_is); (case k0 => k_is); (case a1 => k_is); (case l1 => k_is); (case c1 => k_is); (case k1 => k_is); (case a2 => k_is); (case l2 => k_is); (case c2 => k_is); (case k2 => k_is); (case a3 => k_is); (case l3 => k_is); (case c3 => k_is); (case k3 => k_is); (case a4 => k_is); (case l4 => k_is); (case c4 => k_is); (case k4 => k_is); (case a5 => k_is); (case l5 => k_is); (case c5 => k_is); (case k5 => k_is); (case a6 => k_is); (case l6 => k_is); (case c6 => k_is); (case k6 => k_is); (case a7 => k_is); (case l7 => k_is); (case c7 => k_is); (case k7 => k_is); (case a8 => k_is); (case l8 => k_is); (case c8 => k_is); (case k8 => k_is); (case a9 => k_is); (case l9 => k_is); (case c9 => k_is); (case k9 => k_is); (case a10 => k_is); (case l10 => k_is); (case c10 => k_is); (case k10 => k_is); (case a11 => k_is); (case l11 => k_is); (case c11 => k_is); (case k11 => k_is); (case a12 => k_is); (case l12 => k_is); (case c12 => k_is); (case k12 => k_is); (case a13 => k_is); (case l13 => k_is); (case c13 => k_is); (case k13 => k_is); (case z_WORDS => k_is); (case l_WORDS => k_is); (case z_CAPITALS => k_is); (case z_SMALL_SIGNS => k_is); (case z_DIGITS => k_is); (case z_LONGEST => k_is); (case n_all => k_is); (case n_bool => k_is); (case n_int => k_is); (case n_isinstance => k_is); (case n_len => k_is); (case n_range => k_is); (case n_str => k_is)
    (case v1_WORDS => rfl); (case v2_WORDS => decide); (case v3_WORDS => rfl)
