import PyProof.Rows.All
import Wide.All
import OpenK.AllK
import Wide.FinOn
import HandS.ForMost
import HandS.Evl
import HandS.Steps
import HandS.Wide
import HandS.IsInst
import HandS.Defaults
import HandS.Style
import HandS.Codes
import HandS.Walk
import HandS.Flow
import HandS.TupAny
import KE.KxText
import HandS.DictComp
import HandS.Zip
import HandS.Conv
import HandS.Deep
import PyProof.AutoSeq1
import PyProof.Rows.StrDouble
import KE.KStrOpen
import KE.KExcSuper
import KE.KSuper
import HandS.ExcInit
import HandS.NestedK
import HandS.FStr
import HandS.ExcValue
import HandS.ExcField
import HandS.ExcIs
import KE.KExcIs
import HandS.ExcOwn
import HandS.WordsExc
import HandS.TryOnly
import HandS.SetFor
import HandS.MakeKwOnly
import HandS.FStrTup
import PyProof.ReprLen
import KE.KIntText
import KE.KDictKeyed
import KE.KeyNested
import HandS.RevRange
import KE.OsRunLaw
import PySem.Challenge.RW_claimworlds_k03_places_of_terms
set_option Elab.async false
set_option linter.all false
set_option maxRecDepth 100000
set_option maxHeartbeats 1000000
namespace CW
open PySem PySem.Spec PyProof.Rows L2

/-! heaps that grow -/
abbrev Xt (H H' : Hp) : Prop := ∀ a o, H a = some o → H' a = some o
theorem xrefl (H : Hp) : Xt H H := fun _ _ h => h
theorem xtr {H H1 H2 : Hp} (a : Xt H H1) (b : Xt H1 H2) : Xt H H2 := fun x o h => b x o (a x o h)
theorem xnew {H : Hp} {p : Addr} {o : HO} (h : H p = none) : Xt H (upd H p o) := fun a u e => by
  rw [upd_ne (ne_of_none e h)]; exact e
theorem xmut {H H' : Hp} {p : Addr} {o : HO} (e : Xt H H') (h : H p = none) : Xt H (upd H' p o) := fun a u ha => by
  rw [upd_ne (ne_of_none ha h)]; exact e a u ha
theorem xfree {H H' : Hp} {p : Addr} (e : Xt H H') (h : H' p = none) : H p = none := by
  cases h1 : H p with
  | none => rfl
  | some o => rw [e p o h1] at h; cases h
theorem xl {K : PySem.W.Frag} {H H' : Hp} {a : Addr} {xs : List V} (e : Xt H H') (h : SqL K H a xs) : SqL K H' a xs := by
  rcases h with (h | ⟨o, h⟩) | h
  · exact .inl (.inl (e _ _ h))
  · exact .inl (.inr ⟨o, e _ _ h⟩)
  · exact .inr h
theorem xt {K : PySem.W.Frag} {H H' : Hp} {a : Addr} {xs : List V} (e : Xt H H') (h : SqT K H a xs) : SqT K H' a xs := by
  rcases h with (h | ⟨o, h⟩) | h
  · exact .inl (.inl (e _ _ h))
  · exact .inl (.inr ⟨o, e _ _ h⟩)
  · exact .inr h
theorem sql {K : PySem.W.Frag} {H : Hp} {a : Addr} {xs : List V} (h : H a = some (.lst xs)) : SqL K H a xs := .inl (.inl h)
theorem sqt {K : PySem.W.Frag} {H : Hp} {a : Addr} {xs : List V} (h : H a = some (.tup xs)) : SqT K H a xs := .inl (.inl h)
theorem szle {n : Nat} (h : n ≤ 100000) : n ≤ sizeLine := Nat.le_trans h (by decide)
theorem szlt {n : Nat} (h : n < 100000) : n < sizeLine := Nat.lt_of_lt_of_le h (by decide)

/-! steps -/
section
variable {K : PySem.W.Frag} {σ : L2.St} {H : Hp} {Q : VK} {D : Ends} {t u : TS} {te ta tb tc : TE} {tt tw : TT} {g : TG} {i : Nat} {v x y : V} {r : R2}
theorem k_seq (h : t { D with nx := u D } σ H) : tSeq t u D σ H := h
theorem k_next (h : D.nx σ H) : tNext D σ H := h
theorem k_asg (h : te σ H fun x H1 => g x σ H1 D.nx) : tAsg te g D σ H := h
theorem k_name {R : L2.St → Hp → Prop} (h : R (σ.set i (some v)) H) : gName i v σ H R := h
theorem k_drop (h : te σ H fun _ H1 => D.nx σ H1) : tDrop te D σ H := h
theorem k_ret (h : te σ H D.rt) : tRet te D σ H := h
theorem k_ifs (h : tt σ H fun b H1 => if b = true then t D σ H1 else u D σ H1) : tIfS tt t u D σ H := h
theorem k_var (h : σ[i]? = some (some v)) (q : Q v H) : tVar i σ H Q := ⟨v, h, q⟩
theorem k_c (q : Q v H) : tC v σ H Q := q
theorem k_op (h : ta σ H fun x H1 => tb σ H1 fun y H2 => r x y H2 Q) : tOp r ta tb σ H Q := h
theorem k_cons {tr : TA} {R : List V → Hp → Prop} (h : ta σ H fun x H1 => tr σ H1 fun xs H2 => R (x :: xs) H2) : tCons ta tr σ H R := h
theorem k_nil {R : List V → Hp → Prop} (h : R [] H) : tNil σ H R := h
theorem k_cb {rr : List V → Hp → VK → Prop} {ts : TA} (h : ts σ H fun vs H1 => rr vs H1 Q) : tCB rr ts σ H Q := h
theorem k_call {sp : Sp} {dvs : List V} {E : XK} {ts : TA} (h : ts σ H fun vs H1 => sp (vs ++ dvs) H1 Q E) : tCall sp dvs E ts σ H Q := h
theorem k_callN {n m : Nat} {sp : Sp} {gV : List V → List V → List V} {E : XK} {ts tk : TA} (h : ts σ H fun vs H1 => tk σ H1 fun zs H2 => vs.length = n ∧ zs.length = m ∧ sp (gV vs zs) H2 Q E) : tCallN n m sp gV E ts tk σ H Q := h
theorem k_test {R : Bool → Hp → Prop} (h : te σ H fun x H' => ∃ k, x = .bl k ∧ R k H') : tTest te σ H R := h
theorem k_tb {R : Bool → Hp → Prop} (h : te σ H fun x H' => ∃ k, x = .bl k ∧ R k H') : tB te σ H R := h
theorem k_not {R : Bool → Hp → Prop} (h : tt σ H fun c H1 => R (!c) H1) : tNot tt σ H R := h
theorem k_and {R : Bool → Hp → Prop} (h : tt σ H fun c H1 => if c = true then tw σ H1 R else R false H1) : tAnd tt tw σ H R := h
theorem k_or {R : Bool → Hp → Prop} (h : tt σ H fun c H1 => if c = true then R true H1 else tw σ H1 R) : tOr tt tw σ H R := h
theorem k_andV (h : ta σ H fun x H1 => ∃ c, x = .bl c ∧ if c = true then tb σ H1 Q else Q (.bl false) H1) : tAndV ta tb σ H Q := h
theorem k_notV (h : ta σ H fun x H1 => ∃ c, x = .bl c ∧ Q (.bl (!c)) H1) : tNotV ta σ H Q := h
theorem k_ife (h : tt σ H fun c H1 => if c = true then ta σ H1 Q else tb σ H1 Q) : tIf tt ta tb σ H Q := h
theorem k_chain {r' : R2} (h : ta σ H fun x H1 => tb σ H1 fun y H2 => r x y H2 fun z H3 => ∃ k, z = .bl k ∧ (if k = true then tc σ H3 fun w' H4 => r' y w' H4 Q else Q (.bl false) H3)) : tChain r r' ta tb tc σ H Q := h
theorem k_yes {A B : Prop} (h : A) : if true = true then A else B := iteT h
theorem k_no {A B : Prop} (h : B) : if false = true then A else B := iteF h
theorem k_if {c : Prop} [Decidable c] {A B : Prop} (h1 : c → A) (h2 : ¬ c → B) : if decide c = true then A else B := by
  by_cases h : c
  · rw [decide_eq_true h]; exact iteT (h1 h)
  · rw [decide_eq_false h]; exact iteF (h2 h)
theorem k_ifn {c : Prop} [Decidable c] {A B : Prop} (h1 : ¬ c → A) (h2 : c → B) : if (!decide c) = true then A else B := by
  by_cases h : c
  · rw [decide_eq_true h]; exact iteF (h2 h)
  · rw [decide_eq_false h]; exact iteT (h1 h)
theorem k_ifb {c : Bool} {A B : Prop} (h1 : c = true → A) (h2 : c = false → B) : if c = true then A else B := by
  cases c with
  | true => exact iteT (h1 rfl)
  | false => exact iteF (h2 rfl)
/-! value operations -/
theorem v_I0 {gg : Int → Int → V} {i j : Int} (q : Q (gg i j) H) : rI0 gg (.int i) (.int j) H Q := ⟨i, j, rfl, rfl, q⟩
theorem v_I {C : Int → Int → Prop} {gg : Int → Int → V} {i j : Int} (hc : C i j) (q : Q (gg i j) H) : rI C gg (.int i) (.int j) H Q := ⟨i, j, rfl, rfl, hc, q⟩
def rPlus (K : PySem.W.Frag) : R2 := fun x y H Q => rI0 (fun i j => .int (i + j)) x y H Q ∨ ((∃ i j, x = .str i ∧ y = .str j ∧ i.length + j.length ≤ sizeLine ∧ Q (.str (i ++ j)) H) ∨ (rCat x y H Q ∨ rCatA K x y H Q))
theorem v_plus_int {i j : Int} (q : Q (.int (i + j)) H) : rPlus K (.int i) (.int j) H Q := .inl ⟨i, j, rfl, rfl, q⟩
theorem v_plus_str {a b : Str} (hz : a.length + b.length ≤ sizeLine) (q : Q (.str (a ++ b)) H) : rPlus K (.str a) (.str b) H Q := .inr (.inl ⟨a, b, rfl, rfl, hz, q⟩)
theorem v_plus_lst {a b : Addr} {xs ys : List V} (ha : H a = some (.lst xs)) (hb : H b = some (.lst ys)) (hz : xs.length + ys.length ≤ sizeLine) (q : ∀ p H', H p = none → Xt H H' → H' p = some (.lst (xs ++ ys)) → Q (.ref p) H') : rPlus K (.ref a) (.ref b) H Q :=
  .inr (.inr (.inl ⟨a, b, xs, ys, rfl, rfl, ha, hb, hz, fun p hp => q p _ hp (xnew hp) upd_same⟩))
theorem v_plus_tup {a b : Addr} {xs ys : List V} (ha : SqT K H a xs) (hb : SqT K H b ys) (hz : xs.length + ys.length ≤ sizeLine) (q : ∀ p H', Xt H H' → SqT K H' p (xs ++ ys) → Q (.ref p) H') : rPlus K (.ref a) (.ref b) H Q := by
  refine .inr (.inr (.inr ⟨a, b, xs, ys, rfl, rfl, ha, hb, hz, fun e => ?_, fun _ e => ?_, fun _ _ p hp => q p _ (xnew hp) (sqt upd_same)⟩))
  · subst e; exact q b H (xrefl H) hb
  · subst e; exact q a H (xrefl H) (by rw [List.append_nil]; exact ha)
def rTimes : R2 := fun x y H Q => rI CMul (fun i j => .int (i * j)) x y H Q ∨ (∃ (a : Str) (n : Int), x = .str a ∧ y = .int n ∧ 0 ≤ n ∧ n ≤ 1000 ∧ a.length ≤ 1000 ∧ ∀ z : Str, z.length = a.length * n.toNat → Q (.str z) H)
theorem v_times_int {i j : Int} (h : CMul i j) (q : Q (.int (i * j)) H) : rTimes (.int i) (.int j) H Q := .inl ⟨i, j, rfl, rfl, h, q⟩
end

theorem rep_len (xs : Array Nat) : ∀ n : Nat, ((List.replicate n xs).foldl (· ++ ·) #[]).size = xs.size * n := by
  have h : ∀ (n : Nat) (acc : Array Nat), ((List.replicate n xs).foldl (· ++ ·) acc).size = acc.size + xs.size * n := by
    intro n
    induction n with
    | zero => intro acc; simp
    | succ n ih =>
      intro acc
      rw [List.replicate_succ, List.foldl_cons, ih, Array.size_append, Nat.mul_succ]
      omega
  intro n
  rw [h n #[]]
  simp
section
variable {X : Cx}
theorem op_plus : OpR X (binaryOp .Add) (rPlus X.K) := OpR.or op_add (OpR.or op_add_str (OpR.or op_cat op_catA))
theorem op_mul_str : OpR X (binaryOp .Mult) (fun x y H Q => ∃ (a : Str) (n : Int), x = .str a ∧ y = .int n ∧ 0 ≤ n ∧ n ≤ 1000 ∧ a.length ≤ 1000 ∧ ∀ z : Str, z.length = a.length * n.toNat → Q (.str z) H) := by
  intro pins s σ H x y v u Q I rx ry h
  obtain ⟨a, n, rfl, rfl, h0, h1, h2, q⟩ := h
  obtain ⟨t, rfl⟩ := rx
  obtain ⟨t', rfl⟩ := ry
  have hm : a.length * n.toNat ≤ 1000 * 1000 := Nat.mul_le_mul h2 (by omega)
  refine PySem.P.mul_str ?_ ?_ ?_ ?_
  · rw [decide_eq_false (by omega), decide_eq_false (by omega)]; rfl
  · intro hn _ hgt
    have : (1000 : Int) ≤ (2 ^ 63 - 1) / n := Int.le_ediv_of_mul_le (by omega) (by omega)
    omega
  · intro _ _
    have e : (PySem.Builtin.Str.tooLong (a.length * n.toNat)) = false := by
      unfold PySem.Builtin.Str.tooLong
      apply decide_eq_false
      have : (1000 * 1000 : Nat) ≤ sizeLine := by decide
      first | omega | skip
    exact e
  · by_cases hn : n < 1
    · rw [if_pos hn]
      have e0 : n.toNat = 0 := by omega
      exact ⟨by decide, ⟨.str Str.empty, H, I.tok _, ⟨_, rfl⟩, q _ (by rw [e0, Nat.mul_zero]; rfl)⟩⟩
    · rw [if_neg hn]
      by_cases h3 : (n == 1 || a.length == 0) = true
      · rw [if_pos h3]
        refine ⟨.str a, H, I, ⟨_, rfl⟩, q _ ?_⟩
        rw [Bool.or_eq_true] at h3
        rcases h3 with h3 | h3
        · have : n = 1 := eq_of_beq h3
          subst this; simp
        · have : a.length = 0 := eq_of_beq h3
          rw [this]; simp
      · rw [if_neg h3]
        refine ⟨?_, ⟨.str _, H, I.tok _, ⟨_, rfl⟩, q _ ?_⟩⟩
        · show ((List.replicate n.toNat a.cps).foldl (· ++ ·) #[]).size ≤ sizeLine
          rw [rep_len]
          exact Nat.le_trans hm (by decide)
        · exact rep_len a.cps n.toNat
theorem op_times : OpR X (binaryOp .Mult) rTimes := OpR.or op_mul op_mul_str
theorem pe_callN0 {CX : CXT} {k : Nat} {f : Addr} {fd : FuncData} {ps ks : List Str} {sp : Sp} {E : XK} {x : Str} {p pos : Pos} {kws : List Keyword} {tk : TA} {g : List Value → List Value → List Value} {gV : List V → List V → List V}
    (F : FnOk X.prog X.w X.K X.mg X.base CX k f fd ps sp) (hr : Room k X.A) (hg : Gl X x) (hm : X.mg x = some (.ref f)) (hk : PySem.W.keepIn X.K (.ref f) = true) (hb : KBn X.K fd ps 0 ks g gV) (hx : Passes CX X E)
    (hkw : PK X kws tk) (hall : (backToKw pos (keywordEach kws X.env)).all (·.1.isSome) = true := by rfl) (hks : (backToKw pos (keywordEach kws X.env)).filterMap (·.1) = ks := by rfl)
    (hdb : (x == ("__debug__" : Str)) = false := by decide)
    (hpl : ((backTo pos (starEach [] X.env)).any (·.1) || (backToKw pos (keywordEach kws X.env)).any (·.1.isNone)) = false := by rfl) :
    PE X (.Call (.Name x p) [] kws pos) (tCallN 0 ks.length sp gV E tNil tk) := by
  refine ⟨fun pins s σ H Q I h => ?_⟩
  refine wpAny_Call_Name_kw (ld_glob I hg hm ?_ hdb)
  refine PySem.W.callWith_KW0 (h₀ := X.base) I.ok.mod.kin hk hall ?_ hpl
  refine thn (hkw.run pos pins s σ H _ I h) fun ws s2 ⟨zs, H2, I2, rz, l1, l2, q2⟩ => ⟨I2.kIn, ?_⟩
  rw [hks]
  exact run_fnN (us := []) (vs := []) F hr hb hx I2 .nil rz rfl l2 q2
end
end CW

set_option Elab.async false
set_option linter.all false
set_option maxRecDepth 100000
set_option maxHeartbeats 1000000
namespace CW
open PySem PySem.Spec PyProof.Rows L2
section
variable {X : Cx}
def rLenU (K : PySem.W.Frag) : List V → Hp → VK → Prop := fun xs H Q => (∃ p ys, xs = [.ref p] ∧ (SqL K H p ys ∨ SqT K H p ys) ∧ Q (.int ys.length) H) ∨ ∃ z : Str, xs = [.str z] ∧ z.length ≤ sizeLine ∧ Q (.int z.length) H
theorem call_lenU : CallR X (.builtin "len") (rLenU X.K) := CallR.or call_len_seq call_len_str
def rInt1 : List V → Hp → VK → Prop := fun xs H Q => (∃ i, xs = [.int i] ∧ Q (.int i) H) ∨ ∃ k, xs = [.bl k] ∧ Q (.int (if k then 1 else 0)) H
theorem call_intU : CallR X (.type "int") rInt1 := call_int1
def rSlU (K : PySem.W.Frag) : V → Option Int → Option Int → Hp → VK → Prop := fun x lo hi H Q => rSlL K x lo hi H Q ∨ (rSlS x lo hi H Q ∨ rSlA K x lo hi H Q)
theorem sl_any : SlR X (rSlU X.K) := SlR.or sl_list (SlR.or sl_str sl_tupA)
def rInU (K : PySem.W.Frag) : R2 := fun x y H Q => rInS x y H Q ∨ rIn K false x y H Q
theorem op_inU : OpR X (compareOp .In) (rInU X.K) := OpR.or op_inS op_in_seq
def rNotInU (K : PySem.W.Frag) : R2 := fun x y H Q => rNotInS x y H Q ∨ rIn K true x y H Q
theorem op_notInU : OpR X (compareOp .NotIn) (rNotInU X.K) := OpR.or op_notInS op_notIn_seq
end
section
variable {K : PySem.W.Frag} {σ : L2.St} {H : Hp} {Q : VK} {D : Ends} {te ta tb : TE} {a : Addr} {xs : List V} {z : Str} {i : Int} {v x : V} {c : Nat}
theorem v_len_l (h : SqL K H a xs) (q : Q (.int xs.length) H) : rLenU K [.ref a] H Q := .inl ⟨a, xs, rfl, .inl h, q⟩
theorem v_len_t (h : SqT K H a xs) (q : Q (.int xs.length) H) : rLenU K [.ref a] H Q := .inl ⟨a, xs, rfl, .inr h, q⟩
theorem v_len_s (h : z.length ≤ sizeLine) (q : Q (.int z.length) H) : rLenU K [.str z] H Q := .inr ⟨z, rfl, h, q⟩
theorem v_int (q : Q (.int i) H) : rInt1 [.int i] H Q := .inl ⟨i, rfl, q⟩
theorem v_ix_l (h : SqL K H a xs) (ha : atI xs i = some v) (q : Q v H) : rIx K (.ref a) (.int i) H Q := .inl ⟨a, xs, i, v, rfl, rfl, h, ha, q⟩
theorem v_ix_t (h : SqT K H a xs) (ha : atI xs i = some v) (q : Q v H) : rIx K (.ref a) (.int i) H Q := .inr (.inl ⟨a, xs, i, v, rfl, rfl, h, ha, q⟩)
theorem v_ix_s (h : z.length ≤ sizeLine) (ha : atI z.cps.toList i = some c) (q : Q (.str ⟨#[c]⟩) H) : rIx K (.str z) (.int i) H Q := .inr (.inr ⟨z, i, c, rfl, rfl, h, ha, q⟩)
theorem k_sl {r : V → Option Int → Option Int → Hp → VK → Prop} {tl th : TO} (h : te σ H fun x H1 => tl σ H1 fun lo H2 => th σ H2 fun hi H3 => r x lo hi H3 Q) : tSl r te tl th σ H Q := h
theorem k_nopart {R : Option Int → Hp → Prop} (h : R none H) : tNoPart σ H R := h
theorem k_part {R : Option Int → Hp → Prop} (h : te σ H fun x H1 => ∃ i, x = .int i ∧ R (some i) H1) : tPart te σ H R := h
theorem v_sl_l {lo hi : Option Int} (h : SqL K H a xs) (q : ∀ p H', H p = none → Xt H H' → H' p = some (.lst (cutV xs lo hi)) → Q (.ref p) H') : rSlU K (.ref a) lo hi H Q :=
  .inl ⟨a, xs, rfl, h, fun p hp => q p _ hp (xnew hp) upd_same⟩
theorem v_sl_s {lo hi : Option Int} (h : z.length ≤ sizeLine) (q : Q (.str (cutS z lo hi)) H) : rSlU K (.str z) lo hi H Q := .inr (.inl ⟨z, rfl, h, q⟩)
theorem v_in_s {w : Str} (q : Q (.bl (decide (c ∈ w.cps.toList))) H) : rInU K (.str ⟨#[c]⟩) (.str w) H Q := .inl ⟨c, w, rfl, rfl, q⟩
theorem v_notin_s {w : Str} (q : Q (.bl (!decide (c ∈ w.cps.toList))) H) : rNotInU K (.str ⟨#[c]⟩) (.str w) H Q := .inl ⟨c, w, rfl, rfl, q⟩
theorem v_in_q (h : SqL K H a xs ∨ SqT K H a xs) (hx : flatV x = true) (hf : xs.all flatV = true) (q : Q (.bl (inV x xs)) H) : rInU K x (.ref a) H Q := .inr ⟨a, xs, rfl, h, hx, hf, q⟩
theorem v_notin_q (h : SqL K H a xs ∨ SqT K H a xs) (hx : flatV x = true) (hf : xs.all flatV = true) (q : Q (.bl (!inV x xs)) H) : rNotInU K x (.ref a) H Q := .inr ⟨a, xs, rfl, h, hx, hf, q⟩
theorem k_m1 {r : V → List V → Hp → VK → Prop} (h : te σ H fun x H1 => (∃ a, x = .str a) ∧ ta σ H1 fun y H2 => r x [y] H2 Q) : tM1 r te ta σ H Q := h
def LcB (J : It) (g : TG) (tt : TT) (te : TE) (vs : List Nat) (σ : L2.St) (Q : VK) (H1 : Hp) : Prop := ∀ D, H1 D = none → ∃ W : Nat → Nat → Hp → Prop, (∃ m, W 0 m (upd H1 D (.lst []))) ∧ ∀ i m H, W i m H →
  (J.stop i H ∧ Q (.ref D) H) ∨ (J.go i H ∧ ∃ Nx : Hp → Prop, (∀ H', Nx H' → ∃ m', m' < m ∧ W (i + 1) m' H') ∧ ∀ x H', J.yld i H x H' → g x (wipe σ vs) H' fun σ2 H2 => wipe σ2 vs = wipe σ vs ∧ tt σ2 H2 fun b H3 =>
    if b = true then te σ2 H3 fun y H4 => ∃ acc, H4 D = some (.lst acc) ∧ acc.length < sizeLine ∧ Nx (upd H4 D (.lst (acc ++ [y]))) else Nx H3)
theorem k_lcl {g : TG} {tt : TT} {vs : List Nat} {wi : TI} (h : wi σ H fun J H1 => LcB J g tt te vs σ Q H1) : tLc wi g tt te vs σ H Q := h
end
structure LcW (P : Nat → V → Hp → Prop) (H1 : Hp) (Dl : Addr) (i : Nat) (H : Hp) : Prop where
  x : Xt H1 H
  ys : ∃ ys, H Dl = some (.lst ys) ∧ ys.length = i ∧ ∀ j y, ys[j]? = some y → P j y H
theorem LcW.turn {P : Nat → V → Hp → Prop} (mono : ∀ i y H H', Xt H H' → P i y H → P i y H') (hup : ∀ i y H b xs ys, H b = some (.lst xs) → P i y H → P i y (upd H b (.lst ys))) {H1 H H4 : Hp} {Dl : Addr} {i : Nat} {y : V} (hD : H1 Dl = none) (w : LcW P H1 Dl i H) (hx : Xt H H4) (hp : P i y H4) (hi : i < 100000) :
    ∃ acc, H4 Dl = some (.lst acc) ∧ acc.length < sizeLine ∧ LcW P H1 Dl (i + 1) (upd H4 Dl (.lst (acc ++ [y]))) := by
  obtain ⟨x, ys, e, l, h⟩ := w
  refine ⟨ys, hx _ _ e, by rw [l]; exact szlt hi, ⟨xmut (xtr x hx) hD, ys ++ [y], upd_same, by simp [l], fun j z hz => ?_⟩⟩
  refine hup _ _ _ _ ys _ (hx _ _ e) ?_
  by_cases hj : j < ys.length
  · rw [List.getElem?_append_left hj] at hz
    exact mono _ _ _ _ hx (h j z hz)
  · have : j = ys.length := by
      have := (List.getElem?_eq_some_iff.mp hz).1
      simp at this; omega
    subst this
    simp at hz
    subst hz
    rw [l]; exact hp
section
variable {K : PySem.W.Frag} {σ : L2.St} {H : Hp} {Q : VK} {te : TE} {vs : List Nat} {j : Nat} {Dl : Addr} {g : TG} {tt : TT}
theorem k_yesT {R : Bool → Hp → Prop} (h : R true H) : tYes σ H R := h
abbrev PV0 (P : Nat → V → Prop) : Nat → V → Hp → Prop := fun i y _ => P i y
theorem lc_rng {n : Nat} {lo : Int} (P : Nat → V → Prop) (hD : H Dl = none) (hn : n < 100000) (hw : ∀ x, wipe ((wipe σ vs).set j (some x)) vs = wipe σ vs)
    (body : ∀ i H', i < n → Xt H H' → ∀ R : VK, (∀ y H2, Xt H' H2 → P i y → R y H2) → te ((wipe σ vs).set j (some (.int (lo + (i : Int))))) H' R)
    (k : ∀ ys H2, ys.length = n → (∀ (i : Nat) (y : V), ys[i]? = some y → P i y) → Xt H H2 → H2 Dl = some (.lst ys) → Q (.ref Dl) H2) :
    ∃ W : Nat → Nat → Hp → Prop, (∃ m, W 0 m (upd H Dl (.lst []))) ∧ ∀ i m H, W i m H →
      ((Itr lo n).stop i H ∧ Q (.ref Dl) H) ∨ ((Itr lo n).go i H ∧ ∃ Nx : Hp → Prop, (∀ H', Nx H' → ∃ m', m' < m ∧ W (i + 1) m' H') ∧ ∀ x H', (Itr lo n).yld i H x H' → gName j x (wipe σ vs) H' fun σ2 H2 => wipe σ2 vs = wipe σ vs ∧ tYes σ2 H2 fun b H3 =>
        if b = true then te σ2 H3 fun y H4 => ∃ acc, H4 Dl = some (.lst acc) ∧ acc.length < sizeLine ∧ Nx (upd H4 Dl (.lst (acc ++ [y]))) else Nx H3) :=
  lc_range (g := gName j) (tt := tYes) (te := te) (σ := σ) (vs := vs) (fun i H' => LcW (PV0 P) H Dl i H') ⟨xnew hD, [], upd_same, rfl, fun _ _ e => by simp at e⟩
    (fun i H' hi w => ⟨hw _, by refine k_yesT ?_; rw [if_pos rfl]; exact (body i H' hi w.x _ fun y H2 x2 hp => w.turn (fun _ _ _ _ _ h => h) (fun _ _ _ _ _ _ _ h => h) hD x2 hp (by omega))⟩)
    (fun H' w => by obtain ⟨x, ys, e, l, h⟩ := w; exact k ys H' l h x e)
theorem lc_lst {a : Addr} {xs : List V} (P : Nat → V → Prop) (hs : SqL K H a xs) (hD : H Dl = none) (hn : xs.length < 100000) (hw : ∀ x, wipe ((wipe σ vs).set j (some x)) vs = wipe σ vs)
    (body : ∀ i x H', xs[i]? = some x → Xt H H' → ∀ R : VK, (∀ y H2, Xt H' H2 → P i y → R y H2) → te ((wipe σ vs).set j (some x)) H' R)
    (k : ∀ ys H2, ys.length = xs.length → (∀ (i : Nat) (y : V), ys[i]? = some y → P i y) → Xt H H2 → H2 Dl = some (.lst ys) → Q (.ref Dl) H2) :
    ∃ W : Nat → Nat → Hp → Prop, (∃ m, W 0 m (upd H Dl (.lst []))) ∧ ∀ i m H, W i m H →
      ((Itl K a).stop i H ∧ Q (.ref Dl) H) ∨ ((Itl K a).go i H ∧ ∃ Nx : Hp → Prop, (∀ H', Nx H' → ∃ m', m' < m ∧ W (i + 1) m' H') ∧ ∀ x H', (Itl K a).yld i H x H' → gName j x (wipe σ vs) H' fun σ2 H2 => wipe σ2 vs = wipe σ vs ∧ tYes σ2 H2 fun b H3 =>
        if b = true then te σ2 H3 fun y H4 => ∃ acc, H4 Dl = some (.lst acc) ∧ acc.length < sizeLine ∧ Nx (upd H4 Dl (.lst (acc ++ [y]))) else Nx H3) :=
  lc_list (g := gName j) (tt := tYes) (te := te) (σ := σ) (vs := vs) (fun i H' => LcW (PV0 P) H Dl i H') ⟨xnew hD, [], upd_same, rfl, fun _ _ e => by simp at e⟩ (fun i H' _ w => xl w.x hs)
    (fun i x H' hi w => ⟨hw _, by refine k_yesT ?_; rw [if_pos rfl]; exact (body i x H' hi w.x _ fun y H2 x2 hp => w.turn (fun _ _ _ _ _ h => h) (fun _ _ _ _ _ _ _ h => h) hD x2 hp (by have := (List.getElem?_eq_some_iff.mp hi).1; omega))⟩)
    (fun H' w => by obtain ⟨x, ys, e, l, h⟩ := w; exact k ys H' l h x e)
theorem walk_text (z : Str) : Walk (Its z) z.cps.size (fun _ => True) (fun i H v H' => H' = H ∧ ∃ c, z.cps[i]? = some c ∧ v = .str ⟨#[c]⟩) :=
  ⟨fun _ _ h _ => h, fun _ _ => Nat.le_refl _, fun _ _ _ _ _ _ h => h⟩
theorem lc_txt {z : Str} (P : Nat → V → Prop) (hD : H Dl = none) (hn : z.length < 100000) (hw : ∀ x, wipe ((wipe σ vs).set j (some x)) vs = wipe σ vs)
    (body : ∀ i c H', z.cps[i]? = some c → Xt H H' → ∀ R : VK, (∀ y H2, Xt H' H2 → P i y → R y H2) → te ((wipe σ vs).set j (some (.str ⟨#[c]⟩))) H' R)
    (k : ∀ ys H2, ys.length = z.length → (∀ (i : Nat) (y : V), ys[i]? = some y → P i y) → Xt H H2 → H2 Dl = some (.lst ys) → Q (.ref Dl) H2) :
    ∃ W : Nat → Nat → Hp → Prop, (∃ m, W 0 m (upd H Dl (.lst []))) ∧ ∀ i m H, W i m H →
      ((Its z).stop i H ∧ Q (.ref Dl) H) ∨ ((Its z).go i H ∧ ∃ Nx : Hp → Prop, (∀ H', Nx H' → ∃ m', m' < m ∧ W (i + 1) m' H') ∧ ∀ x H', (Its z).yld i H x H' → gName j x (wipe σ vs) H' fun σ2 H2 => wipe σ2 vs = wipe σ vs ∧ tYes σ2 H2 fun b H3 =>
        if b = true then te σ2 H3 fun y H4 => ∃ acc, H4 Dl = some (.lst acc) ∧ acc.length < sizeLine ∧ Nx (upd H4 Dl (.lst (acc ++ [y]))) else Nx H3) :=
  lc_it (walk_text z) (g := gName j) (tt := tYes) (te := te) (σ := σ) (vs := vs) (fun i H' => LcW (PV0 P) H Dl i H') ⟨xnew hD, [], upd_same, rfl, fun _ _ e => by simp at e⟩ (fun _ _ _ _ => trivial)
    (fun i x H' H2 hi w hy => by
      obtain ⟨e, c, hc, e2⟩ := hy
      subst e; subst e2
      exact ⟨hw _, by refine k_yesT ?_; rw [if_pos rfl]; exact (body i c H2 hc w.x _ fun y H2 x2 hp => w.turn (fun _ _ _ _ _ h => h) (fun _ _ _ _ _ _ _ h => h) hD x2 hp (by
        have h2 : z.cps.size < 100000 := hn
        omega))⟩)
    (fun H' w => by obtain ⟨x, ys, e, l, h⟩ := w; exact k ys H' l h x e)
theorem b_rng {n : Nat} {lo : Int} (P : Nat → V → Prop) (hn : n < 100000) (hw : ∀ x, wipe ((wipe σ vs).set j (some x)) vs = wipe σ vs)
    (body : ∀ i H', i < n → Xt H H' → ∀ R : VK, (∀ y H2, Xt H' H2 → P i y → R y H2) → te ((wipe σ vs).set j (some (.int (lo + (i : Int))))) H' R)
    (k : ∀ Dl ys H2, H Dl = none → ys.length = n → (∀ (i : Nat) (y : V), ys[i]? = some y → P i y) → Xt H H2 → H2 Dl = some (.lst ys) → Q (.ref Dl) H2) : LcB (Itr lo n) (gName j) tYes te vs σ Q H :=
  fun Dl hD => lc_rng P hD hn hw body fun ys H2 l h x e => k Dl ys H2 hD l h x e
theorem b_lst {a : Addr} {xs : List V} (P : Nat → V → Prop) (hs : SqL K H a xs) (hn : xs.length < 100000) (hw : ∀ x, wipe ((wipe σ vs).set j (some x)) vs = wipe σ vs)
    (body : ∀ i x H', xs[i]? = some x → Xt H H' → ∀ R : VK, (∀ y H2, Xt H' H2 → P i y → R y H2) → te ((wipe σ vs).set j (some x)) H' R)
    (k : ∀ Dl ys H2, H Dl = none → ys.length = xs.length → (∀ (i : Nat) (y : V), ys[i]? = some y → P i y) → Xt H H2 → H2 Dl = some (.lst ys) → Q (.ref Dl) H2) : LcB (Itl K a) (gName j) tYes te vs σ Q H :=
  fun Dl hD => lc_lst P hs hD hn hw body fun ys H2 l h x e => k Dl ys H2 hD l h x e
theorem b_txt {z : Str} (P : Nat → V → Prop) (hn : z.length < 100000) (hw : ∀ x, wipe ((wipe σ vs).set j (some x)) vs = wipe σ vs)
    (body : ∀ i c H', z.cps[i]? = some c → Xt H H' → ∀ R : VK, (∀ y H2, Xt H' H2 → P i y → R y H2) → te ((wipe σ vs).set j (some (.str ⟨#[c]⟩))) H' R)
    (k : ∀ Dl ys H2, H Dl = none → ys.length = z.length → (∀ (i : Nat) (y : V), ys[i]? = some y → P i y) → Xt H H2 → H2 Dl = some (.lst ys) → Q (.ref Dl) H2) : LcB (Its z) (gName j) tYes te vs σ Q H :=
  fun Dl hD => lc_txt P hD hn hw body fun ys H2 l h x e => k Dl ys H2 hD l h x e
end
end CW

set_option Elab.async false
set_option linter.all false
set_option maxRecDepth 100000
set_option maxHeartbeats 1000000
namespace CW
open PySem PySem.Spec PyProof.Rows L2
section
variable {K : PySem.W.Frag} {σ : L2.St} {H : Hp} {Q : VK} {D : Ends} {te to : TE} {a l : Addr} {xs : List V} {z : Str} {i : Int} {v x : V} {c : Nat} {t : TA}
def NewL (xs : List V) (H : Hp) (Q : VK) : Prop := xs.length ≤ sizeLine ∧ ∀ p, H p = none → Q (.ref p) (upd H p (.lst xs))
def NewT (xs : List V) (H : Hp) (Q : VK) : Prop := xs.length ≤ sizeLine ∧ ∀ p, H p = none → Q (.ref p) (upd H p (.tup xs))
theorem k_lst0 (h : t σ H fun xs H1 => NewL xs H1 Q) : tLst t σ H Q := h
theorem k_tup0 (h : t σ H fun xs H1 => NewT xs H1 Q) : tTup t σ H Q := h
theorem v_new (hz : xs.length ≤ 100000) (q : ∀ p H2, H p = none → Xt H H2 → H2 p = some (.lst xs) → Q (.ref p) H2) : NewL xs H Q :=
  ⟨szle hz, fun p hp => q p _ hp (xnew hp) upd_same⟩
theorem v_newT (hz : xs.length ≤ 100000) (q : ∀ p H2, H p = none → Xt H H2 → H2 p = some (.tup xs) → Q (.ref p) H2) : NewT xs H Q :=
  ⟨szle hz, fun p hp => q p _ hp (xnew hp) upd_same⟩
theorem k_cut {t' u' : TS} (Mid : L2.St → Hp → Prop) (h1 : t' { D with nx := Mid } σ H) (h2 : ∀ σ' H', Mid σ' H' → u' D σ' H') : Evl.tCut t' u' D σ H := ⟨Mid, h1, h2⟩
theorem k_bm {T : String} {r : V → List V → Hp → VK → Prop} (h : to σ H fun x H1 => tyV K T x H1 ∧ t σ H1 fun xs H2 => r x xs H2 Q) : tBM K T r to t σ H Q := h
theorem v_app (e : H l = some (.lst xs)) (hz : xs.length < 100000) (q : Q .non (upd H l (.lst (xs ++ [v])))) : rAppend (.ref l) [v] H Q := ⟨l, xs, v, rfl, rfl, e, szlt hz, q⟩
theorem ty_l (e : H l = some (.lst xs)) : tyV K "list" (.ref l) H := .inl ⟨rfl, xs, sql e⟩
theorem k_for {wi : TI} {g : TG} {tb : TS} (h : wi σ H fun J H1 => ∃ W : Nat → Nat → L2.St → Hp → Prop, (∃ m, W 0 m σ H1) ∧ ∀ i m σ H, W i m σ H →
  (J.stop i H ∧ D.nx σ H) ∨ (J.go i H ∧ ∃ N : L2.St → Hp → Prop, (∀ σ' H', N σ' H' → ∃ m', m' < m ∧ W (i + 1) m' σ' H') ∧ ∀ x H', J.yld i H x H' → g x σ H' fun σ2 H2 => tb { D with nx := N, ct := N, bk := D.nx } σ2 H2)) : tFor wi g tb D σ H := h
theorem k_ilist {R : It → Hp → Prop} (h : te σ H fun x H1 => ∃ a, x = .ref a ∧ (∃ xs, SqL K H1 a xs) ∧ R (Itl K a) H1) : iList K te σ H R := h
theorem k_itup {R : It → Hp → Prop} (h : te σ H fun x H1 => ∃ a, x = .ref a ∧ (∃ xs, SqT K H1 a xs) ∧ R (Itt K a) H1) : iTup K te σ H R := h
theorem k_istr {R : It → Hp → Prop} (h : te σ H fun v H1 => ∃ x, v = .str x ∧ R (Its x) H1) : iStr te σ H R := h
theorem k_irng1 {R : It → Hp → Prop} (h : t σ H fun vs H1 => ∃ j : Int, vs = [.int j] ∧ -(2 ^ 62) ≤ j ∧ j < 2 ^ 62 ∧ R (Itr 0 j.toNat) H1) : iRng1 t σ H R := h
theorem v_isi_str (q : Q (.bl true) H) : rIsi K [.str z, .ty "str"] H Q := ⟨.str z, .ty "str", .type "str", .type "str", true, rfl, .ty "str", .base (.str z), kit_ty (by decide +kernel), q⟩
theorem v_all {bs : List Bool} (h : SqL K H a (bs.map V.bl)) (q : Q (.bl (bs.all id)) H) : rAll K [.ref a] H Q := ⟨a, bs, rfl, h, q⟩
def rJoin (K : PySem.W.Frag) : V → List V → Hp → VK → Prop := fun x xs H Q => ∃ a p, ∃ ys : List Str, x = .str a ∧ xs = [.ref p] ∧ (SqL K H p (ys.map V.str) ∨ SqT K H p (ys.map V.str)) ∧
      (ys.map (·.length)).sum + ys.length * a.length ≤ 16777216 ∧ Q (.str (Txt.join a ys)) H
theorem v_join {ys : List Str} {s : Str} (h : SqL K H a (ys.map V.str)) (hz : (ys.map (·.length)).sum + ys.length * s.length ≤ 16777216) (q : Q (.str (Txt.join s ys)) H) : rJoin K (.str s) [.ref a] H Q :=
  ⟨s, a, ys, rfl, rfl, .inl h, hz, q⟩
theorem v_isstr {A : Prop} (h : A) : (∃ a, V.str z = .str a) ∧ A := ⟨⟨z, rfl⟩, h⟩
end
section
variable {X : Cx} {o e : Expr} {to te : TE}
theorem pe_joinN {apos pos : Pos} (ho : PE X o to) (he : PE X e te) (hs : starEach [e] X.env = [(false, eval e X.env)] := by rfl) (hbase : attributeBase o "join" X.env (eval o X.env) = eval o X.env := by rfl) (hline : (apos.endLine == pos.line) = true := by rfl) :
    PE X (.Call (.Attribute o "join" apos) [e] [] pos) (tM1 (rJoin X.K) to te) := pe_join ho he hs hbase hline
end
/-! places -/
theorem atI_ok {α : Type} {l : List α} {i : Int} (h0 : 0 ≤ i) (h1 : i < (l.length : Int)) : ∃ c, atI l i = some c ∧ l[i.toNat]? = some c := by
  have h : i.toNat < l.length := by omega
  obtain ⟨j, rfl⟩ : ∃ j : Nat, i = (j : Int) := ⟨i.toNat, by omega⟩
  exact ⟨l[j]'(by omega), atI_nat (List.getElem?_eq_getElem (by omega)), by rw [Int.toNat_natCast]; exact List.getElem?_eq_getElem (by omega)⟩
theorem atI_int {ns : List Int} {i : Int} (h0 : 0 ≤ i) (h1 : i < (ns.length : Int)) : ∃ n, atI (ns.map V.int) i = some (.int n) ∧ ns[i.toNat]? = some n := by
  obtain ⟨c, e1, e2⟩ := atI_ok (l := ns.map V.int) h0 (by rw [List.length_map]; exact h1)
  rw [List.getElem?_map] at e2
  cases q : ns[i.toNat]? with
  | none => rw [q] at e2; cases e2
  | some n => rw [q] at e2; cases e2; exact ⟨n, e1, rfl⟩
theorem atI_mod {α : Type} {l : List α} {i : Int} (h : 0 < l.length) : ∃ c, atI l (i % (l.length : Int)) = some c := by
  obtain ⟨c, e, _⟩ := atI_ok (l := l) (i := i % (l.length : Int)) (Int.emod_nonneg _ (by omega)) (Int.emod_lt_of_pos _ (by omega))
  exact ⟨c, e⟩
theorem map_int_at {ns : List Int} {i : Nat} {x : V} (h : (ns.map V.int)[i]? = some x) : ∃ n, x = .int n ∧ ns[i]? = some n := by
  rw [List.getElem?_map] at h
  cases q : ns[i]? with
  | none => rw [q] at h; cases h
  | some n => rw [q] at h; cases h; exact ⟨n, rfl, rfl⟩
/-! digits -/
def DigOk (ds ss : List Int) : Prop := ds.length = ss.length ∧ ∀ (j : Nat) (d s : Int), ds[j]? = some d → ss[j]? = some s → 0 ≤ d ∧ d < s
theorem DigOk.nil : DigOk [] [] := ⟨rfl, fun _ _ _ h => by simp at h⟩
theorem DigOk.snoc {ds ss : List Int} {i : Nat} {d s : Int} (h : DigOk ds (ss.take i)) (hs : ss[i]? = some s) (h0 : 0 ≤ d) (h1 : d < s) : DigOk (ds ++ [d]) (ss.take (i + 1)) := by
  have hi : i < ss.length := (List.getElem?_eq_some_iff.mp hs).1
  have hl : ds.length = i := by rw [h.1, List.length_take]; omega
  refine ⟨by rw [List.length_append, hl, List.length_take, List.length_singleton]; omega, fun j e t he ht => ?_⟩
  by_cases hj : j < i
  · rw [List.getElem?_append_left (by omega)] at he
    rw [List.getElem?_take_of_lt (by omega)] at ht
    exact h.2 j e t he (by rw [List.getElem?_take_of_lt hj]; exact ht)
  · have : j = i := by
      have := (List.getElem?_eq_some_iff.mp he).1
      rw [List.length_append, List.length_singleton] at this; omega
    subst this
    rw [List.getElem?_take_of_lt (by omega), hs] at ht
    rw [List.getElem?_append_right (by omega), hl] at he
    simp at he
    cases ht
    subst he
    exact ⟨h0, h1⟩
/-! texts -/
theorem len_app (a b : Str) : (a ++ b).length = a.length + b.length := Array.size_append
theorem len_cut (z : Str) (lo hi : Option Int) : (cutS z lo hi).length ≤ z.length := by
  show (((z.cps.toList.drop (HT.sIx z.length 0 lo)).take (HT.sIx z.length z.length hi - HT.sIx z.length 0 lo)).toArray).size ≤ z.cps.size
  rw [List.size_toArray, List.length_take, List.length_drop, Array.length_toList]
  omega
theorem len_one (c : Nat) : (⟨#[c]⟩ : Str).length = 1 := rfl
theorem len_up (x : Str) : (Txt.upper x).length ≤ 3 * x.length := PyProof.Rows.len_upper x
theorem cut_from1 (z : Str) : (cutS z (some 1) none).cps.toList = z.cps.toList.drop 1 := by
  show ((z.cps.toList.drop (HT.sIx z.length 0 (some 1))).take (HT.sIx z.length z.length none - HT.sIx z.length 0 (some 1))).toArray.toList = _
  have e : HT.sIx z.length 0 (some 1) = min 1 z.length := HT.sIx_nat z.length 0 1
  rw [e, HT.sIx_none]
  have hl : z.cps.toList.length = z.length := by rw [Array.length_toList]; rfl
  by_cases h : z.length = 0
  · have : z.cps.toList = [] := List.length_eq_zero_iff.mp (by omega)
    rw [this]; simp
  · rw [show min 1 z.length = 1 by omega]
    exact List.take_of_length_le (by rw [List.length_drop]; omega)
/-! lengths -/
theorem lb_app {a b : Str} {n m : Nat} (h1 : a.length ≤ n) (h2 : b.length ≤ m) : (a ++ b).length ≤ n + m := by rw [len_app]; exact Nat.add_le_add h1 h2
theorem lb_cut {z : Str} {lo hi : Option Int} {n : Nat} (h : z.length ≤ n) : (cutS z lo hi).length ≤ n := Nat.le_trans (len_cut z lo hi) h
theorem lb_one {c : Nat} : (⟨#[c]⟩ : Str).length ≤ 1 := Nat.le_refl 1
theorem lb_up {z : Str} {n : Nat} (h : z.length ≤ n) : (Txt.upper z).length ≤ 3 * n := Nat.le_trans (len_up z) (Nat.mul_le_mul_left 3 h)
/-! lists of values told one by one -/
theorem list_map_of {α : Type} {ys : List V} {l : List α} {f : α → V} (hl : ys.length = l.length) (h : ∀ (i : Nat) (y : V), ys[i]? = some y → ∃ c, l[i]? = some c ∧ y = f c) : ys = l.map f := by
  apply List.ext_getElem?
  intro i
  rw [List.getElem?_map]
  cases e : ys[i]? with
  | none =>
    have : l.length ≤ i := by rw [← hl]; exact List.getElem?_eq_none_iff.mp e
    rw [List.getElem?_eq_none_iff.mpr this]; rfl
  | some y =>
    obtain ⟨c, h1, h2⟩ := h i y e
    rw [h1, h2]; rfl
theorem atI_mem {α : Type} {l : List α} {i : Int} {c : α} (h : atI l i = some c) : c ∈ l := by
  unfold atI at h
  cases e : ixN l.length i with
  | none => rw [e] at h; cases h
  | some j => rw [e] at h; exact List.mem_of_getElem? h
theorem cutV_mem {xs : List V} {lo hi : Option Int} {v : V} (h : v ∈ cutV xs lo hi) : v ∈ xs := List.mem_of_mem_drop (List.mem_of_mem_take h)
theorem DigOk.get {ds ss : List Int} (h : DigOk ds ss) {s : Int} (k : Nat) (i : Int) (hi : i = (k : Int)) (hs : ss[k]? = some s) : ∃ d, atI (ds.map V.int) i = some (.int d) ∧ 0 ≤ d ∧ d < s := by
  have hk : k < ss.length := (List.getElem?_eq_some_iff.mp hs).1
  have hk2 : k < ds.length := by rw [h.1]; exact hk
  refine ⟨ds[k], ?_, h.2 k _ s (List.getElem?_eq_getElem hk2) hs⟩
  rw [hi]
  exact atI_nat (by rw [List.getElem?_map, List.getElem?_eq_getElem hk2]; rfl)
theorem cutV_at {xs : List V} {k i : Nat} {hi : Option Int} {x : V} (hk : k ≤ xs.length) (h : (cutV xs (some (k : Int)) hi)[i]? = some x) : xs[k + i]? = some x := by
  unfold cutV at h
  rw [HT.sIx_nat, show min k xs.length = k by omega] at h
  rw [List.getElem?_take] at h
  split at h
  · rw [List.getElem?_drop] at h; exact h
  · cases h
theorem DigOk.at {ds ss : List Int} (h : DigOk ds ss) {j : Nat} {d : Int} (hd : ds[j]? = some d) : ∃ s, ss[j]? = some s ∧ 0 ≤ d ∧ d < s := by
  have hj : j < ss.length := by rw [← h.1]; exact (List.getElem?_eq_some_iff.mp hd).1
  exact ⟨ss[j], List.getElem?_eq_getElem hj, h.2 j d _ hd (List.getElem?_eq_getElem hj)⟩
theorem sum_ones : ∀ cs : List Nat, ((cs.map fun c => (⟨#[c]⟩ : Str)).map (·.length)).sum = cs.length
  | [] => rfl
  | c :: r => by
    show 1 + ((r.map fun c => (⟨#[c]⟩ : Str)).map (·.length)).sum = r.length + 1
    rw [sum_ones r]; omega
end CW

set_option Elab.async false
set_option linter.all false
set_option maxRecDepth 100000
set_option maxHeartbeats 1000000
namespace CW
open PySem PySem.Spec PyProof.Rows L2
theorem abs_rel {u : Value} {x : V} (h : absV u = some x) : RelV x u := by
  cases u <;> simp [absV] at h <;> subst h <;> first | rfl | exact ⟨_, rfl⟩
theorem abs_vals : ∀ {us : List Value} {xs : List V}, us.map absV = xs.map some → Vals xs us
  | [], [], _ => .nil
  | [], _ :: _, h => by cases h
  | _ :: _, [], h => by cases h
  | u :: us, x :: xs, h => by
    rw [List.map_cons, List.map_cons] at h
    injection h with h1 h2
    exact .cons (abs_rel h1) (abs_vals h2)
section
variable {K : PySem.W.Frag} {x qual : Str} {st : Stmt} {f : Addr} {fd : FuncData} {ps ks : List Str}
theorem fun_kbn (F : Fun K x qual st f fd) (h : ∀ (kV doc pm : Value) (an : Option Addr) (cdv ct : Value) (ws : List Value), ws.length = ks.length → bindArgs (PySem.W.fnOf x qual (defArgs st) (defBody st) (defScope st) .none kV doc pm an cdv ct) ⟨[], ks.zip ws⟩ = pure (ps.zip ws)) :
    KBn K fd ps 0 ks (fun _ ws => ws) (fun _ zs => zs) := by
  obtain ⟨oc, od, kV, doc, pm, an, cdv, ct, osl, rfl, lk, hcd⟩ := F.ex
  refine ⟨fun s us ws _ h0 h1 => ?_, fun _ r => r⟩
  cases us with
  | cons _ _ => cases h0
  | nil => exact BindsTo.of_eq (h kV doc pm an cdv ct ws h1)
theorem sqt_K {a : Addr} {oc : Value} {od : Option Addr} {its : Array Value} {n : Nat} {sl : Array (Option Value)} {xs : List V} (l : K.lookup a = some ⟨oc, od, .seq its n, sl⟩) (c : oc = .type "tuple") (z : its.size ≤ sizeLine) (h : its.toList.map absV = xs.map some) (H : Hp) : SqT K H a xs :=
  .inr ⟨_, its, n, l, c, rfl, z, abs_vals h⟩
end
end CW

set_option Elab.async false
set_option linter.all false
set_option maxRecDepth 100000
set_option maxHeartbeats 1000000
/-! nested data -/
namespace CW
open PySem PySem.Spec PyProof.Rows L2
theorem szL {n : Nat} (h : n ≤ 10000000) : n ≤ sizeLine := Nat.le_trans h (by decide)
theorem szL2 {n : Nat} (h : n < 10000000) : n < sizeLine := Nat.lt_of_lt_of_le h (by decide)
end CW
namespace L2
open PySem PySem.Spec PyProof.Rows CW
mutual
theorem Dp.mono {K : PySem.W.Frag} {H H' : Hp} (e : Xt H H') : ∀ {v : V} {d : PyData}, Dp K H v d → Dp K H' v d
  | _, _, .non => .non
  | _, _, .bl b => .bl b
  | _, _, .int i => .int i
  | _, _, .str x => .str x
  | _, _, .lst hs ha => .lst (xl e hs) (DpAll.mono e ha)
  | _, _, .tup hs ha => .tup (xt e hs) (DpAll.mono e ha)
theorem DpAll.mono {K : PySem.W.Frag} {H H' : Hp} (e : Xt H H') : ∀ {vs : List V} {ds : List PyData}, DpAll K H vs ds → DpAll K H' vs ds
  | _, _, .nil => .nil
  | _, _, .cons h1 h2 => .cons (Dp.mono e h1) (DpAll.mono e h2)
end
section
variable {K : PySem.W.Frag} {H H' : Hp} {v : V} {vs ws : List V} {d : PyData} {ds es : List PyData} {a : Addr}
theorem DpAll.len : ∀ {vs : List V} {ds : List PyData}, DpAll K H vs ds → vs.length = ds.length
  | _, _, .nil => rfl
  | _, _, .cons _ h => congrArg Nat.succ (DpAll.len h)
theorem DpAll.get : ∀ {vs : List V} {ds : List PyData} {i : Nat} {d : PyData}, DpAll K H vs ds → ds[i]? = some d → ∃ v, vs[i]? = some v ∧ Dp K H v d
  | _, _, _, _, .nil, e => by simp at e
  | _, _, 0, _, .cons h _, e => by simp at e; subst e; exact ⟨_, rfl, h⟩
  | _, _, i + 1, d, .cons _ h, e => by
    obtain ⟨v, h1, h2⟩ := DpAll.get (i := i) (d := d) h (by simpa using e)
    exact ⟨v, by simpa using h1, h2⟩
theorem DpAll.getV : ∀ {vs : List V} {ds : List PyData} {i : Nat} {v : V}, DpAll K H vs ds → vs[i]? = some v → ∃ d, ds[i]? = some d ∧ Dp K H v d
  | _, _, _, _, .nil, e => by simp at e
  | _, _, 0, _, .cons h _, e => by simp at e; subst e; exact ⟨_, rfl, h⟩
  | _, _, i + 1, d, .cons _ h, e => by
    obtain ⟨v, h1, h2⟩ := DpAll.getV (i := i) (v := d) h (by simpa using e)
    exact ⟨v, by simpa using h1, h2⟩
theorem DpAll.app : ∀ {vs ws : List V} {ds es : List PyData}, DpAll K H vs ds → DpAll K H ws es → DpAll K H (vs ++ ws) (ds ++ es)
  | _, _, _, _, .nil, h => h
  | _, _, _, _, .cons h1 h2, h => .cons h1 (DpAll.app h2 h)
theorem DpAll.drop : ∀ (n : Nat) {vs : List V} {ds : List PyData}, DpAll K H vs ds → DpAll K H (vs.drop n) (ds.drop n)
  | 0, _, _, h => h
  | _ + 1, _, _, .nil => .nil
  | n + 1, _, _, .cons _ h => DpAll.drop n h
theorem DpAll.take : ∀ (n : Nat) {vs : List V} {ds : List PyData}, DpAll K H vs ds → DpAll K H (vs.take n) (ds.take n)
  | 0, _, _, _ => .nil
  | _ + 1, _, _, .nil => .nil
  | n + 1, _, _, .cons h h2 => .cons h (DpAll.take n h2)
theorem DpAll.rev : ∀ {vs : List V} {ds : List PyData}, DpAll K H vs ds → DpAll K H vs.reverse ds.reverse
  | _, _, .nil => .nil
  | _, _, .cons h h2 => by
    rw [List.reverse_cons, List.reverse_cons]
    exact DpAll.app (DpAll.rev h2) (.cons h .nil)
def cutP (ds : List PyData) (lo hi : Option Int) : List PyData := (ds.drop (HT.sIx ds.length 0 lo)).take (HT.sIx ds.length ds.length hi - HT.sIx ds.length 0 lo)
theorem DpAll.cut {lo hi : Option Int} (h : DpAll K H vs ds) : DpAll K H (cutV vs lo hi) (cutP ds lo hi) := by
  unfold cutV cutP
  rw [h.len]
  exact DpAll.take _ (DpAll.drop _ h)
theorem Dp.tup_inv {ds : List PyData} (h : Dp K H v (.tuple ds)) : ∃ a xs, v = .ref a ∧ SqT K H a xs ∧ DpAll K H xs ds := by
  cases h with
  | tup hs ha => exact ⟨_, _, rfl, hs, ha⟩
theorem Dp.lst_inv {ds : List PyData} (h : Dp K H v (.list ds)) : ∃ a xs, v = .ref a ∧ SqL K H a xs ∧ DpAll K H xs ds := by
  cases h with
  | lst hs ha => exact ⟨_, _, rfl, hs, ha⟩
theorem Dp.str_inv {z : Str} (h : Dp K H v (.str z)) : v = .str z := by cases h; rfl
theorem Dp.int_inv {z : Int} (h : Dp K H v (.int z)) : v = .int z := by cases h; rfl
theorem Dp.non_inv (h : Dp K H v .none) : v = .non := by cases h; rfl
theorem DpAll.nil_inv (h : DpAll K H vs []) : vs = [] := by cases h; rfl
theorem DpAll.cons_inv (h : DpAll K H vs (d :: ds)) : ∃ w ws, vs = w :: ws ∧ Dp K H w d ∧ DpAll K H ws ds := by
  cases h with
  | cons h1 h2 => exact ⟨_, _, rfl, h1, h2⟩
theorem DpAll.strs : ∀ (zs : List Str), DpAll K H (zs.map V.str) (zs.map PyData.str)
  | [] => .nil
  | z :: r => .cons (.str z) (DpAll.strs r)
theorem DpAll.strs_inv : ∀ {zs : List Str} {vs : List V}, DpAll K H vs (zs.map PyData.str) → vs = zs.map V.str
  | [], _, h => by cases h; rfl
  | z :: r, _, h => by
    obtain ⟨w, ws, rfl, h1, h2⟩ := DpAll.cons_inv h
    rw [Dp.str_inv h1, DpAll.strs_inv h2]; rfl
theorem DpAll.ints_inv : ∀ {zs : List Int} {vs : List V}, DpAll K H vs (zs.map PyData.int) → vs = zs.map V.int
  | [], _, h => by cases h; rfl
  | z :: r, _, h => by
    obtain ⟨w, ws, rfl, h1, h2⟩ := DpAll.cons_inv h
    rw [Dp.int_inv h1, DpAll.ints_inv h2]; rfl
theorem Dp.of_tup (e : H a = some (.tup vs)) (h : DpAll K H vs ds) : Dp K H (.ref a) (.tuple ds) := .tup (sqt e) h
theorem Dp.of_lst (e : H a = some (.lst vs)) (h : DpAll K H vs ds) : Dp K H (.ref a) (.list ds) := .lst (sql e) h
end
end L2
namespace CW
open PySem PySem.Spec PyProof.Rows L2
section
variable {K : PySem.W.Frag} {σ : L2.St} {H : Hp} {Q : VK} {a b : Addr} {xs ys : List V} {ds es : List PyData} {v x y : V} {d e : PyData} {i : Int}
/-! steps over data -/
theorem d_ix (h : Dp K H x (.tuple ds)) (ha : atI ds i = some d) (q : ∀ v, Dp K H v d → Q v H) : rIx K x (.int i) H Q := by
  obtain ⟨a, xs, rfl, hs, hd⟩ := Dp.tup_inv h
  unfold atI at ha
  cases e : ixN ds.length i with
  | none => rw [e] at ha; cases ha
  | some j =>
    rw [e] at ha
    obtain ⟨v, hv, hd2⟩ := DpAll.get hd (show ds[j]? = some d from ha)
    exact v_ix_t hs (by unfold atI; rw [hd.len, e]; exact hv) (q v hd2)
theorem d_ixl (h : Dp K H x (.list ds)) (ha : atI ds i = some d) (q : ∀ v, Dp K H v d → Q v H) : rIx K x (.int i) H Q := by
  obtain ⟨a, xs, rfl, hs, hd⟩ := Dp.lst_inv h
  unfold atI at ha
  cases e : ixN ds.length i with
  | none => rw [e] at ha; cases ha
  | some j =>
    rw [e] at ha
    obtain ⟨v, hv, hd2⟩ := DpAll.get hd (show ds[j]? = some d from ha)
    exact v_ix_l hs (by unfold atI; rw [hd.len, e]; exact hv) (q v hd2)
theorem d_len (h : Dp K H x (.tuple ds)) (q : Q (.int ds.length) H) : rLenU K [x] H Q := by
  obtain ⟨a, xs, rfl, hs, hd⟩ := Dp.tup_inv h
  exact v_len_t hs (by rw [hd.len]; exact q)
theorem d_plus (h1 : Dp K H x (.tuple ds)) (h2 : Dp K H y (.tuple es)) (hz : ds.length + es.length ≤ 10000000) (q : ∀ v H', Xt H H' → Dp K H' v (.tuple (ds ++ es)) → Q v H') : rPlus K x y H Q := by
  obtain ⟨a, xs, rfl, hs, hd⟩ := Dp.tup_inv h1
  obtain ⟨b, ys, rfl, hs2, hd2⟩ := Dp.tup_inv h2
  exact v_plus_tup hs hs2 (by rw [hd.len, hd2.len]; exact szL hz) fun p H' x' hp => q _ _ x' (.tup hp (DpAll.mono x' (DpAll.app hd hd2)))
theorem d_cut {lo hi : Option Int} (h : Dp K H x (.tuple ds)) (q : ∀ v H', Xt H H' → Dp K H' v (.tuple (cutP ds lo hi)) → Q v H') : rSlU K x lo hi H Q := by
  obtain ⟨a, xs, rfl, hs, hd⟩ := Dp.tup_inv h
  refine .inr (.inr ⟨a, xs, rfl, hs, fun he => q _ _ (xrefl H) (.tup hs ?_), fun _ p hp => q _ _ (xnew hp) (.of_tup upd_same (DpAll.mono (xnew hp) (DpAll.cut hd)))⟩)
  have e2 : cutP ds lo hi = ds := by
    unfold cutP
    rw [← hd.len, he.1, he.2, List.drop_zero, Nat.sub_zero, hd.len]
    exact List.take_length
  rw [e2]; exact hd
end
end CW

set_option Elab.async false
set_option linter.all false
set_option maxRecDepth 100000
set_option maxHeartbeats 1000000
/-! data that never changes; comprehensions over data; objects and dicts -/
namespace CW
open PySem PySem.Spec PyProof.Rows L2
mutual
def Im : PyData → Bool
  | .none => true
  | .bool _ => true
  | .int _ => true
  | .str _ => true
  | .list _ => false
  | .dict _ => false
  | .tuple ds => ImAll ds
def ImAll : List PyData → Bool
  | [] => true
  | d :: ds => Im d && ImAll ds
end
theorem imAll_iff : ∀ {ds : List PyData}, ImAll ds = true ↔ ∀ d ∈ ds, Im d = true
  | [] => by simp [ImAll]
  | d :: ds => by
    rw [ImAll, Bool.and_eq_true, imAll_iff (ds := ds)]
    simp
end CW
namespace L2
open PySem PySem.Spec PyProof.Rows CW
theorem SqT.upd {K : PySem.W.Frag} {H : Hp} {a b : Addr} {xs zs : List V} {o : HO} (hb : H b = some (.lst zs)) (h : SqT K H a xs) : SqT K (L2.upd H b o) a xs := by
  rcases h with (h | ⟨u, h⟩) | h
  · refine .inl (.inl ?_)
    rw [upd_ne (ne_of h hb (by intro z; cases z))]; exact h
  · refine .inl (.inr ⟨u, ?_⟩)
    rw [upd_ne (ne_of h hb (by intro z; cases z))]; exact h
  · exact .inr h
theorem SqT.updD {K : PySem.W.Frag} {H : Hp} {a b : Addr} {xs : List V} {zs : List (Key × V)} {o : HO} (hb : H b = some (.dK zs)) (h : SqT K H a xs) : SqT K (L2.upd H b o) a xs := by
  rcases h with (h | ⟨u, h⟩) | h
  · refine .inl (.inl ?_)
    rw [upd_ne (ne_of h hb (by intro z; cases z))]; exact h
  · refine .inl (.inr ⟨u, ?_⟩)
    rw [upd_ne (ne_of h hb (by intro z; cases z))]; exact h
  · exact .inr h
mutual
theorem Dp.im {K : PySem.W.Frag} {H H' : Hp} (f : ∀ a xs, SqT K H a xs → SqT K H' a xs) : ∀ {v : V} {d : PyData}, Im d = true → Dp K H v d → Dp K H' v d
  | _, _, _, .non => .non
  | _, _, _, .bl b => .bl b
  | _, _, _, .int i => .int i
  | _, _, _, .str x => .str x
  | _, _, im, .lst hs ha => by simp [Im] at im
  | _, _, im, .tup hs ha => .tup (f _ _ hs) (DpAll.im f (by simpa [Im] using im) ha)
theorem DpAll.im {K : PySem.W.Frag} {H H' : Hp} (f : ∀ a xs, SqT K H a xs → SqT K H' a xs) : ∀ {vs : List V} {ds : List PyData}, ImAll ds = true → DpAll K H vs ds → DpAll K H' vs ds
  | _, _, _, .nil => .nil
  | _, _, im, .cons h1 h2 => by
    rw [ImAll, Bool.and_eq_true] at im
    exact .cons (Dp.im f im.1 h1) (DpAll.im f im.2 h2)
end
end L2
namespace CW
open PySem PySem.Spec PyProof.Rows L2
section
variable {K : PySem.W.Frag} {σ : L2.St} {H : Hp} {Q : VK} {te : TE} {vs : List Nat} {Dl : Addr} {g : TG} {tt : TT} {xs : List V} {ds : List PyData} {J : It} {G : Hp → Prop}
theorem b_dat (w : Walk J xs.length G (YAt xs)) (hG : ∀ H', Xt H H' → G H') (hds : DpAll K H xs ds) (f : PyData → PyData) (hf : ∀ d ∈ ds, Im (f d) = true) (hn : ds.length < 10000000)
    (body : ∀ v d H', Dp K H' v d → d ∈ ds → Xt H H' → ∀ R : VK, (∀ y H2, Xt H' H2 → Dp K H2 y (f d) → R y H2) → g v (wipe σ vs) H' fun σ2 H2 => wipe σ2 vs = wipe σ vs ∧ te σ2 H2 R)
    (k : ∀ Dl ys H2, H Dl = none → Xt H H2 → H2 Dl = some (.lst ys) → DpAll K H2 ys (ds.map f) → Q (.ref Dl) H2)
    (gm : ∀ v σ H R R', (∀ σ2 H2, R σ2 H2 → R' σ2 H2) → g v σ H R → g v σ H R') : LcB J g tYes te vs σ Q H := fun Dl hD => by
  have hl := hds.len
  refine lc_it w (g := g) (tt := tYes) (te := te) (σ := σ) (vs := vs) (fun i H' => Xt H H' ∧ ∃ ys, H' Dl = some (.lst ys) ∧ DpAll K H' ys ((ds.map f).take i))
    ⟨xnew hD, [], upd_same, by rw [List.take_zero]; exact .nil⟩ (fun i H' _ p => hG H' p.1) (fun i x H' H2 hi p hy => ?_) (fun H' p => ?_)
  · obtain ⟨hx, ys, e, hys⟩ := p
    obtain ⟨rfl, hxi⟩ := hy
    obtain ⟨d, hd, hdp⟩ := DpAll.getV hds hxi
    have hmem : d ∈ ds := List.mem_of_getElem? hd
    have hb := body x d H2 (Dp.mono hx hdp) hmem hx (fun y H4 => ∃ acc, H4 Dl = some (.lst acc) ∧ acc.length < sizeLine ∧ (Xt H (upd H4 Dl (.lst (acc ++ [y]))) ∧ ∃ ys, (upd H4 Dl (.lst (acc ++ [y]))) Dl = some (.lst ys) ∧ DpAll K (upd H4 Dl (.lst (acc ++ [y]))) ys ((ds.map f).take (i + 1)))) (fun y H4 x4 hy => by
      have e4 := x4 _ _ e
      have hys4 := DpAll.mono x4 hys
      have yl : ys.length ≤ i := by rw [hys.len, List.length_take]; omega
      refine ⟨ys, e4, szL2 (by omega), xmut (xtr hx x4) hD, ys ++ [y], upd_same, ?_⟩
      have et : (ds.map f).take (i + 1) = (ds.map f).take i ++ [f d] := by rw [List.take_add_one, List.getElem?_map, hd]; rfl
      rw [et]
      have im1 : ImAll ((ds.map f).take i) = true := imAll_iff.mpr fun z hz => by
        obtain ⟨c, hc, rfl⟩ := List.mem_map.mp (List.mem_of_mem_take hz)
        exact hf c hc
      exact DpAll.app (DpAll.im (fun a zs h => SqT.upd e4 h) im1 hys4) (.cons (Dp.im (fun a zs h => SqT.upd e4 h) (hf d hmem) hy) .nil))
    exact gm _ _ _ _ _ (fun σ2 H3 h => ⟨h.1, by refine k_yesT ?_; rw [if_pos rfl]; exact h.2⟩) hb
  · obtain ⟨hx, ys, e, hys⟩ := p
    rw [List.take_of_length_le (by rw [List.length_map, hl]; exact Nat.le_refl _)] at hys
    exact k Dl ys H' hD hx e hys
theorem gm_name {j : Nat} : ∀ (v : V) (σ : L2.St) (H : Hp) (R R' : L2.St → Hp → Prop), (∀ σ2 H2, R σ2 H2 → R' σ2 H2) → gName j v σ H R → gName j v σ H R' := fun _ _ _ _ _ h q => h _ _ q
def GsM (t : TGs) : Prop := ∀ vs σ H R R', (∀ σ2 H2, R σ2 H2 → R' σ2 H2) → t vs σ H R → t vs σ H R'
theorem gsm_nil : GsM gNil := fun _ _ _ _ _ h q => ⟨q.1, h _ _ q.2⟩
theorem gsm_cons {j : Nat} {t : TGs} (ht : GsM t) : GsM (gCons (gName j) t) := fun _ _ _ _ _ h ⟨v, r, e, q⟩ => ⟨v, r, e, ht _ _ _ _ _ h q⟩
theorem gm_tup {n : Nat} {t : TGs} (ht : GsM t) : ∀ (v : V) (σ : L2.St) (H : Hp) (R R' : L2.St → Hp → Prop), (∀ σ2 H2, R σ2 H2 → R' σ2 H2) → gTup K n t v σ H R → gTup K n t v σ H R' :=
  fun _ _ _ _ _ h ⟨a, xs, e, hs, hl, q⟩ => ⟨a, xs, e, hs, hl, ht _ _ _ _ _ h q⟩
/-! targets -/
theorem k_gtup {n : Nat} {t : TGs} {v : V} {R : L2.St → Hp → Prop} (h : Dp K H v (.tuple ds)) (hl : ds.length = n) (q : ∀ xs, DpAll K H xs ds → t xs σ H R) : gTup K n t v σ H R := by
  obtain ⟨a, xs, rfl, hs, hd⟩ := Dp.tup_inv h
  exact ⟨a, xs, rfl, hs, by rw [hd.len]; exact hl, q xs hd⟩
theorem k_gcons {j : Nat} {t : TGs} {d : PyData} {R : L2.St → Hp → Prop} (h : DpAll K H xs (d :: ds)) (q : ∀ v ws, Dp K H v d → DpAll K H ws ds → t ws (σ.set j (some v)) H R) : gCons (gName j) t xs σ H R := by
  obtain ⟨w, ws, rfl, h1, h2⟩ := DpAll.cons_inv h
  exact ⟨w, ws, rfl, q w ws h1 h2⟩
theorem k_gnil {R : L2.St → Hp → Prop} (h : DpAll K H xs []) (q : R σ H) : gNil xs σ H R := ⟨DpAll.nil_inv h, q⟩
end
/-! dicts with text keys and data as values -/
section
variable {K : PySem.W.Frag} {H H' : Hp} {kvs : List (Key × V)} {F : Str → Option PyData}
def HasD (K : PySem.W.Frag) (H : Hp) (kvs : List (Key × V)) (F : Str → Option PyData) : Prop := ∀ z : Str, match F z with
  | some d => Im d = true ∧ ∃ v, valV kvs (Sum.inr z : Key) = some v ∧ Dp K H v d
  | none => valV kvs (Sum.inr z : Key) = none
theorem HasD.nil : HasD K H [] (fun _ => none) := fun _ => rfl
theorem HasD.put {v : V} {d : PyData} {x : Str} (h : HasD K H kvs F) (im : Im d = true) (hd : Dp K H v d) : HasD K H (putK kvs (Sum.inr x : Key) v) (fun z => if z = x then some d else F z) := fun z => by
  by_cases e : z = x
  · subst e
    simp only [if_true]
    refine ⟨im, v, ?_, hd⟩
    rw [valV_put, if_pos rfl]
  · simp only [if_neg e]
    have hz := h z
    have e2 : ¬ (Sum.inr z : Key) = Sum.inr x := fun q => e (Sum.inr.inj q)
    cases hF : F z with
    | none =>
      rw [hF] at hz
      show valV _ _ = none
      rw [valV_put, if_neg e2]; exact hz
    | some d2 =>
      rw [hF] at hz
      obtain ⟨i2, w, h1, h2⟩ := hz
      exact ⟨i2, w, by rw [valV_put, if_neg e2]; exact h1, h2⟩
theorem HasD.mono (e : Xt H H') (h : HasD K H kvs F) : HasD K H' kvs F := fun z => by
  have hz := h z
  cases hF : F z with
  | none => rw [hF] at hz; exact hz
  | some d => rw [hF] at hz; obtain ⟨i, v, h1, h2⟩ := hz; exact ⟨i, v, h1, Dp.mono e h2⟩
theorem HasD.im (f : ∀ a xs, SqT K H a xs → SqT K H' a xs) (h : HasD K H kvs F) : HasD K H' kvs F := fun z => by
  have hz := h z
  cases hF : F z with
  | none => rw [hF] at hz; exact hz
  | some d => rw [hF] at hz; obtain ⟨i, v, h1, h2⟩ := hz; exact ⟨i, v, h1, Dp.im f i h2⟩
def tabF (l : List (Str × PyData)) : Str → Option PyData := l.foldl (fun F p z => if z = p.1 then some p.2 else F z) (fun _ => none)
theorem tabF_snoc (l : List (Str × PyData)) (p : Str × PyData) : tabF (l ++ [p]) = fun z => if z = p.1 then some p.2 else tabF l z := by
  unfold tabF
  rw [List.foldl_append]
  rfl
end
section
variable {K : PySem.W.Frag} {σ : L2.St} {H : Hp} {Q : VK} {tk tv : TE} {vs : List Nat} {g : TG} {tt : TT} {xs : List V} {ds : List PyData} {J : It} {n : Nat} {G : Hp → Prop} {Y : Nat → Hp → V → Hp → Prop}
theorem dc_it (w : Walk J n G Y) {H1 : Hp} {D : Addr} {Qd : Hp → Prop} (Pv : Nat → Hp → Prop) (h0 : Pv 0 (upd H1 D (.dK []))) (hG : ∀ i H, i ≤ n → Pv i H → G H)
    (hs : ∀ i x H H', i < n → Pv i H → Y i H x H' → g x (wipe σ vs) H' fun σ2 H2 => wipe σ2 vs = wipe σ vs ∧ tt σ2 H2 fun b H3 =>
      if b = true then tk σ2 H3 fun y H4 => tv σ2 H4 fun z H5 => ∃ kvs k, y = kV k ∧ H5 D = some (.dK kvs) ∧ kvs.length < sizeLine ∧ Pv (i + 1) (upd H5 D (.dK (putK kvs k z))) else Pv (i + 1) H3) (hd : ∀ H, Pv n H → Qd H) :
    ∃ W : Nat → Nat → Hp → Prop, (∃ m, W 0 m (upd H1 D (.dK []))) ∧ ∀ i m H, W i m H →
      (J.stop i H ∧ Qd H) ∨ (J.go i H ∧ ∃ Nx : Hp → Prop, (∀ H', Nx H' → ∃ m', m' < m ∧ W (i + 1) m' H') ∧ ∀ x H', J.yld i H x H' → g x (wipe σ vs) H' fun σ2 H2 => wipe σ2 vs = wipe σ vs ∧ tt σ2 H2 fun b H3 =>
        if b = true then tk σ2 H3 fun y H4 => tv σ2 H4 fun z H5 => ∃ kvs k, y = kV k ∧ H5 D = some (.dK kvs) ∧ kvs.length < sizeLine ∧ Nx (upd H5 D (.dK (putK kvs k z))) else Nx H3) := by
  refine ⟨fun i m H => m = n - i ∧ i ≤ n ∧ Pv i H, ⟨n, by simp, Nat.zero_le _, h0⟩, ?_⟩
  rintro i m H ⟨rfl, hi, p⟩
  have q := hG i H hi p
  by_cases hlt : i < n
  · exact .inr ⟨w.goes i H hlt q, Pv (i + 1), fun H' p' => ⟨n - (i + 1), by omega, rfl, hlt, p'⟩, fun x H' y => hs i x H H' hlt p (w.yields i H x H' hlt q y)⟩
  · have e : i = n := by omega
    subst e
    exact .inl ⟨w.stops H q, hd H p⟩
def DcB (J : It) (g : TG) (tt : TT) (tk tv : TE) (vs : List Nat) (σ : L2.St) (Q : VK) (H1 : Hp) : Prop := ∀ D, H1 D = none → ∃ W : Nat → Nat → Hp → Prop, (∃ m, W 0 m (upd H1 D (.dK []))) ∧ ∀ i m H, W i m H →
  (J.stop i H ∧ Q (.ref D) H) ∨ (J.go i H ∧ ∃ Nx : Hp → Prop, (∀ H', Nx H' → ∃ m', m' < m ∧ W (i + 1) m' H') ∧ ∀ x H', J.yld i H x H' → g x (wipe σ vs) H' fun σ2 H2 => wipe σ2 vs = wipe σ vs ∧ tt σ2 H2 fun b H3 =>
    if b = true then tk σ2 H3 fun y H4 => tv σ2 H4 fun z H5 => ∃ kvs k, y = kV k ∧ H5 D = some (.dK kvs) ∧ kvs.length < sizeLine ∧ Nx (upd H5 D (.dK (putK kvs k z))) else Nx H3)
theorem k_dc {wi : TI} (h : wi σ H fun J H1 => DcB J g tt tk tv vs σ Q H1) : tDc wi g tt tk tv vs σ H Q := h
theorem b_dic (w : Walk J xs.length G (YAt xs)) (hG : ∀ H', Xt H H' → G H') (hds : DpAll K H xs ds) (kf : PyData → Str) (vf : PyData → PyData) (hf : ∀ d ∈ ds, Im (vf d) = true) (hn : ds.length < 10000000)
    (body : ∀ v d H', Dp K H' v d → d ∈ ds → Xt H H' → ∀ R : V → V → Hp → Prop, (∀ y H3, Xt H' H3 → Dp K H3 y (vf d) → R (.str (kf d)) y H3) → g v (wipe σ vs) H' fun σ2 H2 => wipe σ2 vs = wipe σ vs ∧ tk σ2 H2 fun a H3 => tv σ2 H3 fun b H4 => R a b H4)
    (k : ∀ Dl kvs H2, H Dl = none → Xt H H2 → H2 Dl = some (.dK kvs) → kvs.length ≤ ds.length → HasD K H2 kvs (tabF (ds.map fun d => (kf d, vf d))) → Q (.ref Dl) H2)
    (gm : ∀ v σ H R R', (∀ σ2 H2, R σ2 H2 → R' σ2 H2) → g v σ H R → g v σ H R') : DcB J g tYes tk tv vs σ Q H := fun Dl hD => by
  have hl := hds.len
  refine dc_it w (g := g) (tt := tYes) (tk := tk) (tv := tv) (σ := σ) (vs := vs) (fun i H' => Xt H H' ∧ ∃ kvs, H' Dl = some (.dK kvs) ∧ kvs.length ≤ i ∧ HasD K H' kvs (tabF ((ds.map fun d => (kf d, vf d)).take i)))
    ⟨xnew hD, [], upd_same, Nat.le_refl _, fun _ => rfl⟩ (fun i H' _ p => hG H' p.1) (fun i x H' H2 hi p hy => ?_) (fun H' p => ?_)
  · obtain ⟨hx, kvs, e, hkl, hk⟩ := p
    obtain ⟨rfl, hxi⟩ := hy
    obtain ⟨d, hd, hdp⟩ := DpAll.getV hds hxi
    have hmem : d ∈ ds := List.mem_of_getElem? hd
    have hb := body x d H2 (Dp.mono hx hdp) hmem hx (fun y z H5 => ∃ kvs k, y = kV k ∧ H5 Dl = some (.dK kvs) ∧ kvs.length < sizeLine ∧ (Xt H (upd H5 Dl (.dK (putK kvs k z))) ∧ ∃ kvs', (upd H5 Dl (.dK (putK kvs k z))) Dl = some (.dK kvs') ∧ kvs'.length ≤ i + 1 ∧ HasD K (upd H5 Dl (.dK (putK kvs k z))) kvs' (tabF ((ds.map fun d => (kf d, vf d)).take (i + 1))))) (fun y H4 x4 hy => by
      have e4 := x4 _ _ e
      have hk4 := (HasD.mono x4 hk).put (x := kf d) (hf d hmem) hy
      have et : (ds.map fun d => (kf d, vf d)).take (i + 1) = (ds.map fun d => (kf d, vf d)).take i ++ [(kf d, vf d)] := by rw [List.take_add_one, List.getElem?_map, hd]; rfl
      refine ⟨kvs, Sum.inr (kf d), rfl, e4, szL2 (by omega), xmut (xtr hx x4) hD, putK kvs (Sum.inr (kf d)) y, upd_same, ?_, ?_⟩
      · unfold putK
        split
        · rw [List.length_map]; omega
        · rw [List.length_append, List.length_singleton]; omega
      · rw [et, tabF_snoc]
        exact HasD.im (fun a zs h => SqT.updD e4 h) hk4)
    exact gm _ _ _ _ _ (fun σ2 H3 h => ⟨h.1, by refine k_yesT ?_; rw [if_pos rfl]; exact h.2⟩) hb
  · obtain ⟨hx, kvs, e, hkl, hk⟩ := p
    rw [List.take_of_length_le (by rw [List.length_map, hl]; exact Nat.le_refl _)] at hk
    exact k Dl kvs H' hD hx e (by omega) hk
end
end CW

set_option Elab.async false
set_option linter.all false
set_option maxRecDepth 100000
set_option maxHeartbeats 1000000
/-! tuple(..), list(..), objects, dicts by keys -/
namespace CW
open PySem PySem.Spec PyProof.Rows L2
section
variable {X : Cx}
def rTup (K : PySem.W.Frag) : List V → Hp → VK → Prop := fun xs H Q => ∃ p ys, xs = [.ref p] ∧ ((SqL K H p ys ∧ ∀ l, H l = none → Q (.ref l) (upd H l (.tup ys))) ∨ (SqT K H p ys ∧ Q (.ref p) H))
theorem call_tupU : CallR X (.type "tuple") (rTup X.K) := call_tuple_of
def rLst (K : PySem.W.Frag) : List V → Hp → VK → Prop := fun xs H Q => ∃ p ys, xs = [.ref p] ∧ (SqL K H p ys ∨ SqT K H p ys) ∧ ∀ l, H l = none → Q (.ref l) (upd H l (.lst ys))
theorem call_lstU : CallR X (.type "list") (rLst X.K) := call_list_of
end
section
variable {K : PySem.W.Frag} {σ : L2.St} {H : Hp} {Q : VK} {D : Ends} {te ta tv td ty : TE} {a : Addr} {x y v : V} {ds : List PyData} {f m : Str} {C dx : Addr} {fs : List (Str × V)} {t : TA} {xs : List V}
theorem d_tupl (h : Dp K H x (.list ds)) (q : ∀ v H', Xt H H' → Dp K H' v (.tuple ds) → Q v H') : rTup K [x] H Q := by
  obtain ⟨a, xs, rfl, hs, hd⟩ := Dp.lst_inv h
  exact ⟨a, xs, rfl, .inl ⟨hs, fun l hl => q _ _ (xnew hl) (.of_tup upd_same (DpAll.mono (xnew hl) hd))⟩⟩
theorem d_tupt (h : Dp K H x (.tuple ds)) (q : Q x H) : rTup K [x] H Q := by
  obtain ⟨a, xs, rfl, hs, hd⟩ := Dp.tup_inv h
  exact ⟨a, xs, rfl, .inr ⟨hs, q⟩⟩
theorem v_tupl (h : SqL K H a xs) (q : ∀ p H', H p = none → Xt H H' → H' p = some (.tup xs) → Q (.ref p) H') : rTup K [.ref a] H Q :=
  ⟨a, xs, rfl, .inl ⟨h, fun l hl => q l _ hl (xnew hl) upd_same⟩⟩
/-! fields -/
def rFld (K : PySem.W.Frag) (f : Str) : V → Hp → VK → Prop := fun x H Q => ∃ a C dx fs v, x = .ref a ∧ H a = some (.ins C dx fs) ∧ Cls K C ∧ NoAttr K C f ∧ fs.lookup f = some v ∧ Q v H
theorem k_fld (h : ta σ H fun x H1 => rFld K f x H1 Q) : tFld K ta f σ H Q := h
theorem v_fld (e : H a = some (.ins C dx fs)) (c : Cls K C) (n : NoAttr K C f) (l : fs.lookup f = some v) (q : Q v H) : rFld K f (.ref a) H Q := ⟨a, C, dx, fs, v, rfl, e, c, n, l, q⟩
def rSFld (K : PySem.W.Frag) (f : Str) (D : Ends) (σ : L2.St) : V → V → Hp → Prop := fun y x H => ∃ a C dx fs, x = .ref a ∧ H a = some (.ins C dx fs) ∧ Cls K C ∧ NoAttr K C f ∧ fs.length < 1000 ∧ D.nx σ (upd H a (.ins C dx (putF f y fs)))
theorem k_sfld (h : tv σ H fun y H1 => ta σ H1 fun x H2 => rSFld K f D σ y x H2) : sFld K ta tv f D σ H := h
theorem v_sfld (e : H a = some (.ins C dx fs)) (c : Cls K C) (n : NoAttr K C f) (l : fs.length < 1000) (q : D.nx σ (upd H a (.ins C dx (putF f y fs)))) : rSFld K f D σ y (.ref a) H := ⟨a, C, dx, fs, rfl, e, c, n, l, q⟩
/-! dicts -/
def rDGet (ty : TE) (σ : L2.St) : V → Hp → VK → Prop := fun x H1 Q => ∃ a, x = .ref a ∧ IsD H1 a ∧ ty σ H1 fun y H2 => ∃ o, DGet H2 a y o ∧ Q (o.getD .non) H2
theorem k_dget (h : td σ H fun x H1 => rDGet ty σ x H1 Q) : tDGet1 td ty σ H Q := h
theorem k_din {R : VK} (h : ty σ H fun y H1 => td σ H1 fun x H2 => ∃ a o, x = .ref a ∧ DGet H2 a y o ∧ R (.bl o.isSome) H2) : tDIn ty td σ H R := h
theorem k_dput (h : tv σ H fun v H1 => td σ H1 fun x H2 => ty σ H2 fun y H3 => ∃ a H4, x = .ref a ∧ DPut H3 a y v H4 ∧ D.nx σ H4) : sDPut td ty tv D σ H := h
theorem v_dput {kvs : List (Key × V)} {z : Str} (e : H a = some (.dK kvs)) (hl : kvs.length < 10000000) (q : D.nx σ (upd H a (.dK (putK kvs (Sum.inr z : Key) v)))) : ∃ a' H4, V.ref a = .ref a' ∧ DPut H a' (.str z) v H4 ∧ D.nx σ H4 :=
  ⟨a, _, rfl, DPut.k (k := Sum.inr z) e (szL2 hl), q⟩
theorem k_dnew (q : ∀ p H2, H p = none → Xt H H2 → H2 p = some (.dK []) → Q (.ref p) H2) : tDNewK σ H Q := fun p hp => q p _ hp (xnew hp) upd_same
/-! methods, makings -/
theorem k_meth {sp : Sp} {dvs : List V} {E : XK} (h : ta σ H fun x H1 => ∃ a dx fs, x = .ref a ∧ H1 a = some (.ins C dx fs) ∧ fs.lookup m = none ∧ t σ H1 fun vs H2 => sp (x :: (vs ++ dvs)) H2 Q E) : tMeth C m sp dvs E ta t σ H Q := h
theorem k_make {sp : Sp} {dvs : List V} {E : XK} (h : t σ H fun vs H1 => ∀ x dx, H1 x = none → H1 dx = none → dx ≠ x → sp (.ref x :: (vs ++ dvs)) (upd (upd H1 dx (.own x)) x (.ins C dx [])) (fun v H2 => v = .non ∧ Q (.ref x) H2) E) : tMake C sp dvs E t σ H Q := h
theorem k_bm0 {T : String} {r : V → List V → Hp → VK → Prop} {to : TE} (h : to σ H fun x H1 => tyV K T x H1 ∧ r x [] H1 Q) : tBM0 K T r to σ H Q := h
theorem v_pop {l : Addr} {zs : List V} (e : H l = some (.lst (zs ++ [v]))) (q : Q v (upd H l (.lst zs))) : rPop (.ref l) [] H Q :=
  ⟨l, zs ++ [v], v, rfl, rfl, e, by simp, by rw [List.dropLast_concat]; exact q⟩
/-! lists that change -/
end
def sw2 {α : Type} : List α → List α
  | [a, b] => [b, a]
  | l => l
/-! tables -/
theorem snoc_ind {α : Type} {P : List α → Prop} (h0 : P []) (hs : ∀ l a, P l → P (l ++ [a])) (l : List α) : P l := by
  have h : ∀ r : List α, P r.reverse := fun r => by
    induction r with
    | nil => exact h0
    | cons a r ih => rw [List.reverse_cons]; exact hs _ _ ih
  have := h l.reverse
  rwa [List.reverse_reverse] at this
theorem tabF_none {l : List (Str × PyData)} {z : Str} : z ∉ l.map (·.1) → tabF l z = none := by
  refine snoc_ind (P := fun l => z ∉ l.map (·.1) → tabF l z = none) (fun _ => rfl) (fun l p ih h => ?_) l
  rw [tabF_snoc]
  rw [List.map_append, List.mem_append] at h
  have h1 : z ≠ p.1 := fun e => h (.inr (by simp [e]))
  simp only [if_neg h1]
  exact ih fun q => h (.inl q)
theorem tabF_mem {l : List (Str × PyData)} {z : Str} {d : PyData} : tabF l z = some d → (z, d) ∈ l := by
  refine snoc_ind (P := fun l => tabF l z = some d → (z, d) ∈ l) (fun h => by cases h) (fun l p ih h => ?_) l
  rw [tabF_snoc] at h
  by_cases e : z = p.1
  · simp only [if_pos e] at h
    cases h
    subst e
    simp
  · simp only [if_neg e] at h
    exact List.mem_append_left _ (ih h)
theorem tabF_isSome {l : List (Str × PyData)} {z : Str} : z ∈ l.map (·.1) → ∃ d, tabF l z = some d := by
  refine snoc_ind (P := fun l => z ∈ l.map (·.1) → ∃ d, tabF l z = some d) (fun h => by cases h) (fun l p ih h => ?_) l
  rw [tabF_snoc]
  by_cases e : z = p.1
  · exact ⟨p.2, if_pos e⟩
  · rw [List.map_append, List.mem_append] at h
    rcases h with h | h
    · obtain ⟨d, hd⟩ := ih h
      exact ⟨d, by simp only [if_neg e]; exact hd⟩
    · simp at h; exact absurd h e
end CW

set_option Elab.async false
set_option linter.all false
set_option maxRecDepth 100000
set_option maxHeartbeats 1000000
namespace L2
open PySem PySem.Spec PyProof.Rows CW
theorem SqL.updD {K : PySem.W.Frag} {H : Hp} {a b : Addr} {xs : List V} {zs : List (Key × V)} {o : HO} (hb : H b = some (.dK zs)) (h : SqL K H a xs) : SqL K (L2.upd H b o) a xs := by
  rcases h with (h | ⟨u, h⟩) | h
  · refine .inl (.inl ?_)
    rw [upd_ne (ne_of h hb (by intro z; cases z))]; exact h
  · refine .inl (.inr ⟨u, ?_⟩)
    rw [upd_ne (ne_of h hb (by intro z; cases z))]; exact h
  · exact .inr h
end L2
namespace CW
open PySem PySem.Spec PyProof.Rows L2
theorem inV_str {z : Str} {S : List Str} : inV (.str z) (S.map V.str) = decide (z ∈ S) := by
  induction S with
  | nil => rfl
  | cons s r ih =>
    show (eqV (.str s) (.str z) || inV (.str z) (r.map V.str)) = _
    rw [ih]
    have e : eqV (.str s) (.str z) = decide (s = z) := by
      show (s == z) = _
      by_cases h : s = z
      · subst h; simp
      · rw [decide_eq_false h]; exact beq_false_of_ne h
    rw [e]
    by_cases h : s = z
    · subst h; simp
    · have h2 : ¬ z = s := fun q => h q.symm
      simp [h, h2]
theorem flat_strs (S : List Str) : (S.map V.str).all flatV = true := by
  rw [List.all_map]
  exact List.all_eq_true.mpr fun _ _ => rfl
section
variable {K : PySem.W.Frag} {H : Hp} {Q : VK} {x s : V} {z : Str} {S : List Str}
theorem d_notin (h : Dp K H s (.tuple (S.map PyData.str))) (q : Q (.bl (!decide (z ∈ S))) H) : rNotInU K (.str z) s H Q := by
  obtain ⟨a, xs, rfl, hs, hd⟩ := Dp.tup_inv h
  have e := DpAll.strs_inv hd
  subst e
  exact v_notin_q (.inr hs) rfl (flat_strs S) (by rw [inV_str]; exact q)
theorem d_in (h : Dp K H s (.tuple (S.map PyData.str))) (q : Q (.bl (decide (z ∈ S))) H) : rInU K (.str z) s H Q := by
  obtain ⟨a, xs, rfl, hs, hd⟩ := Dp.tup_inv h
  have e := DpAll.strs_inv hd
  subst e
  exact v_in_q (.inr hs) rfl (flat_strs S) (by rw [inV_str]; exact q)
end
end CW
namespace HT
open PySem PySem.Spec PyProof.Rows
section
variable {prog : Program} {w : World} {A : Around} {E : Value → Shared → Prop} {s : Shared}
theorem fm_congr {α β : Type} {f g : α → Option β} : ∀ {l : List α}, (∀ a ∈ l, f a = g a) → l.filterMap f = l.filterMap g
  | [], _ => rfl
  | a :: r, h => by
    rw [List.filterMap_cons, List.filterMap_cons, h a (List.mem_cons_self ..), fm_congr fun b hb => h b (List.mem_cons_of_mem _ hb)]
theorem tail_pick1 (xs : Array Value) (h : 1 ≤ xs.size) : ((List.range (xs.size - 1)).filterMap fun (m : Nat) => xs[(((xs.size : Int) - 1) + (m : Int) * (-1)).toNat]?) = (xs.toList.drop 1).reverse := by
  have e1 : ((List.range (xs.size - 1)).filterMap fun (m : Nat) => xs[(((xs.size : Int) - 1) + (m : Int) * (-1)).toNat]?) = ((List.range (xs.size - 1)).map (fun m => 1 + (xs.size - 1 - 1 - m))).filterMap (xs[·]?) := by
    rw [List.filterMap_map]
    refine fm_congr fun m hm => ?_
    have := List.mem_range.mp hm
    have e : (((xs.size : Int) - 1) + (m : Int) * (-1)).toNat = 1 + (xs.size - 1 - 1 - m) := by omega
    rw [e]; rfl
  have e2 : (List.range (xs.size - 1)).map (fun m => 1 + (xs.size - 1 - 1 - m)) = ((List.range (xs.size - 1)).map (1 + ·)).reverse := by
    rw [← List.map_reverse, ← PySem.W.krv_range, List.map_map]
    rfl
  rw [e1, e2, List.filterMap_reverse, pick_run, List.take_of_length_le (by rw [List.length_drop, Array.length_toList]; exact Nat.le_refl _)]
theorem tail_pick (xs : Array Value) : ((List.range (xs.size - 1)).filterMap fun (m : Nat) => xs[(((xs.size : Int) - 1) + (m : Int) * (-1)).toNat]?) = (xs.toList.drop 1).reverse := by
  rcases Nat.eq_zero_or_pos xs.size with h | h
  · have e : xs.toList = [] := List.length_eq_zero_iff.mp (by rw [Array.length_toList]; exact h)
    rw [e, h]; rfl
  · exact tail_pick1 xs h
theorem adjust_tail (n : Nat) : Builtin.Slice.sliceAdjust none (some 0) (-1) (n : Int) = ((n : Int) - 1, min 0 ((n : Int) - 1)) := by
  unfold Builtin.Slice.sliceAdjust
  have h1 : ((-1 : Int) < 0) := by omega
  have h2 : ¬ ((0 : Int) < 0) := by omega
  simp only [h1, h2, if_true, if_false]
theorem places_tail (n : Nat) : Builtin.Slice.slicePlaces ((n : Int) - 1) (min 0 ((n : Int) - 1)) (-1) = n - 1 := by
  unfold Builtin.Slice.slicePlaces
  have h1 : ¬ ((-1 : Int) > 0) := by omega
  have h2 : (- -1 : Int) = 1 := by decide
  simp only [h1, if_false, h2, Int.ediv_one]
  split <;> omega
theorem getItem_tuple_tail {t sl : Addr} {items : Array Value} {vl vu vs : Value} {Q : Value → Shared → Prop} (ht : IsTup s.heap t items) (hs : s.heap.IsSliceOf sl vl vu vs) (pl : IsPart vl none) (pu : IsPart vu (some 0)) (ps : IsPart vs (some (-1)))
    (h : Q (.ref s.heap.objs.size) { s with heap := s.heap.push { cls := .type "tuple", data := .seq (items.toList.drop 1).reverse.toArray } })
    (hsz : items.size ≤ sizeLine) : wpAny (model prog w) A (getItem (.ref t) (.ref sl)) Q E s := by
  have htake : sizeOk (.seq (items.toList.drop 1).reverse.toArray) := by
    show (items.toList.drop 1).reverse.toArray.size ≤ sizeLine
    rw [List.size_toArray, List.length_reverse, List.length_drop, Array.length_toList]
    omega
  obtain ⟨os, hos, hcs, hds⟩ := id hs
  have hTs : s.TypeIs (.ref sl) "slice" := ⟨os, hos, hcs⟩
  unfold getItem
  try with_reducible refine wpAny_holding ?_
  first | refine wpAny_bind (wpAny_pure ?_) | skip
  refine wpAny_bind (wpAny_sequenceKey ht.typeIs (by decide) ?_)
  refine wpAny_bind (wpAny_callSpecial?_slot (name := Str.ofString "__getitem__") ht.typeIs PyProof.Rows.slot_tuple_getitem
    (wpAny_call_entry PyProof.Rows.slot_tuple_getitem ht.typeIs entry_tuple_getitem ?_ (args_tuple_getitem _ _)))
  show wpAny _ _ (Builtin.Tuple.tupleItemsOf (.ref t) >>= _) _ _ s
  refine wpAny_bind (tupleItemsOf_ ht ?_)
  refine wpAny_bind (wpAny_typeOf hTs ?_)
  rw [if_pos (by decide)]
  refine wpAny_bind ?_
  unfold Builtin.Slice.sliceApplied Builtin.Slice.sliceFields
  refine wpAny_bind (wpAny_bind (wpAny_field hos hds (x := vl) rfl (wpAny_bind (wpAny_field hos hds (x := vu) rfl (wpAny_bind (wpAny_field hos hds (x := vs) rfl (wpAny_pure ?_)))))))
  refine wpAny_bind (slicePart_ ps ?_)
  show wpAny _ _ (if ((-1 : Int) == 0) = true then _ else _) _ _ s
  rw [if_neg (by decide)]
  refine wpAny_bind (slicePart_ pl (wpAny_bind (slicePart_ pu (wpAny_bind (wpAny_pure ?_)))))
  show wpAny _ _ (match Builtin.Slice.sliceAdjust none (some 0) (-1) (items.size : Int) with | (lo, hi) => pure (lo, (-1 : Int), Builtin.Slice.slicePlaces lo hi (-1))) _ _ s
  rw [adjust_tail _]
  show wpAny _ _ (pure (((items.size : Int) - 1), (-1 : Int), Builtin.Slice.slicePlaces ((items.size : Int) - 1) (min 0 ((items.size : Int) - 1)) (-1))) _ _ s
  rw [places_tail _]
  refine wpAny_pure ?_
  have hno : ¬ (((((items.size : Int) - 1)) == 0 && (-1 : Int) == 1 && (items.size - 1) == items.size) = true) := by
    intro q
    rw [Bool.and_eq_true, Bool.and_eq_true] at q
    have q1 : (-1 : Int) = 1 := eq_of_beq q.1.2
    omega
  show wpAny _ _ (if ((((items.size : Int) - 1)) == 0 && (-1 : Int) == 1 && (items.size - 1) == items.size) = true then _ else _) _ _ s
  rw [if_neg hno]
  rw [tail_pick _]
  first
    | exact wpAny_bind (m := Builtin.Tuple.tupleExact _) (wpAny_newObj_type (wpAny_pure ⟨_, rfl, wpAny_pure h⟩) htake)
    | exact wpAny_bind (m := Builtin.Tuple.tupleExact _) (wpAny_newObj_type (wpAny_bind (wpAny_pure (wpAny_pure ⟨_, rfl, wpAny_pure h⟩))) htake)
    | exact wpAny_bind (wpAny_bind (m := Builtin.Tuple.tupleExact _) (wpAny_newObj_type (wpAny_pure (wpAny_pure ⟨_, rfl, wpAny_pure h⟩)) htake))
    | exact wpAny_bind (wpAny_bind (m := Builtin.Tuple.tupleExact _) (wpAny_newObj_type (wpAny_pure ⟨_, rfl, wpAny_pure h⟩) htake))
end
end HT
namespace CW
open PySem PySem.Spec PyProof.Rows L2
def rTR (K : PySem.W.Frag) : V → Hp → VK → Prop := fun x H Q => ∃ a xs, x = .ref a ∧ SqT K H a xs ∧ ∀ p, H p = none → Q (.ref p) (upd H p (.tup (xs.drop 1).reverse))
def tTR (K : PySem.W.Frag) (te : TE) : TE := fun σ H Q => te σ H fun x H1 => rTR K x H1 Q
theorem k_tr {K : PySem.W.Frag} {te : TE} {σ : L2.St} {H : Hp} {Q : VK} (h : te σ H fun x H1 => rTR K x H1 Q) : tTR K te σ H Q := h
theorem d_tr {K : PySem.W.Frag} {H : Hp} {Q : VK} {x : V} {d : PyData} {ds : List PyData} (h : Dp K H x (.tuple (d :: ds))) (q : ∀ p H' xs, H p = none → Xt H H' → H' p = some (.tup xs) → DpAll K H' xs ds.reverse → Q (.ref p) H') : rTR K x H Q := by
  obtain ⟨a, xs, rfl, hs, hd⟩ := Dp.tup_inv h
  refine ⟨a, xs, rfl, hs, fun p hp => q p _ _ hp (xnew hp) upd_same (DpAll.mono (xnew hp) (DpAll.rev ?_))⟩
  exact DpAll.drop 1 hd
variable {X : Cx}
theorem pe_tailrev {e : Expr} {te : TE} {k k0 : Nat} {p0 p1 p2 p3 pos : Pos} (he : PE X e te) : PE X (.Subscript e (.Slice none (some (.Constant (.int 0) k0 p0)) (some (.UnaryOp .USub (.Constant (.int 1) k p1) p2)) p3) pos) (tTR X.K te) := by
  refine ⟨fun pins s σ H Q I h => ?_⟩
  refine Subscript_ (thn (he.run pins s σ H _ I h) fun v s1 ⟨x, H1, I1, r1, q1⟩ => ?_)
  obtain ⟨a, xs, ex, hx, q⟩ := q1
  subst ex
  cases r1
  have hst : PO X (some (.UnaryOp .USub (.Constant (.int 1) k p1) p2)) (tPart (tUn (rU fun i => .int (-i)) (tC (.int 1)))) := po_some (pe_un un_neg pe_int)
  have hz0 : PO X (some (.Constant (.int 0) k0 p0)) (tPart (tC (.int 0))) := po_some pe_int
  refine wpAny_Slice (thn (po_none.run pins s1 σ H1 (fun o H2 => o = none ∧ H2 = H1) I1 ⟨rfl, rfl⟩) fun vl s2 ⟨l, H2, I2, pl, el, e2⟩ => ?_)
  subst el e2
  refine thn (hz0.run pins s2 σ H2 (fun o H3 => o = some 0 ∧ H3 = H2) I2 ⟨0, rfl, rfl, rfl⟩) fun vu s3 ⟨u, H3, I3, pu, eu, e3⟩ => ?_
  subst eu e3
  refine thn (hst.run pins s3 σ H3 (fun o H4 => o = some (-1) ∧ H4 = H3) I3 ⟨1, rfl, -1, rfl, rfl, rfl⟩) fun vs s4 ⟨o, H4, I4, ps, eo, e4⟩ => ?_
  subst eo e4
  have I5 : Inv X pins σ H4 { s4 with heap := s4.heap.push { cls := .type "slice", data := .fields #[vl, vu, vs] } } := I4.kept (t' := s4.toks) fun b ob q => Heap.get?_push_of_some _ q
  obtain ⟨its, r, ht, hz⟩ := I5.tuple hx
  have hlen := r.length
  have hlen2 : its.toArray.size = xs.length := by rw [List.size_toArray]; exact hlen.symm
  show wpAny (model X.prog X.w) X.A (subscriptTail e (.Slice none (some (.Constant (.int 0) k0 p0)) (some (.UnaryOp .USub (.Constant (.int 1) k p1) p2)) p3) (.ref a) (.ref s4.heap.objs.size)) (EP X pins σ Q) X.xe { s4 with heap := s4.heap.push { cls := .type "slice", data := .fields #[vl, vu, vs] } }
  refine tail_any (ops := [.ref a, .ref s4.heap.objs.size]) ht.typeIs (PyProof.Rows.slot_tuple_getitem.lookup) ?_ (by with_unfolding_all rfl)
  refine HT.getItem_tuple_tail ht (Heap.IsSliceOf.new _ vl vu vs) pl pu ps ?_ (by rw [hlen2]; exact hz)
  refine ⟨.ref _, _, I5.laid (t' := s4.toks) (o := .tup (xs.drop 1).reverse) (fun b ob q => Heap.get?_push_of_some _ q) (Nat.le_refl _) ?_, rfl, q _ (I5.hok.fresh (Nat.le_refl _))⟩
  refine ⟨by rw [List.length_reverse, List.length_drop]; omega, _, (r.drop 1).reverse, ?_⟩
  exact IsTup.new _ _
end CW

set_option Elab.async false
set_option linter.all false
set_option maxRecDepth 100000
set_option maxHeartbeats 1000000
/-! data of signs below 128, tests on data of any kind -/
namespace CW
open PySem PySem.Spec PyProof.Rows L2
def ascS (z : Str) : Bool := z.cps.toList.all fun c => decide (c < 128)
mutual
def AsD : PyData → Bool
  | .none => true
  | .bool _ => true
  | .int _ => true
  | .str z => ascS z
  | .list _ => false
  | .dict _ => false
  | .tuple ds => AsAll ds
def AsAll : List PyData → Bool
  | [] => true
  | d :: ds => AsD d && AsAll ds
end
theorem asAll_iff : ∀ {ds : List PyData}, AsAll ds = true ↔ ∀ d ∈ ds, AsD d = true
  | [] => by simp [AsAll]
  | d :: ds => by
    rw [AsAll, Bool.and_eq_true, asAll_iff (ds := ds)]
    simp
theorem strOk_asc {z : Str} (h : ascS z = true) : PyData.strOk z = true := by
  unfold PyData.strOk
  rw [← Array.all_toList]
  exact List.all_eq_true.mpr fun c hc => decide_eq_true (Nat.lt_trans (of_decide_eq_true (List.all_eq_true.mp h c hc)) (by decide))
mutual
theorem as_im : ∀ {d : PyData}, AsD d = true → Im d = true
  | .none, _ => rfl
  | .bool _, _ => rfl
  | .int _, _ => rfl
  | .str _, _ => rfl
  | .list _, h => by simp [AsD] at h
  | .dict _, h => by simp [AsD] at h
  | .tuple ds, h => by
    have h2 : AsAll ds = true := by simpa [AsD] using h
    show ImAll ds = true
    exact as_imAll h2
theorem as_imAll : ∀ {ds : List PyData}, AsAll ds = true → ImAll ds = true
  | [], _ => rfl
  | d :: ds, h => by
    rw [AsAll, Bool.and_eq_true] at h
    rw [ImAll, as_im h.1, as_imAll h.2]; rfl
end
mutual
theorem as_lay : ∀ {d : PyData}, AsD d = true → d.canLay0 = true
  | .none, _ => by simp only [PyData.canLay0]
  | .bool _, _ => by simp only [PyData.canLay0]
  | .int _, _ => by simp only [PyData.canLay0]
  | .str z, h => by
    simp only [PyData.canLay0]
    exact strOk_asc (by simpa [AsD] using h)
  | .list _, h => by simp [AsD] at h
  | .dict _, h => by simp [AsD] at h
  | .tuple ds, h => by
    simp only [PyData.canLay0]
    exact as_layAll (by simpa [AsD] using h)
theorem as_layAll : ∀ {ds : List PyData}, AsAll ds = true → PyData.canLayAll0 ds = true
  | [], _ => by simp only [PyData.canLayAll0]
  | d :: ds, h => by
    rw [AsAll, Bool.and_eq_true] at h
    rw [PyData.canLayAll0, as_lay h.1, as_layAll h.2]; rfl
end
structure Sm (n : Nat) (d : PyData) : Prop where
  as : AsD d = true
  dp : d.depth ≤ n
  wt : d.weight ≤ 5000000
theorem Sm.shaped {n : Nat} {d : PyData} (h : Sm n d) (hn : n ≤ 64) : SeqAt.shaped d = true := by
  unfold SeqAt.shaped
  rw [as_lay h.as, decide_eq_true (Nat.le_trans h.dp hn)]; rfl
theorem Sm.im {n : Nat} {d : PyData} (h : Sm n d) : Im d = true := as_im h.as
theorem Sm.up {n m : Nat} {d : PyData} (h : Sm n d) (hm : n ≤ m) : Sm m d := ⟨h.as, Nat.le_trans h.dp hm, h.wt⟩
theorem depth_mem : ∀ {ds : List PyData} {d : PyData}, d ∈ ds → d.depth ≤ PyData.depthAll ds
  | [], _, h => by cases h
  | e :: ds, d, h => by
    rw [PyData.depthAll]
    rcases List.mem_cons.mp h with rfl | h
    · exact Nat.le_max_left _ _
    · exact Nat.le_trans (depth_mem h) (Nat.le_max_right _ _)
theorem weight_mem : ∀ {ds : List PyData} {d : PyData}, d ∈ ds → d.weight + 1 ≤ PyData.weightAll ds
  | [], _, h => by cases h
  | e :: ds, d, h => by
    rw [PyData.weightAll]
    rcases List.mem_cons.mp h with rfl | h
    · omega
    · have := weight_mem h; omega
theorem len_weight : ∀ {ds : List PyData}, ds.length ≤ PyData.weightAll ds
  | [] => Nat.zero_le _
  | e :: ds => by
    rw [PyData.weightAll, List.length_cons]
    have := len_weight (ds := ds); omega
theorem Sm.tup {n : Nat} {ds : List PyData} (h : Sm (n + 1) (.tuple ds)) : ∀ d ∈ ds, Sm n d := fun d hd => by
  have h1 : AsAll ds = true := by simpa [AsD] using h.as
  have h2 := h.dp
  have h3 := h.wt
  rw [PyData.depth] at h2
  rw [PyData.weight] at h3
  have := depth_mem hd
  have := weight_mem hd
  exact ⟨asAll_iff.mp h1 d hd, by omega, by omega⟩
theorem Sm.pos {n : Nat} {ds : List PyData} (h : Sm n (.tuple ds)) : ∃ m, n = m + 1 := by
  have h2 := h.dp
  rw [PyData.depth] at h2
  exact ⟨n - 1, by omega⟩
theorem Sm.len {n : Nat} {ds : List PyData} (h : Sm n (.tuple ds)) : ds.length ≤ 5000000 := by
  have h3 := h.wt
  rw [PyData.weight] at h3
  exact Nat.le_trans len_weight h3
theorem Sm.str {n : Nat} {z : Str} (h : Sm n (.str z)) : z.length ≤ 5000000 := by
  have h3 := h.wt
  rw [PyData.weight] at h3
  exact h3
theorem hu65 {k : Nat} {A : Around} (hr : Room k A) : A.units + 65 < cLine := by have := hr.un; omega
theorem hu64 {k : Nat} {A : Around} (hr : Room k A) : A.units + 64 < cLine := by have := hr.un; omega
section
variable {X : Cx}
def rInTD (K : PySem.W.Frag) (neg : Bool) : R2 := fun x y H Q => ∃ d ds, Dp K H x d ∧ Dp K H y (.tuple ds) ∧ SeqAt.shaped d = true ∧ PyData.canLayAll0 ds = true ∧ Q (.bl (if neg then !(ds.any fun z => PyData.eqv z d) else ds.any fun z => PyData.eqv z d)) H
theorem op_inTD (hu : X.A.units + 65 < cLine) : OpR X (compareOp .In) (rInTD X.K false) := by
  intro pins s σ H x y v u Q I rx ry h
  obtain ⟨d, ds, hd, he, sd, se, q⟩ := h
  obtain ⟨as, r1⟩ := Dp.reads I d x v hd rx
  obtain ⟨bs, r2⟩ := Dp.reads I (.tuple ds) y u he ry
  exact SeqAt.in_tuple_reads r2 r1 se (SeqAt.canLay_of_shaped sd) (room_in_shaped sd hu) ⟨.bl _, H, I, rfl, q⟩
theorem op_notInTD (hu : X.A.units + 65 < cLine) : OpR X (compareOp .NotIn) (rInTD X.K true) := by
  intro pins s σ H x y v u Q I rx ry h
  obtain ⟨d, ds, hd, he, sd, se, q⟩ := h
  obtain ⟨as, r1⟩ := Dp.reads I d x v hd rx
  obtain ⟨bs, r2⟩ := Dp.reads I (.tuple ds) y u he ry
  exact SeqAt.notIn_tuple_reads r2 r1 se (SeqAt.canLay_of_shaped sd) (room_in_shaped sd hu) ⟨.bl _, H, I, rfl, q⟩
def rInV (K : PySem.W.Frag) : R2 := fun x y H Q => rInU K x y H Q ∨ (rInTD K false x y H Q ∨ rInD K x y H Q)
def rNotInV (K : PySem.W.Frag) : R2 := fun x y H Q => rNotInU K x y H Q ∨ (rInTD K true x y H Q ∨ rNotInD K x y H Q)
theorem op_inV {k : Nat} (hr : Room k X.A) : OpR X (compareOp .In) (rInV X.K) := OpR.or op_inU (OpR.or (op_inTD (hu65 hr)) (op_inD (hu65 hr)))
theorem op_notInV {k : Nat} (hr : Room k X.A) : OpR X (compareOp .NotIn) (rNotInV X.K) := OpR.or op_notInU (OpR.or (op_notInTD (hu65 hr)) (op_notInD (hu65 hr)))
def rEqU (K : PySem.W.Frag) : R2 := fun x y H Q => rEq x y H Q ∨ rEqD K x y H Q
def rNeU (K : PySem.W.Frag) : R2 := fun x y H Q => rNe x y H Q ∨ rNeD K x y H Q
theorem op_eqU {k : Nat} (hr : Room k X.A) : OpR X (compareOp .Eq) (rEqU X.K) := OpR.or op_eq (op_eqD (hu64 hr))
theorem op_neU {k : Nat} (hr : Room k X.A) : OpR X (compareOp .NotEq) (rNeU X.K) := OpR.or op_ne (op_neD (hu64 hr))
def rLeS : R2 := fun x y H Q => ∃ i j, x = .str i ∧ y = .str j ∧ Q (.bl (!decide (j.cps.toList < i.cps.toList))) H
theorem op_leS : OpR X (compareOp .LtE) rLeS := op_le_str
end
section
variable {K : PySem.W.Frag} {H : Hp} {Q : VK} {x y s : V} {z w : Str} {S : List Str} {d e : PyData} {c : Nat} {a : Addr} {xs : List V}
theorem v_leS (q : Q (.bl (!decide (w.cps.toList < z.cps.toList))) H) : rLeS (.str z) (.str w) H Q := ⟨z, w, rfl, rfl, q⟩
theorem v_eqU (h : scal x y = true) (q : Q (.bl (decide (x = y))) H) : rEqU K x y H Q := .inl ⟨h, q⟩
theorem v_neU (h : scal x y = true) (q : Q (.bl (!decide (x = y))) H) : rNeU K x y H Q := .inl ⟨h, q⟩
theorem d_eq (h1 : Dp K H x d) (h2 : Dp K H y e) (s1 : SeqAt.shaped d = true) (s2 : SeqAt.shaped e = true) (q : Q (.bl (PyData.eqv d e)) H) : rEqU K x y H Q := .inr ⟨d, e, h1, h2, s1, s2, q⟩
theorem d_ne (h1 : Dp K H x d) (h2 : Dp K H y e) (s1 : SeqAt.shaped d = true) (s2 : SeqAt.shaped e = true) (q : Q (.bl (!PyData.eqv d e)) H) : rNeU K x y H Q := .inr ⟨d, e, h1, h2, s1, s2, q⟩
theorem w_in_s (q : Q (.bl (decide (c ∈ w.cps.toList))) H) : rInV K (.str ⟨#[c]⟩) (.str w) H Q := .inl (v_in_s q)
theorem w_notin_s (q : Q (.bl (!decide (c ∈ w.cps.toList))) H) : rNotInV K (.str ⟨#[c]⟩) (.str w) H Q := .inl (v_notin_s q)
theorem w_notin_q (h : SqL K H a xs ∨ SqT K H a xs) (hx : flatV x = true) (hf : xs.all flatV = true) (q : Q (.bl (!inV x xs)) H) : rNotInV K x (.ref a) H Q := .inl (v_notin_q h hx hf q)
theorem w_in_q (h : SqL K H a xs ∨ SqT K H a xs) (hx : flatV x = true) (hf : xs.all flatV = true) (q : Q (.bl (inV x xs)) H) : rInV K x (.ref a) H Q := .inl (v_in_q h hx hf q)
theorem w_notin (h : Dp K H s (.tuple (S.map PyData.str))) (q : Q (.bl (!decide (z ∈ S))) H) : rNotInV K (.str z) s H Q := .inl (d_notin h q)
theorem w_in (h : Dp K H s (.tuple (S.map PyData.str))) (q : Q (.bl (decide (z ∈ S))) H) : rInV K (.str z) s H Q := .inl (d_in h q)
def isIn (S : List Str) : PyData → Bool
  | .str z => decide (z ∈ S)
  | _ => false
theorem any_eqv (S : List Str) (d : PyData) : ((S.map PyData.str).any fun z => PyData.eqv z d) = isIn S d := by
  rw [List.any_map]
  induction S with
  | nil => cases d <;> rfl
  | cons t r ih =>
    rw [List.any_cons, ih]
    cases d with
    | str z =>
      show ((PyData.eqv (.str t) (.str z)) || decide (z ∈ r)) = decide (z ∈ t :: r)
      rw [PyData.eqv]
      by_cases h : t = z
      · subst h; simp
      · have h2 : ¬ z = t := fun q => h q.symm
        simp [h, h2]
    | none => rfl
    | bool b => rfl
    | int b => rfl
    | list b => rfl
    | tuple b => rfl
    | dict b => rfl
theorem w_inD (h : Dp K H s (.tuple (S.map PyData.str))) (hx : Dp K H x d) (hd : SeqAt.shaped d = true) (hS : ∀ z ∈ S, ascS z = true) (q : Q (.bl (isIn S d)) H) : rInV K x s H Q := by
  refine .inr (.inl ⟨d, _, hx, h, hd, as_layAll (asAll_iff.mpr fun e he => ?_), ?_⟩)
  · obtain ⟨z, hz, rfl⟩ := List.mem_map.mp he
    simpa [AsD] using hS z hz
  · rw [any_eqv]; exact q
/-! isinstance on data -/
def isTupD : PyData → Bool
  | .tuple _ => true
  | _ => false
def isStrD : PyData → Bool
  | .str _ => true
  | _ => false
theorem sqt_ty {xs : List V} (h : SqT K H a xs) : TyX K H (.ref a) (.type "tuple") := by
  rcases h with (h | ⟨u, h⟩) | ⟨o, its, n, l, c, _⟩
  · exact .base (.tup h)
  · exact .fTuple h
  · exact .kTuple l c
theorem d_isi {T : String} {r : Bool} (hx : Dp K H x d) (him : Im d = true) (hn : d = .none → kitB "NoneType" T = some r) (hb : ∀ b, d = .bool b → kitB "bool" T = some r) (hi : ∀ b, d = .int b → kitB "int" T = some r) (hs : ∀ b, d = .str b → kitB "str" T = some r)
    (ht : ∀ b, d = .tuple b → kitB "tuple" T = some r) (q : Q (.bl r) H) : rIsi K [x, .ty T] H Q := by
  cases hx with
  | non => exact ⟨_, _, .type "NoneType", .type T, r, rfl, .ty T, .base .non, kit_ty (hn rfl), q⟩
  | bl b => exact ⟨_, _, .type "bool", .type T, r, rfl, .ty T, .base (.bl b), kit_ty (hb _ rfl), q⟩
  | int b => exact ⟨_, _, .type "int", .type T, r, rfl, .ty T, .base (.int b), kit_ty (hi _ rfl), q⟩
  | str b => exact ⟨_, _, .type "str", .type T, r, rfl, .ty T, .base (.str b), kit_ty (hs _ rfl), q⟩
  | lst _ _ => simp [Im] at him
  | tup h1 h2 => exact ⟨_, _, .type "tuple", .type T, r, rfl, .ty T, sqt_ty h1, kit_ty (ht _ rfl), q⟩
theorem d_isTup (hx : Dp K H x d) (him : Im d = true) (q : Q (.bl (isTupD d)) H) : rIsi K [x, .ty "tuple"] H Q := d_isi hx him (fun e => by subst e; exact (by decide +kernel : kitB "NoneType" "tuple" = some false)) (fun b e => by subst e; exact (by decide +kernel : kitB "bool" "tuple" = some false)) (fun b e => by subst e; exact (by decide +kernel : kitB "int" "tuple" = some false)) (fun b e => by subst e; exact (by decide +kernel : kitB "str" "tuple" = some false)) (fun b e => by subst e; exact (by decide +kernel : kitB "tuple" "tuple" = some true)) q
theorem d_isStr (hx : Dp K H x d) (him : Im d = true) (q : Q (.bl (isStrD d)) H) : rIsi K [x, .ty "str"] H Q := d_isi hx him (fun e => by subst e; exact (by decide +kernel : kitB "NoneType" "str" = some false)) (fun b e => by subst e; exact (by decide +kernel : kitB "bool" "str" = some false)) (fun b e => by subst e; exact (by decide +kernel : kitB "int" "str" = some false)) (fun b e => by subst e; exact (by decide +kernel : kitB "str" "str" = some true)) (fun b e => by subst e; exact (by decide +kernel : kitB "tuple" "str" = some false)) q
theorem v_isi_int {i : Int} (q : Q (.bl true) H) : rIsi K [.int i, .ty "int"] H Q := ⟨_, _, .type "int", .type "int", true, rfl, .ty "int", .base (.int i), kit_ty (by decide +kernel), q⟩
theorem v_isi_intB {i : Int} (q : Q (.bl false) H) : rIsi K [.int i, .ty "bool"] H Q := ⟨_, _, .type "int", .type "bool", false, rfl, .ty "bool", .base (.int i), kit_ty (by decide +kernel), q⟩
theorem v_notN (q : Q (.bl (!decide (x = .non))) H) : rNotN x .non H Q := ⟨rfl, q⟩
end
open RZ in
theorem k_izip {K : PySem.W.Frag} {σ : L2.St} {H : Hp} {ta : TA} {R : It → Hp → Prop} (h : ta σ H fun vs H1 => ∃ a b xs ys, vs = [.ref a, .ref b] ∧ ((SqL K H1 a xs ∧ SqL K H1 b ys ∧ R (Itz K a b) H1) ∨ (SqT K H1 a xs ∧ SqT K H1 b ys ∧ R (ItzT K a b) H1))) : RZ.iZipA K ta σ H R := h
end CW
namespace PySem
open AutoSeq1
theorem list_extend_tupD (l : Addr) (items : Array Value) (n : Nat) (b : Addr) (items2 : Array Value) (n2 : Nat) (dd : Option Addr) (sl : Array (Option Value)) (hs0 : ¬(!items.isEmpty && Builtin.List.listTooLong (items.size + items2.size)) = true) (hs1 : items.size ≤ sizeLine) (hs2 : items.size + items2.size ≤ sizeLine + 1) :
    Meets (Builtin.«list.extend» ⟨[.ref l, .ref b], []⟩) (fun _ R s => s.heap.get? l = some { cls := .type "list", dict := none, data := .seq items n, slots := #[] } ∧ s.heap.get? b = some { cls := .type "tuple", dict := dd, data := .seq items2 n2, slots := sl } ∧ R (.ok (.ret Value.none)) { s with heap := s.heap.update l (Obj.mapSeq fun x => x ++ items2), toks := s.toks }) :=
  .of_wp fun prog w A R s h => by
    obtain ⟨hp, g, d, tk, os⟩ := s; obtain ⟨hl, hb, h⟩ := h; have f1 := idx_int; have f2 := sub_tuple_tuple; have f3 := sub_list_list; have f4 := sub_tuple_list; have f5 := sub_list_tuple;
    have hz' : (items ++ items2).size ≤ sizeLine + 1 := by rw [Array.size_append]; exact hs2
    wp_walk using (wpAny_updateSeq hl rfl (hz := hs1) (_hz' := hz')), wpAny_loadPart' hl, wpAny_loadPart' hb; exact ⟨_, rfl, h⟩
end PySem
namespace CW
open PySem PySem.Spec PyProof.Rows L2
section
variable {X : Cx} {K : PySem.W.Frag} {H : Hp} {Q : VK} {l b : Addr} {xs zs : List V}
def rExtT (K : PySem.W.Frag) : V → List V → Hp → VK → Prop := fun x vs H Q => ∃ l b xs zs, x = .ref l ∧ vs = [.ref b] ∧ H l = some (.lst xs) ∧ SqT K H b zs ∧ xs.length + zs.length ≤ sizeLine ∧ Q .non (upd H l (.lst (xs ++ zs)))
theorem mt_extT : MtM X "list.extend" (rExtT X.K) := by
  intro pins s σ H x vs v us Q I rx rv h
  obtain ⟨l, b, xs, zs, rfl, rfl, hH, hB, hz, q⟩ := h
  cases rx
  obtain ⟨u, rfl, ru⟩ := rv.one
  cases ru
  obtain ⟨z, its, n, r, hl, e⟩ := I.lstM hH
  obtain ⟨its2, r2, ht2, hz2⟩ := I.tuple hB
  have hl2 := r2.length
  obtain ⟨⟨cls, dd, data, sl⟩, ho, hc, n2, hd⟩ := id ht2
  simp only at hc hd
  subst hc hd
  have hsz : its.toArray.size + its2.toArray.size ≤ sizeLine := by rw [List.size_toArray, List.size_toArray]; omega
  have hlong : ¬ (!its.toArray.isEmpty && Builtin.List.listTooLong (its.toArray.size + its2.toArray.size)) = true := by
    rw [notLongL hsz, Bool.and_false]
    exact Bool.false_ne_true
  refine call_meets F.slot_list_extend ⟨_, e, rfl⟩ F.entry_list_extend (F.args_list_extend_2 _ _)
    (PySem.list_extend_tupD l its.toArray n b its2.toArray n2 dd sl hlong (by rw [List.size_toArray]; omega) (by omega)) ⟨e, ho, ?_⟩
  refine ⟨.non, _, I.lset (its' := its ++ its2) hH e (by simp) (r.append r2) ?_, rfl, q⟩
  rw [List.length_append]
  omega
def rExtU (K : PySem.W.Frag) : V → List V → Hp → VK → Prop := fun x vs H Q => rExtend x vs H Q ∨ rExtT K x vs H Q
theorem mt_extU : MtM X "list.extend" (rExtU X.K) := MtR.or mt_extend mt_extT
theorem v_extU {zs : List V} (e : H l = some (.lst xs)) (e2 : H b = some (.lst zs)) (hz : xs.length + zs.length ≤ 10000000) (q : Q .non (upd H l (.lst (xs ++ zs)))) : rExtU K (.ref l) [.ref b] H Q := .inl ⟨l, b, xs, zs, rfl, rfl, e, e2, szL hz, q⟩
theorem v_extT (e : H l = some (.lst xs)) (e2 : SqT K H b zs) (hz : xs.length + zs.length ≤ 10000000) (q : Q .non (upd H l (.lst (xs ++ zs)))) : rExtU K (.ref l) [.ref b] H Q := .inr ⟨l, b, xs, zs, rfl, rfl, e, e2, szL hz, q⟩
end
end CW

/-! one object changes -/
namespace L2
open PySem PySem.Spec PyProof.Rows CW
mutual
theorem Dp.gen {K : PySem.W.Frag} {H H' : Hp} (f : ∀ a xs, SqT K H a xs → SqT K H' a xs) (g : ∀ a xs, SqL K H a xs → SqL K H' a xs) : ∀ {v : V} {d : PyData}, Dp K H v d → Dp K H' v d
  | _, _, .non => .non
  | _, _, .bl b => .bl b
  | _, _, .int i => .int i
  | _, _, .str x => .str x
  | _, _, .lst hs ha => .lst (g _ _ hs) (DpAll.gen f g ha)
  | _, _, .tup hs ha => .tup (f _ _ hs) (DpAll.gen f g ha)
theorem DpAll.gen {K : PySem.W.Frag} {H H' : Hp} (f : ∀ a xs, SqT K H a xs → SqT K H' a xs) (g : ∀ a xs, SqL K H a xs → SqL K H' a xs) : ∀ {vs : List V} {ds : List PyData}, DpAll K H vs ds → DpAll K H' vs ds
  | _, _, .nil => .nil
  | _, _, .cons h1 h2 => .cons (Dp.gen f g h1) (DpAll.gen f g h2)
end
end L2
namespace CW
open PySem PySem.Spec PyProof.Rows L2
def Xa (a : Addr) (H H' : Hp) : Prop := ∀ b o, b ≠ a → H b = some o → H' b = some o
theorem xa_of {a : Addr} {H H' : Hp} (e : Xt H H') : Xa a H H' := fun b o _ h => e b o h
theorem xa_tr {a : Addr} {H H1 H2 : Hp} (e : Xa a H H1) (f : Xa a H1 H2) : Xa a H H2 := fun b o n h => f b o n (e b o n h)
theorem xa_upd {a : Addr} {H : Hp} {o : HO} : Xa a H (upd H a o) := fun b u n h => by rw [upd_ne n]; exact h
theorem xa_free {a p : Addr} {H H' : Hp} {o : HO} (e : Xa a H H') (hi : H' a = some o) (h : H' p = none) : H p = none := by
  cases hp : H p with
  | none => rfl
  | some u =>
    have n : p ≠ a := fun q => by rw [q, hi] at h; cases h
    rw [e _ _ n hp] at h; cases h
theorem xa_mut {a p : Addr} {H H' : Hp} {o : HO} (e : Xa a H H') (h : H p = none) : Xa a H (upd H' p o) := fun b u n hb => by
  rw [upd_ne (ne_of_none hb h)]; exact e b u n hb
section
variable {K : PySem.W.Frag} {H H' : Hp} {a p C dx : Addr} {fs : List (Str × V)} {xs : List V} {v : V} {d : PyData}
theorem ne_ins {o : HO} (hi : H a = some (.ins C dx fs)) (h : H p = some o) (ho : ∀ C dx fs, o ≠ .ins C dx fs) : p ≠ a := fun e => by
  subst e; rw [hi] at h; cases h; exact ho _ _ _ rfl
theorem xat (hi : H a = some (.ins C dx fs)) (e : Xa a H H') (p : Addr) (xs : List V) (h : SqT K H p xs) : SqT K H' p xs := by
  rcases h with (h | ⟨o, h⟩) | h
  · exact .inl (.inl (e _ _ (ne_ins hi h (by intros; intro q; cases q)) h))
  · exact .inl (.inr ⟨o, e _ _ (ne_ins hi h (by intros; intro q; cases q)) h⟩)
  · exact .inr h
theorem xal (hi : H a = some (.ins C dx fs)) (e : Xa a H H') (p : Addr) (xs : List V) (h : SqL K H p xs) : SqL K H' p xs := by
  rcases h with (h | ⟨o, h⟩) | h
  · exact .inl (.inl (e _ _ (ne_ins hi h (by intros; intro q; cases q)) h))
  · exact .inl (.inr ⟨o, e _ _ (ne_ins hi h (by intros; intro q; cases q)) h⟩)
  · exact .inr h
theorem dpa (hi : H a = some (.ins C dx fs)) (e : Xa a H H') (h : Dp K H v d) : Dp K H' v d := Dp.gen (xat hi e) (xal hi e) h
end
end CW
namespace CW
open PySem PySem.Spec PyProof.Rows L2
section
variable {X : Cx}
theorem sw_trueD {kx vx : Expr} {gs : List Comprehension} {scope : Scope} {pos py : Pos} {y : Str} {l : Nat} {env : Env} (hk : env.scope.kind = .function) (hy : env.scope.names.lookup y = some .local) (hl : (py.line == pos.line) = true)
    (ha : (scope.names.any fun (n, k) => n == y && (k == .local || k == .cell)) = false) : swapsWith (.DictComp kx vx gs scope pos) (some (.Name y py)) l env = pure true := by
  have ky : env.kindOf y = some .local := hy
  have hb : env.blockKind = .function := by unfold Env.blockKind; rw [hk]; rfl
  unfold swapsWith
  simp only [hb, ky, ha, Expr.pos, hl]
  rfl
theorem ps_setDc {i : Nat} {y : Str} {py : Pos} {kx vx tg iter : Expr} {ifs : List Expr} {scope : Scope} {own : List (Str × Nat)} {pos spos : Pos} {wi : TI} {g : TG} {tt : TT} {tk tv : TE} (hc : X.calm = true) (hN : X.N.Nodup) (hy : X.N[i]? = some y) (hyl : X.env.scope.names.lookup y = some .local)
    (hsw : swapsWith (.DictComp kx vx [⟨tg, iter, ifs, 0⟩] scope pos) (some (.Name y py)) spos.line X.env = pure true) (hi : PI X tg iter wi) (ok : BlkOk X.N X.env.scope scope own)
    (hg : ∀ (s : Shared) (H : Hp) (C : Addr) (cl : List (Str × Addr)) (fp : List Addr), PG (X.blk s H scope (compEnvC scope cl C X.env) fp) tg g) (ht : ∀ (s : Shared) (H : Hp) (C : Addr) (cl : List (Str × Addr)) (fp : List Addr), PTs (X.blk s H scope (compEnvC scope cl C X.env) fp) ifs tt)
    (hk : ∀ (s : Shared) (H : Hp) (C : Addr) (cl : List (Str × Addr)) (fp : List Addr), PE (X.blk s H scope (compEnvC scope cl C X.env) fp) kx tk)
    (he : ∀ (s : Shared) (H : Hp) (C : Addr) (cl : List (Str × Addr)) (fp : List Addr), PE (X.blk s H scope (compEnvC scope cl C X.env) fp) vx tv) (hs : ∀ x, foldedSetIterable iter X.env x = pure x := by intro _; rfl) :
    PS X (.Assign [.Name y py] (.DictComp kx vx [⟨tg, iter, ifs, 0⟩] scope pos) spos) (tAsg (tDc wi g tt tk tv (own.map (·.2))) (gName i)) := by
  refine ⟨fun pins s σ H D I h => ?_⟩
  rw [exec_Assign_Name_used _ _ _ _ hsw]
  refine wpAny_bind (wpAny_standAt (wpAny_bind ?_))
  show wpAny _ X.A (do let _ ← comprehension (.DictComp kx vx [⟨tg, iter, ifs, 0⟩] scope pos) scope X.env (firstIterPos [⟨tg, iter, ifs, 0⟩] pos) newDict false (eval iter X.env) (some (assign (.Name y py) X.env))) _ _ s
  have h : tDc wi g tt tk tv (own.map (·.2)) σ H (fun x H1 => gName i x σ H1 D.nx) := h
  refine wpAny_bind (thn (dc_core (Qf := fun _ s' => SP X pins D .next s') hc hN I hi ok hg ht hk he hs h fun L C s' m H' I' q hn f => ?_) fun _ s' hq => wpAny_pure (wpAny_pure hq))
  show wpAny _ _ (assign (.Name y py) X.env (.ref L)) _ _ _
  refine wpAny_assign_Name (store_ok2 (v := V.ref L) I' hN hy (.inl hyl) rfl (fun s2 I2 ⟨a, sb, ha⟩ => ?_) (.inr hyl))
  obtain ⟨f0, f1, f2, f3, f4, f5⟩ := f
  have haC : C ≠ a := by
    rcases ha with z | z
    · rw [z]; exact f1
    · exact fun e => f4 y a z e.symm
  refine ⟨m, hn.sameBut sb haC, fun h3 sb3 => ?_⟩
  exact ⟨_, H', I2.turned (t' := s2.toks) (fun b o hb e => (sb3.2 b hb).trans e) f0 f1 f3 f4 f5, q⟩
end
end CW

set_option Elab.async false
set_option linter.all false
set_option maxRecDepth 100000
set_option maxHeartbeats 1000000
/-! texts by their signs -/
namespace CW
open PySem PySem.Spec PyProof.Rows L2
theorem app_l (a b : Str) : (a ++ b).cps.toList = a.cps.toList ++ b.cps.toList := Array.toList_append
theorem len_l (z : Str) : z.cps.toList.length = z.length := by rw [Array.length_toList]; rfl
theorem cut_l (z : Str) (lo hi : Option Int) : (cutS z lo hi).cps.toList = (z.cps.toList.drop (HT.sIx z.length 0 lo)).take (HT.sIx z.length z.length hi - HT.sIx z.length 0 lo) := rfl
theorem cut_to {z : Str} {n : Int} (h : 0 ≤ n) (h2 : n ≤ (z.length : Int)) : (cutS z none (some n)).cps.toList = z.cps.toList.take n.toNat := by
  obtain ⟨k, rfl⟩ : ∃ k : Nat, n = (k : Int) := ⟨n.toNat, by omega⟩
  rw [cut_l, HT.sIx_nat, HT.sIx_none, List.drop_zero, Nat.sub_zero, Int.toNat_natCast, show min k z.length = k by omega]
theorem cut_fr {z : Str} {n : Int} (h : 0 ≤ n) (h2 : n ≤ (z.length : Int)) : (cutS z (some n) none).cps.toList = z.cps.toList.drop n.toNat := by
  obtain ⟨k, rfl⟩ : ∃ k : Nat, n = (k : Int) := ⟨n.toNat, by omega⟩
  rw [cut_l, HT.sIx_nat, HT.sIx_none, Int.toNat_natCast, show min k z.length = k by omega]
  exact List.take_of_length_le (by rw [List.length_drop, len_l]; exact Nat.le_refl _)
theorem list_exP {α : Type} {f : α → V} {P : α → Prop} : ∀ {ys : List V}, (∀ (i : Nat) (y : V), ys[i]? = some y → ∃ c, y = f c ∧ P c) → ∃ cs : List α, ys = cs.map f ∧ ∀ c ∈ cs, P c
  | [], _ => ⟨[], rfl, fun _ h => by cases h⟩
  | y :: r, h => by
    obtain ⟨c, e, p⟩ := h 0 y rfl
    obtain ⟨cs, e2, p2⟩ := list_exP (ys := r) fun i z hz => h (i + 1) z hz
    exact ⟨c :: cs, by rw [e, e2]; rfl, fun d hd => by
      rcases List.mem_cons.mp hd with rfl | hd
      · exact p
      · exact p2 d hd⟩
theorem join_cs (cs : List Nat) : Txt.join (Str.ofString "") (cs.map fun c => (⟨#[c]⟩ : Str)) = ⟨cs.toArray⟩ := by
  show Builtin.Str.glued (Str.ofString "") _ = _
  rw [StrLaws.glued_eq_join]
  exact PyProof.Rows.join_ones cs
theorem v_joinP {K : PySem.W.Frag} {H : Hp} {Q : VK} {a : Addr} {ys : List V} {P : Nat → Prop} (e : H a = some (.lst ys)) (h : ∀ (i : Nat) (y : V), ys[i]? = some y → ∃ c : Nat, y = V.str ⟨#[c]⟩ ∧ P c) (hz : ys.length ≤ 100000)
    (q : ∀ cs : List Nat, cs.length = ys.length → (∀ c ∈ cs, P c) → Q (.str ⟨cs.toArray⟩) H) : rJoin K (.str (Str.ofString "")) [.ref a] H Q := by
  obtain ⟨cs, rfl, hP⟩ := list_exP (f := fun c : Nat => V.str ⟨#[c]⟩) h
  have e2 : (cs.map fun c : Nat => V.str ⟨#[c]⟩) = (cs.map fun c => (⟨#[c]⟩ : Str)).map V.str := by rw [List.map_map]; rfl
  rw [List.length_map] at hz
  refine v_join (ys := cs.map fun c => (⟨#[c]⟩ : Str)) (sql (by rw [← e2]; exact e)) ?_ ?_
  · rw [sum_ones, show (Str.ofString "").length = 0 by decide, Nat.mul_zero]; omega
  · rw [join_cs]
    exact q cs (by rw [List.length_map]) hP
theorem ofl_len (cs : List Nat) : (⟨cs.toArray⟩ : Str).length = cs.length := by show cs.toArray.size = _; rw [List.size_toArray]
theorem one_l (c : Nat) : (⟨#[c]⟩ : Str).cps.toList = [c] := rfl
end CW
namespace CW
open PySem PySem.Spec PyProof.Rows L2
section
variable {X : Cx} {K : PySem.W.Frag} {H : Hp} {Q : VK} {a : Addr} {xs : List V}
def rTimesU : R2 := fun x y H Q => rTimes x y H Q ∨ rRep x y H Q
theorem op_timesU : OpR X (binaryOp .Mult) rTimesU := OpR.or op_times op_rep
theorem u_times_int {i j : Int} (h : CMul i j) (q : Q (.int (i * j)) H) : rTimesU (.int i) (.int j) H Q := .inl (v_times_int h q)
theorem u_rep {n : Int} {ss : List Int} (e : H a = some (.lst (ss.map V.int))) (h0 : 0 ≤ n) (h1 : n ≤ 1000) (h2 : ss.length ≤ 1000) (q : ∀ p H', H p = none → Xt H H' → H' p = some (.lst ((List.replicate n.toNat ss).flatten.map V.int)) → Q (.ref p) H') : rTimesU (.ref a) (.int n) H Q := by
  refine .inr ⟨a, n, _, rfl, rfl, e, by omega, by omega, ?_, fun p hp => ?_⟩
  · rw [List.length_map]
    have : ss.length * n.toNat ≤ 1000 * 1000 := Nat.mul_le_mul h2 (by omega)
    exact szL (by omega)
  · have e2 : (List.replicate n.toNat (ss.map V.int)).flatten = (List.replicate n.toNat ss).flatten.map V.int := by
      rw [List.map_flatten, List.map_replicate]
    rw [e2]
    exact q p _ hp (xnew hp) upd_same
theorem flat_len (l : List Int) : ∀ n : Nat, (List.replicate n l).flatten.length = l.length * n
  | 0 => by simp
  | n + 1 => by rw [List.replicate_succ, List.flatten_cons, List.length_append, flat_len l n, Nat.mul_succ]; omega
theorem flat_at (l : List Int) : ∀ (n k j : Nat), k < n → j < l.length → (List.replicate n l).flatten[l.length * k + j]? = l[j]?
  | 0, _, _, h, _ => by omega
  | n + 1, 0, j, _, hj => by
    rw [List.replicate_succ, List.flatten_cons, Nat.mul_zero, Nat.zero_add, List.getElem?_append_left hj]
  | n + 1, k + 1, j, hk, hj => by
    rw [List.replicate_succ, List.flatten_cons, List.getElem?_append_right (by rw [Nat.mul_succ]; omega)]
    rw [show l.length * (k + 1) + j - l.length = l.length * k + j by rw [Nat.mul_succ]; omega]
    exact flat_at l n k j (by omega) hj
theorem flat_mem {l : List Int} {n : Nat} {x : Int} (h : x ∈ (List.replicate n l).flatten) : x ∈ l := by
  rw [List.mem_flatten] at h
  obtain ⟨m, hm, hx⟩ := h
  rw [List.mem_replicate] at hm
  rw [hm.2] at hx; exact hx
end
end CW

set_option Elab.async false
set_option linter.all false
set_option maxRecDepth 100000
set_option maxHeartbeats 1000000
/-! comprehensions over data with a test -/
namespace CW
open PySem PySem.Spec PyProof.Rows L2
section
variable {K : PySem.W.Frag} {σ : L2.St} {H : Hp} {Q : VK} {te : TE} {vs : List Nat} {Dl : Addr} {g : TG} {tt : TT} {xs : List V} {ds : List PyData} {J : It} {G : Hp → Prop}
theorem b_datF (w : Walk J xs.length G (YAt xs)) (hG : ∀ H', Xt H H' → G H') (hds : DpAll K H xs ds) (p : PyData → Bool) (f : PyData → PyData) (hf : ∀ d ∈ ds, Im (f d) = true) (hn : ds.length < 10000000)
    (body : ∀ v d H', Dp K H' v d → d ∈ ds → Xt H H' → ∀ (R : VK) (R0 : Hp → Prop), (p d = true → ∀ y H2, Xt H' H2 → Dp K H2 y (f d) → R y H2) → (p d = false → ∀ H2, Xt H' H2 → R0 H2) →
      g v (wipe σ vs) H' fun σ2 H2 => wipe σ2 vs = wipe σ vs ∧ tt σ2 H2 fun b H3 => if b = true then te σ2 H3 R else R0 H3)
    (k : ∀ Dl ys H2, H Dl = none → Xt H H2 → H2 Dl = some (.lst ys) → DpAll K H2 ys ((ds.filter p).map f) → Q (.ref Dl) H2) : LcB J g tt te vs σ Q H := fun Dl hD => by
  have hl := hds.len
  refine lc_it w (g := g) (tt := tt) (te := te) (σ := σ) (vs := vs) (fun i H' => Xt H H' ∧ ∃ ys, H' Dl = some (.lst ys) ∧ ys.length ≤ i ∧ DpAll K H' ys (((ds.take i).filter p).map f))
    ⟨xnew hD, [], upd_same, Nat.le_refl _, by rw [List.take_zero]; exact .nil⟩ (fun i H' _ p => hG H' p.1) (fun i x H' H2 hi q hy => ?_) (fun H' q => ?_)
  · obtain ⟨hx, ys, e, hyl, hys⟩ := q
    obtain ⟨rfl, hxi⟩ := hy
    obtain ⟨d, hd, hdp⟩ := DpAll.getV hds hxi
    have hmem : d ∈ ds := List.mem_of_getElem? hd
    have et : ds.take (i + 1) = ds.take i ++ [d] := by rw [List.take_add_one, hd]; rfl
    refine body x d H2 (Dp.mono hx hdp) hmem hx _ _ (fun hp y H4 x4 hy => ?_) (fun hp H4 x4 => ?_)
    · have e4 := x4 _ _ e
      have hys4 := DpAll.mono x4 hys
      refine ⟨ys, e4, szL2 (by omega), xmut (xtr hx x4) hD, ys ++ [y], upd_same, by rw [List.length_append, List.length_singleton]; omega, ?_⟩
      rw [et, List.filter_append, List.map_append]
      have e1 : [d].filter p = [d] := by rw [List.filter_cons, if_pos hp]; rfl
      rw [e1]
      have im1 : ImAll (((ds.take i).filter p).map f) = true := imAll_iff.mpr fun z hz => by
        obtain ⟨c, hc, rfl⟩ := List.mem_map.mp hz
        exact hf c (List.mem_of_mem_take ((List.mem_filter.mp hc).1))
      exact DpAll.app (DpAll.im (fun a zs h => SqT.upd e4 h) im1 hys4) (.cons (Dp.im (fun a zs h => SqT.upd e4 h) (hf d hmem) hy) .nil)
    · refine ⟨xtr hx x4, ys, x4 _ _ e, by omega, ?_⟩
      rw [et, List.filter_append, List.map_append]
      have e1 : [d].filter p = [] := by rw [List.filter_cons, if_neg (by rw [hp]; decide)]; rfl
      rw [e1, List.map_nil, List.append_nil]
      exact DpAll.mono x4 hys
  · obtain ⟨hx, ys, e, hyl, hys⟩ := q
    rw [List.take_of_length_le (by rw [hl]; exact Nat.le_refl _)] at hys
    exact k Dl ys H' hD hx e hys
end
end CW

set_option Elab.async false
set_option linter.all false
set_option maxRecDepth 100000
set_option maxHeartbeats 1000000
namespace CW
open PySem PySem.Spec PyProof.Rows L2
section
variable {K : PySem.W.Frag} {x qual : Str} {st : Stmt} {f : Addr} {fd : FuncData}
theorem fun_kbr {a b : Str} (F : Fun K x qual st f fd) (h : ∀ (kV doc pm : Value) (an : Option Addr) (cdv ct : Value) (u v : Value), bindArgs (PySem.W.fnOf x qual (defArgs st) (defBody st) (defScope st) .none kV doc pm an cdv ct) ⟨[], [(b, u), (a, v)]⟩ = pure [(a, v), (b, u)]) :
    KBn K fd [a, b] 0 [b, a] (fun _ ws => sw2 ws) (fun _ zs => sw2 zs) := by
  obtain ⟨oc, od, kV, doc, pm, an, cdv, ct, osl, rfl, lk, hcd⟩ := F.ex
  refine ⟨fun s us ws _ h0 h1 => ?_, fun {vs us zs ws} r1 r2 => ?_⟩
  · cases us with
    | cons _ _ => cases h0
    | nil =>
      match ws, h1 with
      | [u, v], _ => exact BindsTo.of_eq (h kV doc pm an cdv ct u v)
  · match zs, ws, r2 with
    | [], [], .nil => exact .nil
    | [_], [_], .cons h1 .nil => exact .cons h1 .nil
    | [_, _], [_, _], .cons h1 (.cons h2 .nil) => exact .cons h2 (.cons h1 .nil)
    | _ :: _ :: _ :: _, _ :: _ :: _ :: _, h => exact h
end
end CW

set_option Elab.async false
set_option linter.all false
set_option maxRecDepth 100000
set_option maxHeartbeats 2000000
/-! errors of the program: super().__init__(text) in an own __init__ over ValueError -/
namespace CW
open PySem PySem.Spec PyProof.Rows L2 PySem.W PySem.F PyProof.V PySem.Calls
structure SupK (K : PySem.W.Frag) (prog : Program) (C f cc cda : Addr) (fd : FuncData) : Prop where
  fn : ∃ oc od osl, K.lookup f = some ⟨oc, od, .func fd, osl⟩
  me : ∃ ar, (fd.params.posonlyargs ++ fd.params.args).head? = some ar ∧ ar.arg = "self"
  cod : ∃ ccl cdd vs ccs file tf, K.lookup cda = some ⟨ccl, cdd, .fields vs, ccs⟩ ∧ vs[2]? = some (.str file tf) ∧ ((prog.main.file : Str) == file) = true
  cel : ∃ cl cld csl, K.lookup cc = some ⟨cl, cld, .cell (some (.ref C)), csl⟩
  cls : ∃ cd, clsIn K C = some cd ∧ alongIn K "__init__" ((cd.mro.dropWhile (· != .ref C)).drop 1) = some (some (.builtin "ValueError.__init__"))
  sub : mroIn K C (.ref C) = some true
  ve : subIn K (.ref C) (.type "ValueError") = some true
  op : nsIn K cStatics "thirdparty.any" = some none
  top : (prog.main.scope.names.lookup ("super" : Str)).isSome = false
section
variable {X : Cx} {pins : List (Addr × Obj)} {σ : L2.St} {H : Hp} {s : Shared} {body : List Stmt} {p0 p1 p2 p3 p4 : Pos} {fe : Expr} {te : TA} {i : Nat} {a C f cc cda : Addr} {fd : FuncData}
theorem sup_stmt {Post : Hp → Prop} (S : SupK X.K X.prog C f cc cda fd) (T : OexC X.K C) (hks : Gl X "super") (hmg : X.mg "super" = none) (hkc : X.env.kindOf "__class__" = some .free) (hfu : X.env.func = some f) (hco : X.env.code = .ref cda)
    (hcl : X.env.cells.lookup ("__class__" : Str) = some cc) (hN : X.N[i]? = some ("self" : Str)) (hka : X.env.kindOf "self" = some .local) (hσ : σ[i]? = some (some (.ref a))) (hfe : PA X [fe] te) (he : starEach [fe] X.env = [(false, eval fe X.env)])
    (hi : interactive X.env = false) (hsw : swapsWith (.Call (.Attribute (.Call (.Name "super" p0) [] [] p1) "__init__" p2) [fe] [] p3) none p4.line X.env = pure false)
    {pl : Sem Bool} (hev : eval (.Call (.Attribute (.Call (.Name "super" p0) [] [] p1) "__init__" p2) [fe] [] p3) X.env = (do
      let ov ← attributeBase (.Call (.Name "super" p0) [] [] p1) "__init__" X.env (eval (.Call (.Name "super" p0) [] [] p1) X.env)
      standAt p2.atName
      let (f, first) ← holding [ov] (getMethod ov "__init__" pl)
      callWith p3 f first (backTo p3 (starEach [fe] X.env)) []))
    (I : L2.Inv X pins σ H s) (ha : H a = some (exo a C none)) (hv : te σ H fun vs H1 => vs.length ≤ 1000 ∧ H1 a = some (exo a C none) ∧ Post H1) :
    PySem.wpAt (model X.prog X.w) X.A (.func body X.env) (exec (.Expr (.Call (.Attribute (.Call (.Name "super" p0) [] [] p1) "__init__" p2) [fe] [] p3) p4) X.env) (fun fl s' => fl = .next ∧ ∃ H1, L2.Inv X pins σ H1 s' ∧ Post H1) X.xe s := by
  obtain ⟨oc, od, osl, hf⟩ := S.fn
  obtain ⟨ar, hme, har⟩ := S.me
  obtain ⟨ccl, cdd, vs, ccs, file, tf, hcod, hvs, hfile⟩ := S.cod
  obtain ⟨cl, cld, csl, hcel⟩ := S.cel
  obtain ⟨cd, hcd, hal⟩ := S.cls
  have KX := I.kIn
  obtain ⟨mb, hbn, hbx⟩ := I.ok.mod.blt
  obtain ⟨m, hns, hloc⟩ := I.loc
  obtain ⟨u, ru, hlook⟩ := hloc i "self" (.ref a) hN hσ (.inl hka)
  obtain rfl : u = Value.ref a := ru
  have hm : m "self" = some (.ref a) := by
    rcases hlook with h | ⟨h | h, _⟩
    · exact h.2
    · rw [hka] at h; cases h
    · rw [hka] at h; cases h
  obtain ⟨oD, hD1, hD2⟩ : ∃ oD, s.heap.get? C = some oD ∧ oD.data = .cls cd := by
    have h := hcd
    unfold clsIn at h
    split at h
    · rename_i c d cd' sl ho
      cases h
      exact ⟨_, KX _ _ ho, rfl⟩
    · cases h
  obtain ⟨t1, hox⟩ := exo_at I.hok ha
  refine ks_wpAt_Expr_any ?_ hi hsw
  refine ks_wpAt_MethodCall ?_ hev
  refine ks_wpAt_super_base hks hkc (by decide) hfu (KX _ _ hf) rfl hme hco (KX _ _ hcod) rfl hvs hfile S.top ?_
  refine ks_loadName_global I.ok.kind hks (loadGlobal_builtin (mg := X.mg) (mb := mb) (by rw [I.ok.glob]; exact I.ok.mod.glob.keeps I.bk) hmg (by rw [I.ok.blt]; exact hbn.keeps I.bk) ((hbx "super" (by decide)).trans (show bootBuiltins "super" = some (.type "super") by decide +kernel)) ⟨rfl, ?_⟩)
  refine wpAny_loadName_free I.ok.kind hkc hcl ⟨_, KX _ _ hcel, rfl⟩ ?_ (by decide)
  rw [har]
  refine wpAny_loadName_local I.ok.kind hka hns hm ?_
  refine ks_wpAny_isType_cls hD1 hD2 ⟨rfl, ?_⟩
  obtain ⟨hh, g, d, t, os⟩ := s
  refine ks_wpAny_call_super hD1 hD2 hox rfl (fun c e => by cases e) (looks_mroIn KX S.sub) (fun h1 e1 k1 => ?_)
  have I1 : L2.Inv X pins σ H ⟨h1, g, d, t, os⟩ := I.kept (t' := t) k1
  have K1 := I1.kIn
  have hox1 := k1 _ _ hox
  have ia : PySem.W.InstAt h1 a _ C none := ⟨hox1, rfl, rfl, trivial⟩
  refine kxs_getMethod kxs_ValueError e1 (looks_opaque K1 S.op) (l₀ := cd.mro) (fun A Q E s k q => wpAny_bind ((looks_clsIn K1 hcd) A _ E s k (wpAny_pure q))) rfl K1 hal (ia.type.andThen (looks_subIn K1 S.ve)) (ks_ne K1 ia hcd) (by decide) ?_
  have hu : (h1.push (kxs_mw "ValueError.__init__" a)).get? h1.objs.size = some (kxs_mw "ValueError.__init__" a) := Heap.get?_push_size _ rfl
  have I2 : L2.Inv X pins σ H ⟨h1.push (kxs_mw "ValueError.__init__" a), g, d, t + 1, os⟩ := I1.kept (t' := t + 1) fun b o e => Heap.get?_push_of_some _ e
  have I3 : L2.Inv X ((h1.objs.size, kxs_mw "ValueError.__init__" a) :: pins) σ H ⟨h1.push (kxs_mw "ValueError.__init__" a), g, d, t + 1, os⟩ := by
    refine I2.pins_of fun p hp => ?_
    rcases List.mem_cons.mp hp with rfl | hp
    · exact ⟨hu, I1.hok.fresh (Nat.le_refl _), fun z => absurd I1.lt (by show ¬ X.env.locals < h1.objs.size; rw [← z]; exact Nat.lt_irrefl _), I1.nofs (Nat.le_refl _), fun v e => by cases e⟩
    · exact I2.pin p (List.mem_append_right _ hp)
  have hrun := hfe.run p3 _ _ σ H _ I3 hv
  rw [he] at hrun ⊢
  refine kxs_callWith (i := "ValueError.__init__") (x := a) rfl (evalArgs_plain (thn hrun fun us s1 ⟨vs, H1, J, rv, hvl, ha1, hp⟩ => ?_))
  have hu1 := (J.pin _ (List.mem_append_right _ (List.mem_cons_self ..))).1
  refine ⟨hu1, ?_⟩
  have J1 : L2.Inv X pins σ H1 s1 := J.pins_of fun p hp => J.pin p (List.mem_append_right _ (List.mem_cons_of_mem _ hp))
  obtain ⟨nm, q, N, bs, bm, sn, sub, ab, col, dd, k0, k1', k2, k3, k5, hC, hbm⟩ := T.cls
  obtain ⟨t2, ho⟩ := exo_at J1.hok ha1
  obtain ⟨hp1, g1, d1, tk1, os1⟩ := s1
  have hlen : us.length ≤ sizeLine := by
    rw [← Paired.length rv, sizeLine_eq]
    omega
  refine wpAny_call (codeAny_of_tree ?_)
  show wpAny _ _ (callAny (.ref h1.objs.size) ⟨us, []⟩) _ _ _
  unfold callAny
  refine wpAny_bind (wpAny_load hu1 ?_)
  dsimp only
  refine KFB.if_so (by decide) ?_
  refine KFB.if_so (by decide) ?_
  refine wpAny_bind (check_bound_init F.excBase_ValueError.toExcCallFacts (J1.kIn _ _ hC) ho rfl ?_)
  refine wpAny_bind (wpAny_pure (wpAny_pure ?_))
  refine ⟨plainId_quiet (by decide +kernel) _, codeAny_builtin F.excBase_ValueError.initEntry ?_⟩
  refine exc_init_tree (cls := .ref C) (t0 := t2) (dv := none) (c2 := .none) (c3 := .none) (b4 := .bool false) ho hlen (fun h' k hx _ => ?_)
  have J2 := J1.write (t' := tk1) (x := a) (e := a) (o := exo a C none) (by rw [ha1]; exact True.intro) (.inl rfl) k ⟨_, hx⟩ (exo_ok hx)
  have eu : upd H1 a (exo a C none) = H1 := funext fun b => by
    by_cases hb : b = a
    · rw [hb, upd_same, ha1]
    · rw [upd_ne hb]
  rw [eu] at J2
  exact ⟨rfl, H1, J2, hp⟩
end
end CW

set_option Elab.async false
set_option linter.all false
set_option maxRecDepth 100000
set_option maxHeartbeats 2000000
namespace CW
open PySem PySem.Spec PyProof.Rows L2 NdefX PySem.W PySem.F PyProof.V PySem.Calls
section
variable {P : Program} {w : World} {K : PySem.W.Frag} {mg : Str → Option Value} {base : Heap} {CX : CXT} {C f cc cda : Addr} {name qual x : Str} {params : Arguments} {scope : Scope} {dV kV doc pm ctv : Value} {an : Option Addr} {N : List Str} {k : Nat} {p0 p1 p2 p3 p4 : Pos} {fe : Expr} {s2 : Stmt} {body : List Stmt}
abbrev errNF (name qual : Str) (params : Arguments) (body : List Stmt) (scope : Scope) (cc cda : Addr) : NF := ⟨name, qual, params, body, scope, [("__class__", cc)], cda⟩
theorem err_fn {ta : TA} {ts : TS} {sp : Sp} (S : SupK K P C f cc cda (fnX name qual params body scope [("__class__", cc)] dV kV doc pm an (.ref cda) ctv)) (T : OexC K C) (hmg : mg "super" = none)
    (NS : NScope N ["self", x] ["__class__"] scope) (hks : scope.names.lookup ("super" : Str) = some .globalImplicit) (hcode : codeIn K (.ref cda) qual = true)
    (hbody : body = [.Expr (.Call (.Attribute (.Call (.Name "super" p0) [] [] p1) "__init__" p2) [fe] [] p3) p4, s2])
    (hfe : ∀ A outer s H E, Room k (A.deeper (envF (errNF name qual params body scope cc cda) f s.heap.objs.size)) → PA (ncx CX P w K mg base N (errNF name qual params body scope cc cda) f A outer s H E) [fe] ta)
    (hs2 : ∀ A outer s H E, Room k (A.deeper (envF (errNF name qual params body scope cc cda) f s.heap.objs.size)) → PSs (ncx CX P w K mg base N (errNF name qual params body scope cc cda) f A outer s H E) [s2] ts)
    (hst : ∀ env : Env, starEach [fe] env = [(false, eval fe env)]) (hi : ∀ L, interactive (envF (errNF name qual params body scope cc cda) f L) = false)
    (hsw : ∀ L, swapsWith (.Call (.Attribute (.Call (.Name "super" p0) [] [] p1) "__init__" p2) [fe] [] p3) none p4.line (envF (errNF name qual params body scope cc cda) f L) = pure false)
    {pl : Env → Sem Bool} (hev : ∀ env : Env, eval (.Call (.Attribute (.Call (.Name "super" p0) [] [] p1) "__init__" p2) [fe] [] p3) env = (do
      let ov ← attributeBase (.Call (.Name "super" p0) [] [] p1) "__init__" env (eval (.Call (.Name "super" p0) [] [] p1) env)
      standAt p2.atName
      let (f, first) ← holding [ov] (getMethod ov "__init__" (pl env))
      callWith p3 f first (backTo p3 (starEach [fe] env)) []))
    (len : ∀ vs H Q E, sp vs H Q E → vs.length = 2)
    (hsp : ∀ vs H Q E, sp vs H Q E → ∃ a y, vs = [.ref a, y] ∧ H a = some (exo a C none) ∧ ta (startF N vs [none]) H fun ws H1 => ws.length ≤ 1000 ∧ H1 a = some (exo a C none) ∧ ts { nx := fun _ H' => Q .non H', rt := Q } (startF N vs [none]) H1) :
    FnOk P w K mg base CX (k + 1) f (fnX name qual params body scope [("__class__", cc)] dV kV doc pm an (.ref cda) ctv) ["self", x] sp := by
  refine ⟨len, fun A outer s H args us vs Q E hr e0 hb rv hq => ?_⟩
  obtain ⟨oc, od, osl, hf⟩ := S.fn
  obtain ⟨cl, cld, csl, hcel⟩ := S.cel
  have bk : ∀ b o, base.get? b = some o → s.heap.get? b = some o := fun b o e => (e0.bs b o e).1
  have KX : K.In s.heap := e0.mod.kin.keeps bk
  have lim : s.heap.NoLimit := e0.mod.nolimit.keeps bk
  obtain ⟨a, y, rfl, ha, hta⟩ := hsp vs H Q E hq
  have hpar : ∀ z ∈ (["self", x] : List Str).zip us, scope.names.lookup z.1 = some .local := fun ⟨n, _⟩ hy => NS.par n (List.of_mem_zip hy).1
  have Ce : CellsAt [(("__class__" : Str), cc)] ["__class__"] [none] s.heap H := by
    refine ⟨rfl, fun y c e => ?_, fun x y c e1 e2 => ?_, fun i y e => ?_⟩
    · have hc : c = cc := by
        rw [List.lookup_cons] at e
        split at e
        · exact (Option.some.inj e).symm
        · cases e
      subst hc
      exact ⟨(e0.bs _ _ (e0.mod.kin _ _ hcel)).2, _, _, KX _ _ hcel, rfl⟩
    · have h1 : x = "__class__" := by
        rw [List.lookup_cons] at e1
        split at e1
        · rename_i h; exact eq_of_beq h
        · cases e1
      have h2 : y = "__class__" := by
        rw [List.lookup_cons] at e2
        split at e2
        · rename_i h; exact eq_of_beq h
        · cases e2
      rw [h1, h2]
    · match i, e with
      | 0, e =>
        cases e
        exact ⟨cc, rfl, fun v e => by cases e⟩
  refine ks_codeAny_call_defAt (fd := fnX name qual params body scope [("__class__", cc)] dV kV doc pm an (.ref cda) ctv) (body := body) (binds := (["self", x] : List Str).zip us) hr.depth (KX _ _ hf) rfl lim (codeRec_of KX hcode) rfl hb NS.nocell hpar (fun h₁ hns kp => ?_) NS.co NS.gen NS.kind
  have I : L2.Inv (ncx CX P w K mg base N (errNF name qual params body scope cc cda) f A outer s H E) [] (startF N [.ref a, y] [none]) H { s with heap := h₁, toks := s.toks + ((["self", x] : List Str).zip us).length } := inv_startN NS hr.hd e0 rfl rv Ce hns kp
  subst hbody
  have h1 := sup_stmt (X := ncx CX P w K mg base N (errNF name qual params [.Expr (.Call (.Attribute (.Call (.Name "super" p0) [] [] p1) "__init__" p2) [fe] [] p3) p4, s2] scope cc cda) f A outer s H E)
    (body := [.Expr (.Call (.Attribute (.Call (.Name "super" p0) [] [] p1) "__init__" p2) [fe] [] p3) p4, s2]) (i := 0) (pins := []) (σ := startF N [.ref a, y] [none]) (H := H) (a := a) S T hks hmg ?hkc rfl rfl rfl ?hN (NS.par "self" (List.mem_cons_self ..)) rfl (hfe A outer s H E (hr.deeper _)) (hst _) (hi _) (hsw _) (hev _) I ha hta
  case hkc => exact NS.frk "__class__" (List.mem_cons_self ..)
  case hN =>
    have h := congrArg (fun l : List Str => l[0]?) NS.pre
    have h2 : (N.take ((["self", x] : List Str).length + (["__class__"] : List Str).length))[0]? = N[0]? := List.getElem?_take_of_lt (Nat.succ_pos _)
    exact h2.symm.trans h
  refine ks_wpAt_execs_cons (PySem.wpAt_mono h1 (fun fl s' ⟨e, H1, J, hp⟩ => ?_) fun e s' h => h)
  subst e
  refine PySem.wpAt_of_wpAny (wpAny_mono ((hs2 A outer s H E (hr.deeper _)).run [] s' _ H1 _ J hp) (fun fl s'' hs => ?_) fun e s' h => h)
  cases fl with
  | ret u =>
    obtain ⟨v, σ', H', J', rv', q⟩ := hs
    exact ⟨v, H', J'.os, J'.bare, J'.base, J'.hok, rv', q⟩
  | next =>
    obtain ⟨σ', H', J', q⟩ := hs
    exact ⟨V.non, H', J'.os, J'.bare, J'.base, J'.hok, rfl, q⟩
  | brk =>
    obtain ⟨_, _, _, q⟩ := hs
    exact False.elim q
  | cont =>
    obtain ⟨_, _, _, q⟩ := hs
    exact False.elim q
end
end CW

set_option Elab.async false
set_option linter.all false
set_option maxRecDepth 100000
set_option maxHeartbeats 2000000
namespace CW
open PySem PySem.Spec PyProof.Rows L2 NdefX PySem.W
def RepV (y : V) : Prop := (∃ z : Str, y = .str z ∧ ascS z = true ∧ z.length ≤ 100000) ∨ ∃ i : Int, y = .int i ∧ i.natAbs.log2 < 1920
theorem int_text {i : Int} (h : i.natAbs.log2 < 1920) : (Str.ofString (toString i)).length ≤ 100000 := by
  have h1 := int_text_length_le (by decide) h
  rw [PySem.ofString_length]
  omega
end CW

set_option Elab.async false
set_option linter.all false
set_option maxRecDepth 100000
set_option maxHeartbeats 2000000
/-! errors of the program held as values: made, their fields read, asked by isinstance -/
namespace CW
open PySem PySem.Spec PyProof.Rows L2 PySem.W PySem.F PyProof.V PySem.Calls
section
variable {X : Cx} {e : Expr} {es : List Expr} {te : TE} {ta : TA} {p pos : Pos}
end
end CW

set_option Elab.async false
set_option linter.all false
set_option maxRecDepth 100000
set_option maxHeartbeats 2000000
/-! calls that may raise: C(e, ..) and o.m(e, ..); in the suite: isinstance and the fields of the error that it holds -/
namespace CW
open PySem PySem.Spec PyProof.Rows L2 PySem.W PySem.F PyProof.V PySem.Calls
section
variable {X : Cx} {CX : CXT} {k : Nat} {f C : Addr} {fd : FuncData} {ps : List Str} {sp : Sp} {E : L2.St → XK} {x m : Str} {p pos apos : Pos} {e o : Expr} {es : List Expr} {ta : TE} {t : TA}
end
def rIsS (K : PySem.W.Frag) (a : Addr) (cls : Value) (d : Option Addr) : List V → Hp → VK → Prop := fun xs H Q => ∃ (D : Addr) (c : V) (cv : Value) (b : Bool), xs = [.ref a, c] ∧ cls = .ref D ∧ (d = none ∨ ∃ dd fs, d = some dd ∧ H dd = some (.xd fs)) ∧ ExcC K D ∧ (∀ u, RelV c u → u = cv) ∧ PySem.W.kitOne K (.ref D) cv = some b ∧ Q (.bl b) H
theorem call_isS {X : Cx} {a : Addr} {oe : Obj} {cls : Value} {d : Option Addr} {pn : List (Addr × Obj)} (hz : Zc cls d oe) (hf : ∃ vs, oe.data = .fields vs) : CallR (X.suite a ((a, oe) :: pn)) (.builtin "isinstance") (rIsS X.K a cls d) := by
  intro pins s σ H xs us Q I r h
  obtain ⟨D, c, cv, b, rfl, rfl, hd, C, hcv, e, q⟩ := h
  cases r with
  | cons rx rr =>
    cases rr with
    | cons rt rr =>
      cases rr
      cases rx
      have ec := hcv _ rt
      subst ec
      have hcl : (PySem.W.clsIn X.K D).isSome = true := by
        obtain ⟨cdD, hcD, _⟩ := PySem.W.any_some C.hd
        rw [hcD]
        rfl
      obtain ⟨hget, _⟩ := I.pin (a, oe) (List.mem_append.mpr (.inl List.mem_cons_self))
      obtain ⟨vs, hv⟩ := hf
      obtain ⟨od, J⟩ : ∃ od, PySem.W.InstAt s.heap a oe D od := by
        rcases hd with rfl | ⟨dd, fs, rfl, hdd⟩
        · exact ⟨none, hget, hz.1, by unfold PySem.W.notCls; rw [hv] <;> rfl, by rw [hz.2]; exact trivial⟩
        · have hx : ObjOk X.prog X.w H s.heap dd (.xd fs) := I.hok dd _ hdd
          obtain ⟨mA, hns, hr⟩ := hx
          obtain ⟨od, es, ep, ho, _⟩ := hns
          exact ⟨some od, hget, hz.1, by unfold PySem.W.notCls; rw [hv] <;> rfl, by rw [hz.2]; exact ho⟩
      exact PySem.W.kia_one (PySem.W.kitx_exc hcl C.hg C.hk C.hs C.ha C.hn C.ht C.hm) I.kIn J e (fun z => nomatch z) fun tk => ⟨.bl b, H, I.kept (t' := tk) fun _ _ z => z, rfl, q⟩
def tXs (K : PySem.W.Frag) (a : Addr) (cls : Value) (d : Option Addr) (f : Str) (te : TE) : TE := fun σ H Q => te σ H fun x H1 => x = .ref a ∧ ∃ (C dd : Addr) (fs : List (Str × V)) (v : V), cls = .ref C ∧ XfC K C ∧ PySem.W.findIn K (.ref C) f = some none ∧ d = some dd ∧ H1 dd = some (.xd fs) ∧ fs.lookup f = some v ∧ Q v H1
theorem pe_xs {X : Cx} {a : Addr} {oe : Obj} {cls : Value} {d : Option Addr} {pn : List (Addr × Obj)} {e : Expr} {te : TE} {pos : Pos} {n : Str} (hz : Zc cls d oe) (hf : ∃ vs, oe.data = .fields vs) (he : PE (X.suite a ((a, oe) :: pn)) e te)
    (hb : attributeBase e n X.env (eval e X.env) = eval e X.env := by rfl) : PE (X.suite a ((a, oe) :: pn)) (.Attribute e n pos) (tXs X.K a cls d n te) := by
  refine ⟨fun pins s σ H Q I h => ?_⟩
  refine attr_of hb (thn (he.run pins s σ H _ I h) fun u s1 hh => ?_)
  obtain ⟨x, H1, I1, rx, ex, C, dd, fs, v, ec, T, hno, ed, ea, l, q⟩ := hh
  subst ex
  obtain rfl : u = Value.ref a := rx
  subst ec
  subst ed
  obtain ⟨ha, _⟩ := I1.pin (a, oe) (List.mem_append_left _ List.mem_cons_self)
  obtain ⟨vs, hd⟩ := hf
  have hx : ObjOk X.prog X.w H1 s1.heap dd (.xd fs) := I1.hok dd _ ea
  obtain ⟨mA, hns, hr⟩ := hx
  obtain ⟨od, ho, hl⟩ := lookIn_ns hns
  obtain ⟨u, hu, ru⟩ := RelO.some_of (v := v) (o := mA n) (by rw [← l]; exact hr n)
  have J : PySem.W.InstAt s1.heap a oe C (some od) := ⟨ha, hz.1, by unfold PySem.W.notCls; rw [hd] <;> rfl, by rw [hz.2]; exact ho⟩
  exact HandSPX.exc_get I1.kIn J T.ga T.gg T.exC (PySem.W.findObj_own T.hdC hno rfl (by rw [hl, hu])) (handed_of ru) ⟨v, H1, I1.tok _, ru, q⟩
end CW

set_option Elab.async false
set_option linter.all false
set_option maxRecDepth 100000
set_option maxHeartbeats 2000000
/-! list.count of flat values -/
namespace CW
open PySem PySem.Spec PyProof.Rows L2
end CW
namespace CW
open PySem PySem.Spec PyProof.Rows L2
end CW

set_option Elab.async false
set_option linter.all false
set_option maxRecDepth 100000
set_option maxHeartbeats 2000000
/-! keywords of methods, in any order -/
namespace CW
open PySem PySem.Spec PyProof.Rows L2 PySem.W
section
variable {K : PySem.W.Frag} {x qual : Str} {st : Stmt} {f : Addr} {fd : FuncData} {ps ks : List Str} {n : Nat} {g : List Value → List Value → List Value} {gV : List V → List V → List V}
theorem fun_kbg (F : Fun K x qual st f fd) (rel : ∀ {vs : List V} {us : List Value} {zs : List V} {ws : List Value}, Vals vs us → Vals zs ws → Vals (gV vs zs) (g us ws))
    (h : ∀ (kV doc pm : Value) (an : Option Addr) (cdv ct : Value) (us ws : List Value), us.length = n → ws.length = ks.length → bindArgs (PySem.W.fnOf x qual (defArgs st) (defBody st) (defScope st) .none kV doc pm an cdv ct) ⟨us, ks.zip ws⟩ = pure (ps.zip (g us ws))) :
    KBn K fd ps n ks g gV := by
  obtain ⟨oc, od, kV, doc, pm, an, cdv, ct, osl, rfl, lk, hcd⟩ := F.ex
  exact ⟨fun s us ws _ h0 h1 => BindsTo.of_eq (h kV doc pm an cdv ct us ws h0 h1), rel⟩
theorem vals_rev : ∀ {zs : List V} {ws : List Value}, Vals zs ws → Vals zs.reverse ws.reverse
  | _, _, .nil => .nil
  | _, _, .cons r rs => by
    rw [List.reverse_cons, List.reverse_cons]
    exact (vals_rev rs).append (.cons r .nil)
theorem rel_appr {vs : List V} {us : List Value} {zs : List V} {ws : List Value} (r : Vals vs us) (s : Vals zs ws) : Vals (vs ++ zs.reverse) (us ++ ws.reverse) := r.append (vals_rev s)
end
end CW

set_option Elab.async false
set_option linter.all false
set_option maxRecDepth 100000
set_option maxHeartbeats 2000000
/-! defs that are only called where no repr is under way; repr of data -/
namespace CW
open PySem PySem.Spec PyProof.Rows L2
structure FnOkG (P : Program) (w : World) (K : PySem.W.Frag) (mg : Str → Option Value) (base : Heap) (CX : CXT) (k : Nat) (f : Addr) (fd : FuncData) (ps : List Str) (sp : Sp) : Prop where
  lenG : ∀ vs H Q E, sp vs H Q E → vs.length = ps.length
  runG : ∀ (A : Around) (outer : List Env) (s : Shared) (H : Hp) (args : Args) (us : List Value) (vs : List V) (Q : VK) (E : XK), A.guards = some [] → Room k A → Env0 P w K mg base A outer s H →
    BindsTo s fd args (ps.zip us) → Vals vs us → sp vs H Q E → codeAny (model P w) A (.call (.ref f) args) (CR CX outer P w H s Q E) s
section
variable {P : Program} {w : World} {K : PySem.W.Frag} {mg : Str → Option Value} {base : Heap} {CX : CXT}
end
section
variable {X : Cx} {CX : CXT} {k : Nat} {f : Addr} {fd : FuncData} {ps : List Str} {sp : Sp} {E : XK} {x : Str} {p pos : Pos} {e : Expr} {es : List Expr} {t : TA}
end
section
variable {P : Program} {w : World} {K : PySem.W.Frag} {mg mb : Str → Option Value} {CX : CXT} {k : Nat} {fa a : Addr} {fd : FuncData} {x : Str} {sp : Sp} {s₁ : Shared} {vs : List Value} {ns : List Int}
end
end CW

set_option Elab.async false
set_option linter.all false
set_option maxRecDepth 100000
set_option maxHeartbeats 2000000
/-! errors whose field may also be a tuple of texts or small numbers -/
namespace CW
open PySem PySem.Spec PyProof.Rows L2 NdefX PySem.W
def RepS (y : V) : Prop := (∃ z : Str, y = .str z ∧ ascS z = true ∧ z.length ≤ 100) ∨ ∃ i : Int, y = .int i ∧ i.natAbs.log2 < 1000
def RepX (K : PySem.W.Frag) (H : Hp) (y : V) : Prop := RepV y ∨ ∃ (a : Addr) (xs : List V), y = .ref a ∧ SqT K H a xs ∧ xs.length ≤ 400 ∧ ∀ x ∈ xs, RepS x
def tFmtQ (K : PySem.W.Frag) (te : TE) : TE := fun σ H Q => te σ H fun x H1 => RepX K H1 x ∧ ∀ m : Str, m.length ≤ 2000000 → Q (.str m) H1
theorem repr_allS {prog : Program} {w : World} : ∀ {xs : List V} {its : List Value}, Vals xs its → (∀ x ∈ xs, RepS x) → ∃ ts, ReprAll prog w its ts ∧ ts.length = xs.length ∧ ∀ t ∈ ts, t.length ≤ 2000
  | [], _, r, _ => by
    cases r
    exact ⟨[], .nil, rfl, by simp⟩
  | y :: l, _, r, h => by
    cases r with
    | cons r1 r2 =>
      obtain ⟨ts, a, b, c⟩ := repr_allS (prog := prog) (w := w) r2 fun z hz => h z (List.mem_cons_of_mem _ hz)
      rcases h y List.mem_cons_self with ⟨z, rfl, hz, hl⟩ | ⟨i, rfl, hi⟩
      · obtain ⟨t, rfl⟩ := r1
        have hr := StrLaws.reprText_len z fun c hc => Nat.lt_trans (of_decide_eq_true (List.all_eq_true.mp hz c hc)) (by decide)
        refine ⟨reprText z :: ts, .cons (ReprIs.str z t (by rw [sizeLine_eq]; omega)) a, by simp [b], fun u hu => ?_⟩
        rcases List.mem_cons.mp hu with rfl | hu
        · omega
        · exact c u hu
      · obtain ⟨t, rfl⟩ := r1
        have h2 : i.natAbs.log2 < 1920 := by omega
        have h1 := int_text_length_le (by decide) h2
        refine ⟨(toString i : Str) :: ts, .cons (ReprIs.int t h2) a, by simp [b], fun u hu => ?_⟩
        rcases List.mem_cons.mp hu with rfl | hu
        · rw [PySem.ofString_length]; omega
        · exact c u hu
theorem piled_le : ∀ (ts : List Str), (∀ t ∈ ts, t.length ≤ 2000) → piled ts ≤ 2010 * ts.length
  | [], _ => Nat.zero_le _
  | t :: ts, h => by
    have h1 := h t List.mem_cons_self
    have h2 := piled_le ts fun u hu => h u (List.mem_cons_of_mem _ hu)
    rw [piled_cons, List.length_cons]
    omega
theorem pe_fmtQ {X : Cx} {e : Expr} {te : TE} {pos : Pos} {k : Nat} (hr : Room k X.A) (he : PE X e te) : PE X (.FormattedValue e 114 none pos) (tFmtQ X.K te) := by
  refine ⟨fun pins s σ H Q I h => ?_⟩
  refine wpAny_FormattedValue_repr (thn (he.run pins s σ H _ I h) fun v s1 hv => ?_)
  obtain ⟨x, H1, I1, r1, hx, q⟩ := hv
  rcases hx with (⟨z, rfl, hz, hl⟩ | ⟨i, rfl, hi⟩) | ⟨a, xs, rfl, hs, hn, hxs⟩
  · obtain ⟨t, rfl⟩ := r1
    have hr := StrLaws.reprText_len z fun c hc => Nat.lt_trans (of_decide_eq_true (List.all_eq_true.mp hz c hc)) (by decide)
    have hz2 : (reprText z).length ≤ sizeLine := by rw [sizeLine_eq]; omega
    exact pyReprObj_str (wpAny_formatField_str ⟨.str (reprText z), H1, I1.tok _, ⟨_, rfl⟩, q _ (by omega)⟩ ⟨.str (reprText z), H1, I1.tok _, ⟨_, rfl⟩, q _ (by omega)⟩ hz2) hz2
  · obtain ⟨t, rfl⟩ := r1
    have h1 := int_text hi
    exact pyReprObj_int hi (wpAny_formatField_str ⟨.str (toString i), H1, I1.tok _, ⟨_, rfl⟩, q _ (by omega)⟩ ⟨.str (toString i), H1, I1.tok _, ⟨_, rfl⟩, q _ (by omega)⟩ (int_text_fits hi))
  · cases r1
    obtain ⟨its, rv, ⟨o, ho, hcl, n, hd⟩, _⟩ := I1.tuple hs
    obtain ⟨ts, h1, h2, h3⟩ := repr_allS (prog := X.prog) (w := X.w) rv hxs
    have hp := piled_le ts h3
    have htx := fmt_text ts
    have hu := hr.units
    have hL : (tupleText ts).length ≤ 1000000 := by omega
    have hS : (tupleText ts).length + 5 ≤ sizeLine := by rw [sizeLine_eq]; omega
    refine wpAny_pyReprObj_slot (by omega) ⟨o, ho, hcl⟩ F.slot_tuple_repr ?_
    refine fmt_tuple_repr ho hcl hd h1 (by omega) fun m u tk hm => ⟨m, u, rfl, ?_⟩
    exact wpAny_formatField_str ⟨.str m, H1, (I1.tok _).tok _, ⟨_, rfl⟩, q _ (by omega)⟩ ⟨.str m, H1, (I1.tok _).tok _, ⟨_, rfl⟩, q _ (by omega)⟩ (by omega)
def spErrQ (K : PySem.W.Frag) (C : Addr) (fld : Str) : Sp := fun vs H Q _ => ∃ a y, vs = [.ref a, y] ∧ H a = some (exo a C none) ∧ RepX K H y ∧ ∀ dx, H dx = none → dx ≠ a → Q .non (upd (upd H dx (exd dx [(fld, y)])) a (exo a C (some dx)))
def taErrQ (K : PySem.W.Frag) (pre : Str) : TA := tCons (fun σ H Q => tJs [tC (.str pre), tFmtQ K (tVar 1)] Str.empty σ H fun out H1 => Q (.str out) H1) tNil
theorem err_readQ {K : PySem.W.Frag} {C : Addr} {fld pre x : Str} (T : OexC K C) (hno : findIn K (.ref C) fld = some none) (hpre : pre.length ≤ 100) {vs : List V} {H : Hp} {Q : VK} {E : XK} (h : spErrQ K C fld vs H Q E) :
    ∃ a y, vs = [.ref a, y] ∧ H a = some (exo a C none) ∧ taErrQ K pre (startF ["self", x, "__class__"] vs [none]) H fun ws H1 => ws.length ≤ 1000 ∧ H1 a = some (exo a C none) ∧ tOst K fld (tVar 0) (tVar 1) { nx := fun _ H' => Q .non H', rt := Q } (startF ["self", x, "__class__"] vs [none]) H1 := by
  obtain ⟨a, y, rfl, ha, hy, q⟩ := h
  refine ⟨a, y, rfl, ha, ?_⟩
  have fin : tOst K fld (tVar 0) (tVar 1) { nx := fun _ H' => Q .non H', rt := Q } (startF ["self", x, "__class__"] [.ref a, y] [none]) H :=
    ⟨y, rfl, .ref a, rfl, a, C, rfl, T, hno, .inl ⟨ha, q⟩⟩
  have e0 : Str.length (Str.empty ++ pre) = pre.length := by rw [len_app]; show 0 + _ = _; omega
  refine ⟨pre, rfl, by rw [e0, sizeLine_eq]; omega, y, rfl, hy, fun m hm => ⟨m, rfl, ?_, ?_⟩⟩
  · rw [len_app, e0, sizeLine_eq]; omega
  · exact ⟨by show 1 ≤ 1000; omega, ha, fin⟩
end CW

set_option Elab.async false
set_option linter.all false
set_option maxRecDepth 100000
set_option maxHeartbeats 2000000
/-! what the written part says of one class of errors, in one piece -/
namespace CW
open PySem PySem.Spec PyProof.Rows L2 NdefX PySem.W
abbrev fnI (st : Stmt) (ql : Str) (cc cd : Addr) (kI doI pI : Value) (anI : Option Addr) (ctI : Value) : FuncData := fnX "__init__" ql (defArgs st) (defBody st) (defScope st) [("__class__", cc)] .none kI doI pI anI (.ref cd) ctI
structure ErrT (P : Program) (K : PySem.W.Frag) (mg : Str → Option Value) (nm : Str) (st : Stmt) (ql fld x : Str) where
  (C fI cc cd : Addr)
  (kI doI pI ctI : Value)
  anI : Option Addr
  a : nsIn K mainGlobals nm = some (some (.ref C))
  g : mg nm = some (.ref C)
  S : SupK K P C fI cc cd (fnI st ql cc cd kI doI pI anI ctI)
  hc : codeIn K (.ref cd) ql = true
  ox : OexC K C
  no : findIn K (.ref C) fld = some none
  iI : findIn K (.ref C) "__init__" = some (some (.ref fI))
  tI : typeIn K (.ref fI) = some (.type "function")
  bI : L2.Binds K (fnI st ql cc cd kI doI pI anI ctI) ["self", x] []
  xc : ExcC K C
  xf : XfC K C
structure LeafT (K : PySem.W.Frag) (mg : Str → Option Value) (nm : Str) (bm : List Value) (newId : String) where
  C : Addr
  a : nsIn K mainGlobals nm = some (some (.ref C))
  g : mg nm = some (.ref C)
  qx : excIn K C bm newId = true
  kx : keepIn K (.ref C) = true
  xc : ExcC K C
structure ErrAll (P : Program) (K : PySem.W.Frag) (mg : Str → Option Value) : Prop where
  op : nsIn K cStatics "thirdparty.any" = some none
  spe : specialIn K (.builtin "object.__class__") "__get__" = some (some (.builtin "getset_descriptor.__get__"))
  tak : takesIn K (.builtin "object.__class__") = some true
  top : (P.main.scope.names.lookup ("super" : Str)).isSome = false
section
variable {P : Program} {K : PySem.W.Frag} {mg : Str → Option Value} {h : Heap} {nm : Str} {st : Stmt} {ql fld x : Str}
def errT_mk (X : K.In h) (G : h.Ns mainGlobals mg) (B : ErrAll P K mg) {C fI cc cd N : Addr} {nm' qn file : Str} {tf : Tok} {bs bm sub : List Value} {sn : List Str} {ab : Bool} {col : Option Bool} {dd oda odc ode anI : Option Addr} {k0 k1 k2 k3 k5 : Option Value}
    {oca occ oce kI doI pI ctI : Value} {sla slc sle : Array (Option Value)} {vs : Array Value} {cdv : ClassData}
    (e1 : nsIn K mainGlobals nm = some (some (.ref C))) (e2 : K.lookup C = some (excClassObj nm' qn C N bs bm true sn sub ab col dd k0 k1 k2 k3 k5 "ValueError.__new__")) (e3 : findIn K (.ref C) "__setattr__" = some (some (.builtin "object.__setattr__")))
    (e4 : subIn K (.ref C) (.type "BaseException") = some true) (e5 : typeIn K (.ref C) = some (.type "type")) (e6 : keepIn K (.ref C) = true) (e7 : findIn K (.ref C) fld = some none) (e8 : findIn K (.ref C) "__init__" = some (some (.ref fI)))
    (e9 : typeIn K (.ref fI) = some (.type "function")) (f1 : K.lookup fI = some ⟨oca, oda, .func (fnI st ql cc cd kI doI pI anI ctI), sla⟩) (f2 : K.lookup cd = some ⟨occ, odc, .fields vs, slc⟩) (f3 : K.lookup cc = some ⟨oce, ode, .cell (some (.ref C)), sle⟩)
    (f4 : clsIn K C = some cdv) (f5 : mroIn K C (.ref C) = some true) (f6 : subIn K (.ref C) (.type "ValueError") = some true) (f7 : codeIn K (.ref cd) ql = true) (f8 : findIn K (.ref C) "__getattribute__" = some (some (.builtin "BaseException.__getattribute__")))
    (f9 : findIn K (.ref C) "__getattr__" = some none) (g1 : hasDictIn K C = true) (g2 : findIn K (.ref C) "__class__" = some (some (.builtin "object.__class__"))) (g3 : mroIn K C (.type "object") = some true)
    (r1 : PySem.HandSPX.refsVE bm = true) (r2 : vs[2]? = some (.str file tf)) (r3 : ((P.main.file : Str) == file) = true) (r4 : alongIn K "__init__" ((cdv.mro.dropWhile (· != .ref C)).drop 1) = some (some (.builtin "ValueError.__init__")))
    (r5 : ∃ ar, ((fnI st ql cc cd kI doI pI anI ctI).params.posonlyargs ++ (fnI st ql cc cd kI doI pI anI ctI).params.args).head? = some ar ∧ ar.arg = "self")
    (r6 : ∀ us : List Value, us.length = 2 → bindArgs (fnI st ql cc cd kI doI pI anI ctI) ⟨us, []⟩ = pure ((["self", x] : List Str).zip us)) : ErrT P K mg nm st ql fld x where
  C := C
  fI := fI
  cc := cc
  cd := cd
  kI := kI
  doI := doI
  pI := pI
  ctI := ctI
  anI := anI
  a := e1
  g := mg_of X G e1
  S := ⟨⟨_, _, _, f1⟩, r5, ⟨_, _, _, _, _, _, f2, r2, r3⟩, ⟨_, _, _, f3⟩, ⟨_, f4, r4⟩, f5, f6, B.op, B.top⟩
  hc := f7
  ox := ⟨⟨_, _, _, _, _, _, _, _, _, _, _, _, _, _, _, e2, r1⟩, e3, e4, e5, e6⟩
  no := e7
  iI := e8
  tI := e9
  bI := Binds.all fun us hl => r6 us hl
  xc := ⟨f8, f9, e4, g1, g2, B.spe, B.tak, g3⟩
  xf := ⟨f8, f9, e4, g1⟩
end
theorem errAll_mk {P : Program} {K : PySem.W.Frag} {mg : Str → Option Value} {h : Heap} (_ : K.In h) (a : nsIn K cStatics "thirdparty.any" = some none) (b : specialIn K (.builtin "object.__class__") "__get__" = some (some (.builtin "getset_descriptor.__get__")))
    (c : takesIn K (.builtin "object.__class__") = some true) (d : (P.main.scope.names.lookup ("super" : Str)).isSome = false) : ErrAll P K mg := ⟨a, b, c, d⟩
def addrOf (K : PySem.W.Frag) (n : Str) : Addr := match nsIn K mainGlobals n with
  | some (some (.ref a)) => a
  | _ => 0
theorem addrOf_eq {K : PySem.W.Frag} {n : Str} {C : Addr} (h : nsIn K mainGlobals n = some (some (.ref C))) : addrOf K n = C := by
  unfold addrOf
  rw [h]
end CW

set_option Elab.async false
set_option linter.all false
set_option maxRecDepth 100000
set_option maxHeartbeats 2000000
/-! what repr asks of data -/
namespace CW
open PySem PySem.Spec PyProof.Rows L2
theorem cutV_len {xs : List V} {lo hi : Int} (h0 : 0 ≤ lo) (h1 : lo ≤ hi) (h2 : lo ≤ (xs.length : Int)) : (cutV xs (some lo) (some hi)).length ≤ (hi - lo).toNat := by
  obtain ⟨i, rfl⟩ : ∃ k : Nat, lo = (k : Int) := ⟨lo.toNat, by omega⟩
  obtain ⟨j, rfl⟩ : ∃ k : Nat, hi = (k : Int) := ⟨hi.toNat, by omega⟩
  unfold cutV
  rw [HT.sIx_nat, HT.sIx_nat, List.length_take]
  omega
end CW

set_option Elab.async false
set_option linter.all false
set_option maxRecDepth 100000
set_option maxHeartbeats 2000000
/-! x in o, o an instance of a class with its own __contains__ -/
namespace CW
open PySem PySem.Spec PyProof.Rows L2 PySem.W
section
variable {X : Cx} {CX : CXT} {k : Nat} {f C : Addr} {fd : FuncData} {ps : List Str} {sp : Sp}
end
end CW

set_option Elab.async false
set_option linter.all false
set_option maxRecDepth 100000
set_option maxHeartbeats 1000000
/-! dicts whose keys are data (tuples, nested) -/
namespace CW
open PySem PySem.Spec PyProof.Rows L2
mutual
def nkey : PyData → NestedKey
  | .none => .none
  | .bool b => .num (if b = true then 1 else 0)
  | .int i => .num i
  | .str x => .text x
  | .tuple ds => .tup (nkeys ds)
  | .list _ => .none
  | .dict _ => .none
def nkeys : List PyData → List NestedKey
  | [] => []
  | d :: ds => nkey d :: nkeys ds
end
mutual
theorem reads_nkey {h : Heap} : ∀ (d : PyData) (u : Value) (as : List Addr), Im d = true → Reads h u d as → NestedIs h (nkey d) u
  | .none, _, _, _, r => by cases r; rw [nkey]; exact .none
  | .bool b, _, _, _, r => by cases r; rw [nkey]; exact .bool rfl
  | .int i, _, _, _, r => by cases r; rw [nkey]; exact .int _ _
  | .str x, _, _, _, r => by cases r; rw [nkey]; exact .text _ _
  | .tuple ds, _, _, im, r => by
    cases r with
    | tuple h1 h2 h3 h4 => rw [nkey]; exact .tup h1 h2 h3 (reads_nkeys ds _ _ (by simpa [Im] using im) h4)
  | .list _, _, _, im, _ => by simp [Im] at im
  | .dict _, _, _, im, _ => by simp [Im] at im
theorem reads_nkeys {h : Heap} : ∀ (ds : List PyData) (us : List Value) (as : List Addr), ImAll ds = true → ReadsAll h us ds as → NestedAll h (nkeys ds) us
  | [], _, _, _, r => by cases r; rw [nkeys]; exact .nil
  | d :: ds, _, _, im, r => by
    rw [ImAll, Bool.and_eq_true] at im
    cases r with
    | cons h1 h2 => rw [nkeys]; exact .cons (reads_nkey d _ _ im.1 h1) (reads_nkeys ds _ _ im.2 h2)
end
abbrev NEnt := PyData × Addr × V
def KN (kvs : List NEnt) (xs : List (NestedKey × Addr × Value)) : Prop := Paired (fun p q => nkey p.1 = q.1 ∧ p.2.1 = q.2.1 ∧ RelV p.2.2 q.2.2) kvs xs
def ndφ (P : Program) (w : World) (a : Addr) (kvs : List NEnt) : Heap → Prop := fun h => ∃ xs, KN kvs xs ∧ ∃ o es ep, h.get? a = some o ∧ o.ExactDict ∧ o.data = .dict es ep ∧ es.toList = xs.map (entryOfKey (nestedKind P w)) ∧ (xs.map (·.1)).Nodup
def ndO (P : Program) (w : World) (a : Addr) (kvs : List NEnt) : HO := .ext (ndφ P w a kvs)
def NKey (K : PySem.W.Frag) (H : Hp) (v : V) (d : PyData) : Prop := Dp K H v d ∧ Im d = true ∧ (nkey d).depth ≤ 8
structure ND (P : Program) (w : World) (K : PySem.W.Frag) (H : Hp) (a : Addr) (kvs : List NEnt) : Prop where
  here : H a = some (ndO P w a kvs)
  hd : (a == sysModules) = false
  len : kvs.length ≤ sizeLine
  ks : ∀ p ∈ kvs, NKey K H (.ref p.2.1) p.1
def findN (kvs : List NEnt) (k : NestedKey) : Option NEnt := kvs.find? fun p => decide (nkey p.1 = k)
section
variable {X : Cx} {pins : List (Addr × Obj)} {σ : L2.St} {H : Hp} {s : Shared} {a b : Addr} {kvs : List NEnt} {d : PyData}
theorem NKey.is {v : V} {u : Value} (I : Inv X pins σ H s) (n : NKey X.K H v d) (r : RelV v u) : NestedIs s.heap (nkey d) u := by
  obtain ⟨as, h⟩ := Dp.reads I d v u n.1 r
  exact reads_nkey d u as n.2.1 h
theorem NKey.key (I : Inv X pins σ H s) (n : NKey X.K H (.ref b) d) : (nestedKind X.prog X.w).is s.heap (nkey d) b := ⟨n.is I rfl, n.2.2⟩
theorem KN.keys : ∀ {kvs : List NEnt} {xs : List (NestedKey × Addr × Value)}, KN kvs xs → (∀ p ∈ kvs, (nestedKind X.prog X.w).is s.heap (nkey p.1) p.2.1) → ∀ x ∈ xs, (nestedKind X.prog X.w).is s.heap x.1 x.2.1
  | _, _, .nil, _, x, hx => by cases hx
  | _, _, .cons h t, hk, x, hx => by
    rcases List.mem_cons.mp hx with rfl | hx
    · have := hk _ (List.mem_cons_self ..)
      rw [h.1, h.2.1] at this; exact this
    · exact KN.keys t (fun p hp => hk p (List.mem_cons_of_mem _ hp)) x hx
theorem ND.dict (I : Inv X pins σ H s) (n : ND X.prog X.w X.K H a kvs) : ∃ xs, KN kvs xs ∧ s.heap.DictOfH (nestedKind X.prog X.w) a xs := by
  obtain ⟨⟨xs, r, o, es, ep, h1, h2, h3, h4, h5⟩, _⟩ := (show ObjOk X.prog X.w H s.heap a (ndO X.prog X.w a kvs) from I.hok a _ n.here)
  exact ⟨xs, r, o, es, ep, h1, h2, h3, h4, KN.keys r (fun p hp => (n.ks p hp).key I), h5⟩
theorem KN.val : ∀ {kvs : List NEnt} {xs : List (NestedKey × Addr × Value)}, KN kvs xs → ∀ k, RelO ((findN kvs k).map (·.2.2)) ((atKey xs k).map (·.2))
  | _, _, .nil, _ => True.intro
  | p :: kvs, q :: xs, .cons h t, k => by
    obtain ⟨h1, _, h2⟩ := h
    by_cases e : nkey p.1 = k
    · have e' : q.1 = k := h1.symm.trans e
      have b : atKey (q :: xs) k = some q.2 := by simp [atKey, List.find?_cons, e']
      have c : findN (p :: kvs) k = some p := by unfold findN; rw [List.find?_cons, decide_eq_true e]
      rw [b, c]; exact h2
    · have e' : ¬ q.1 = k := fun z => e (h1.trans z)
      have b : atKey (q :: xs) k = atKey xs k := by simp [atKey, List.find?_cons, e']
      have c : findN (p :: kvs) k = findN kvs k := by unfold findN; rw [List.find?_cons, decide_eq_false e]
      rw [b, c]; exact KN.val t k
end
/-! `in` -/
/-! d[k] = v -/
def putN (kvs : List NEnt) (d : PyData) (b : Addr) (v : V) : List NEnt := if (findN kvs (nkey d)).isSome then kvs.map (fun p => if nkey p.1 = nkey d then (p.1, p.2.1, v) else p) else kvs ++ [(d, b, v)]
theorem KN.repl {k : NestedKey} {y : V} {u : Value} (ry : RelV y u) : ∀ {kvs : List NEnt} {xs : List (NestedKey × Addr × Value)}, KN kvs xs → KN (kvs.map fun p => if nkey p.1 = k then (p.1, p.2.1, y) else p) (xs.map (putAt k u))
  | _, _, .nil => .nil
  | p :: kvs, q :: xs, .cons h t => by
    rw [List.map_cons, List.map_cons]
    refine .cons ?_ (KN.repl ry t)
    obtain ⟨h1, h2, h3⟩ := h
    unfold putAt
    by_cases e : nkey p.1 = k
    · rw [if_pos e, if_pos (h1.symm.trans e)]; exact ⟨h1, h2, ry⟩
    · rw [if_neg e, if_neg (fun z => e (h1.trans z))]; exact ⟨h1, h2, h3⟩
theorem KN.put {kvs : List NEnt} {xs : List (NestedKey × Addr × Value)} (r : KN kvs xs) (d : PyData) (b : Addr) {y : V} {u : Value} (ry : RelV y u) : KN (putN kvs d b y) (storedH xs (nkey d) b u) := by
  have e := (KN.val r (nkey d)).isSome_eq
  rw [Option.isSome_map, Option.isSome_map] at e
  unfold putN storedH
  rw [e]
  by_cases q : (atKey xs (nkey d)).isSome = true
  · rw [if_pos q, if_pos q]; exact KN.repl ry r
  · rw [if_neg q, if_neg q]; exact Paired.snoc r ⟨rfl, rfl, ry⟩
theorem putN_len (kvs : List NEnt) (d : PyData) (b : Addr) (v : V) : (putN kvs d b v).length ≤ kvs.length + 1 := by
  unfold putN
  split
  · rw [List.length_map]; omega
  · rw [List.length_append, List.length_singleton]; exact Nat.le_refl _
theorem mem_putN {kvs : List NEnt} {d : PyData} {b : Addr} {v : V} {p : NEnt} (h : p ∈ putN kvs d b v) : (∃ q ∈ kvs, p.1 = q.1 ∧ p.2.1 = q.2.1) ∨ (p.1 = d ∧ p.2.1 = b) := by
  unfold putN at h
  split at h
  · obtain ⟨q, hq, rfl⟩ := List.mem_map.mp h
    refine .inl ⟨q, hq, ?_⟩
    split <;> exact ⟨rfl, rfl⟩
  · rcases List.mem_append.mp h with h | h
    · exact .inl ⟨p, h, rfl, rfl⟩
    · cases List.mem_singleton.mp h; exact .inr ⟨rfl, rfl⟩
theorem SqT.updN {K : PySem.W.Frag} {H : Hp} {a b : Addr} {xs : List V} {φ : Heap → Prop} {o : HO} (hb : H b = some (.ext φ)) (h : SqT K H a xs) : SqT K (L2.upd H b o) a xs := by
  rcases h with (h | ⟨u, h⟩) | h
  · refine .inl (.inl ?_)
    rw [upd_ne (ne_of h hb (by intro z; cases z))]; exact h
  · refine .inl (.inr ⟨u, ?_⟩)
    rw [upd_ne (ne_of h hb (by intro z; cases z))]; exact h
  · exact .inr h
theorem NKey.mono {K : PySem.W.Frag} {H H' : Hp} {v : V} {d : PyData} (x : Xt H H') (h : NKey K H v d) : NKey K H' v d := ⟨Dp.mono x h.1, h.2⟩
theorem NKey.updN {K : PySem.W.Frag} {H : Hp} {b : Addr} {v : V} {d : PyData} {φ : Heap → Prop} {o : HO} (hb : H b = some (.ext φ)) (h : NKey K H v d) : NKey K (L2.upd H b o) v d := ⟨Dp.im (fun a xs hs => SqT.updN hb hs) h.2.1 h.1, h.2⟩
theorem ND.mono {P : Program} {w : World} {K : PySem.W.Frag} {H H' : Hp} {a : Addr} {kvs : List NEnt} (x : Xt H H') (n : ND P w K H a kvs) : ND P w K H' a kvs := ⟨x _ _ n.here, n.hd, n.len, fun p hp => (n.ks p hp).mono x⟩
theorem ND.put {P : Program} {w : World} {K : PySem.W.Frag} {H : Hp} {a b : Addr} {kvs : List NEnt} {d : PyData} {v : V} (n : ND P w K H a kvs) (nk : NKey K H (.ref b) d) (hl : kvs.length < sizeLine) : ND P w K (L2.upd H a (ndO P w a (putN kvs d b v))) a (putN kvs d b v) :=
  ⟨upd_same, n.hd, by have := putN_len kvs d b v; omega, fun p hp => by
    rcases mem_putN hp with ⟨q, hq, e1, e2⟩ | ⟨e1, e2⟩
    · rw [e1, e2]; exact (n.ks q hq).updN n.here
    · rw [e1, e2]; exact nk.updN n.here⟩
def rSetN (P : Program) (w : World) (K : PySem.W.Frag) : V → V → V → Hp → (Hp → Prop) → Prop := fun o i v H Q => ∃ a b d kvs, o = .ref a ∧ i = .ref b ∧ ND P w K H a kvs ∧ NKey K H i d ∧ kvs.length < sizeLine ∧ Q (L2.upd H a (ndO P w a (putN kvs d b v)))
theorem ndO_ok {P : Program} {w : World} {H : Hp} {h : Heap} {a : Addr} {kvs : List NEnt} {xs : List (NestedKey × Addr × Value)} (r : KN kvs xs) (dd : h.DictOfH (nestedKind P w) a xs) : ObjOk P w H h a (ndO P w a kvs) := by
  obtain ⟨o, es, ep, h1, h2, h3, h4, _, h5⟩ := dd
  exact ⟨⟨xs, r, o, es, ep, h1, h2, h3, h4, h5⟩, ⟨o, h1⟩, fun g1 g2 ⟨ys, ry, q, fs, fp, k1, k2, k3, k4, k5⟩ hg => ⟨ys, ry, q, fs, fp, hg _ k1, k2, k3, k4, k5⟩⟩
theorem set_N {X : Cx} (hu : X.A.units + 10 < cLine) : PSet X (rSetN X.prog X.w X.K) := by
  intro pins s σ H o i v ov iv u Q I ro ri rv h
  obtain ⟨a, b, d, kvs, rfl, rfl, n, nk, hl, q⟩ := h
  cases (show ov = Value.ref a from ro)
  cases (show iv = Value.ref b from ri)
  obtain ⟨xs, r, dd⟩ := n.dict I
  have hz : xs.length ≤ sizeLine := by rw [← Paired.length r]; exact n.len
  refine wpAny_setItem_heap (hsz := hz) (show X.A.in1.units + 8 < cLine from ?_) (nk.key I) dd fun h' dd' hs => ?_
  · show X.A.units + 1 + 8 < cLine
    omega
  · refine ⟨_, d_write I (by rw [n.here]; exact True.intro) hs ?_ (ndO_ok (KN.put r d b rv) dd'), q⟩
    obtain ⟨ob, _, _, hq, _⟩ := dd'
    exact ⟨ob, hq⟩
/-! d[k], there; {} -/
def tNNew (P : Program) (w : World) (K : PySem.W.Frag) : TE := fun _ H Q => ∀ p, H p = none → (p == sysModules) = false → Q (.ref p) (L2.upd H p (ndO P w p []))
theorem pe_nnew {X : Cx} {pos : Pos} : PE X (.Dict [] [] pos) (tNNew X.prog X.w X.K) := ⟨fun pins s σ H Q I h => by
  have hb : (s.heap.objs.size == sysModules) = false := beq_eq_false_iff_ne.mpr (Ne.symm (Nat.ne_of_lt I.big))
  exact wpAny_Dict_empty ⟨.ref s.heap.objs.size, _, I.laid (a := s.heap.objs.size) (o := ndO X.prog X.w s.heap.objs.size []) (t' := s.toks) (fun _ _ q => Heap.get?_push_of_some _ q) (Nat.le_refl _) (ndO_ok .nil (Heap.DictOfH.new s.heap)), rfl, h _ (I.hok.fresh (Nat.le_refl _)) hb⟩⟩
theorem ND.new {P : Program} {w : World} {K : PySem.W.Frag} {H : Hp} {p : Addr} (hd : (p == sysModules) = false) : ND P w K (L2.upd H p (ndO P w p [])) p [] := ⟨upd_same, hd, Nat.zero_le _, fun q hq => by cases hq⟩
/-! list(d), tuple(d): the keys in order -/
section
variable {prog : Program} {w : World} {A : Around} {E : Value → Shared → Prop} {s : Shared} {r d : Addr} {n : Nat} {P : Nat → Value → Prop} {OK : Heap → Prop}
theorem collect_kdl {Q : List Value → Shared → Prop} (K : PySem.W.KdlSrc prog w "dict" r d n P OK) (hh : A.handled = none) (hok : OK s.heap) (hn : n ≤ sizeLine)
    (hQ : ∀ (h' : Heap) (tk : Nat) (acc : Array Value), (∀ b o, s.heap.get? b = some o → h'.get? b = some o) → ItemsOf P acc n → Q acc.toList { s with heap := h', toks := tk }) :
    wpAny (model prog w) A (collect (.ref r)) Q E s := by
  unfold collect
  refine wpAny_bind (wpAny_runValue (codeAny_builtin F.entry_proto_collect ?_))
  rw [Around.under_plainId F.plain_proto_collect _]
  show wpAny _ A.in1 (newList [] >>= fun l => again (.builtin "list.__iadd__" ⟨[l, .ref r], []⟩)) _ _ s
  refine wpAny_bind (wpAny_newObj_type ?_)
  refine wpAny_pure ⟨plainId_quiet F.plain_list_iadd _, codeAny_builtin F.entry_list_iadd ?_⟩
  rw [Around.under_plainId F.plain_list_iadd _]
  show wpAny _ A.in1 (Builtin.List.listExtendWith (.ref s.heap.objs.size) (.ref r) (.ref s.heap.objs.size)) _ _ _
  have hS : (s.heap.push { cls := .type "list", data := .seq ([] : List Value).toArray }).get? s.heap.objs.size = some { cls := .type "list", data := .seq #[] 0 } := Heap.get?_push_size _ rfl
  have hlt := K.there _ hok
  refine wpAny_mono (PySem.W.kdl_extend (A := A) (R := fun rr s' => rr = .ok (.ret (.ref s.heap.objs.size)) ∧ ∃ (h' : Heap) (tk : Nat) (acc : Array Value) (c' : Nat), s' = { s with heap := h', toks := tk } ∧
      (∀ b o, s.heap.get? b = some o → h'.get? b = some o) ∧ h'.get? s.heap.objs.size = some { cls := .type "list", dict := none, data := .seq acc c', slots := #[] } ∧ ItemsOf P acc n)
    (s := { s with heap := s.heap.push { cls := .type "list", data := .seq ([] : List Value).toArray } }) K hh (K.keep _ _ hok fun b _ o e => Heap.get?_push_of_some _ e) s.heap.objs.size (Nat.ne_of_gt hlt.1) (Nat.ne_of_gt hlt.2) _ 0 hS
    (fun h' tk acc c' hk e hi => ⟨rfl, h', tk, acc, c', rfl, fun b o q => hk b o (Nat.ne_of_lt (Heap.lt_size q)) (Heap.get?_push_of_some _ q), e, hi⟩) hn) (fun fin s' h => ?_) (fun e s' h => ?_)
  · cases fin with
    | done f =>
      obtain ⟨e, h', tk, acc, c', rfl, hk, hS', hi⟩ := h
      cases e
      show wpAny _ A (load s.heap.objs.size >>= _) _ _ _
      exact wpAny_bind (wpAny_load hS' (wpAny_pure (hQ h' tk acc hk hi)))
    | again c' =>
      refine ⟨h.1, codeAny_mono h.2 fun rr s'' hr' => ?_⟩
      obtain ⟨rfl, h', tk, acc, c', rfl, hk, hS', hi⟩ := hr'
      show wpAny _ A (load s.heap.objs.size >>= _) _ _ _
      exact wpAny_bind (wpAny_load hS' (wpAny_pure (hQ h' tk acc hk hi)))
  · exact absurd h.1 (by simp)
theorem code_tuple_new_kdl {Q₁ : Value → Shared → Prop} (K : PySem.W.KdlSrc prog w "dict" r d n P OK) (hh : A.handled = none) (hok : OK s.heap) (hn : n ≤ sizeLine)
    (h : ∀ (h' : Heap) (tk : Nat) (acc : Array Value), (∀ b o, s.heap.get? b = some o → h'.get? b = some o) → ItemsOf P acc n →
      Q₁ (.ref h'.objs.size) { s with heap := h'.push { cls := .type "tuple", data := .seq acc }, toks := tk }) :
    codeAny (model prog w) A (.call (.builtin "tuple.__new__") ⟨[.type "tuple", .ref r], []⟩) (wants Q₁ E) s := by
  refine codeAny_of_tree ?_
  show wpAny _ A.in1 (do checkBuiltinCall "tuple.__new__" ⟨[.type "tuple", .ref r], []⟩; again (.builtin "tuple.__new__" ⟨[.type "tuple", .ref r], []⟩)) _ _ s
  refine wpAny_bind (wpAny_of_eq (F.newCall_tuple_1 _) (wpAny_pure ⟨plainId_quiet F.plain_tuple_new _, codeAny_builtin F.entry_tuple_new ?_⟩))
  rw [Around.under_plainId F.plain_tuple_new _]
  have hsub := sub_tuple_self
  have hinit := init_tuple_lookup
  have hmh := madeHere_tuple
  have hTI : s.TypeIs (.ref r) "dict" := K.type s hok
  have hh1 : A.in1.handled = none := hh
  wp_walk using wpAny_typeOf hTI, collect_kdl (A := A.in1) K hh1 hok hn
  intro h' tk acc hk hacc
  show wpAny _ _ (Builtin.Tuple.tupleExact acc.toList.toArray >>= fun v => ret v) _ _ _
  unfold Builtin.Tuple.tupleExact
  refine wpAny_bind (wpAny_newObj_type ?_ (by show acc.toList.toArray.size ≤ sizeLine; simp only [Array.toArray_toList]; rw [hacc.1]; exact hn))
  refine wpAny_pure ?_
  have e : acc.toList.toArray = acc := by simp
  rw [e]
  exact h h' tk acc hk hacc
theorem call_tuple_kdl {Q : Value → Shared → Prop} (K : PySem.W.KdlSrc prog w "dict" r d n P OK) (hh : A.handled = none) (hok : OK s.heap) (hn : n ≤ sizeLine)
    (hQ : ∀ (h' : Heap) (tk : Nat) (acc : Array Value), (∀ b o, s.heap.get? b = some o → h'.get? b = some o) → ItemsOf P acc n →
      Q (.ref h'.objs.size) { s with heap := h'.push { cls := .type "tuple", data := .seq acc }, toks := tk }) :
    wpAny (model prog w) A (call (.type "tuple") [.ref r]) Q E s := by
  refine callType_codes (Q₁ := fun obj s₁ => s₁.TypeIs obj "tuple" ∧ Q obj s₁) F.called_tuple (F.typeCall_tuple_1 _) F.entry_object_init
    (code_tuple_new_kdl (A := A.in1) K hh hok hn fun h' tk acc hk hacc => ⟨⟨_, Heap.get?_push_size _ rfl, rfl⟩, hQ h' tk acc hk hacc⟩) fun obj s₁ h₁ => ?_
  exact ⟨h₁.1, F.args_object_init_2 obj _, object_init_meets F.called_tuple.init.lookup F.called_tuple.made (by decide) prog w A.in1 _ s₁ ⟨h₁.1, rfl, h₁.2⟩⟩
end
def keysN (kvs : List NEnt) : List V := kvs.map fun p => V.ref p.2.1
theorem KN.refs : ∀ {kvs : List NEnt} {xs : List (NestedKey × Addr × Value)}, KN kvs xs → keysN kvs = (xs.map fun x => x.2.1).map V.ref
  | _, _, .nil => rfl
  | p :: kvs, q :: xs, .cons h t => by
    show V.ref p.2.1 :: keysN kvs = V.ref q.2.1 :: _
    rw [h.2.1, KN.refs t]
theorem keys_acc {P : Program} {w : World} {es : Array DictEntry} {ks : List (NestedKey × Addr × Value)} {acc : Array Value} (he : es.toList = ks.map (entryOfKey (nestedKind P w))) (it : ItemsOf (fun i v => ∃ en : DictEntry, es[i]? = some en ∧ v = en.key) acc es.size) : acc.toList = (ks.map fun x => x.2.1).map Value.ref := by
  have l1 : es.size = ks.length := size_of_entries he
  rw [List.map_map]
  have hl : acc.toList.length = ks.length := by rw [Array.length_toList, it.1]; exact l1
  apply List.ext_getElem?
  intro j
  rw [List.getElem?_map]
  cases hj : acc.toList[j]? with
  | none =>
    have h1 := List.getElem?_eq_none_iff.mp hj
    rw [List.getElem?_eq_none (by omega)]
    rfl
  | some v =>
    obtain ⟨en, hen, hv⟩ := it.2 j v (by rw [← Array.getElem?_toList]; exact hj)
    have qe := entry_at he j
    rw [hen] at qe
    cases hb : ks[j]? with
    | none =>
      rw [hb] at qe
      exact nomatch (show some en = none from qe)
    | some b =>
      rw [hb] at qe
      have e2 : en = entryOfKey (nestedKind P w) b := Option.some.inj qe
      rw [hv, e2]
      rfl
def rTupN (P : Program) (w : World) (K : PySem.W.Frag) : List V → Hp → VK → Prop := fun xs H Q => ∃ a kvs, xs = [V.ref a] ∧ ND P w K H a kvs ∧ ∀ q, H q = none → Q (.ref q) (L2.upd H q (.tup (keysN kvs)))
section
variable {X : Cx}
theorem call_tupN (hc : X.calm = true) : CallR X (.type "tuple") (rTupN X.prog X.w X.K) := by
  intro pins s σ H xs us Q I r h
  obtain ⟨a, kvs, rfl, n, q⟩ := h
  obtain ⟨u, rfl, rx⟩ := r.one
  cases (show u = Value.ref a from rx)
  obtain ⟨⟨ks, kr, o, es, ep, ho, hx, hdt, he, hn⟩, _⟩ := (show ObjOk X.prog X.w H s.heap a (ndO X.prog X.w a kvs) from I.hok a _ n.here)
  have l1 : es.size = ks.length := size_of_entries he
  have l2 : kvs.length = ks.length := Paired.length kr
  have z := n.len
  refine call_tuple_kdl (kdl_raw n.hd hx hdt) (I.ok.hd hc) ho (by omega) fun h' tk acc hk it => ?_
  have ea := keys_acc he it
  have rv : Vals (keysN kvs) acc.toList := by rw [ea, KN.refs kr]; exact vals_refs _
  have hz : (keysN kvs).length ≤ sizeLine := by unfold keysN; rw [List.length_map]; exact z
  have I2 : Inv X pins σ H { s with heap := h', toks := tk } := I.kept hk
  refine ⟨.ref h'.objs.size, L2.upd H h'.objs.size (.tup (keysN kvs)), I2.laid (t' := tk) (fun c o e => Heap.get?_push_of_some _ e) (Nat.le_refl _) (show ObjOk X.prog X.w _ _ _ (.tup (keysN kvs)) from ⟨hz, acc.toList, rv, ?_⟩), rfl, q _ (I2.hok.fresh (Nat.le_refl _))⟩
  rw [Array.toArray_toList]; exact IsTup.new _ _
end
theorem hu10 {k : Nat} {A : Around} (hr : Room k A) : A.units + 10 < cLine := by have := hr.un; omega
/-! == of data that are nested deeper than 64 -/
def rEqB (K : PySem.W.Frag) : R2 := fun x y H Q => ∃ d e, Dp K H x d ∧ Dp K H y e ∧ d.canLay0 = true ∧ e.canLay0 = true ∧ d.depth ≤ 190 ∧ Q (.bl (PyData.eqv d e)) H
def rNeB (K : PySem.W.Frag) : R2 := fun x y H Q => ∃ d e, Dp K H x d ∧ Dp K H y e ∧ d.canLay0 = true ∧ e.canLay0 = true ∧ d.depth ≤ 190 ∧ Q (.bl (!PyData.eqv d e)) H
theorem op_eqB0 {X : Cx} (hu : X.A.units + 191 < cLine) : OpR X (compareOp .Eq) (rEqB X.K) := by
  intro pins s σ H x y v u Q I rx ry h
  obtain ⟨d, e, hd, he, sd, se, hl, q⟩ := h
  obtain ⟨as, r1⟩ := Dp.reads I d x v hd rx
  obtain ⟨bs, r2⟩ := Dp.reads I e y u he ry
  exact SeqAt.compareEq_reads r1 r2 sd se (by have : min d.depth e.depth ≤ d.depth := Nat.min_le_left _ _; omega) ⟨.bl _, H, I, rfl, q⟩
theorem op_neB0 {X : Cx} (hu : X.A.units + 191 < cLine) : OpR X (compareOp .NotEq) (rNeB X.K) := by
  intro pins s σ H x y v u Q I rx ry h
  obtain ⟨d, e, hd, he, sd, se, hl, q⟩ := h
  obtain ⟨as, r1⟩ := Dp.reads I d x v hd rx
  obtain ⟨bs, r2⟩ := Dp.reads I e y u he ry
  exact SeqAt.compareNe_reads r1 r2 sd se (by have : min d.depth e.depth ≤ d.depth := Nat.min_le_left _ _; omega) ⟨.bl _, H, I, rfl, q⟩
theorem op_eqB {X : Cx} {k : Nat} (hr : Room k X.A) : OpR X (compareOp .Eq) (rEqB X.K) := op_eqB0 (by have := hr.un; omega)
theorem op_neB {X : Cx} {k : Nat} (hr : Room k X.A) : OpR X (compareOp .NotEq) (rNeB X.K) := op_neB0 (by have := hr.un; omega)
end CW

set_option Elab.async false
set_option linter.all false
set_option maxRecDepth 100000
set_option maxHeartbeats 2000000
namespace K03
open PySem PySem.Spec PyProof.Rows L2 NdefX CW RZ
open PySem.W (fnX)
def topS (i : Nat) : Stmt := PySem.Challenge.pw_claimworlds_k03_places_of_terms.main.body.getD i (.Pass ⟨0, 0, 0, 0⟩)
abbrev s_is_name : Stmt := topS 18
abbrev N_is_name : List Str := ["value"]
theorem sc_is_name : FnScope N_is_name ["value"] (defScope s_is_name) := ⟨rfl, rfl, rfl, by decide +kernel, rfl, by decide +kernel, by decide +kernel⟩
abbrev s_is_variable_name : Stmt := topS 19
abbrev N_is_variable_name : List Str := ["value"]
theorem sc_is_variable_name : FnScope N_is_variable_name ["value"] (defScope s_is_variable_name) := ⟨rfl, rfl, rfl, by decide +kernel, rfl, by decide +kernel, by decide +kernel⟩
abbrev s__has_form : Stmt := topS 20
abbrev N__has_form : List Str := ["value", "sign"]
theorem sc__has_form : FnScope N__has_form ["value"] (defScope s__has_form) := ⟨rfl, rfl, rfl, by decide +kernel, rfl, by decide +kernel, by decide +kernel⟩
abbrev s_Vocabulary___init__ : Stmt := inClass (topS 23) 0
abbrev N_Vocabulary___init__ : List Str := ["self", "sorts", "functions", "predicates", "name", "sort", "rows", "_", "value_sorts", "row", "arguments"]
theorem sc_Vocabulary___init__ : FnScope N_Vocabulary___init__ ["self", "sorts", "functions", "predicates"] (defScope s_Vocabulary___init__) := ⟨rfl, rfl, rfl, by decide +kernel, rfl, by decide +kernel, by decide +kernel⟩
abbrev s_Vocabulary_arguments : Stmt := inClass (topS 23) 2
abbrev N_Vocabulary_arguments : List Str := ["self", "name"]
theorem sc_Vocabulary_arguments : FnScope N_Vocabulary_arguments ["self", "name"] (defScope s_Vocabulary_arguments) := ⟨rfl, rfl, rfl, by decide +kernel, rfl, by decide +kernel, by decide +kernel⟩
abbrev s_Vocabulary_value_sort : Stmt := inClass (topS 23) 3
abbrev N_Vocabulary_value_sort : List Str := ["self", "name"]
theorem sc_Vocabulary_value_sort : FnScope N_Vocabulary_value_sort ["self", "name"] (defScope s_Vocabulary_value_sort) := ⟨rfl, rfl, rfl, by decide +kernel, rfl, by decide +kernel, by decide +kernel⟩
abbrev s__check_rows : Stmt := topS 24
abbrev N__check_rows : List Str := ["rows", "sorts", "taken", "name", "wanted", "sort"]
theorem sc__check_rows : FnScope N__check_rows ["rows", "sorts"] (defScope s__check_rows) := ⟨rfl, rfl, rfl, by decide +kernel, rfl, by decide +kernel, by decide +kernel⟩
abbrev s_is_variable : Stmt := topS 27
abbrev N_is_variable : List Str := ["term"]
theorem sc_is_variable : FnScope N_is_variable ["term"] (defScope s_is_variable) := ⟨rfl, rfl, rfl, by decide +kernel, rfl, by decide +kernel, by decide +kernel⟩
abbrev s_is_term : Stmt := topS 28
abbrev N_is_term : List Str := ["vocabulary", "value", "sort"]
theorem sc_is_term : FnScope N_is_term ["vocabulary", "value"] (defScope s_is_term) := ⟨rfl, rfl, rfl, by decide +kernel, rfl, by decide +kernel, by decide +kernel⟩
abbrev s_is_atom : Stmt := topS 29
abbrev N_is_atom : List Str := ["vocabulary", "value"]
theorem sc_is_atom : FnScope N_is_atom ["vocabulary", "value"] (defScope s_is_atom) := ⟨rfl, rfl, rfl, by decide +kernel, rfl, by decide +kernel, by decide +kernel⟩
abbrev s__layer_sort : Stmt := topS 30
abbrev N__layer_sort : List Str := ["vocabulary", "value", "arguments"]
theorem sc__layer_sort : FnScope N__layer_sort ["vocabulary", "value"] (defScope s__layer_sort) := ⟨rfl, rfl, rfl, by decide +kernel, rfl, by decide +kernel, by decide +kernel⟩
abbrev s__parts_fit : Stmt := topS 31
abbrev N__parts_fit : List Str := ["vocabulary", "term", "waiting", "part", "inner", "wanted"]
theorem sc__parts_fit : FnScope N__parts_fit ["vocabulary", "term"] (defScope s__parts_fit) := ⟨rfl, rfl, rfl, by decide +kernel, rfl, by decide +kernel, by decide +kernel⟩
abbrev s_sort_of : Stmt := topS 32
abbrev N_sort_of : List Str := ["vocabulary", "term"]
theorem sc_sort_of : FnScope N_sort_of ["vocabulary", "term"] (defScope s_sort_of) := ⟨rfl, rfl, rfl, by decide +kernel, rfl, by decide +kernel, by decide +kernel⟩
abbrev s_subterms : Stmt := topS 33
abbrev N_subterms : List Str := ["term", "found", "waiting", "part"]
theorem sc_subterms : FnScope N_subterms ["term"] (defScope s_subterms) := ⟨rfl, rfl, rfl, by decide +kernel, rfl, by decide +kernel, by decide +kernel⟩
abbrev s_variables_of : Stmt := topS 34
abbrev N_variables_of : List Str := ["term", "found", "part"]
theorem sc_variables_of : FnScope N_variables_of ["term"] (defScope s_variables_of) := ⟨rfl, rfl, rfl, by decide +kernel, rfl, by decide +kernel, by decide +kernel⟩
abbrev s_size_of : Stmt := topS 35
abbrev N_size_of : List Str := ["term"]
theorem sc_size_of : FnScope N_size_of ["term"] (defScope s_size_of) := ⟨rfl, rfl, rfl, by decide +kernel, rfl, by decide +kernel, by decide +kernel⟩
abbrev s_part_at : Stmt := topS 36
abbrev N_part_at : List Str := ["term", "place", "part", "number"]
theorem sc_part_at : FnScope N_part_at ["term", "place"] (defScope s_part_at) := ⟨rfl, rfl, rfl, by decide +kernel, rfl, by decide +kernel, by decide +kernel⟩
abbrev s_put_at : Stmt := topS 37
abbrev N_put_at : List Str := ["term", "place", "new", "around", "part", "number", "made", "depth", "behind"]
theorem sc_put_at : FnScope N_put_at ["term", "place", "new"] (defScope s_put_at) := ⟨rfl, rfl, rfl, by decide +kernel, rfl, by decide +kernel, by decide +kernel⟩
abbrev s__part : Stmt := topS 38
abbrev N__part : List Str := ["term", "number", "place"]
theorem sc__part : FnScope N__part ["term", "number", "place"] (defScope s__part) := ⟨rfl, rfl, rfl, by decide +kernel, rfl, by decide +kernel, by decide +kernel⟩
abbrev s_inner_places : Stmt := topS 39
abbrev N_inner_places : List Str := ["term", "found", "waiting", "place", "part", "number"]
theorem sc_inner_places : FnScope N_inner_places ["term"] (defScope s_inner_places) := ⟨rfl, rfl, rfl, by decide +kernel, rfl, by decide +kernel, by decide +kernel⟩
abbrev s__law_cell : Stmt := topS 41
abbrev N__law_cell : List Str := ["script", "k", "seed", "cell"]
theorem sc__law_cell : FnScope N__law_cell ["script", "k"] (defScope s__law_cell) := ⟨rfl, rfl, rfl, by decide +kernel, rfl, by decide +kernel, by decide +kernel⟩
abbrev s__law_digits : Stmt := topS 42
abbrev N__law_digits : List Str := ["cell", "sizes", "row", "rest", "size", "seed", "k", "twice"]
theorem sc__law_digits : FnScope N__law_digits ["cell", "sizes"] (defScope s__law_digits) := ⟨rfl, rfl, rfl, by decide +kernel, rfl, by decide +kernel, by decide +kernel⟩
abbrev s__law_words : Stmt := topS 43
abbrev N__law_words : List Str := []
theorem sc__law_words : FnScope N__law_words [] (defScope s__law_words) := ⟨rfl, rfl, rfl, by decide +kernel, rfl, by decide +kernel, by decide +kernel⟩
abbrev s__law_names : Stmt := topS 44
abbrev N__law_names : List Str := ["row", "many", "letters", "base", "at", "names", "k", "turned", "text", "digit"]
theorem sc__law_names : FnScope N__law_names ["row", "many"] (defScope s__law_names) := ⟨rfl, rfl, rfl, by decide +kernel, rfl, by decide +kernel, by decide +kernel⟩
abbrev s__law_variable_names : Stmt := topS 45
abbrev N__law_variable_names : List Str := ["row", "many", "large", "small", "tail", "names", "k", "turned", "text", "at", "digit"]
theorem sc__law_variable_names : FnScope N__law_variable_names ["row", "many"] (defScope s__law_variable_names) := ⟨rfl, rfl, rfl, by decide +kernel, rfl, by decide +kernel, by decide +kernel⟩
abbrev s__law_drawn_vocabulary : Stmt := topS 46
abbrev N__law_drawn_vocabulary : List Str := ["first", "second", "third", "head", "sizes", "names", "sorts", "row", "functions", "k", "picked", "predicates", "digit"]
theorem sc__law_drawn_vocabulary : FnScope N__law_drawn_vocabulary ["first", "second", "third"] (defScope s__law_drawn_vocabulary) := ⟨rfl, rfl, rfl, by decide +kernel, rfl, by decide +kernel, by decide +kernel⟩
abbrev s__law_term : Stmt := topS 47
abbrev N__law_term : List Str := ["vocabulary", "sort", "row", "at", "deep", "variables", "options", "larger", "chosen", "made", "argument", "part", "one"]
theorem sc__law_term : FnScope N__law_term ["vocabulary", "sort", "row", "at", "deep", "variables"] (defScope s__law_term) := ⟨rfl, rfl, rfl, by decide +kernel, rfl, by decide +kernel, by decide +kernel⟩
abbrev s__law_wrapped : Stmt := topS 48
abbrev N__law_wrapped : List Str := ["vocabulary", "tree", "sort", "row", "many", "variables", "k", "ways", "one", "j", "way", "made"]
theorem sc__law_wrapped : FnScope N__law_wrapped ["vocabulary", "tree", "sort", "row", "many", "variables"] (defScope s__law_wrapped) := ⟨rfl, rfl, rfl, by decide +kernel, rfl, by decide +kernel, by decide +kernel⟩
abbrev s__law_is_variable : Stmt := topS 49
abbrev N__law_is_variable : List Str := ["tree"]
theorem sc__law_is_variable : FnScope N__law_is_variable ["tree"] (defScope s__law_is_variable) := ⟨rfl, rfl, rfl, by decide +kernel, rfl, by decide +kernel, by decide +kernel⟩
abbrev s__law_symbols : Stmt := topS 50
abbrev N__law_symbols : List Str := ["tree", "part"]
theorem sc__law_symbols : FnScope N__law_symbols ["tree"] (defScope s__law_symbols) := ⟨rfl, rfl, rfl, by decide +kernel, rfl, by decide +kernel, by decide +kernel⟩
abbrev s__law_term_variables : Stmt := topS 51
abbrev N__law_term_variables : List Str := ["tree", "known", "part"]
theorem sc__law_term_variables : FnScope N__law_term_variables ["tree", "known"] (defScope s__law_term_variables) := ⟨rfl, rfl, rfl, by decide +kernel, rfl, by decide +kernel, by decide +kernel⟩
abbrev s__law_all_places : Stmt := topS 52
abbrev N__law_all_places : List Str := ["tree", "spot", "found", "k"]
theorem sc__law_all_places : FnScope N__law_all_places ["tree", "spot"] (defScope s__law_all_places) := ⟨rfl, rfl, rfl, by decide +kernel, rfl, by decide +kernel, by decide +kernel⟩
abbrev s__law_put : Stmt := topS 53
abbrev N__law_put : List Str := ["tree", "spot", "fresh", "at"]
theorem sc__law_put : FnScope N__law_put ["tree", "spot", "fresh"] (defScope s__law_put) := ⟨rfl, rfl, rfl, by decide +kernel, rfl, by decide +kernel, by decide +kernel⟩
abbrev s__law_applied : Stmt := topS 54
abbrev N__law_applied : List Str := ["vocabulary", "head", "row", "deep", "variables", "made", "at", "argument", "part"]
theorem sc__law_applied : FnScope N__law_applied ["vocabulary", "head", "row", "deep", "variables"] (defScope s__law_applied) := ⟨rfl, rfl, rfl, by decide +kernel, rfl, by decide +kernel, by decide +kernel⟩
abbrev s__law_large : Stmt := topS 55
abbrev N__law_large : List Str := ["vocabulary", "digit", "row", "deep", "variables", "roots", "chosen", "one"]
theorem sc__law_large : FnScope N__law_large ["vocabulary", "digit", "row", "deep", "variables"] (defScope s__law_large) := ⟨rfl, rfl, rfl, by decide +kernel, rfl, by decide +kernel, by decide +kernel⟩
abbrev s__law_chain : Stmt := topS 56
abbrev N__law_chain : List Str := ["vocabulary", "digit", "row", "many", "variables", "roots", "sort", "made", "one"]
theorem sc__law_chain : FnScope N__law_chain ["vocabulary", "digit", "row", "many", "variables"] (defScope s__law_chain) := ⟨rfl, rfl, rfl, by decide +kernel, rfl, by decide +kernel, by decide +kernel⟩
abbrev s__law_value : Stmt := topS 57
abbrev N__law_value : List Str := ["vocabulary", "cell", "variables", "way", "row", "sort", "k"]
theorem sc__law_value : FnScope N__law_value ["vocabulary", "cell", "variables"] (defScope s__law_value) := ⟨rfl, rfl, rfl, by decide +kernel, rfl, by decide +kernel, by decide +kernel⟩
abbrev s__law_sort : Stmt := topS 58
abbrev N__law_sort : List Str := ["vocabulary", "tree", "item"]
theorem sc__law_sort : FnScope N__law_sort ["vocabulary", "tree"] (defScope s__law_sort) := ⟨rfl, rfl, rfl, by decide +kernel, rfl, by decide +kernel, by decide +kernel⟩
abbrev s__law_refused : Stmt := topS 59
abbrev N__law_refused : List Str := ["tree", "spot", "fresh", "told", "e", "others"]
theorem sc__law_refused : FnScope N__law_refused ["tree", "spot", "fresh"] (defScope s__law_refused) := ⟨rfl, rfl, rfl, by decide +kernel, rfl, by decide +kernel, by decide +kernel⟩
abbrev s__law_listed : Stmt := topS 60
abbrev N__law_listed : List Str := ["tree", "places", "told", "many", "one"]
theorem sc__law_listed : FnScope N__law_listed ["tree"] (defScope s__law_listed) := ⟨rfl, rfl, rfl, by decide +kernel, rfl, by decide +kernel, by decide +kernel⟩
abbrev s__law_asked : Stmt := topS 61
abbrev N__law_asked : List Str := ["vocabulary", "tree", "cell", "variables", "way", "places", "here", "sort", "fresh", "changed", "many", "k"]
theorem sc__law_asked : FnScope N__law_asked ["vocabulary", "tree", "cell", "variables"] (defScope s__law_asked) := ⟨rfl, rfl, rfl, by decide +kernel, rfl, by decide +kernel, by decide +kernel⟩
abbrev s__law_grown_atom : Stmt := topS 62
abbrev N__law_grown_atom : List Str := ["vocabulary", "book", "grown", "sort", "heads", "small", "spot", "told", "one"]
theorem sc__law_grown_atom : FnScope N__law_grown_atom ["vocabulary", "book", "grown", "sort"] (defScope s__law_grown_atom) := ⟨rfl, rfl, rfl, by decide +kernel, rfl, by decide +kernel, by decide +kernel⟩
abbrev s__law_grown : Stmt := topS 63
abbrev N__law_grown : List Str := ["vocabulary", "book", "tree", "row", "sort", "places", "spot", "due", "told", "k", "one"]
theorem sc__law_grown : FnScope N__law_grown ["vocabulary", "book", "tree", "row"] (defScope s__law_grown) := ⟨rfl, rfl, rfl, by decide +kernel, rfl, by decide +kernel, by decide +kernel⟩
abbrev s_law : Stmt := topS 64
abbrev N_law : List Str := ["script", "vocabulary", "head", "names", "variables", "sort", "k", "terms", "tree", "book"]
theorem sc_law : FnScope N_law ["script"] (defScope s_law) := ⟨rfl, rfl, rfl, by decide +kernel, rfl, by decide +kernel, by decide +kernel⟩
abbrev s_BadPlace___init__ : Stmt := inClass (topS 9) 0
def kitB (K : PySem.W.Frag) (L : List Addr) (cl te : Addr) : Bool :=
  L.zipIdx.all fun p => (L.zipIdx.all fun q => decide (PySem.W.kitOne K (.ref p.1) (.ref q.1) = some (p.2 == q.2))) && (decide (PySem.W.kitOne K (.ref p.1) (.ref cl) = some true) && (decide (PySem.W.kitOne K (.ref p.1) (.type "ValueError") = some true) && decide (PySem.W.kitOne K (.ref p.1) (.ref te) = some (decide (9 ≤ p.2) && decide (p.2 < 14)))))
theorem zip_get {L : List Addr} {i : Nat} {c : Addr} (h : L[i]? = some c) : (c, i) ∈ L.zipIdx := by
  have h2 : L.zipIdx[i]? = some (c, i) := by rw [List.getElem?_zipIdx, h]; simp
  exact List.mem_of_getElem? h2
theorem kit_at {K : PySem.W.Frag} {L : List Addr} {cl te : Addr} (h : kitB K L cl te = true) {i : Nat} {c : Addr} (hc : L[i]? = some c) :
    (∀ j d, L[j]? = some d → PySem.W.kitOne K (.ref c) (.ref d) = some (i == j)) ∧ PySem.W.kitOne K (.ref c) (.ref cl) = some true ∧ PySem.W.kitOne K (.ref c) (.type "ValueError") = some true ∧ PySem.W.kitOne K (.ref c) (.ref te) = some (decide (9 ≤ i) && decide (i < 14)) := by
  have h1 := List.all_eq_true.mp h _ (zip_get hc)
  rw [Bool.and_eq_true, Bool.and_eq_true, Bool.and_eq_true] at h1
  obtain ⟨a, b, d, e⟩ := h1
  exact ⟨fun j y hy => of_decide_eq_true (List.all_eq_true.mp a _ (zip_get hy)), of_decide_eq_true b, of_decide_eq_true d, of_decide_eq_true e⟩
def kitN (K : PySem.W.Frag) (L : List Str) : Bool := kitB K (L.map (addrOf K)) (addrOf K "ClaimError") (addrOf K "TextError")
def exmN (K : PySem.W.Frag) (L : List Str) : Bool := L.all fun n => decide (PySem.W.exmOne K (.ref (addrOf K n)) (.ref (addrOf K "ClaimError")) = some true)
def insB (K : PySem.W.Frag) (C : Addr) : Bool := (match PySem.W.findIn K (.ref C) "__class__" with
  | some (some (.builtin s)) => decide (s = "object.__class__")
  | _ => false) && ((match PySem.W.specialIn K (.builtin "object.__class__") "__get__" with
  | some (some (.builtin s)) => decide (s = "getset_descriptor.__get__")
  | _ => false) && (decide (PySem.W.takesIn K (.builtin "object.__class__") = some true) && (decide (PySem.W.mroIn K C (.type "object") = some true) && decide (PySem.W.kitOne K (.ref C) (.ref C) = some true))))
set_option hygiene false
structure Top0 (P : Program) (K : PySem.W.Frag) (mg : Str → Option Value) where
  C_Vocabulary : Addr
  cl_Vocabulary : Cls K C_Vocabulary
  g_Vocabulary : mg "Vocabulary" = some (.ref C_Vocabulary)
  na_Vocabulary_sorts : NoAttr K C_Vocabulary "sorts"
  na_Vocabulary_functions : NoAttr K C_Vocabulary "functions"
  na_Vocabulary_predicates : NoAttr K C_Vocabulary "predicates"
  na_Vocabulary__names : NoAttr K C_Vocabulary "_names"
  na_Vocabulary__argument_sorts : NoAttr K C_Vocabulary "_argument_sorts"
  na_Vocabulary__value_sorts : NoAttr K C_Vocabulary "_value_sorts"
  f_is_name : Addr
  fd_is_name : FuncData
  F_is_name : Fun K "is_name" "is_name" s_is_name f_is_name fd_is_name
  b_is_name : Binds K fd_is_name ["value"] []
  g_is_name : mg "is_name" = some (.ref f_is_name)
  f_is_variable_name : Addr
  fd_is_variable_name : FuncData
  F_is_variable_name : Fun K "is_variable_name" "is_variable_name" s_is_variable_name f_is_variable_name fd_is_variable_name
  b_is_variable_name : Binds K fd_is_variable_name ["value"] []
  g_is_variable_name : mg "is_variable_name" = some (.ref f_is_variable_name)
  f__has_form : Addr
  fd__has_form : FuncData
  F__has_form : Fun K "_has_form" "_has_form" s__has_form f__has_form fd__has_form
  b__has_form : Binds K fd__has_form ["value"] []
  g__has_form : mg "_has_form" = some (.ref f__has_form)
  f_Vocabulary___init__ : Addr
  fd_Vocabulary___init__ : FuncData
  F_Vocabulary___init__ : Fun K "__init__" "Vocabulary.__init__" s_Vocabulary___init__ f_Vocabulary___init__ fd_Vocabulary___init__
  b_Vocabulary___init__ : Binds K fd_Vocabulary___init__ ["self", "sorts", "functions", "predicates"] []
  f_Vocabulary_arguments : Addr
  fd_Vocabulary_arguments : FuncData
  F_Vocabulary_arguments : Fun K "arguments" "Vocabulary.arguments" s_Vocabulary_arguments f_Vocabulary_arguments fd_Vocabulary_arguments
  b_Vocabulary_arguments : Binds K fd_Vocabulary_arguments ["self", "name"] []
  m_Vocabulary_arguments : Meth K C_Vocabulary "arguments" f_Vocabulary_arguments
  f_Vocabulary_value_sort : Addr
  fd_Vocabulary_value_sort : FuncData
  F_Vocabulary_value_sort : Fun K "value_sort" "Vocabulary.value_sort" s_Vocabulary_value_sort f_Vocabulary_value_sort fd_Vocabulary_value_sort
  b_Vocabulary_value_sort : Binds K fd_Vocabulary_value_sort ["self", "name"] []
  m_Vocabulary_value_sort : Meth K C_Vocabulary "value_sort" f_Vocabulary_value_sort
  f__check_rows : Addr
  fd__check_rows : FuncData
  F__check_rows : Fun K "_check_rows" "_check_rows" s__check_rows f__check_rows fd__check_rows
  b__check_rows : Binds K fd__check_rows ["rows", "sorts"] []
  g__check_rows : mg "_check_rows" = some (.ref f__check_rows)
  f_is_variable : Addr
  fd_is_variable : FuncData
  F_is_variable : Fun K "is_variable" "is_variable" s_is_variable f_is_variable fd_is_variable
  b_is_variable : Binds K fd_is_variable ["term"] []
  g_is_variable : mg "is_variable" = some (.ref f_is_variable)
  f_is_term : Addr
  fd_is_term : FuncData
  F_is_term : Fun K "is_term" "is_term" s_is_term f_is_term fd_is_term
  b_is_term : Binds K fd_is_term ["vocabulary", "value"] []
  g_is_term : mg "is_term" = some (.ref f_is_term)
  f_is_atom : Addr
  fd_is_atom : FuncData
  F_is_atom : Fun K "is_atom" "is_atom" s_is_atom f_is_atom fd_is_atom
  b_is_atom : Binds K fd_is_atom ["vocabulary", "value"] []
  g_is_atom : mg "is_atom" = some (.ref f_is_atom)
  f__layer_sort : Addr
  fd__layer_sort : FuncData
  F__layer_sort : Fun K "_layer_sort" "_layer_sort" s__layer_sort f__layer_sort fd__layer_sort
  b__layer_sort : Binds K fd__layer_sort ["vocabulary", "value"] []
  g__layer_sort : mg "_layer_sort" = some (.ref f__layer_sort)
  f__parts_fit : Addr
  fd__parts_fit : FuncData
  F__parts_fit : Fun K "_parts_fit" "_parts_fit" s__parts_fit f__parts_fit fd__parts_fit
  b__parts_fit : Binds K fd__parts_fit ["vocabulary", "term"] []
  g__parts_fit : mg "_parts_fit" = some (.ref f__parts_fit)
  f_sort_of : Addr
  fd_sort_of : FuncData
  F_sort_of : Fun K "sort_of" "sort_of" s_sort_of f_sort_of fd_sort_of
  b_sort_of : Binds K fd_sort_of ["vocabulary", "term"] []
  g_sort_of : mg "sort_of" = some (.ref f_sort_of)
  f_subterms : Addr
  fd_subterms : FuncData
  F_subterms : Fun K "subterms" "subterms" s_subterms f_subterms fd_subterms
  b_subterms : Binds K fd_subterms ["term"] []
  g_subterms : mg "subterms" = some (.ref f_subterms)
  f_variables_of : Addr
  fd_variables_of : FuncData
  F_variables_of : Fun K "variables_of" "variables_of" s_variables_of f_variables_of fd_variables_of
  b_variables_of : Binds K fd_variables_of ["term"] []
  g_variables_of : mg "variables_of" = some (.ref f_variables_of)
  f_size_of : Addr
  fd_size_of : FuncData
  F_size_of : Fun K "size_of" "size_of" s_size_of f_size_of fd_size_of
  b_size_of : Binds K fd_size_of ["term"] []
  g_size_of : mg "size_of" = some (.ref f_size_of)
  f_part_at : Addr
  fd_part_at : FuncData
  F_part_at : Fun K "part_at" "part_at" s_part_at f_part_at fd_part_at
  b_part_at : Binds K fd_part_at ["term", "place"] []
  g_part_at : mg "part_at" = some (.ref f_part_at)
  f_put_at : Addr
  fd_put_at : FuncData
  F_put_at : Fun K "put_at" "put_at" s_put_at f_put_at fd_put_at
  b_put_at : Binds K fd_put_at ["term", "place", "new"] []
  g_put_at : mg "put_at" = some (.ref f_put_at)
  f__part : Addr
  fd__part : FuncData
  F__part : Fun K "_part" "_part" s__part f__part fd__part
  b__part : Binds K fd__part ["term", "number", "place"] []
  g__part : mg "_part" = some (.ref f__part)
  f_inner_places : Addr
  fd_inner_places : FuncData
  F_inner_places : Fun K "inner_places" "inner_places" s_inner_places f_inner_places fd_inner_places
  b_inner_places : Binds K fd_inner_places ["term"] []
  g_inner_places : mg "inner_places" = some (.ref f_inner_places)
  f__law_cell : Addr
  fd__law_cell : FuncData
  F__law_cell : Fun K "_law_cell" "_law_cell" s__law_cell f__law_cell fd__law_cell
  b__law_cell : Binds K fd__law_cell ["script", "k"] []
  g__law_cell : mg "_law_cell" = some (.ref f__law_cell)
  f__law_digits : Addr
  fd__law_digits : FuncData
  F__law_digits : Fun K "_law_digits" "_law_digits" s__law_digits f__law_digits fd__law_digits
  b__law_digits : Binds K fd__law_digits ["cell", "sizes"] []
  g__law_digits : mg "_law_digits" = some (.ref f__law_digits)
  f__law_words : Addr
  fd__law_words : FuncData
  F__law_words : Fun K "_law_words" "_law_words" s__law_words f__law_words fd__law_words
  b__law_words : Binds K fd__law_words [] []
  g__law_words : mg "_law_words" = some (.ref f__law_words)
  f__law_names : Addr
  fd__law_names : FuncData
  F__law_names : Fun K "_law_names" "_law_names" s__law_names f__law_names fd__law_names
  b__law_names : Binds K fd__law_names ["row", "many"] []
  g__law_names : mg "_law_names" = some (.ref f__law_names)
  f__law_variable_names : Addr
  fd__law_variable_names : FuncData
  F__law_variable_names : Fun K "_law_variable_names" "_law_variable_names" s__law_variable_names f__law_variable_names fd__law_variable_names
  b__law_variable_names : Binds K fd__law_variable_names ["row", "many"] []
  g__law_variable_names : mg "_law_variable_names" = some (.ref f__law_variable_names)
  f__law_drawn_vocabulary : Addr
  fd__law_drawn_vocabulary : FuncData
  F__law_drawn_vocabulary : Fun K "_law_drawn_vocabulary" "_law_drawn_vocabulary" s__law_drawn_vocabulary f__law_drawn_vocabulary fd__law_drawn_vocabulary
  b__law_drawn_vocabulary : Binds K fd__law_drawn_vocabulary ["first", "second", "third"] []
  g__law_drawn_vocabulary : mg "_law_drawn_vocabulary" = some (.ref f__law_drawn_vocabulary)
  f__law_term : Addr
  fd__law_term : FuncData
  F__law_term : Fun K "_law_term" "_law_term" s__law_term f__law_term fd__law_term
  b__law_term : Binds K fd__law_term ["vocabulary", "sort", "row", "at", "deep", "variables"] []
  g__law_term : mg "_law_term" = some (.ref f__law_term)
  f__law_wrapped : Addr
  fd__law_wrapped : FuncData
  F__law_wrapped : Fun K "_law_wrapped" "_law_wrapped" s__law_wrapped f__law_wrapped fd__law_wrapped
  b__law_wrapped : Binds K fd__law_wrapped ["vocabulary", "tree", "sort", "row", "many", "variables"] []
  g__law_wrapped : mg "_law_wrapped" = some (.ref f__law_wrapped)
  f__law_is_variable : Addr
  fd__law_is_variable : FuncData
  F__law_is_variable : Fun K "_law_is_variable" "_law_is_variable" s__law_is_variable f__law_is_variable fd__law_is_variable
  b__law_is_variable : Binds K fd__law_is_variable ["tree"] []
  g__law_is_variable : mg "_law_is_variable" = some (.ref f__law_is_variable)
  f__law_symbols : Addr
  fd__law_symbols : FuncData
  F__law_symbols : Fun K "_law_symbols" "_law_symbols" s__law_symbols f__law_symbols fd__law_symbols
  b__law_symbols : Binds K fd__law_symbols ["tree"] []
  g__law_symbols : mg "_law_symbols" = some (.ref f__law_symbols)
  f__law_term_variables : Addr
  fd__law_term_variables : FuncData
  F__law_term_variables : Fun K "_law_term_variables" "_law_term_variables" s__law_term_variables f__law_term_variables fd__law_term_variables
  b__law_term_variables : Binds K fd__law_term_variables ["tree", "known"] []
  g__law_term_variables : mg "_law_term_variables" = some (.ref f__law_term_variables)
  f__law_all_places : Addr
  fd__law_all_places : FuncData
  F__law_all_places : Fun K "_law_all_places" "_law_all_places" s__law_all_places f__law_all_places fd__law_all_places
  b__law_all_places : Binds K fd__law_all_places ["tree", "spot"] []
  g__law_all_places : mg "_law_all_places" = some (.ref f__law_all_places)
  f__law_put : Addr
  fd__law_put : FuncData
  F__law_put : Fun K "_law_put" "_law_put" s__law_put f__law_put fd__law_put
  b__law_put : Binds K fd__law_put ["tree", "spot", "fresh"] []
  g__law_put : mg "_law_put" = some (.ref f__law_put)
  f__law_applied : Addr
  fd__law_applied : FuncData
  F__law_applied : Fun K "_law_applied" "_law_applied" s__law_applied f__law_applied fd__law_applied
  b__law_applied : Binds K fd__law_applied ["vocabulary", "head", "row", "deep", "variables"] []
  g__law_applied : mg "_law_applied" = some (.ref f__law_applied)
  f__law_large : Addr
  fd__law_large : FuncData
  F__law_large : Fun K "_law_large" "_law_large" s__law_large f__law_large fd__law_large
  b__law_large : Binds K fd__law_large ["vocabulary", "digit", "row", "deep", "variables"] []
  g__law_large : mg "_law_large" = some (.ref f__law_large)
  f__law_chain : Addr
  fd__law_chain : FuncData
  F__law_chain : Fun K "_law_chain" "_law_chain" s__law_chain f__law_chain fd__law_chain
  b__law_chain : Binds K fd__law_chain ["vocabulary", "digit", "row", "many", "variables"] []
  g__law_chain : mg "_law_chain" = some (.ref f__law_chain)
  f__law_value : Addr
  fd__law_value : FuncData
  F__law_value : Fun K "_law_value" "_law_value" s__law_value f__law_value fd__law_value
  b__law_value : Binds K fd__law_value ["vocabulary", "cell", "variables"] []
  g__law_value : mg "_law_value" = some (.ref f__law_value)
  f__law_sort : Addr
  fd__law_sort : FuncData
  F__law_sort : Fun K "_law_sort" "_law_sort" s__law_sort f__law_sort fd__law_sort
  b__law_sort : Binds K fd__law_sort ["vocabulary", "tree"] []
  g__law_sort : mg "_law_sort" = some (.ref f__law_sort)
  f__law_refused : Addr
  fd__law_refused : FuncData
  F__law_refused : Fun K "_law_refused" "_law_refused" s__law_refused f__law_refused fd__law_refused
  b__law_refused : Binds K fd__law_refused ["tree", "spot", "fresh"] []
  g__law_refused : mg "_law_refused" = some (.ref f__law_refused)
  f__law_listed : Addr
  fd__law_listed : FuncData
  F__law_listed : Fun K "_law_listed" "_law_listed" s__law_listed f__law_listed fd__law_listed
  b__law_listed : Binds K fd__law_listed ["tree"] []
  g__law_listed : mg "_law_listed" = some (.ref f__law_listed)
  f__law_asked : Addr
  fd__law_asked : FuncData
  F__law_asked : Fun K "_law_asked" "_law_asked" s__law_asked f__law_asked fd__law_asked
  b__law_asked : Binds K fd__law_asked ["vocabulary", "tree", "cell", "variables"] []
  g__law_asked : mg "_law_asked" = some (.ref f__law_asked)
  f__law_grown_atom : Addr
  fd__law_grown_atom : FuncData
  F__law_grown_atom : Fun K "_law_grown_atom" "_law_grown_atom" s__law_grown_atom f__law_grown_atom fd__law_grown_atom
  b__law_grown_atom : Binds K fd__law_grown_atom ["vocabulary", "book", "grown", "sort"] []
  g__law_grown_atom : mg "_law_grown_atom" = some (.ref f__law_grown_atom)
  f__law_grown : Addr
  fd__law_grown : FuncData
  F__law_grown : Fun K "_law_grown" "_law_grown" s__law_grown f__law_grown fd__law_grown
  b__law_grown : Binds K fd__law_grown ["vocabulary", "book", "tree", "row"] []
  g__law_grown : mg "_law_grown" = some (.ref f__law_grown)
  f_law : Addr
  fd_law : FuncData
  F_law : Fun K "law" "law" s_law f_law fd_law
  b_law : Binds K fd_law ["script"] []
  g_law : mg "law" = some (.ref f_law)
  mk_Vocabulary : Mk K C_Vocabulary f_Vocabulary___init__
  kb_inner_places : KBn K fd_inner_places ["term"] 0 ["term"] (fun _ ws => ws) (fun _ zs => zs)
  kb_variables_of : KBn K fd_variables_of ["term"] 0 ["term"] (fun _ ws => ws) (fun _ zs => zs)
  kr_part_at : KBn K fd_part_at ["term", "place"] 0 ["place", "term"] (fun _ ws => sw2 ws) (fun _ zs => sw2 zs)
  kr_put_at : KBn K fd_put_at ["term", "place", "new"] 0 ["new", "place", "term"] (fun us ws => us ++ ws.reverse) (fun us ws => us ++ ws.reverse)
  n_ValueError : mg "ValueError" = none
  n_all : mg "all" = none
  n_bool : mg "bool" = none
  n_int : mg "int" = none
  n_isinstance : mg "isinstance" = none
  n_len : mg "len" = none
  n_list : mg "list" = none
  n_max : mg "max" = none
  n_range : mg "range" = none
  n_reversed : mg "reversed" = none
  n_str : mg "str" = none
  n_sum : mg "sum" = none
  n_tuple : mg "tuple" = none
  n_zip : mg "zip" = none
  a_WORDS : Addr
  c_WORDS : mg "WORDS" = some (.ref a_WORDS)
  q_WORDS : ∀ H : Hp, SqT K H a_WORDS [.str "all", .str "some", .str "not", .str "and", .str "or", .str "implies", .str "iff", .str "true", .str "false", .str "truth", .str "sort", .str "function", .str "axiom"]
  t_CAPITALS : Tok
  c_CAPITALS : mg "CAPITALS" = some (.str "ABCDEFGHIJKLMNOPQRSTUVWXYZ" t_CAPITALS)
  t_SMALL_SIGNS : Tok
  c_SMALL_SIGNS : mg "SMALL_SIGNS" = some (.str "abcdefghijklmnopqrstuvwxyz0123456789" t_SMALL_SIGNS)
  t_DIGITS : Tok
  c_DIGITS : mg "DIGITS" = some (.str "0123456789" t_DIGITS)
  t_LONGEST : Tok
  c_LONGEST : mg "LONGEST" = some (.int 8 t_LONGEST)
  t_TRUTH_SORT : Tok
  c_TRUTH_SORT : mg "TRUTH_SORT" = some (.str "truth" t_TRUTH_SORT)
  a_TRUTH : Addr
  c_TRUTH : mg "TRUTH" = some (.ref a_TRUTH)
  q_TRUTH : ∀ H : Hp, SqT K H a_TRUTH [.str "true"]
  C_ClaimError : Addr
  a_ClaimError : PySem.W.nsIn K mainGlobals "ClaimError" = some (some (.ref C_ClaimError))
  g_ClaimError : mg "ClaimError" = some (.ref C_ClaimError)
  C_TextError : Addr
  a_TextError : PySem.W.nsIn K mainGlobals "TextError" = some (some (.ref C_TextError))
  g_TextError : mg "TextError" = some (.ref C_TextError)
  C_BadName : Addr
  a_BadName : PySem.W.nsIn K mainGlobals "BadName" = some (some (.ref C_BadName))
  g_BadName : mg "BadName" = some (.ref C_BadName)
  C_NameTaken : Addr
  a_NameTaken : PySem.W.nsIn K mainGlobals "NameTaken" = some (some (.ref C_NameTaken))
  g_NameTaken : mg "NameTaken" = some (.ref C_NameTaken)
  C_NoSort : Addr
  a_NoSort : PySem.W.nsIn K mainGlobals "NoSort" = some (some (.ref C_NoSort))
  g_NoSort : mg "NoSort" = some (.ref C_NoSort)
  C_BadTable : Addr
  a_BadTable : PySem.W.nsIn K mainGlobals "BadTable" = some (some (.ref C_BadTable))
  g_BadTable : mg "BadTable" = some (.ref C_BadTable)
  C_BadSize : Addr
  a_BadSize : PySem.W.nsIn K mainGlobals "BadSize" = some (some (.ref C_BadSize))
  g_BadSize : mg "BadSize" = some (.ref C_BadSize)
  C_FilledTwice : Addr
  a_FilledTwice : PySem.W.nsIn K mainGlobals "FilledTwice" = some (some (.ref C_FilledTwice))
  g_FilledTwice : mg "FilledTwice" = some (.ref C_FilledTwice)
  C_NoSelection : Addr
  a_NoSelection : PySem.W.nsIn K mainGlobals "NoSelection" = some (some (.ref C_NoSelection))
  g_NoSelection : mg "NoSelection" = some (.ref C_NoSelection)
  E_BadPlace : ErrT P K mg "BadPlace" s_BadPlace___init__ "BadPlace.__init__" "place" "place"
  n_super : mg "super" = none
  kit : kitN K ["BadName", "NameTaken", "NoSort", "BadTable", "BadSize", "BadPlace", "FilledTwice", "NoSelection"] = true
  exm : exmN K ["BadName", "NameTaken", "NoSort", "BadPlace"] = true
  insv : insB K (addrOf K "Vocabulary") = true
  insa : PySem.W.nsIn K mainGlobals "Vocabulary" = some (some (.ref C_Vocabulary))
section
variable {P : Program} {K : PySem.W.Frag} {mg : Str → Option Value} (T : Top0 P K mg)
abbrev Top0.C_BadPlace : Addr := T.E_BadPlace.C
abbrev Top0.fI_BadPlace : Addr := T.E_BadPlace.fI
abbrev Top0.cc_BadPlace : Addr := T.E_BadPlace.cc
abbrev Top0.cd_BadPlace : Addr := T.E_BadPlace.cd
theorem Top0.g_BadPlace : mg "BadPlace" = some (.ref T.C_BadPlace) := T.E_BadPlace.g
theorem Top0.ox_BadPlace : OexC K T.C_BadPlace := T.E_BadPlace.ox
theorem Top0.iI_BadPlace : PySem.W.findIn K (.ref T.C_BadPlace) "__init__" = some (some (.ref T.fI_BadPlace)) := T.E_BadPlace.iI
theorem Top0.tI_BadPlace : PySem.W.typeIn K (.ref T.fI_BadPlace) = some (.type "function") := T.E_BadPlace.tI
theorem Top0.bI_BadPlace : Binds K (fnI s_BadPlace___init__ "BadPlace.__init__" T.cc_BadPlace T.cd_BadPlace T.E_BadPlace.kI T.E_BadPlace.doI T.E_BadPlace.pI T.E_BadPlace.anI T.E_BadPlace.ctI) ["self", "place"] [] := T.E_BadPlace.bI
end
section
variable {P : Program} {w : World} {K : PySem.W.Frag} {mg : Str → Option Value} {base : Heap}
theorem ok_BadPlace___init__ (T : Top0 P K mg) : FnOk P w K mg base CX0 1 T.fI_BadPlace (fnI s_BadPlace___init__ "BadPlace.__init__" T.cc_BadPlace T.cd_BadPlace T.E_BadPlace.kI T.E_BadPlace.doI T.E_BadPlace.pI T.E_BadPlace.anI T.E_BadPlace.ctI) ["self", "place"] (spErrQ K T.C_BadPlace "place") := by
  refine err_fn (N := ["self", "place", "__class__"]) (k := 0) (ta := taErrQ K "place ") (ts := tOst K "place" (tVar 0) (tVar 1)) T.E_BadPlace.S T.E_BadPlace.ox T.n_super (nscope_by (by decide +kernel)) rfl T.E_BadPlace.hc rfl (fun A outer s H E hr => ?_) (fun A outer s H E hr => ?_) (fun env => rfl) (fun L => rfl) (fun L => rfl) (fun env => rfl) (fun vs H Q E h => ?_) (fun vs H Q E h => err_readQ T.E_BadPlace.ox T.E_BadPlace.no (by decide) h)
  · exact pa_cons (pe_joined (.cons pe_str (.cons (pe_fmtQ hr (pv 1)) .nil))) pa_nil
  · exact pss_one (ps_ost (pv 0) (pv 1))
  · obtain ⟨a, y, rfl, _⟩ := h
    rfl
end
end K03

set_option Elab.async false
set_option linter.all false
set_option maxRecDepth 100000
set_option maxHeartbeats 2000000
namespace K03
open PySem PySem.Spec PyProof.Rows L2 NdefX CW RZ
open PySem.W (fnX)
/-! the mathematics -/
def smallS : Str := Str.ofString "abcdefghijklmnopqrstuvwxyz0123456789"
def smallL : List Nat := smallS.cps.toList
def letL : List Nat := (Str.ofString "abcdefghijklmnopqrstuvwxyz").cps.toList
def capL : List Nat := (Str.ofString "ABCDEFGHIJKLMNOPQRSTUVWXYZ").cps.toList
def digL : List Nat := (Str.ofString "0123456789").cps.toList
def W13 : List V := [.str "all", .str "some", .str "not", .str "and", .str "or", .str "implies", .str "iff", .str "true", .str "false", .str "truth", .str "sort", .str "function", .str "axiom"]
def plainF (z : Str) : Bool := decide (1 ≤ z.length ∧ z.length ≤ 8) && (z.cps.toList.drop 1).all fun c => decide (c ∈ smallL)
def headIn (z : Str) (l : List Nat) : Bool := match z.cps.toList with
  | [] => false
  | c :: _ => decide (c ∈ l)
def nameF (z : Str) : Bool := plainF z && (headIn z letL && !inV (.str z) W13)
def varF (z : Str) : Bool := plainF z && headIn z capL
theorem head_of {z : Str} (h : 1 ≤ z.length) : ∃ c r, z.cps.toList = c :: r ∧ atI z.cps.toList 0 = some c := by
  have hl : z.cps.toList.length = z.length := by rw [Array.length_toList]; rfl
  cases e : z.cps.toList with
  | nil => rw [e] at hl; simp at hl; omega
  | cons c r => exact ⟨c, r, rfl, atI_nat (j := 0) rfl⟩
theorem letters (c : Nat) : (decide (c ∈ smallL) && !decide (c ∈ digL)) = decide (c ∈ letL) := by
  by_cases h : c < 128
  · revert h
    have : ∀ c : Fin 128, (decide (c.val ∈ smallL) && !decide (c.val ∈ digL)) = decide (c.val ∈ letL) := by decide +kernel
    exact fun h => this ⟨c, h⟩
  · have a1 : ∀ x ∈ smallL, x < 128 := by decide +kernel
    have a2 : ∀ x ∈ letL, x < 128 := by decide +kernel
    rw [decide_eq_false (fun z => h (a1 c z)), decide_eq_false (fun z => h (a2 c z))]
    rfl
theorem plainF_no {z : Str} (h : ¬ (1 ≤ z.length ∧ z.length ≤ 8)) : plainF z = false := by
  unfold plainF
  rw [decide_eq_false h]
  rfl
theorem plainF_yes {z : Str} (h1 : 1 ≤ z.length) (h2 : z.length ≤ 8) : plainF z = (z.cps.toList.drop 1).all fun c => decide (c ∈ smallL) := by
  unfold plainF
  rw [decide_eq_true ⟨h1, h2⟩]
  rfl
theorem plain_len {z : Str} (h : plainF z = true) : 1 ≤ z.length ∧ z.length ≤ 8 := by
  unfold plainF at h
  rw [Bool.and_eq_true] at h
  exact of_decide_eq_true h.1
/-! vocabularies -/
structure Lex where
  S : List Str
  F : List (Str × List Str × Str)
  P : List (Str × List Str)
def pD (r : Str × List Str) : PyData := .tuple [.str r.1, .tuple (r.2.map PyData.str)]
def fD (r : Str × List Str × Str) : PyData := .tuple [.str r.1, .tuple (r.2.1.map PyData.str), .str r.2.2]
theorem imStrs : ∀ l : List Str, ImAll (l.map PyData.str) = true
  | [] => rfl
  | z :: r => by show (Im (.str z) && ImAll (r.map PyData.str)) = true; rw [imStrs r]; rfl
theorem im_pD (r : Str × List Str) : Im (pD r) = true := by
  show (true && (ImAll (r.2.map PyData.str) && true)) = true
  rw [imStrs]; rfl
theorem im_fD (r : Str × List Str × Str) : Im (fD r) = true := by
  show (true && (ImAll (r.2.1.map PyData.str) && (true && true))) = true
  rw [imStrs]; rfl
def Lex.rows (x : Lex) : List (Str × List Str) := x.S.map (fun s => (s, [])) ++ x.F.map (fun r => (r.1, r.2.1 ++ [r.2.2])) ++ x.P
structure RowsOk (S : List Str) (rows : List (Str × List Str)) : Prop where
  len : rows.length ≤ 100000
  slen : S.length ≤ 100000
  nd : (rows.map (·.1)).Nodup
  nm : ∀ r ∈ rows, nameF r.1 = true
  ws : ∀ r ∈ rows, ∀ s ∈ r.2, s ∈ S
  wl : ∀ r ∈ rows, r.2.length ≤ 1000
def argsTab (x : Lex) : List (Str × PyData) := x.F.map (fun r => (r.1, PyData.tuple (r.2.1.map PyData.str))) ++ x.P.map (fun r => (r.1, PyData.tuple (r.2.map PyData.str)))
def sortTab (x : Lex) : List (Str × PyData) := x.P.map (fun r => (r.1, PyData.str "truth")) ++ x.F.map (fun r => (r.1, PyData.str r.2.2))
theorem name_plain {z : Str} (h : nameF z = true) : plainF z = true := by
  unfold nameF at h
  rw [Bool.and_eq_true] at h
  exact h.1
theorem nd_take {rows : List (Str × List Str)} {i : Nat} {r : Str × List Str} (nd : (rows.map (·.1)).Nodup) (hr : rows[i]? = some r) (hm : r.1 ∈ (rows.take i).map (fun r => r.1)) : False := by
  obtain ⟨j, hj⟩ := List.getElem?_of_mem hm
  have hi : i < rows.length := (List.getElem?_eq_some_iff.mp hr).1
  have hj2 : j < i := by
    have := (List.getElem?_eq_some_iff.mp hj).1
    rw [List.length_map, List.length_take] at this; omega
  rw [List.getElem?_map, List.getElem?_take_of_lt hj2] at hj
  have e1 : (rows.map (·.1))[i]? = some r.1 := by rw [List.getElem?_map, hr]; rfl
  have e2 : (rows.map (·.1))[j]? = some r.1 := by rw [List.getElem?_map]; exact hj
  have := (List.getElem?_inj (by rw [List.length_map]; omega) nd).mp (e2.trans e1.symm)
  omega
def VocAt (K : PySem.W.Frag) (C : Addr) (H : Hp) (a : Addr) (x : Lex) : Prop := ∃ (dx : Addr) (fs : List (Str × V)) (s : V) (dA dS : Addr) (kA kS : List (Key × V)),
  H a = some (.ins C dx fs) ∧ fs.lookup ("sorts" : Str) = some s ∧ Dp K H s (.tuple (x.S.map PyData.str)) ∧ fs.lookup ("_argument_sorts" : Str) = some (.ref dA) ∧ H dA = some (.dK kA) ∧ HasD K H kA (tabF (argsTab x)) ∧
  fs.lookup ("_value_sorts" : Str) = some (.ref dS) ∧ H dS = some (.dK kS) ∧ HasD K H kS (tabF (sortTab x)) ∧ fs.lookup ("arguments" : Str) = none ∧ fs.lookup ("value_sort" : Str) = none
theorem VocAt.mono {K : PySem.W.Frag} {C : Addr} {H H' : Hp} {a : Addr} {x : Lex} (e : Xt H H') (h : VocAt K C H a x) : VocAt K C H' a x := by
  obtain ⟨dx, fs, s, dA, dS, kA, kS, h1, h2, h3, h4, h5, h6, h7, h8, h9, h10, h11⟩ := h
  exact ⟨dx, fs, s, dA, dS, kA, kS, e _ _ h1, h2, Dp.mono e h3, h4, e _ _ h5, h6.mono e, h7, e _ _ h8, h9.mono e, h10, h11⟩
/-! terms -/
def fnd {α : Type} : List (Str × α) → Str → Option α
  | [], _ => none
  | p :: r, z => if p.1 = z then some p.2 else fnd r z
theorem fnd_mem {α : Type} : ∀ {l : List (Str × α)} {z : Str} {p : α}, fnd l z = some p → (z, p) ∈ l
  | [], _, _, h => by cases h
  | q :: r, z, p, h => by
    rw [fnd] at h
    by_cases e : q.1 = z
    · rw [if_pos e] at h; cases h; subst e; exact List.mem_cons_self ..
    · rw [if_neg e] at h; exact List.mem_cons_of_mem _ (fnd_mem h)
theorem fnd_of {α : Type} : ∀ {l : List (Str × α)} {z : Str} {p : α}, (l.map (·.1)).Nodup → (z, p) ∈ l → fnd l z = some p
  | [], _, _, _, h => by cases h
  | q :: r, z, p, nd, h => by
    rw [List.map_cons, List.nodup_cons] at nd
    rw [fnd]
    rcases List.mem_cons.mp h with rfl | h
    · rw [if_pos rfl]
    · by_cases e : q.1 = z
      · exact absurd (List.mem_map.mpr ⟨_, h, rfl⟩) (by rw [← e] at *; exact nd.1)
      · rw [if_neg e]; exact fnd_of nd.2 h
theorem tabF_of {l : List (Str × PyData)} {z : Str} {d : PyData} (nd : (l.map (·.1)).Nodup) (h : (z, d) ∈ l) : tabF l z = some d := by
  obtain ⟨e, he⟩ := tabF_isSome (l := l) (z := z) (List.mem_map.mpr ⟨_, h, rfl⟩)
  have h2 := tabF_mem he
  have a := fnd_of nd h
  rw [fnd_of nd h2] at a
  cases a; exact he
theorem tabF_fnd {l : List (Str × PyData)} {α : Type} {m : List (Str × α)} (f : α → PyData) (nl : (l.map (·.1)).Nodup) (nm : (m.map (·.1)).Nodup) (h : ∀ z d, (z, d) ∈ l ↔ ∃ p, (z, p) ∈ m ∧ d = f p) (z : Str) : tabF l z = (fnd m z).map f := by
  cases e : fnd m z with
  | some p => exact tabF_of nl ((h z _).mpr ⟨p, fnd_mem e, rfl⟩)
  | none =>
    cases e2 : tabF l z with
    | none => rfl
    | some d =>
      obtain ⟨p, hp, _⟩ := (h z d).mp (tabF_mem e2)
      rw [fnd_of nm hp] at e; cases e
def Lex.syms (x : Lex) : List (Str × List Str × Str) := x.F ++ x.P.map fun r => (r.1, r.2, ("truth" : Str))
theorem syms_nd {x : Lex} (ok : RowsOk x.S x.rows) : (x.syms.map (·.1)).Nodup := by
  have h := ok.nd
  unfold Lex.rows at h
  rw [List.append_assoc, List.map_append] at h
  have h2 := (List.nodup_append.mp h).2.1
  have e : x.syms.map (·.1) = (x.F.map (fun r => (r.1, r.2.1 ++ [r.2.2])) ++ x.P).map (·.1) := by
    unfold Lex.syms
    rw [List.map_append, List.map_append, List.map_map, List.map_map]
    rfl
  rw [e]; exact h2
theorem tab_args {x : Lex} (ok : RowsOk x.S x.rows) (z : Str) : tabF (argsTab x) z = (fnd x.syms z).map fun p => .tuple (p.1.map PyData.str) := by
  have nd := syms_nd ok
  refine tabF_fnd _ ?_ nd (fun z d => ?_) z
  · have e : (argsTab x).map (·.1) = x.syms.map (·.1) := by
      unfold argsTab Lex.syms
      rw [List.map_append, List.map_append, List.map_map, List.map_map, List.map_map]
      rfl
    rw [e]; exact nd
  · unfold argsTab Lex.syms
    rw [List.mem_append, List.mem_map, List.mem_map]
    constructor
    · rintro (⟨r, hr, e⟩ | ⟨r, hr, e⟩)
      · cases e; exact ⟨r.2, List.mem_append_left _ hr, rfl⟩
      · cases e; exact ⟨(r.2, "truth"), List.mem_append_right _ (List.mem_map.mpr ⟨r, hr, rfl⟩), rfl⟩
    · rintro ⟨p, hp, rfl⟩
      rcases List.mem_append.mp hp with hp | hp
      · exact .inl ⟨(z, p), hp, rfl⟩
      · obtain ⟨r, hr, e⟩ := List.mem_map.mp hp
        cases e; exact .inr ⟨r, hr, rfl⟩
theorem tab_sort {x : Lex} (ok : RowsOk x.S x.rows) (z : Str) : tabF (sortTab x) z = (fnd x.syms z).map fun p => .str p.2 := by
  have nd := syms_nd ok
  refine tabF_fnd _ ?_ nd (fun z d => ?_) z
  · have e : (sortTab x).map (·.1) = x.P.map (·.1) ++ x.F.map (·.1) := by
      unfold sortTab
      rw [List.map_append, List.map_map, List.map_map]
      rfl
    have e2 : x.syms.map (·.1) = x.F.map (·.1) ++ x.P.map (·.1) := by
      unfold Lex.syms
      rw [List.map_append, List.map_map]
      rfl
    rw [e]; rw [e2] at nd
    exact (List.perm_append_comm.nodup_iff).mp nd
  · unfold sortTab Lex.syms
    rw [List.mem_append, List.mem_map, List.mem_map]
    constructor
    · rintro (⟨r, hr, e⟩ | ⟨r, hr, e⟩)
      · cases e; exact ⟨(r.2, "truth"), List.mem_append_right _ (List.mem_map.mpr ⟨r, hr, rfl⟩), rfl⟩
      · cases e; exact ⟨r.2, List.mem_append_left _ hr, rfl⟩
    · rintro ⟨p, hp, rfl⟩
      rcases List.mem_append.mp hp with hp | hp
      · exact .inr ⟨(z, p), hp, rfl⟩
      · obtain ⟨r, hr, e⟩ := List.mem_map.mp hp
        cases e; exact .inl ⟨r, hr, rfl⟩
theorem syms_name {x : Lex} (ok : RowsOk x.S x.rows) {z : Str} {p : List Str × Str} (h : fnd x.syms z = some p) : nameF z = true := by
  have hm := fnd_mem h
  unfold Lex.syms at hm
  rcases List.mem_append.mp hm with hm | hm
  · exact ok.nm (z, p.1 ++ [p.2]) (by unfold Lex.rows; exact List.mem_append_left _ (List.mem_append_right _ (List.mem_map.mpr ⟨_, hm, rfl⟩)))
  · obtain ⟨r, hr, e⟩ := List.mem_map.mp hm
    cases e
    exact ok.nm r (by unfold Lex.rows; exact List.mem_append_right _ hr)
theorem sort_name {x : Lex} (ok : RowsOk x.S x.rows) {s : Str} (h : s ∈ x.S) : nameF s = true :=
  ok.nm (s, []) (by unfold Lex.rows; exact List.mem_append_left _ (List.mem_append_left _ (List.mem_map.mpr ⟨s, h, rfl⟩)))
theorem small_asc : ∀ c ∈ smallL, c < 128 := by decide +kernel
theorem let_asc : ∀ c ∈ letL, c < 128 := by decide +kernel
theorem name_asc {z : Str} (h : nameF z = true) : ascS z = true := by
  have hp := name_plain h
  have hl := plain_len hp
  obtain ⟨c, r, ez, _⟩ := head_of hl.1
  have h2 := plainF_yes hl.1 hl.2
  rw [hp, ez] at h2
  unfold nameF at h
  rw [Bool.and_eq_true, Bool.and_eq_true] at h
  have h3 : decide (c ∈ letL) = true := by
    have := h.2.1
    unfold headIn at this
    rw [ez] at this
    exact this
  unfold ascS
  rw [ez, List.all_cons, decide_eq_true (let_asc c (of_decide_eq_true h3)), Bool.true_and]
  exact List.all_eq_true.mpr fun e he => decide_eq_true (small_asc e (of_decide_eq_true (List.all_eq_true.mp h2.symm e he)))
def capF (z : Str) : Bool := match z.cps.toList with
  | [] => false
  | c :: _ => decide (65 ≤ c ∧ c ≤ 90)
theorem caps (c : Nat) : decide (c ∈ capL) = decide (65 ≤ c ∧ c ≤ 90) := by
  by_cases h : c < 128
  · have : ∀ c : Fin 128, decide (c.val ∈ capL) = decide (65 ≤ c.val ∧ c.val ≤ 90) := by decide +kernel
    exact this ⟨c, h⟩
  · have a1 : ∀ x ∈ capL, x < 128 := by decide +kernel
    rw [decide_eq_false (fun z => h (a1 c z)), decide_eq_false (by omega)]
theorem cap_head (z : Str) : headIn z capL = capF z := by
  unfold headIn capF
  cases z.cps.toList with
  | nil => rfl
  | cons c r => exact caps c
theorem var_cap {z : Str} (h : varF z = true) : capF z = true := by
  unfold varF at h
  rw [Bool.and_eq_true] at h
  rw [← cap_head]; exact h.2
theorem name_cap {z : Str} (h : nameF z = true) : capF z = false := by
  have hp := name_plain h
  have hl := plain_len hp
  obtain ⟨c, r, ez, _⟩ := head_of hl.1
  unfold nameF at h
  rw [Bool.and_eq_true, Bool.and_eq_true] at h
  have h3 := h.2.1
  unfold headIn at h3
  unfold capF
  rw [ez] at h3 ⊢
  have a1 : ∀ x ∈ letL, 97 ≤ x := by decide +kernel
  have := a1 c (of_decide_eq_true h3)
  exact decide_eq_false (by omega)
theorem name_var {z : Str} (h : nameF z = true) : varF z = false := by
  cases e : varF z with
  | false => rfl
  | true => have := name_cap h; rw [var_cap e] at this; cases this
def varSort (x : Lex) : List PyData → Option Str
  | [.str s] => if s ∈ x.S then some s else none
  | _ => none
def layerF (x : Lex) : PyData → Option Str
  | .tuple (.str z :: ds) => if varF z = true then varSort x ds else match fnd x.syms z with
      | some p => if ds.length = p.1.length then some p.2 else none
      | none => none
  | _ => none
mutual
def fitF (x : Lex) : PyData → Bool
  | .tuple (.str z :: ds) => if capF z = true then true else match fnd x.syms z with
      | some p => fitAll x ds p.1
      | none => true
  | _ => true
def fitAll (x : Lex) : List PyData → List Str → Bool
  | d :: ds, a :: as => decide (layerF x d = some a) && fitF x d && fitAll x ds as
  | _, _ => true
end
mutual
def toldF (x : Lex) : PyData → Option Str
  | .tuple (.str z :: ds) => if varF z = true then varSort x ds else match fnd x.syms z with
      | some p => if toldAll x ds p.1 = true then some p.2 else none
      | none => none
  | _ => none
def toldAll (x : Lex) : List PyData → List Str → Bool
  | [], [] => true
  | d :: ds, a :: as => decide (toldF x d = some a) && toldAll x ds as
  | _, _ => false
end
mutual
theorem told_eq {x : Lex} (ok : RowsOk x.S x.rows) : ∀ d : PyData, toldF x d = if fitF x d = true then layerF x d else none
  | .tuple (.str z :: ds) => by
    rw [toldF, fitF, layerF]
    by_cases hv : varF z = true
    · rw [if_pos hv, if_pos hv, var_cap hv]; rfl
    · rw [if_neg hv, if_neg hv]
      cases e : fnd x.syms z with
      | none => simp
      | some p =>
        rw [name_cap (syms_name ok e)]
        have h := told_all ok ds p.1
        show (if toldAll x ds p.1 = true then some p.2 else none) = if (if false = true then true else fitAll x ds p.1) = true then (if ds.length = p.1.length then some p.2 else none) else none
        rw [h]
        by_cases h1 : ds.length = p.1.length
        · rw [decide_eq_true h1, if_pos h1]; simp
        · rw [decide_eq_false h1, if_neg h1]; simp
  | .none => by first | rfl | simp [toldF, fitF, layerF]
  | .bool _ => by first | rfl | simp [toldF, fitF, layerF]
  | .int _ => by first | rfl | simp [toldF, fitF, layerF]
  | .str _ => by first | rfl | simp [toldF, fitF, layerF]
  | .list _ => by first | rfl | simp [toldF, fitF, layerF]
  | .dict _ => by first | rfl | simp [toldF, fitF, layerF]
  | .tuple [] => by first | rfl | simp [toldF, fitF, layerF]
  | .tuple (.none :: _) => by first | rfl | simp [toldF, fitF, layerF]
  | .tuple (.bool _ :: _) => by first | rfl | simp [toldF, fitF, layerF]
  | .tuple (.int _ :: _) => by first | rfl | simp [toldF, fitF, layerF]
  | .tuple (.list _ :: _) => by first | rfl | simp [toldF, fitF, layerF]
  | .tuple (.tuple _ :: _) => by first | rfl | simp [toldF, fitF, layerF]
  | .tuple (.dict _ :: _) => by first | rfl | simp [toldF, fitF, layerF]
theorem told_all {x : Lex} (ok : RowsOk x.S x.rows) : ∀ (ds : List PyData) (as : List Str), toldAll x ds as = (decide (ds.length = as.length) && fitAll x ds as)
  | [], [] => by simp [toldAll, fitAll]
  | [], _ :: _ => by simp [toldAll, fitAll]
  | _ :: _, [] => by simp [toldAll, fitAll]
  | d :: ds, a :: as => by
    rw [toldAll, fitAll, told_eq ok d, told_all ok ds as]
    by_cases h1 : fitF x d = true
    · rw [if_pos h1, h1, Bool.and_true]
      rw [List.length_cons, List.length_cons]
      by_cases h2 : layerF x d = some a
      · rw [decide_eq_true h2]
        by_cases h3 : ds.length = as.length
        · simp [h3]
        · simp [h3]
      · rw [decide_eq_false h2]; simp
    · rw [if_neg h1, Bool.eq_false_iff.mpr h1]
      simp
end
def termF (x : Lex) (d : PyData) : Bool := match toldF x d with
  | some s => decide (s ≠ ("truth" : Str))
  | none => false
def atomF (x : Lex) (d : PyData) : Bool := decide (toldF x d = some ("truth" : Str))
def optV : Option Str → V
  | some s => .str s
  | none => .non
mutual
def TL : PyData → Bool
  | .tuple (.str z :: ds) => decide (1 ≤ z.length) && (capF z || TLAll ds)
  | _ => false
def TLAll : List PyData → Bool
  | [] => true
  | d :: ds => TL d && TLAll ds
end
mutual
/-- the parts of a term, itself first -/
def subsF : PyData → List PyData
  | .tuple (.str z :: ds) => .tuple (.str z :: ds) :: (if capF z = true then [] else subsAll ds)
  | d => [d]
def subsAll : List PyData → List PyData
  | [] => []
  | d :: ds => subsF d ++ subsAll ds
end
theorem TL_inv {d : PyData} (h : TL d = true) : ∃ z ds, d = .tuple (.str z :: ds) ∧ 1 ≤ z.length ∧ (capF z = true ∨ TLAll ds = true) := by
  match d, h with
  | .tuple (.str z :: ds), h =>
    rw [TL, Bool.and_eq_true, Bool.or_eq_true] at h
    exact ⟨z, ds, rfl, of_decide_eq_true h.1, h.2⟩
  | .tuple (.none :: _), h => simp [TL] at h
  | .tuple (.bool _ :: _), h => simp [TL] at h
  | .tuple (.int _ :: _), h => simp [TL] at h
  | .tuple (.list _ :: _), h => simp [TL] at h
  | .tuple (.tuple _ :: _), h => simp [TL] at h
  | .tuple (.dict _ :: _), h => simp [TL] at h
  | .tuple [], h => simp [TL] at h
  | .none, h => simp [TL] at h
  | .bool _, h => simp [TL] at h
  | .int _, h => simp [TL] at h
  | .str _, h => simp [TL] at h
  | .list _, h => simp [TL] at h
  | .dict _, h => simp [TL] at h
theorem TLAll_iff : ∀ {ds : List PyData}, TLAll ds = true ↔ ∀ d ∈ ds, TL d = true
  | [] => by simp [TLAll]
  | d :: ds => by
    rw [TLAll, Bool.and_eq_true, TLAll_iff (ds := ds)]
    simp
theorem subsAll_app : ∀ (a b : List PyData), subsAll (a ++ b) = subsAll a ++ subsAll b
  | [], b => by rw [List.nil_append, subsAll, List.nil_append]
  | d :: a, b => by rw [List.cons_append, subsAll, subsAll, subsAll_app a b, List.append_assoc]
theorem told_inv {x : Lex} {d : PyData} {s : Str} (h : toldF x d = some s) : ∃ z ds, d = .tuple (.str z :: ds) ∧ ((varF z = true ∧ ds = [.str s] ∧ s ∈ x.S) ∨ (varF z = false ∧ ∃ p, fnd x.syms z = some p ∧ toldAll x ds p.1 = true ∧ p.2 = s)) := by
  match d, h with
  | .tuple (.str z :: ds), h =>
    refine ⟨z, ds, rfl, ?_⟩
    rw [toldF] at h
    by_cases hv : varF z = true
    · rw [if_pos hv] at h
      unfold varSort at h
      split at h
      · split at h
        · cases h; exact .inl ⟨hv, rfl, by assumption⟩
        · cases h
      · cases h
    · rw [if_neg hv] at h
      cases e : fnd x.syms z with
      | none => rw [e] at h; cases h
      | some p =>
        rw [e] at h
        by_cases h2 : toldAll x ds p.1 = true
        · simp only [h2, if_true] at h; cases h
          exact .inr ⟨Bool.eq_false_iff.mpr hv, p, rfl, h2, rfl⟩
        · simp only [h2] at h; cases h
  | .tuple (.none :: _), h => simp [toldF] at h
  | .tuple (.bool _ :: _), h => simp [toldF] at h
  | .tuple (.int _ :: _), h => simp [toldF] at h
  | .tuple (.list _ :: _), h => simp [toldF] at h
  | .tuple (.tuple _ :: _), h => simp [toldF] at h
  | .tuple (.dict _ :: _), h => simp [toldF] at h
  | .tuple [], h => simp [toldF] at h
  | .none, h => simp [toldF] at h
  | .bool _, h => simp [toldF] at h
  | .int _, h => simp [toldF] at h
  | .str _, h => simp [toldF] at h
  | .list _, h => simp [toldF] at h
  | .dict _, h => simp [toldF] at h
theorem layer_inv {x : Lex} {d : PyData} {s : Str} (h : layerF x d = some s) : ∃ z ds, d = .tuple (.str z :: ds) ∧ ((varF z = true ∧ ds = [.str s] ∧ s ∈ x.S) ∨ (varF z = false ∧ ∃ p, fnd x.syms z = some p ∧ ds.length = p.1.length ∧ p.2 = s)) := by
  match d, h with
  | .tuple (.str z :: ds), h =>
    refine ⟨z, ds, rfl, ?_⟩
    rw [layerF] at h
    by_cases hv : varF z = true
    · rw [if_pos hv] at h
      unfold varSort at h
      split at h
      · split at h
        · cases h; exact .inl ⟨hv, rfl, by assumption⟩
        · cases h
      · cases h
    · rw [if_neg hv] at h
      cases e : fnd x.syms z with
      | none => rw [e] at h; cases h
      | some p =>
        rw [e] at h
        by_cases h2 : ds.length = p.1.length
        · simp only [h2, if_true] at h; cases h
          exact .inr ⟨Bool.eq_false_iff.mpr hv, p, rfl, h2, rfl⟩
        · simp only [h2] at h; cases h
  | .tuple (.none :: _), h => simp [layerF] at h
  | .tuple (.bool _ :: _), h => simp [layerF] at h
  | .tuple (.int _ :: _), h => simp [layerF] at h
  | .tuple (.list _ :: _), h => simp [layerF] at h
  | .tuple (.tuple _ :: _), h => simp [layerF] at h
  | .tuple (.dict _ :: _), h => simp [layerF] at h
  | .tuple [], h => simp [layerF] at h
  | .none, h => simp [layerF] at h
  | .bool _, h => simp [layerF] at h
  | .int _, h => simp [layerF] at h
  | .str _, h => simp [layerF] at h
  | .list _, h => simp [layerF] at h
  | .dict _, h => simp [layerF] at h
theorem layer_head {x : Lex} (ok : RowsOk x.S x.rows) {z : Str} {ds : List PyData} {s : Str} (h : layerF x (.tuple (.str z :: ds)) = some s) : 1 ≤ z.length ∧ z.length ≤ 8 ∧ (capF z = true ∨ (capF z = false ∧ ∃ p, fnd x.syms z = some p ∧ ds.length = p.1.length)) := by
  obtain ⟨z', ds', e, h2⟩ := layer_inv h
  cases e
  rcases h2 with ⟨h1, _, _⟩ | ⟨_, p, h1, h2, _⟩
  · have := var_cap h1
    unfold varF at h1
    rw [Bool.and_eq_true] at h1
    have hl := plain_len h1.1
    exact ⟨hl.1, hl.2, .inl this⟩
  · have hn := syms_name ok h1
    have hl := plain_len (name_plain hn)
    exact ⟨hl.1, hl.2, .inr ⟨name_cap hn, p, h1, h2⟩⟩
mutual
theorem told_TL {x : Lex} (ok : RowsOk x.S x.rows) : ∀ {d : PyData} {s : Str}, toldF x d = some s → TL d = true
  | .tuple (.str z :: ds), s, h => by
    obtain ⟨z', ds', e, h2⟩ := told_inv h
    cases e
    rw [TL, Bool.and_eq_true, Bool.or_eq_true]
    rcases h2 with ⟨h1, _, _⟩ | ⟨_, p, h1, h2, _⟩
    · have := var_cap h1
      unfold varF at h1
      rw [Bool.and_eq_true] at h1
      exact ⟨decide_eq_true (plain_len h1.1).1, .inl this⟩
    · exact ⟨decide_eq_true (plain_len (name_plain (syms_name ok h1))).1, .inr (told_TLAll ok h2)⟩
  | .tuple (.none :: _), _, h => by simp [toldF] at h
  | .tuple (.bool _ :: _), _, h => by simp [toldF] at h
  | .tuple (.int _ :: _), _, h => by simp [toldF] at h
  | .tuple (.list _ :: _), _, h => by simp [toldF] at h
  | .tuple (.tuple _ :: _), _, h => by simp [toldF] at h
  | .tuple (.dict _ :: _), _, h => by simp [toldF] at h
  | .tuple [], _, h => by simp [toldF] at h
  | .none, _, h => by simp [toldF] at h
  | .bool _, _, h => by simp [toldF] at h
  | .int _, _, h => by simp [toldF] at h
  | .str _, _, h => by simp [toldF] at h
  | .list _, _, h => by simp [toldF] at h
  | .dict _, _, h => by simp [toldF] at h
theorem told_TLAll {x : Lex} (ok : RowsOk x.S x.rows) : ∀ {ds : List PyData} {as : List Str}, toldAll x ds as = true → TLAll ds = true
  | [], _, _ => by simp [TLAll]
  | d :: ds, [], h => by simp [toldAll] at h
  | d :: ds, a :: as, h => by
    rw [toldAll, Bool.and_eq_true] at h
    rw [TLAll, told_TL ok (of_decide_eq_true h.1), told_TLAll ok h.2]; rfl
end
def trueD : PyData := .tuple [.str "true"]
theorem DpAll.snoc_inv {K : PySem.W.Frag} {H : Hp} {vs : List V} {es : List PyData} {d : PyData} (h : DpAll K H vs (es ++ [d])) : ∃ ws w, vs = ws ++ [w] ∧ DpAll K H ws es ∧ Dp K H w d := by
  have hl := h.len
  rw [List.length_append, List.length_singleton] at hl
  have h1 : DpAll K H (vs.take es.length) es := by
    have := DpAll.take es.length h
    rw [List.take_left] at this
    exact this
  have h2 : DpAll K H (vs.drop es.length) [d] := by
    have := DpAll.drop es.length h
    rw [List.drop_left] at this
    exact this
  obtain ⟨w, ws, e, hw, hws⟩ := DpAll.cons_inv h2
  have := DpAll.nil_inv hws
  subst this
  exact ⟨_, w, by rw [← e, List.take_append_drop], h1, hw⟩
def W1 (ds : List PyData) : Nat := PyData.weightAll ds
theorem W1_app : ∀ (a b : List PyData), W1 (a ++ b) = W1 a + W1 b
  | [], b => by simp [W1, PyData.weightAll]
  | d :: a, b => by
    have := W1_app a b
    unfold W1 at this ⊢
    rw [List.cons_append, PyData.weightAll, PyData.weightAll, this]; omega
theorem W1_rev (a : List PyData) : W1 a.reverse = W1 a := by
  induction a with
  | nil => rfl
  | cons d a ih =>
    rw [List.reverse_cons, W1_app, ih]
    unfold W1
    rw [PyData.weightAll, PyData.weightAll, PyData.weightAll]; omega
theorem kinds (d : PyData) : (∃ z ds, d = .tuple (.str z :: ds)) ∨ d = .tuple [] ∨ (∃ e ds, d = .tuple (e :: ds) ∧ isStrD e = false) ∨ isTupD d = false := by
  match d with
  | .tuple (.str z :: ds) => exact .inl ⟨z, ds, rfl⟩
  | .tuple (.none :: ds) => exact .inr (.inr (.inl ⟨_, ds, rfl, rfl⟩))
  | .tuple (.bool _ :: ds) => exact .inr (.inr (.inl ⟨_, ds, rfl, rfl⟩))
  | .tuple (.int _ :: ds) => exact .inr (.inr (.inl ⟨_, ds, rfl, rfl⟩))
  | .tuple (.list _ :: ds) => exact .inr (.inr (.inl ⟨_, ds, rfl, rfl⟩))
  | .tuple (.tuple _ :: ds) => exact .inr (.inr (.inl ⟨_, ds, rfl, rfl⟩))
  | .tuple (.dict _ :: ds) => exact .inr (.inr (.inl ⟨_, ds, rfl, rfl⟩))
  | .tuple [] => exact .inr (.inl rfl)
  | .none => exact .inr (.inr (.inr rfl))
  | .bool _ => exact .inr (.inr (.inr rfl))
  | .int _ => exact .inr (.inr (.inr rfl))
  | .str _ => exact .inr (.inr (.inr rfl))
  | .list _ => exact .inr (.inr (.inr rfl))
  | .dict _ => exact .inr (.inr (.inr rfl))
theorem layer_no1 {x : Lex} {d : PyData} (h : isTupD d = false) : layerF x d = none := by
  cases h2 : layerF x d with
  | none => rfl
  | some s => obtain ⟨z, ds, rfl, _⟩ := layer_inv h2; cases h
theorem layer_no2 {x : Lex} {e : PyData} {ds : List PyData} (h : isStrD e = false) : layerF x (.tuple (e :: ds)) = none := by
  cases h2 : layerF x (.tuple (e :: ds)) with
  | none => rfl
  | some s => obtain ⟨z, ds, e2, _⟩ := layer_inv h2; cases e2; cases h
theorem varSort_is (x : Lex) (d : PyData) : varSort x [d] = if isIn x.S d = true then (match d with | .str s => some s | _ => none) else none := by
  cases d with
  | str s => simp [varSort, isIn]
  | _ => simp [varSort, isIn]
theorem varSort_no {x : Lex} {ds : List PyData} (h : ds.length ≠ 1) : varSort x ds = none := by
  match ds, h with
  | [], _ => rfl
  | [_], h => exact absurd rfl h
  | _ :: _ :: _, _ => simp [varSort]
theorem cut_tail {e : PyData} {ds : List PyData} : cutP (e :: ds) (some 1) none = ds := by
  unfold cutP
  have h : HT.sIx (e :: ds).length 0 (some 1) = min 1 (e :: ds).length := HT.sIx_nat _ 0 1
  rw [h, HT.sIx_none, List.length_cons, show min 1 (ds.length + 1) = 1 by omega]
  exact List.take_of_length_le (by show ds.length ≤ _; omega)
theorem fitAll_of {x : Lex} : ∀ {ds : List PyData} {as : List Str}, ds.length = as.length → (∀ (j : Nat) (e : PyData) (s : Str), ds[j]? = some e → as[j]? = some s → layerF x e = some s) → fitAll x ds as = ds.all (fitF x)
  | [], [], _, _ => by simp [fitAll]
  | d :: ds, a :: as, hl, h => by
    rw [fitAll, h 0 d a rfl rfl, fitAll_of (by simpa using hl) (fun j e s h1 h2 => h (j + 1) e s (by simpa using h1) (by simpa using h2)), List.all_cons]
    simp
theorem fitAll_no {x : Lex} : ∀ {ds : List PyData} {as : List Str} {i : Nat} {e : PyData} {s : Str}, ds[i]? = some e → as[i]? = some s → layerF x e ≠ some s → fitAll x ds as = false
  | [], _, _, _, _, h, _, _ => by simp at h
  | _ :: _, [], _, _, _, _, h, _ => by simp at h
  | d :: ds, a :: as, 0, e, s, h1, h2, h3 => by
    simp at h1 h2
    subst h1; subst h2
    rw [fitAll, decide_eq_false h3]; rfl
  | d :: ds, a :: as, i + 1, e, s, h1, h2, h3 => by
    rw [fitAll, fitAll_no (i := i) (by simpa using h1) (by simpa using h2) h3, Bool.and_false]
theorem fit_tup {x : Lex} {z : Str} {ds : List PyData} {p : List Str × Str} (hc : capF z = false) (hp : fnd x.syms z = some p) : fitF x (.tuple (.str z :: ds)) = fitAll x ds p.1 := by
  rw [fitF, hc, hp]; rfl
theorem fit_var {x : Lex} {z : Str} {ds : List PyData} (hc : capF z = true) : fitF x (.tuple (.str z :: ds)) = true := by
  rw [fitF, hc]; rfl
theorem W1_cons (d : PyData) (ds : List PyData) : W1 (d :: ds) = d.weight + 1 + W1 ds := by
  unfold W1; rw [PyData.weightAll]
theorem W1_nil : W1 [] = 0 := by unfold W1; rw [PyData.weightAll]
theorem w_tup (ds : List PyData) : (PyData.tuple ds).weight = W1 ds := by rw [PyData.weight]; rfl
theorem term_none {x : Lex} (ok : RowsOk x.S x.rows) {d : PyData} (h : layerF x d = none) : termF x d = false ∧ atomF x d = false := by
  have e := told_eq ok d
  rw [h] at e
  have e2 : toldF x d = none := by rw [e]; split <;> rfl
  unfold termF atomF
  rw [e2]
  exact ⟨rfl, decide_eq_false (fun q => by cases q)⟩
theorem term_some {x : Lex} (ok : RowsOk x.S x.rows) {d : PyData} {s : Str} (h : layerF x d = some s) : termF x d = (decide (s ≠ ("truth" : Str)) && fitF x d) ∧ atomF x d = (decide (s = ("truth" : Str)) && fitF x d) := by
  have e := told_eq ok d
  rw [h] at e
  unfold termF atomF
  rw [e]
  cases fitF x d with
  | true =>
    rw [if_pos rfl, Bool.and_true, Bool.and_true]
    exact ⟨rfl, decide_eq_decide.mpr ⟨fun q => Option.some.inj q, fun q => by rw [q]⟩⟩
  | false =>
    rw [if_neg (by decide), Bool.and_false, Bool.and_false]
    exact ⟨rfl, decide_eq_false (fun q => by cases q)⟩
theorem dp_true {K : PySem.W.Frag} {H : Hp} {a : Addr} (h : SqT K H a [.str "true"]) : Dp K H (.ref a) trueD := .tup h (.cons (.str _) .nil)
theorem eqv_true {z : Str} {ds : List PyData} (h : z ≠ "true") : PyData.eqv (.tuple (.str z :: ds)) trueD = false := by
  unfold trueD
  rw [PyData.eqv, PyData.eqvAll, PyData.eqv, beq_false_of_ne h]
  rfl
theorem true_name : nameF "true" = false := by decide +kernel
theorem true_cap : capF "true" = false := by decide +kernel
theorem subs_var {z : Str} {ds : List PyData} (hc : capF z = true) : subsF (.tuple (.str z :: ds)) = [.tuple (.str z :: ds)] := by rw [subsF, hc]; rfl
theorem subs_fun {z : Str} {ds : List PyData} (hc : capF z = false) : subsF (.tuple (.str z :: ds)) = .tuple (.str z :: ds) :: subsAll ds := by rw [subsF, hc]; rfl
theorem subsAll_snoc {L : List PyData} {d : PyData} : subsAll (L ++ [d]).reverse = subsF d ++ subsAll L.reverse := by
  rw [List.reverse_append]
  show subsAll (d :: L.reverse) = _
  rw [subsAll]
def rowS : PyData → PyData
  | .str z => .tuple [.str z, .tuple []]
  | d => d
def rowF : PyData → PyData
  | .tuple [.str z, .tuple as, s] => .tuple [.str z, .tuple (as ++ [s])]
  | d => d
def headS : PyData → Str
  | .tuple (.str z :: _) => z
  | _ => ""
def sndD : PyData → PyData
  | .tuple (_ :: d :: _) => d
  | d => d
def trdD : PyData → PyData
  | .tuple (_ :: _ :: d :: _) => d
  | d => d
theorem rows_map (x : Lex) : (x.S.map PyData.str).map rowS ++ (x.F.map fD).map rowF ++ x.P.map pD = x.rows.map pD := by
  unfold Lex.rows
  rw [List.map_append, List.map_append, List.map_map, List.map_map, List.map_map, List.map_map]
  congr 1
  congr 1
  apply List.map_congr_left
  intro r _
  show PyData.tuple [.str r.1, .tuple (r.2.1.map PyData.str ++ [.str r.2.2])] = PyData.tuple [.str r.1, .tuple ((r.2.1 ++ [r.2.2]).map PyData.str)]
  rw [List.map_append]; rfl
theorem args_map (x : Lex) : ((x.F.map fD ++ x.P.map pD).map fun d => (headS d, sndD d)) = argsTab x := by
  unfold argsTab
  rw [List.map_append, List.map_map, List.map_map]
  rfl
theorem sort_map (x : Lex) : ((x.P.map pD).map fun d => (headS d, PyData.str "truth")) ++ ((x.F.map fD).map fun d => (headS d, trdD d)) = sortTab x := by
  unfold sortTab
  rw [List.map_map, List.map_map]
  rfl
theorem putF_len (f : Str) (v : V) : ∀ fs : List (Str × V), (putF f v fs).length ≤ fs.length + 1
  | [] => by show 1 ≤ 1; omega
  | (g, x) :: r => by
    show (if g = f then (g, v) :: r else (g, x) :: putF f v r).length ≤ _
    have := putF_len f v r
    split <;> simp only [List.length_cons] <;> omega
/-! drawn names -/
def T13 : List Str := ["all", "some", "not", "and", "or", "implies", "iff", "true", "false", "truth", "sort", "function", "axiom"]
theorem w13_map : W13 = T13.map V.str := rfl
theorem w13_in (z : Str) : inV (.str z) W13 = decide (z ∈ T13) := by rw [w13_map, inV_str]
theorem last_word {z : Str} {u : List Nat} {c : Nat} (hc : c = 113 ∨ c = 48) (h : z.cps.toList = u ++ [c]) : inV (.str z) W13 = false := by
  rw [w13_in]
  refine decide_eq_false fun hz => ?_
  have h2 : ∀ z ∈ T13, z.cps.toList.getLast? ≠ some 113 ∧ z.cps.toList.getLast? ≠ some 48 := by decide +kernel
  have h3 := h2 z hz
  rw [h, List.getLast?_append] at h3
  simp at h3
  rcases hc with rfl | rfl
  · exact h3.1 rfl
  · exact h3.2 rfl
theorem sm36 (i : Int) : ∃ c, atI smallL (i % 36) = some c ∧ c ∈ smallL := by
  obtain ⟨c, h⟩ := atI_mod (l := smallL) (i := i) (by decide +kernel)
  rw [show (smallL.length : Int) = 36 by decide +kernel] at h
  exact ⟨c, h, atI_mem h⟩
theorem at26 : ∀ k : Fin 26, atI smallL (k.val : Int) = some (97 + k.val) := by decide +kernel
theorem sm26 (i : Int) : atI smallL (i % 26) = some (97 + (i % 26).toNat) := by
  have h0 := Int.emod_nonneg i (show (26 : Int) ≠ 0 by decide)
  have h1 := Int.emod_lt_of_pos i (show (0 : Int) < 26 by decide)
  have := at26 ⟨(i % 26).toNat, by omega⟩
  rw [show (((⟨(i % 26).toNat, by omega⟩ : Fin 26).val : Nat) : Int) = i % 26 by show ((i % 26).toNat : Int) = _; omega] at this
  exact this
theorem let26 (i : Int) : 97 + (i % 26).toNat ∈ letL := by
  have h0 := Int.emod_nonneg i (show (26 : Int) ≠ 0 by decide)
  have h1 := Int.emod_lt_of_pos i (show (0 : Int) < 26 by decide)
  have h : ∀ k : Fin 26, 97 + k.val ∈ letL := by decide +kernel
  exact h ⟨(i % 26).toNat, by omega⟩
theorem let_small : ∀ c ∈ letL, c ∈ smallL := by decide +kernel
theorem q_small : 113 ∈ smallL := by decide +kernel
theorem o_small : 48 ∈ smallL := by decide +kernel
structure NearN (z : Str) (at' : Nat) (c : Nat) : Prop where
  len : 1 ≤ z.length ∧ z.length ≤ 8
  hd : ∃ b r, z.cps.toList = b :: r ∧ b ∈ letL
  sm : ∀ b ∈ z.cps.toList, b ∈ smallL
  pl : z.cps.toList[at']? = some c
  lq : z.length ≤ 7 ∨ inV (.str z) W13 = false
theorem NearN.name {z : Str} {a c : Nat} (h : NearN z a c) (hw : inV (.str z) W13 = false) : nameF z = true := by
  obtain ⟨b, r, e, hb⟩ := h.hd
  unfold nameF
  rw [hw, plainF_yes h.len.1 h.len.2]
  unfold headIn
  rw [e]
  have h2 : (r.all fun c => decide (c ∈ smallL)) = true := List.all_eq_true.mpr fun d hd => decide_eq_true (h.sm d (by rw [e]; exact List.mem_cons_of_mem _ hd))
  show ((r.all fun c => decide (c ∈ smallL)) && (decide (b ∈ letL) && !false)) = true
  rw [h2, decide_eq_true hb]; rfl
theorem NearN.add {z w : Str} {a c e : Nat} (h : NearN z a c) (hl : z.length ≤ 7) (hw : w.cps.toList = z.cps.toList ++ [e]) (he : e = 113 ∨ e = 48) : NearN w a c ∧ inV (.str w) W13 = false := by
  have hlw : w.length = z.length + 1 := by rw [← len_l, hw, List.length_append, len_l]; rfl
  have hnw := last_word he hw
  refine ⟨⟨⟨by omega, by omega⟩, ?_, ?_, ?_, .inr hnw⟩, hnw⟩
  · obtain ⟨b, r, e2, hb⟩ := h.hd
    exact ⟨b, r ++ [e], by rw [hw, e2]; rfl, hb⟩
  · intro b hb
    rw [hw] at hb
    rcases List.mem_append.mp hb with hb | hb
    · exact h.sm b hb
    · rw [List.mem_singleton] at hb; subst hb
      rcases he with rfl | rfl
      · exact q_small
      · exact o_small
  · rw [hw, List.getElem?_append_left (List.getElem?_eq_some_iff.mp h.pl).1]; exact h.pl
theorem near_of {z base : Str} {a c : Nat} (hz : z.cps.toList = base.cps.toList.take a ++ [c] ++ base.cps.toList.drop a) (ha : a ≤ base.length) (hb : base.length ≤ 6) (hc : c ∈ letL) (hs : ∀ b ∈ base.cps.toList, b ∈ smallL) (hh : ∀ b r, base.cps.toList = b :: r → b ∈ letL) : NearN z a c ∧ z.length ≤ 7 := by
  have hbl := len_l base
  have hlz : z.length = base.length + 1 := by
    rw [← len_l, hz, List.length_append, List.length_append, List.length_take, List.length_drop]
    simp only [List.length_singleton]; omega
  refine ⟨⟨⟨by omega, by omega⟩, ?_, ?_, ?_, .inl (by omega)⟩, by omega⟩
  · cases a with
    | zero => exact ⟨c, base.cps.toList, by rw [hz]; rfl, hc⟩
    | succ n =>
      cases e : base.cps.toList with
      | nil => rw [e] at hbl; simp at hbl; omega
      | cons b r => exact ⟨b, _, by rw [hz, e]; rfl, hh b r e⟩
  · intro b hb2
    rw [hz] at hb2
    rcases List.mem_append.mp hb2 with hb2 | hb2
    · rcases List.mem_append.mp hb2 with hb2 | hb2
      · exact hs b (List.mem_of_mem_take hb2)
      · rw [List.mem_singleton] at hb2; subst hb2; exact let_small _ hc
    · exact hs b (List.mem_of_mem_drop hb2)
  · rw [hz, List.append_assoc, List.getElem?_append_right (by rw [List.length_take]; omega)]
    rw [List.length_take, show a - min a base.cps.toList.length = 0 by omega]
    rfl
def steps12 : List Int := [1, 3, 5, 7, 9, 11, 15, 17, 19, 21, 23, 25]
theorem step_inj {s : Int} (hs : s ∈ steps12) {i j : Nat} {b : Int} (hi : i < 26) (hj : j < 26) (h : (((i : Int) * s + b) % 26).toNat = (((j : Int) * s + b) % 26).toNat) : i = j := by
  have h1 : ((i : Int) * s + b) % 26 = ((j : Int) * s + b) % 26 := by
    have a1 := Int.emod_nonneg ((i : Int) * s + b) (show (26 : Int) ≠ 0 by decide)
    have a2 := Int.emod_nonneg ((j : Int) * s + b) (show (26 : Int) ≠ 0 by decide)
    omega
  simp only [steps12, List.mem_cons, List.not_mem_nil, or_false] at hs
  rcases hs with rfl | rfl | rfl | rfl | rfl | rfl | rfl | rfl | rfl | rfl | rfl | rfl <;> omega
theorem names_nodup {ns : List Str} {a : Nat} {f : Nat → Nat} (h : ∀ (k : Nat) (z : Str), ns[k]? = some z → z.cps.toList[a]? = some (f k)) (hf : ∀ i j, i < ns.length → j < ns.length → f i = f j → i = j) : ns.Nodup := by
  show List.Pairwise (· ≠ ·) ns
  rw [List.pairwise_iff_getElem]
  intro i j hi hj hij e
  have h1 := h i _ (List.getElem?_eq_getElem hi)
  have h2 := h j _ (List.getElem?_eq_getElem hj)
  rw [← e, h1] at h2
  have := hf i j hi hj (Option.some.inj h2)
  omega
theorem cutV_len {xs : List V} {lo hi : Int} (h0 : 0 ≤ lo) (h1 : lo ≤ hi) (h2 : lo ≤ (xs.length : Int)) : (cutV xs (some lo) (some hi)).length ≤ (hi - lo).toNat := by
  obtain ⟨i, rfl⟩ : ∃ k : Nat, lo = (k : Int) := ⟨lo.toNat, by omega⟩
  obtain ⟨j, rfl⟩ : ∃ k : Nat, hi = (k : Int) := ⟨hi.toNat, by omega⟩
  unfold cutV
  rw [HT.sIx_nat, HT.sIx_nat, List.length_take]
  omega
theorem cap26 (i : Int) : ∃ c, atI capL (i % 26) = some c ∧ c ∈ capL := by
  obtain ⟨c, h⟩ := atI_mod (l := capL) (i := i) (by decide +kernel)
  rw [show (capL.length : Int) = 26 by decide +kernel] at h
  exact ⟨c, h, atI_mem h⟩
theorem var_of {t : Str} {c : Nat} {r : List Nat} (e : t.cps.toList = c :: r) (hc : c ∈ capL) (hr : ∀ b ∈ r, b ∈ smallL) (hl : t.length ≤ 8) : varF t = true := by
  have h1 : 1 ≤ t.length := by rw [← len_l, e]; simp
  unfold varF
  rw [plainF_yes h1 hl]
  unfold headIn
  rw [e]
  have h2 : (r.all fun c => decide (c ∈ smallL)) = true := List.all_eq_true.mpr fun d hd => decide_eq_true (hr d hd)
  show ((r.all fun c => decide (c ∈ smallL)) && decide (c ∈ capL)) = true
  rw [h2, decide_eq_true hc]; rfl
theorem var_inv {t : Str} (h : varF t = true) : ∃ c r, t.cps.toList = c :: r ∧ c ∈ capL ∧ (∀ b ∈ r, b ∈ smallL) ∧ t.length ≤ 8 := by
  unfold varF at h
  rw [Bool.and_eq_true] at h
  have hl := plain_len h.1
  obtain ⟨c, r, ez, _⟩ := head_of hl.1
  have h2 := plainF_yes hl.1 hl.2
  rw [h.1, ez] at h2
  have h3 := h.2
  unfold headIn at h3
  rw [ez] at h3
  exact ⟨c, r, ez, of_decide_eq_true h3, fun b hb => of_decide_eq_true (List.all_eq_true.mp h2.symm b hb), hl.2⟩
theorem var_add {t w : Str} {e : Nat} (h : varF t = true) (hl : t.length ≤ 7) (hw : w.cps.toList = t.cps.toList ++ [e]) (he : e ∈ smallL) : varF w = true := by
  obtain ⟨c, r, ez, hc, hr, _⟩ := var_inv h
  have hlw : w.length = t.length + 1 := by rw [← len_l, hw, List.length_append, len_l]; rfl
  refine var_of (c := c) (r := r ++ [e]) (by rw [hw, ez]; rfl) hc (fun b hb => ?_) (by omega)
  rcases List.mem_append.mp hb with hb | hb
  · exact hr b hb
  · rw [List.mem_singleton] at hb; subst hb; exact he
structure LexOk (x : Lex) : Prop where
  ok : RowsOk x.S x.rows
  fl : ∀ r ∈ x.F, r.2.1.length ≤ 3
  pl : ∀ r ∈ x.P, r.2.length ≤ 3
  nF : x.F.length ≤ 10
  nP : x.P.length ≤ 10
  nS : x.S.length ≤ 4
def tabA : List Int := [1, 2, 1, 3, 2, 4, 1, 2]
def tabB : List Int := [2, 1, 3, 4, 5, 6, 3, 2, 4, 10, 3, 8, 2, 5, 1, 0]
def tabC : List Int := [1, 0, 2, 3, 4, 2, 1, 3, 10, 2, 6, 1, 2, 3, 5, 1]
def tabF' : List Int := [0, 1, 2, 0, 1, 3, 0, 2]
def tabP' : List Int := [1, 2, 0, 1, 3, 1, 2, 0]
theorem DigOk.drop {ds ss : List Int} (h : DigOk ds ss) (n : Nat) : DigOk (ds.drop n) (ss.drop n) := by
  refine ⟨by rw [List.length_drop, List.length_drop, h.1], fun j d s hd hs => ?_⟩
  rw [List.getElem?_drop] at hd hs
  exact h.2 _ d s hd hs
theorem cut_drop {xs : List V} {n : Nat} (h : n ≤ xs.length) : cutV xs (some (n : Int)) none = xs.drop n := by
  unfold cutV
  rw [HT.sIx_nat, HT.sIx_none, show min n xs.length = n by omega]
  exact List.take_of_length_le (by rw [List.length_drop]; exact Nat.le_refl _)
theorem cut_take {xs : List V} {n : Nat} (h : n ≤ xs.length) : cutV xs none (some (n : Int)) = xs.take n := by
  unfold cutV
  rw [HT.sIx_nat, HT.sIx_none, List.drop_zero, Nat.sub_zero, show min n xs.length = n by omega]
def headS14 : List Int := [8, 16, 16, 12, 26, 7, 7, 2, 36, 36, 36, 36, 36, 36]
theorem app3 {ns S A B : List Str} (hS : S = ns.take S.length) (hA : ∀ (j : Nat) (z : Str), A[j]? = some z → ns[S.length + j]? = some z) (hB : ∀ (j : Nat) (z : Str), B[j]? = some z → ns[S.length + A.length + j]? = some z) (hl : ns.length = S.length + A.length + B.length) : S ++ A ++ B = ns := by
  apply List.ext_getElem?
  intro j
  by_cases h1 : j < S.length
  · rw [List.append_assoc, List.getElem?_append_left h1, hS, List.getElem?_take_of_lt h1]
  · by_cases h2 : j < S.length + A.length
    · rw [List.getElem?_append_left (by rw [List.length_append]; exact h2), List.getElem?_append_right (by omega)]
      have h3 : A[j - S.length]? = some (A[j - S.length]'(by omega)) := List.getElem?_eq_getElem (by omega)
      have h4 := hA _ _ h3
      rw [h3, ← h4, show S.length + (j - S.length) = j by omega]
    · rw [List.getElem?_append_right (by rw [List.length_append]; omega), List.length_append]
      by_cases h5 : j < S.length + A.length + B.length
      · have h3 : B[j - (S.length + A.length)]? = some (B[j - (S.length + A.length)]'(by omega)) := List.getElem?_eq_getElem (by omega)
        have h4 := hB _ _ h3
        rw [h3, ← h4, show S.length + A.length + (j - (S.length + A.length)) = j by omega]
      · rw [List.getElem?_eq_none_iff.mpr (by omega), List.getElem?_eq_none_iff.mpr (by omega)]
theorem lex_ok {x : Lex} {ns : List Str} (hnd : ns.Nodup) (hnn : ∀ n ∈ ns, nameF n = true) (hS : x.S = ns.take x.S.length) (hF : ∀ (j : Nat) (r : Str × List Str × Str), x.F[j]? = some r → ns[x.S.length + j]? = some r.1 ∧ r.2.1.length ≤ 3 ∧ (∀ s ∈ r.2.1, s ∈ x.S) ∧ r.2.2 ∈ x.S)
    (hP : ∀ (j : Nat) (r : Str × List Str), x.P[j]? = some r → ns[x.S.length + x.F.length + j]? = some r.1 ∧ r.2.length ≤ 3 ∧ ∀ s ∈ r.2, s ∈ x.S) (hl : ns.length = x.S.length + x.F.length + x.P.length) (h0 : x.S.length ≤ 4) (h1 : x.F.length ≤ 10) (h2 : x.P.length ≤ 10) : LexOk x := by
  have hF' : ∀ r ∈ x.F, r.2.1.length ≤ 3 ∧ (∀ s ∈ r.2.1, s ∈ x.S) ∧ r.2.2 ∈ x.S := fun r hr => by
    obtain ⟨j, hj⟩ := List.getElem?_of_mem hr
    exact (hF j r hj).2
  have hP' : ∀ r ∈ x.P, r.2.length ≤ 3 ∧ ∀ s ∈ r.2, s ∈ x.S := fun r hr => by
    obtain ⟨j, hj⟩ := List.getElem?_of_mem hr
    exact (hP j r hj).2
  have e : x.rows.map (·.1) = ns := by
    have e1 : x.rows.map (·.1) = x.S ++ x.F.map (·.1) ++ x.P.map (·.1) := by
      unfold Lex.rows
      rw [List.map_append, List.map_append, List.map_map, List.map_map]
      congr 1
      congr 1
      exact List.map_id' x.S
    rw [e1]
    refine app3 hS (fun j z h => ?_) (fun j z h => ?_) (by rw [List.length_map, List.length_map]; exact hl)
    · rw [List.getElem?_map] at h
      cases hr : x.F[j]? with
      | none => rw [hr] at h; cases h
      | some r => rw [hr] at h; cases h; exact (hF j r hr).1
    · rw [List.getElem?_map] at h
      rw [List.length_map]
      cases hr : x.P[j]? with
      | none => rw [hr] at h; cases h
      | some r => rw [hr] at h; cases h; exact (hP j r hr).1
  have hrows : ∀ r ∈ x.rows, (∀ s ∈ r.2, s ∈ x.S) ∧ r.2.length ≤ 4 := fun r hr => by
    unfold Lex.rows at hr
    rcases List.mem_append.mp hr with hr | hr
    · rcases List.mem_append.mp hr with hr | hr
      · obtain ⟨s, _, rfl⟩ := List.mem_map.mp hr
        exact ⟨fun s h => (by cases h), Nat.zero_le _⟩
      · obtain ⟨f, hf, rfl⟩ := List.mem_map.mp hr
        obtain ⟨a, b, c⟩ := hF' f hf
        refine ⟨fun s h => ?_, by rw [List.length_append, List.length_singleton]; omega⟩
        rcases List.mem_append.mp h with h | h
        · exact b s h
        · rw [List.mem_singleton] at h; subst h; exact c
    · obtain ⟨a, b⟩ := hP' r hr
      exact ⟨b, by omega⟩
  refine ⟨⟨?_, by omega, by rw [e]; exact hnd, fun r hr => hnn _ (by rw [← e]; exact List.mem_map.mpr ⟨r, hr, rfl⟩), fun r hr => (hrows r hr).1, fun r hr => by have := (hrows r hr).2; omega⟩, fun r hr => (hF' r hr).1, fun r hr => (hP' r hr).1, h1, h2, h0⟩
  have := congrArg List.length e
  rw [List.length_map] at this
  omega
def oneStr : List PyData → Bool
  | [.str _] => true
  | _ => false
mutual
/-- the shape of a term that was told -/
def SyF : PyData → Bool
  | .tuple (.str z :: ds) => if capF z = true then oneStr ds else SyAll ds
  | _ => false
def SyAll : List PyData → Bool
  | [] => true
  | d :: ds => SyF d && SyAll ds
end
mutual
theorem told_Sy {x : Lex} (ok : RowsOk x.S x.rows) : ∀ {d : PyData} {s : Str}, toldF x d = some s → SyF d = true
  | .tuple (.str z :: ds), s, h => by
    obtain ⟨z', ds', e, h2⟩ := told_inv h
    cases e
    rw [SyF]
    rcases h2 with ⟨h1, h3, _⟩ | ⟨_, p, h1, h2, _⟩
    · rw [if_pos (var_cap h1), h3]; rfl
    · rw [name_cap (syms_name ok h1)]
      show SyAll ds = true
      exact told_SyAll ok h2
  | .tuple (.none :: _), _, h => by simp [toldF] at h
  | .tuple (.bool _ :: _), _, h => by simp [toldF] at h
  | .tuple (.int _ :: _), _, h => by simp [toldF] at h
  | .tuple (.list _ :: _), _, h => by simp [toldF] at h
  | .tuple (.tuple _ :: _), _, h => by simp [toldF] at h
  | .tuple (.dict _ :: _), _, h => by simp [toldF] at h
  | .tuple [], _, h => by simp [toldF] at h
  | .none, _, h => by simp [toldF] at h
  | .bool _, _, h => by simp [toldF] at h
  | .int _, _, h => by simp [toldF] at h
  | .str _, _, h => by simp [toldF] at h
  | .list _, _, h => by simp [toldF] at h
  | .dict _, _, h => by simp [toldF] at h
theorem told_SyAll {x : Lex} (ok : RowsOk x.S x.rows) : ∀ {ds : List PyData} {as : List Str}, toldAll x ds as = true → SyAll ds = true
  | [], _, _ => by simp [SyAll]
  | d :: ds, [], h => by simp [toldAll] at h
  | d :: ds, a :: as, h => by
    rw [toldAll, Bool.and_eq_true] at h
    rw [SyAll, told_Sy ok (of_decide_eq_true h.1), told_SyAll ok h.2]; rfl
end
theorem SyAll_iff : ∀ {ds : List PyData}, SyAll ds = true ↔ ∀ d ∈ ds, SyF d = true
  | [] => by simp [SyAll]
  | d :: ds => by
    rw [SyAll, Bool.and_eq_true, SyAll_iff (ds := ds)]
    simp
theorem Sy_inv {d : PyData} (h : SyF d = true) : ∃ z ds, d = .tuple (.str z :: ds) ∧ ((capF z = true ∧ ∃ s, ds = [.str s]) ∨ (capF z = false ∧ SyAll ds = true)) := by
  rcases kinds d with ⟨z, ds, rfl⟩ | rfl | ⟨e, ds, rfl, he⟩ | hT
  · refine ⟨z, ds, rfl, ?_⟩
    rw [SyF] at h
    rcases Bool.eq_false_or_eq_true (capF z) with hc | hc
    · rw [if_pos hc] at h
      left
      refine ⟨hc, ?_⟩
      match ds, h with
      | [.str s], _ => exact ⟨s, rfl⟩
    · rw [hc] at h
      exact .inr ⟨hc, h⟩
  · simp [SyF] at h
  · cases e <;> first | (simp [SyF] at h; done) | cases he
  · cases d <;> first | (simp [SyF] at h; done) | cases hT
theorem subsAll_len (ds : List PyData) : (subsAll ds).length = (ds.map fun d => (subsF d).length).sum := by
  induction ds with
  | nil => rfl
  | cons d ds ih => rw [subsAll, List.length_append, List.map_cons, List.sum_cons, ih]
theorem sum_cast (l : List Nat) : (l.map fun (n : Nat) => (n : Int)).sum = (l.sum : Int) := by
  induction l with
  | nil => rfl
  | cons a l ih => rw [List.map_cons, List.sum_cons, List.sum_cons, ih]; omega
theorem told_fun {x : Lex} {z : Str} {ds : List PyData} {p : List Str × Str} (hv : varF z = false) (hp : fnd x.syms z = some p) : toldF x (.tuple (.str z :: ds)) = if toldAll x ds p.1 = true then some p.2 else none := by
  rw [toldF, hv, hp]; rfl
theorem toldAll_of {x : Lex} : ∀ {ds : List PyData} {as : List Str}, ds.length = as.length → (∀ (j : Nat) (e : PyData) (s : Str), ds[j]? = some e → as[j]? = some s → toldF x e = some s) → toldAll x ds as = true
  | [], [], _, _ => by simp [toldAll]
  | d :: ds, a :: as, hl, h => by
    rw [toldAll, h 0 d a rfl rfl, toldAll_of (by simpa using hl) (fun j e s h1 h2 => h (j + 1) e s (by simpa using h1) (by simpa using h2))]
    simp
def LexAt (K : PySem.W.Frag) (H : Hp) (l : Addr) (x : Lex) : Prop := ∃ (a b c : Addr) (fs ps : List V), H l = some (.lst [.ref a, .ref b, .ref c]) ∧ H a = some (.lst (x.S.map V.str)) ∧ H b = some (.lst fs) ∧ DpAll K H fs (x.F.map fD) ∧ H c = some (.lst ps) ∧ DpAll K H ps (x.P.map pD)
theorem LexAt.mono {K : PySem.W.Frag} {H H' : Hp} {l : Addr} {x : Lex} (e : Xt H H') (h : LexAt K H l x) : LexAt K H' l x := by
  obtain ⟨a, b, c, fs, ps, h1, h2, h3, h4, h5, h6⟩ := h
  exact ⟨a, b, c, fs, ps, e _ _ h1, e _ _ h2, e _ _ h3, DpAll.mono e h4, e _ _ h5, DpAll.mono e h6⟩
def itemF : PyData → List Nat → Option PyData
  | d, [] => some d
  | .tuple ds, k :: r => match ds[k]? with
    | some e => itemF e r
    | none => none
  | _, _ :: _ => none
def pathD (l : List Nat) : PyData := .tuple (l.map fun (k : Nat) => PyData.int (k : Int))
theorem cutP_to {ds : List PyData} {k : Nat} (h : k ≤ ds.length) : cutP ds none (some (k : Int)) = ds.take k := by
  unfold cutP
  rw [HT.sIx_nat, HT.sIx_none, List.drop_zero, Nat.sub_zero, show min k ds.length = k by omega]
theorem cutP_fr {ds : List PyData} {k : Nat} (h : k ≤ ds.length) : cutP ds (some (k : Int)) none = ds.drop k := by
  unfold cutP
  rw [HT.sIx_nat, HT.sIx_none, show min k ds.length = k by omega]
  exact List.take_of_length_le (by rw [List.length_drop]; exact Nat.le_refl _)
/-! drawn terms -/
def varD (p : Str × Str) : PyData := .tuple [.str p.1, .str p.2]
structure VarsOk (x : Lex) (vl : List (Str × Str)) : Prop where
  vs : ∀ p ∈ vl, varF p.1 = true ∧ p.2 ∈ x.S
  all : ∀ s ∈ x.S, ∃ p ∈ vl, p.2 = s
  len : vl.length ≤ 8
structure Bd (k W : Nat) (d : PyData) : Prop where
  as : AsD d = true
  dp : d.depth ≤ k
  wt : d.weight ≤ W
theorem Bd.sm {k W : Nat} {d : PyData} (h : Bd k W d) (hW : W ≤ 5000000) : Sm k d := ⟨h.as, h.dp, Nat.le_trans h.wt hW⟩
theorem Bd.up {k W k' W' : Nat} {d : PyData} (h : Bd k W d) (hk : k ≤ k') (hW : W ≤ W') : Bd k' W' d := ⟨h.as, Nat.le_trans h.dp hk, Nat.le_trans h.wt hW⟩
def wB : Nat → Nat
  | 0 => 18
  | n + 1 => 12 + 3 * wB n
theorem wB_le : ∀ {n m : Nat}, n ≤ m → wB n ≤ wB m := fun {n m} h => by
  induction h with
  | refl => exact Nat.le_refl _
  | step _ ih => rw [wB]; omega
structure Tm (x : Lex) (n : Nat) (s : Str) (d : PyData) : Prop where
  td : toldF x d = some s
  bd : Bd (n + 1) (wB n) d
theorem Tm.up {x : Lex} {n m : Nat} {s : Str} {d : PyData} (h : Tm x n s d) (hm : n ≤ m) : Tm x m s d := ⟨h.td, h.bd.up (by omega) (wB_le hm)⟩
theorem var_asc {z : Str} (h : varF z = true) : ascS z = true ∧ 1 ≤ z.length ∧ z.length ≤ 8 := by
  obtain ⟨c, r, ez, hc, hr, hl⟩ := var_inv h
  have h1 : 1 ≤ z.length := by rw [← len_l, ez]; simp
  refine ⟨?_, h1, hl⟩
  unfold ascS
  rw [ez, List.all_cons, Bool.and_eq_true]
  have a1 : ∀ x ∈ capL, x < 128 := by decide +kernel
  exact ⟨decide_eq_true (a1 c hc), List.all_eq_true.mpr fun b hb => decide_eq_true (small_asc b (hr b hb))⟩
theorem name_len {z : Str} (h : nameF z = true) : 1 ≤ z.length ∧ z.length ≤ 8 := plain_len (name_plain h)
theorem bd_str {z : Str} {W : Nat} (h : ascS z = true) (hl : z.length ≤ W) : Bd 0 W (.str z) := ⟨by simpa [AsD] using h, by rw [PyData.depth]; exact Nat.le_refl _, by rw [PyData.weight]; exact hl⟩
theorem bd_tup {k B : Nat} {ds : List PyData} (h : ∀ d ∈ ds, AsD d = true ∧ d.depth ≤ k) (hW : W1 ds ≤ B) : Bd (k + 1) B (.tuple ds) := by
  refine ⟨?_, ?_, by rw [w_tup]; exact hW⟩
  · rw [AsD]; exact asAll_iff.mpr fun d hd => (h d hd).1
  · rw [PyData.depth]
    have : ∀ ds : List PyData, (∀ d ∈ ds, AsD d = true ∧ d.depth ≤ k) → PyData.depthAll ds ≤ k := by
      intro ds
      induction ds with
      | nil => intro _; rw [PyData.depthAll]; exact Nat.zero_le _
      | cons d ds ih =>
        intro h
        rw [PyData.depthAll]
        have h1 := (h d (List.mem_cons_self ..)).2
        have h2 := ih fun e he => h e (List.mem_cons_of_mem _ he)
        omega
    have := this ds h
    omega
theorem w_str (z : Str) : (PyData.str z).weight = z.length := by rw [PyData.weight]; rfl
theorem tm_var {x : Lex} {p : Str × Str} (ok : RowsOk x.S x.rows) (hv : varF p.1 = true) (hs : p.2 ∈ x.S) : Tm x 0 p.2 (varD p) := by
  have a := var_asc hv
  have b := sort_name ok hs
  have c := name_len b
  refine ⟨?_, bd_tup (k := 0) (fun d hd => ?_) ?_⟩
  · unfold varD
    rw [toldF, if_pos hv]
    show (if p.2 ∈ x.S then some p.2 else none) = some p.2
    rw [if_pos hs]
  · rcases List.mem_cons.mp hd with rfl | hd
    · exact ⟨(bd_str a.1 (Nat.le_refl _)).as, (bd_str a.1 (Nat.le_refl _)).dp⟩
    · rw [List.mem_singleton] at hd; subst hd
      exact ⟨(bd_str (name_asc b) (Nat.le_refl _)).as, (bd_str (name_asc b) (Nat.le_refl _)).dp⟩
  · rw [W1_cons, W1_cons, W1_nil, w_str, w_str]
    show _ ≤ 18
    omega
theorem F_syms {x : Lex} {r : Str × List Str × Str} (h : r ∈ x.F) : r ∈ x.syms := List.mem_append_left _ h
theorem P_syms {x : Lex} {r : Str × List Str} (h : r ∈ x.P) : (r.1, r.2, ("truth" : Str)) ∈ x.syms := List.mem_append_right _ (List.mem_map.mpr ⟨r, h, rfl⟩)
theorem told_sym {x : Lex} (ok : RowsOk x.S x.rows) {r : Str × List Str × Str} (hr : r ∈ x.syms) {ds : List PyData} (hl : ds.length = r.2.1.length) (h : ∀ (j : Nat) (e : PyData) (s : Str), ds[j]? = some e → r.2.1[j]? = some s → toldF x e = some s) : toldF x (.tuple (.str r.1 :: ds)) = some r.2.2 := by
  have hf : fnd x.syms r.1 = some r.2 := fnd_of (syms_nd ok) hr
  rw [told_fun (name_var (syms_name ok hf)) hf, toldAll_of hl h, if_pos rfl]
theorem bd_sym {x : Lex} (ok : RowsOk x.S x.rows) {r : Str × List Str × Str} (hr : r ∈ x.syms) {k B : Nat} {ds : List PyData} (h : ∀ d ∈ ds, AsD d = true ∧ d.depth ≤ k) (hW : W1 ds ≤ B) : Bd (k + 1) (9 + B) (.tuple (.str r.1 :: ds)) := by
  have hn := syms_name ok (fnd_of (syms_nd ok) hr)
  have hl := name_len hn
  refine bd_tup (fun d hd => ?_) ?_
  · rcases List.mem_cons.mp hd with rfl | hd
    · exact ⟨(bd_str (name_asc hn) (Nat.le_refl _)).as, Nat.le_trans (bd_str (name_asc hn) (Nat.le_refl _)).dp (Nat.zero_le _)⟩
    · exact h d hd
  · rw [W1_cons, w_str]; omega
def secD : PyData → PyData
  | .tuple (_ :: d :: _) => d
  | d => d
def isS (s : Str) : PyData → Bool
  | .str z => decide (z = s)
  | _ => false
def lenD : PyData → Nat
  | .tuple ds => ds.length
  | _ => 0
def varT (s : Str) (d : PyData) : Bool := isS s (sndD d)
def conT (s : Str) (d : PyData) : Bool := isS s (trdD d) && decide (lenD (sndD d) = 0)
def funT (s : Str) (d : PyData) : Bool := isS s (trdD d) && decide (0 < lenD (sndD d))
theorem varT_var (s : Str) (p : Str × Str) : varT s (varD p) = decide (p.2 = s) := rfl
theorem conT_fD (s : Str) (r : Str × List Str × Str) : conT s (fD r) = (decide (r.2.2 = s) && decide (r.2.1.length = 0)) := by
  show (decide (r.2.2 = s) && decide ((r.2.1.map PyData.str).length = 0)) = _
  rw [List.length_map]
theorem funT_fD (s : Str) (r : Str × List Str × Str) : funT s (fD r) = (decide (r.2.2 = s) && decide (0 < r.2.1.length)) := by
  show (decide (r.2.2 = s) && decide (0 < (r.2.1.map PyData.str).length)) = _
  rw [List.length_map]
def OptD (x : Lex) (s : Str) (deep : Int) (o : PyData) : Prop := (∃ p : Str × Str, o = varD p ∧ varF p.1 = true ∧ p.2 ∈ x.S ∧ p.2 = s) ∨ ∃ r ∈ x.F, o = fD r ∧ r.2.2 = s ∧ (r.2.1 = [] ∨ 0 < deep)
theorem opt_var {x : Lex} {s : Str} {deep : Int} {vl : List (Str × Str)} (vok : VarsOk x vl) {o : PyData} (h : o ∈ (vl.map varD).filter (varT s)) : OptD x s deep o := by
  obtain ⟨h1, h2⟩ := List.mem_filter.mp h
  obtain ⟨p, hp, rfl⟩ := List.mem_map.mp h1
  rw [varT_var] at h2
  exact .inl ⟨p, rfl, (vok.vs p hp).1, (vok.vs p hp).2, of_decide_eq_true h2⟩
theorem opt_ne {x : Lex} {s : Str} {vl : List (Str × Str)} (vok : VarsOk x vl) (hs : s ∈ x.S) : (vl.map varD).filter (varT s) ≠ [] := by
  obtain ⟨p, hp, e⟩ := vok.all s hs
  have : varD p ∈ (vl.map varD).filter (varT s) := List.mem_filter.mpr ⟨List.mem_map.mpr ⟨p, hp, rfl⟩, by rw [varT_var]; exact decide_eq_true e⟩
  exact List.ne_nil_of_mem this
theorem opt_con {x : Lex} {s : Str} {deep : Int} {o : PyData} (h : o ∈ (x.F.map fD).filter (conT s)) : OptD x s deep o := by
  obtain ⟨h1, h2⟩ := List.mem_filter.mp h
  obtain ⟨r, hr, rfl⟩ := List.mem_map.mp h1
  rw [conT_fD, Bool.and_eq_true] at h2
  exact .inr ⟨r, hr, rfl, of_decide_eq_true h2.1, .inl (List.length_eq_zero_iff.mp (of_decide_eq_true h2.2))⟩
theorem opt_fun {x : Lex} {s : Str} {deep : Int} (hd : 0 < deep) {o : PyData} (h : o ∈ (x.F.map fD).filter (funT s)) : OptD x s deep o := by
  obtain ⟨h1, h2⟩ := List.mem_filter.mp h
  obtain ⟨r, hr, rfl⟩ := List.mem_map.mp h1
  rw [funT_fD, Bool.and_eq_true] at h2
  exact .inr ⟨r, hr, rfl, of_decide_eq_true h2.1, .inr hd⟩
theorem mod_dat {K : PySem.W.Frag} {H : Hp} {ys : List V} {os : List PyData} (i : Int) (h : DpAll K H ys os) (hne : os ≠ []) : 0 < (ys.length : Int) ∧ ∃ c o, atI ys (i % (ys.length : Int)) = some c ∧ o ∈ os ∧ Dp K H c o := by
  have hl := h.len
  have hp : 0 < os.length := List.length_pos_iff.mpr hne
  obtain ⟨c, hc, hg⟩ := atI_ok (l := ys) (i := i % (ys.length : Int)) (Int.emod_nonneg _ (by omega)) (Int.emod_lt_of_pos _ (by omega))
  obtain ⟨o, ho, hd⟩ := DpAll.getV h hg
  exact ⟨by omega, c, o, hc, List.mem_of_getElem? ho, hd⟩
theorem mod_int {ds : List Int} (i : Int) (h : 0 < ds.length) : 0 < ((ds.map V.int).length : Int) ∧ ∃ n, atI (ds.map V.int) (i % ((ds.map V.int).length : Int)) = some (.int n) := by
  rw [List.length_map]
  obtain ⟨n, hn, _⟩ := atI_int (ns := ds) (i := i % (ds.length : Int)) (Int.emod_nonneg _ (by omega)) (Int.emod_lt_of_pos _ (by omega))
  exact ⟨by omega, n, hn⟩
theorem W1_all {B : Nat} : ∀ {es : List PyData}, (∀ e ∈ es, e.weight ≤ B) → W1 es ≤ es.length * (B + 1)
  | [], _ => by rw [W1_nil]; exact Nat.zero_le _
  | e :: es, h => by
    rw [W1_cons, List.length_cons, Nat.add_mul]
    have := h e (List.mem_cons_self ..)
    have := W1_all (es := es) fun e he => h e (List.mem_cons_of_mem _ he)
    omega
theorem wB_18 (n : Nat) : 18 ≤ wB n := by
  have := wB_le (Nat.zero_le n)
  have e : wB 0 = 18 := rfl
  omega
theorem tm_mk {x : Lex} {n : Nat} (ok : RowsOk x.S x.rows) {r : Str × List Str × Str} (hr : r ∈ x.syms) {es : List PyData} (hl : es.length = r.2.1.length) (h3 : r.2.1.length ≤ 3) (h : ∀ (j : Nat) (e : PyData) (s : Str), es[j]? = some e → r.2.1[j]? = some s → Tm x (n - 1) s e) (hn : r.2.1 = [] ∨ 1 ≤ n) : Tm x n r.2.2 (.tuple (.str r.1 :: es)) := by
  have hm : ∀ e ∈ es, ∃ s, Tm x (n - 1) s e := fun e he => by
    obtain ⟨j, hj⟩ := List.getElem?_of_mem he
    have hjl := (List.getElem?_eq_some_iff.mp hj).1
    exact ⟨_, h j e _ hj (List.getElem?_eq_getElem (by omega))⟩
  refine ⟨told_sym ok hr hl fun j e s h1 h2 => (h j e s h1 h2).td, ?_⟩
  rcases hn with hn | hn
  · rw [hn] at hl
    have : es = [] := List.length_eq_zero_iff.mp hl
    subst this
    refine (bd_sym ok hr (k := 0) (B := 0) (fun d hd => by cases hd) (by rw [W1_nil]; exact Nat.le_refl _)).up (by omega) ?_
    have := wB_18 n
    omega
  · refine (bd_sym ok hr (k := n) (B := 3 * (wB (n - 1) + 1)) (fun d hd => ?_) ?_).up (Nat.le_refl _) ?_
    · obtain ⟨s, t⟩ := hm d hd
      exact ⟨t.bd.as, Nat.le_trans t.bd.dp (by omega)⟩
    · have h1 := W1_all (B := wB (n - 1)) fun e he => (by obtain ⟨s, t⟩ := hm e he; exact t.bd.wt)
      have h2 : es.length * (wB (n - 1) + 1) ≤ 3 * (wB (n - 1) + 1) := Nat.mul_le_mul_right _ (by omega)
      omega
    · obtain ⟨m, rfl⟩ : ∃ m, n = m + 1 := ⟨n - 1, by omega⟩
      rw [Nat.add_sub_cancel, wB]; omega
theorem arg_sort {x : Lex} (ok : RowsOk x.S x.rows) {r : Str × List Str × Str} (hr : r ∈ x.syms) {s : Str} (hs : s ∈ r.2.1) : s ∈ x.S := by
  unfold Lex.syms at hr
  rcases List.mem_append.mp hr with hr | hr
  · exact ok.ws (r.1, r.2.1 ++ [r.2.2]) (by unfold Lex.rows; exact List.mem_append_left _ (List.mem_append_right _ (List.mem_map.mpr ⟨r, hr, rfl⟩))) s (List.mem_append_left _ hs)
  · obtain ⟨q, hq, rfl⟩ := List.mem_map.mp hr
    exact ok.ws q (by unfold Lex.rows; exact List.mem_append_right _ hq) s hs
theorem F_sort {x : Lex} (ok : RowsOk x.S x.rows) {r : Str × List Str × Str} (hr : r ∈ x.F) : r.2.2 ∈ x.S :=
  ok.ws (r.1, r.2.1 ++ [r.2.2]) (by unfold Lex.rows; exact List.mem_append_left _ (List.mem_append_right _ (List.mem_map.mpr ⟨r, hr, rfl⟩))) r.2.2 (List.mem_append_right _ (List.mem_singleton.mpr rfl))
theorem sym_len {x : Lex} (lok : LexOk x) {r : Str × List Str × Str} (hr : r ∈ x.syms) : r.2.1.length ≤ 3 := by
  unfold Lex.syms at hr
  rcases List.mem_append.mp hr with hr | hr
  · exact lok.fl r hr
  · obtain ⟨q, hq, rfl⟩ := List.mem_map.mp hr
    exact lok.pl q hq
def argT (d : PyData) : Bool := decide (0 < lenD (sndD d))
theorem argT_fD (r : Str × List Str × Str) : argT (fD r) = decide (0 < r.2.1.length) := by
  show decide (0 < (r.2.1.map PyData.str).length) = _
  rw [List.length_map]
def WayOk (K : PySem.W.Frag) (H : Hp) (x : Lex) (s : Str) (D : Addr) (z : V) : Prop := ∃ (q : Addr) (w : V) (j : Nat) (f : Str × List Str × Str), z = .ref q ∧ q ≠ D ∧ H q = some (.lst [w, .int j]) ∧ Dp K H w (fD f) ∧ f ∈ x.F ∧ f.2.1[j]? = some s
theorem WayOk.mono {K : PySem.W.Frag} {H H' : Hp} {x : Lex} {s : Str} {D : Addr} {z : V} (e : Xt H H') (h : WayOk K H x s D z) : WayOk K H' x s D z := by
  obtain ⟨q, w, j, f, h1, h2, h3, h4, h5, h6⟩ := h
  exact ⟨q, w, j, f, h1, h2, e _ _ h3, Dp.mono e h4, h5, h6⟩
theorem WayOk.upd {K : PySem.W.Frag} {H : Hp} {x : Lex} {s : Str} {D : Addr} {z : V} {zs : List V} {o : HO} (e : H D = some (.lst zs)) (h : WayOk K H x s D z) : WayOk K (L2.upd H D o) x s D z := by
  obtain ⟨q, w, j, f, h1, h2, h3, h4, h5, h6⟩ := h
  exact ⟨q, w, j, f, h1, h2, by rw [upd_ne h2]; exact h3, Dp.im (fun a zs h => SqT.upd e h) (im_fD f) h4, h5, h6⟩
theorem told_wrap {x : Lex} (ok : RowsOk x.S x.rows) {f : Str × List Str × Str} (hf : f ∈ x.F) {es : List PyData} (hl : es.length = f.2.1.length) (h : ∀ (j : Nat) (e : PyData) (s : Str), es[j]? = some e → f.2.1[j]? = some s → toldF x e = some s) : toldF x (.tuple (.str f.1 :: es)) = some f.2.2 := told_sym ok (F_syms hf) hl h
theorem mod_str {S : List Str} (i : Int) (h : S ≠ []) : 0 < ((S.map V.str).length : Int) ∧ ∃ s, atI (S.map V.str) (i % ((S.map V.str).length : Int)) = some (.str s) ∧ s ∈ S := by
  have hp : 0 < (S.map V.str).length := by rw [List.length_map]; exact List.length_pos_iff.mpr h
  obtain ⟨c, hc⟩ := atI_mod (l := S.map V.str) (i := i) hp
  obtain ⟨s, hs, rfl⟩ := List.mem_map.mp (atI_mem hc)
  exact ⟨by omega, s, hc, hs⟩
def leafD (s : Str) : PyData := .tuple [.str "X", .str s]
def leafF : PyData → PyData := fun d => .tuple [.str "X", d]
structure Pa (k W : Nat) (es : List PyData) : Prop where
  as : ∀ e ∈ es, AsD e = true ∧ e.depth ≤ k
  wt : W1 es ≤ W
theorem Pa.bd {k W : Nat} {es : List PyData} (h : Pa k W es) : Bd (k + 1) W (.tuple es) := bd_tup h.as h.wt
theorem Pa.app {k W W' : Nat} {a b : List PyData} (h : Pa k W a) (h2 : Pa k W' b) : Pa k (W + W') (a ++ b) := by
  refine ⟨fun e he => ?_, by rw [W1_app]; have := h.wt; have := h2.wt; omega⟩
  rcases List.mem_append.mp he with he | he
  · exact h.as e he
  · exact h2.as e he
theorem W1_drop_le (ds : List PyData) (k : Nat) : W1 (ds.drop k) ≤ W1 ds := by
  have := W1_app (ds.take k) (ds.drop k)
  rw [List.take_append_drop] at this
  omega
theorem W1_tk_le (ds : List PyData) (k : Nat) : W1 (ds.take k) ≤ W1 ds := by
  have := W1_app (ds.take k) (ds.drop k)
  rw [List.take_append_drop] at this
  omega
theorem Pa.cut {k W : Nat} {es : List PyData} {lo hi : Option Int} (h : Pa k W es) : Pa k W (cutP es lo hi) := by
  unfold cutP
  refine ⟨fun e he => h.as e (List.mem_of_mem_drop (List.mem_of_mem_take he)), Nat.le_trans (W1_tk_le _ _) (Nat.le_trans (W1_drop_le _ _) h.wt)⟩
theorem Pa.one {k W : Nat} {d : PyData} (h : Bd k W d) : Pa k (W + 1) [d] := ⟨fun e he => by rw [List.mem_singleton] at he; subst he; exact ⟨h.as, h.dp⟩, by rw [W1_cons, W1_nil]; have := h.wt; omega⟩
theorem Pa.nil {k : Nat} : Pa k 0 [] := ⟨(fun e he => by cases he), (by rw [W1_nil]; exact Nat.le_refl _)⟩
theorem Pa.cons {k W W' : Nat} {d : PyData} {es : List PyData} (h : Bd k W d) (h2 : Pa k W' es) : Pa k (W + 1 + W') (d :: es) := Pa.app (Pa.one h) h2
theorem Pa.up {k W k' W' : Nat} {es : List PyData} (h : Pa k W es) (hk : k ≤ k') (hW : W ≤ W') : Pa k' W' es := ⟨fun e he => ⟨(h.as e he).1, Nat.le_trans (h.as e he).2 hk⟩, Nat.le_trans h.wt hW⟩
theorem bd_sk {z : Str} {k W : Nat} (h : ascS z = true) (hl : z.length ≤ W) : Bd k W (.str z) := (bd_str h hl).up (Nat.zero_le _) (Nat.le_refl _)
structure Nm (z : Str) : Prop where
  as : ascS z = true
  ln : z.length ≤ 8
theorem Nm.bd {z : Str} {k : Nat} (h : Nm z) : Bd k 8 (.str z) := bd_sk h.as h.ln
theorem pick_dat0 {K : PySem.W.Frag} {H : Hp} {ys : List V} {os : List PyData} {i : Int} (h : DpAll K H ys os) (h0 : 0 ≤ i) (h1 : i < (os.length : Int)) : ∃ c o, atI ys i = some c ∧ o ∈ os ∧ Dp K H c o := by
  have hl := h.len
  obtain ⟨c, hc, hg⟩ := atI_ok (l := ys) (i := i) h0 (by omega)
  obtain ⟨o, ho, hd⟩ := DpAll.getV h hg
  exact ⟨c, o, hc, List.mem_of_getElem? ho, hd⟩
/-! parts exchanged -/
def varsL (a b : Str) (S : List Str) : List (Str × Str) := S.flatMap fun s => [(a, s), (b, s)]
theorem varsL_len (a b : Str) (S : List Str) : (varsL a b S).length = 2 * S.length := by
  unfold varsL
  induction S with
  | nil => rfl
  | cons s S ih => rw [List.flatMap_cons, List.length_append, ih, List.length_cons]; simp only [List.length_cons, List.length_nil]; omega
theorem varsL_ok {x : Lex} {a b : Str} (ha : varF a = true) (hb : varF b = true) (h4 : x.S.length ≤ 4) : VarsOk x (varsL a b x.S) := by
  refine ⟨fun p hp => ?_, fun s hs => ?_, by rw [varsL_len]; omega⟩
  · obtain ⟨s, hs, hp⟩ := List.mem_flatMap.mp hp
    simp only [List.mem_cons, List.not_mem_nil, or_false] at hp
    rcases hp with rfl | rfl
    · exact ⟨ha, hs⟩
    · exact ⟨hb, hs⟩
  · exact ⟨(a, s), List.mem_flatMap.mpr ⟨s, hs, by simp⟩, rfl⟩
theorem varsL_take {a b : Str} {S : List Str} {i : Nat} {s : Str} (h : S[i]? = some s) : varsL a b (S.take (i + 1)) = varsL a b (S.take i) ++ [(a, s), (b, s)] := by
  unfold varsL
  rw [List.take_add_one, h, List.flatMap_append]
  rfl
/-! tests of law -/
theorem DigOk.take {ds ss : List Int} (h : DigOk ds ss) (n : Nat) : DigOk (ds.take n) (ss.take n) := by
  refine ⟨by rw [List.length_take, List.length_take, h.1], fun j d s hd hs => ?_⟩
  rw [List.getElem?_take] at hd hs
  by_cases hj : j < n
  · rw [if_pos hj] at hd hs
    exact h.2 j d s hd hs
  · rw [if_neg hj] at hd; cases hd
/-! the two lexicons of law -/
theorem dp_mem {K : PySem.W.Frag} {H : Hp} {vs : List V} {ds : List PyData} {v : V} (h : DpAll K H vs ds) (hv : v ∈ vs) : ∃ d ∈ ds, Dp K H v d := by
  obtain ⟨i, hi⟩ := List.getElem?_of_mem hv
  obtain ⟨d, hd, hp⟩ := DpAll.getV h hi
  exact ⟨d, List.mem_of_getElem? hd, hp⟩
structure VAt (K : PySem.W.Frag) (H7 H : Hp) (pv pb : Addr) (bk : List V) (vs : List V) : Prop where
  x : Xt H7 H
  eb : H pb = some (.lst bk)
  ev : H pv = some (.lst vs)
  dat : ∃ ds, DpAll K H vs ds ∧ ∀ d ∈ ds, Sm 45 d
theorem VAt.mono {K : PySem.W.Frag} {H7 H H' : Hp} {pv pb : Addr} {bk vs : List V} (h : VAt K H7 H pv pb bk vs) (e : Xt H H') : VAt K H7 H' pv pb bk vs := by
  obtain ⟨ds, h1, h2⟩ := h.dat
  exact ⟨xtr h.x e, e _ _ h.eb, e _ _ h.ev, ds, DpAll.mono e h1, h2⟩
theorem VAt.app {K : PySem.W.Frag} {H7 H : Hp} {pv pb : Addr} {bk vs : List V} (h : VAt K H7 H pv pb bk vs) (hpv : H7 pv = none) (hne : pb ≠ pv) {v : V} {d : PyData} (hv : Dp K H v d) (hs : Sm 45 d) : VAt K H7 (upd H pv (.lst (vs ++ [v]))) pv pb bk (vs ++ [v]) := by
  obtain ⟨ds, h1, h2⟩ := h.dat
  refine ⟨xmut h.x hpv, by rw [upd_ne hne]; exact h.eb, upd_same, ds ++ [d], ?_, fun e he => ?_⟩
  · have him : ImAll ds = true := imAll_iff.mpr fun e he => (h2 e he).im
    exact DpAll.app (DpAll.im (fun a zs q => SqT.upd h.ev q) him h1) (.cons (Dp.im (fun a zs q => SqT.upd h.ev q) hs.im hv) .nil)
  · rcases List.mem_append.mp he with he | he
    · exact h2 e he
    · rw [List.mem_singleton] at he; subst he; exact hs
theorem VAt.at {K : PySem.W.Frag} {H7 H : Hp} {pv pb : Addr} {bk vs : List V} (h : VAt K H7 H pv pb bk vs) {i : Int} (h0 : 0 ≤ i) (h1 : i < (vs.length : Int)) : ∃ v, atI vs i = some v ∧ ∃ d, Sm 45 d ∧ Dp K H v d := by
  obtain ⟨ds, hd, hs⟩ := h.dat
  obtain ⟨c, o, hc, ho, hp⟩ := pick_dat0 hd h0 (by have := hd.len; omega)
  exact ⟨c, hc, o, hs o ho, hp⟩
theorem VAt.mem {K : PySem.W.Frag} {H7 H : Hp} {pv pb : Addr} {bk vs : List V} (h : VAt K H7 H pv pb bk vs) {v : V} (hv : v ∈ vs) : ∃ d, Dp K H v d ∧ Sm 45 d := by
  obtain ⟨ds, hd, hs⟩ := h.dat
  obtain ⟨d, h1, h2⟩ := dp_mem hd hv
  exact ⟨d, h2, hs d h1⟩
def PathsAt (K : PySem.W.Frag) (H : Hp) (ys : List V) (d : PyData) (l0 : List Nat) : Prop := ∀ y ∈ ys, ∃ (l : List Nat) (es : List PyData), Dp K H y (pathD (l0 ++ l)) ∧ itemF d l = some (.tuple es)
theorem PathsAt.mono {K : PySem.W.Frag} {H H' : Hp} {ys : List V} {d : PyData} {l0 : List Nat} (e : Xt H H') (h : PathsAt K H ys d l0) : PathsAt K H' ys d l0 := fun y hy => by
  obtain ⟨l, es, h1, h2⟩ := h y hy
  exact ⟨l, es, Dp.mono e h1, h2⟩
theorem PathsAt.app {K : PySem.W.Frag} {H : Hp} {ys zs : List V} {ds ds' : List PyData} {l0 : List Nat} {k : Nat} (h : PathsAt K H ys (.tuple ds) l0) (hk : ds[k]? = some (.tuple ds')) (h2 : PathsAt K H zs (.tuple ds') (l0 ++ [k])) : PathsAt K H (ys ++ zs) (.tuple ds) l0 := fun y hy => by
  rcases List.mem_append.mp hy with hy | hy
  · exact h y hy
  · obtain ⟨l, es, h3, h4⟩ := h2 y hy
    refine ⟨k :: l, es, ?_, ?_⟩
    · rw [List.append_assoc] at h3
      exact h3
    · rw [itemF, hk]; exact h4
theorem path_snoc (l : List Nat) (k : Nat) : PyData.tuple ((l.map fun (k : Nat) => PyData.int (k : Int)) ++ [.int (k : Int)]) = pathD (l ++ [k]) := by
  unfold pathD
  rw [List.map_append]; rfl
theorem W1_take_le (ds : List PyData) (k : Nat) : W1 (ds.take k) ≤ W1 ds := by
  have := W1_app (ds.take k) (ds.drop k)
  rw [List.take_append_drop] at this
  omega
/-! places in terms -/
mutual
def placesF : PyData → List Nat → List (List Nat × PyData)
  | .tuple (.str z :: ds), sp => (sp, .tuple (.str z :: ds)) :: (if capF z then [] else placesAll ds sp 0)
  | d, sp => [(sp, d)]
def placesAll : List PyData → List Nat → Nat → List (List Nat × PyData)
  | [], _, _ => []
  | d :: ds, sp, k => placesF d (sp ++ [k]) ++ placesAll ds sp (k + 1)
end
def partF : PyData → List Nat → Option PyData
  | d, [] => some d
  | .tuple (.str z :: ds), k :: l => if capF z then none else match ds[k]? with
    | some e => partF e l
    | none => none
  | _, _ :: _ => none
def putF3 : PyData → List Nat → PyData → PyData
  | _, [], e => e
  | .tuple (.str z :: ds), k :: l, e => match ds[k]? with
    | some c => .tuple (.str z :: ds.set k (putF3 c l e))
    | none => .tuple (.str z :: ds)
  | d, _ :: _, _ => d
theorem part_cons {z : Str} {ds : List PyData} {k : Nat} {l : List Nat} {e : PyData} (h : partF (.tuple (.str z :: ds)) (k :: l) = some e) : capF z = false ∧ ∃ c, ds[k]? = some c ∧ partF c l = some e := by
  rw [partF] at h
  split at h
  · cases h
  · rename_i hz
    refine ⟨by simpa using hz, ?_⟩
    cases hc : ds[k]? with
    | none => rw [hc] at h; cases h
    | some c => rw [hc] at h; exact ⟨c, rfl, h⟩
theorem part_form {d : PyData} {k : Nat} {l : List Nat} {e : PyData} (h : partF d (k :: l) = some e) : ∃ z ds, d = .tuple (.str z :: ds) := by
  unfold partF at h
  split at h
  · rename_i h2; cases h2
  · exact ⟨_, _, rfl⟩
  · cases h
theorem part_put {e : PyData} : ∀ {l : List Nat} {d c : PyData}, partF d l = some c → partF (putF3 d l e) l = some e
  | [], d, c, _ => by rw [putF3, partF]
  | k :: l, d, c, h => by
    obtain ⟨z, ds, rfl⟩ := part_form h
    obtain ⟨hz, b, hb, h2⟩ := part_cons h
    have hk : k < ds.length := (List.getElem?_eq_some_iff.mp hb).1
    rw [putF3, hb]
    show partF (.tuple (.str z :: ds.set k (putF3 b l e))) (k :: l) = some e
    rw [partF, if_neg (by rw [hz]; decide), List.getElem?_set_self hk]
    exact part_put h2
theorem put_part : ∀ {l : List Nat} {d c : PyData}, partF d l = some c → putF3 d l c = d
  | [], d, c, h => by
    rw [partF] at h
    rw [putF3]; exact (Option.some.inj h).symm
  | k :: l, d, c, h => by
    obtain ⟨z, ds, rfl⟩ := part_form h
    obtain ⟨hz, b, hb, h2⟩ := part_cons h
    rw [putF3, hb]
    show PyData.tuple (.str z :: ds.set k (putF3 b l c)) = _
    rw [put_part h2]
    obtain ⟨hk, hg⟩ := List.getElem?_eq_some_iff.mp hb
    rw [← hg, List.set_getElem_self]
theorem put_put {e e2 : PyData} : ∀ {l : List Nat} {d c : PyData}, partF d l = some c → putF3 (putF3 d l e) l e2 = putF3 d l e2
  | [], d, c, _ => by rw [putF3, putF3]
  | k :: l, d, c, h => by
    obtain ⟨z, ds, rfl⟩ := part_form h
    obtain ⟨hz, b, hb, h2⟩ := part_cons h
    have hk : k < ds.length := (List.getElem?_eq_some_iff.mp hb).1
    rw [putF3, hb]
    show putF3 (.tuple (.str z :: ds.set k (putF3 b l e))) (k :: l) e2 = _
    rw [putF3, List.getElem?_set_self hk, putF3, hb]
    show PyData.tuple (.str z :: (ds.set k (putF3 b l e)).set k (putF3 (putF3 b l e) l e2)) = .tuple (.str z :: ds.set k (putF3 b l e2))
    rw [put_put h2, List.set_set]
mutual
theorem places_part : ∀ (d : PyData) (sp : List Nat) (q : List Nat × PyData), q ∈ placesF d sp → ∃ l, q.1 = sp ++ l ∧ partF d l = some q.2
  | .tuple (.str z :: ds), sp, q, h => by
    rw [placesF] at h
    rcases List.mem_cons.mp h with rfl | h
    · exact ⟨[], (List.append_nil _).symm, by rw [partF]⟩
    · cases hz : capF z with
      | true => rw [hz, if_pos rfl] at h; cases h
      | false =>
        rw [hz, if_neg (by decide)] at h
        obtain ⟨j, l, c, hj, e1, e2⟩ := placesAll_part ds sp 0 q h
        refine ⟨j :: l, by rw [e1, Nat.zero_add], ?_⟩
        rw [partF, if_neg (by rw [hz]; decide), hj]; exact e2
  | .none, sp, q, h => by rw [placesF] at h; cases List.mem_singleton.mp h; exact ⟨[], (List.append_nil _).symm, by rw [partF]⟩; all_goals (intro _ _ e; cases e)
  | .bool b, sp, q, h => by rw [placesF] at h; cases List.mem_singleton.mp h; exact ⟨[], (List.append_nil _).symm, by rw [partF]⟩; all_goals (intro _ _ e; cases e)
  | .int i, sp, q, h => by rw [placesF] at h; cases List.mem_singleton.mp h; exact ⟨[], (List.append_nil _).symm, by rw [partF]⟩; all_goals (intro _ _ e; cases e)
  | .str i, sp, q, h => by rw [placesF] at h; cases List.mem_singleton.mp h; exact ⟨[], (List.append_nil _).symm, by rw [partF]⟩; all_goals (intro _ _ e; cases e)
  | .list i, sp, q, h => by rw [placesF] at h; cases List.mem_singleton.mp h; exact ⟨[], (List.append_nil _).symm, by rw [partF]⟩; all_goals (intro _ _ e; cases e)
  | .dict i, sp, q, h => by rw [placesF] at h; cases List.mem_singleton.mp h; exact ⟨[], (List.append_nil _).symm, by rw [partF]⟩; all_goals (intro _ _ e; cases e)
  | .tuple [], sp, q, h => by rw [placesF] at h; cases List.mem_singleton.mp h; exact ⟨[], (List.append_nil _).symm, by rw [partF]⟩; all_goals (intro _ _ e; cases e)
  | .tuple (.none :: _), sp, q, h => by rw [placesF] at h; cases List.mem_singleton.mp h; exact ⟨[], (List.append_nil _).symm, by rw [partF]⟩; all_goals (intro _ _ e; cases e)
  | .tuple (.bool _ :: _), sp, q, h => by rw [placesF] at h; cases List.mem_singleton.mp h; exact ⟨[], (List.append_nil _).symm, by rw [partF]⟩; all_goals (intro _ _ e; cases e)
  | .tuple (.int _ :: _), sp, q, h => by rw [placesF] at h; cases List.mem_singleton.mp h; exact ⟨[], (List.append_nil _).symm, by rw [partF]⟩; all_goals (intro _ _ e; cases e)
  | .tuple (.list _ :: _), sp, q, h => by rw [placesF] at h; cases List.mem_singleton.mp h; exact ⟨[], (List.append_nil _).symm, by rw [partF]⟩; all_goals (intro _ _ e; cases e)
  | .tuple (.dict _ :: _), sp, q, h => by rw [placesF] at h; cases List.mem_singleton.mp h; exact ⟨[], (List.append_nil _).symm, by rw [partF]⟩; all_goals (intro _ _ e; cases e)
  | .tuple (.tuple _ :: _), sp, q, h => by rw [placesF] at h; cases List.mem_singleton.mp h; exact ⟨[], (List.append_nil _).symm, by rw [partF]⟩; all_goals (intro _ _ e; cases e)
theorem placesAll_part : ∀ (ds : List PyData) (sp : List Nat) (k : Nat) (q : List Nat × PyData), q ∈ placesAll ds sp k → ∃ j l c, ds[j]? = some c ∧ q.1 = sp ++ ((k + j) :: l) ∧ partF c l = some q.2
  | [], sp, k, q, h => by rw [placesAll] at h; cases h
  | d :: ds, sp, k, q, h => by
    rw [placesAll] at h
    rcases List.mem_append.mp h with h | h
    · obtain ⟨l, e1, e2⟩ := places_part d (sp ++ [k]) q h
      exact ⟨0, l, d, rfl, by rw [e1, List.append_assoc]; rfl, e2⟩
    · obtain ⟨j, l, c, hj, e1, e2⟩ := placesAll_part ds sp (k + 1) q h
      exact ⟨j + 1, l, c, hj, by rw [e1, show k + 1 + j = k + (j + 1) by omega], e2⟩
end
/-! trees: what terms, atoms and the truth are -/
structure Tree (k W : Nat) (d : PyData) : Prop where
  tl : TL d = true
  sy : SyF d = true
  bd : Bd k W d
def capD : PyData → Bool
  | .tuple (.str z :: _) => capF z
  | _ => false
theorem Tree.up {k W k' W' : Nat} {d : PyData} (h : Tree k W d) (hk : k ≤ k') (hW : W ≤ W') : Tree k' W' d := ⟨h.tl, h.sy, h.bd.up hk hW⟩
theorem Tree.sm {k W : Nat} {d : PyData} (h : Tree k W d) (hW : W ≤ 5000000) : Sm k d := h.bd.sm hW
theorem Tree.inv {k W : Nat} {d : PyData} (h : Tree k W d) : ∃ z ds k', d = .tuple (.str z :: ds) ∧ k = k' + 1 ∧ 1 ≤ z.length ∧ z.length ≤ W ∧ ds.length ≤ W ∧ ((capF z = true ∧ ∃ s, ds = [.str s]) ∨ (capF z = false ∧ ∀ e ∈ ds, Tree k' W e)) := by
  obtain ⟨z, ds, rfl, h1, h2⟩ := TL_inv h.tl
  obtain ⟨z', ds', e, h3⟩ := Sy_inv h.sy
  cases e
  have hd := h.bd.dp
  have hw := h.bd.wt
  have ha := h.bd.as
  rw [PyData.depth] at hd
  rw [w_tup, W1_cons, w_str] at hw
  rw [AsD] at ha
  obtain ⟨k', rfl⟩ : ∃ k', k = k' + 1 := ⟨k - 1, by omega⟩
  have hl := len_weight (ds := ds)
  refine ⟨z, ds, k', rfl, rfl, h1, by omega, by unfold W1 at hw; omega, ?_⟩
  rcases h3 with h3 | ⟨hc, hs⟩
  · exact .inl h3
  · refine .inr ⟨hc, fun e he => ?_⟩
    have ht : TLAll ds = true := by
      rcases h2 with h2 | h2
      · rw [hc] at h2; cases h2
      · exact h2
    refine ⟨TLAll_iff.mp ht e he, SyAll_iff.mp hs e he, asAll_iff.mp ha e (List.mem_cons_of_mem _ he), ?_, ?_⟩
    · have := depth_mem (ds := PyData.str z :: ds) (List.mem_cons_of_mem _ he)
      omega
    · have := weight_mem he
      unfold W1 at hw
      omega
theorem Tree.part : ∀ {l : List Nat} {d c : PyData} {k W : Nat}, Tree k W d → partF d l = some c → Tree (k - l.length) W c ∧ l.length + 1 ≤ k
  | [], d, c, k, W, h, hp => by
    rw [partF] at hp
    cases hp
    obtain ⟨z, ds, k', rfl, rfl, _⟩ := h.inv
    exact ⟨h, by show 0 + 1 ≤ _; omega⟩
  | j :: l, d, c, k, W, h, hp => by
    obtain ⟨z, ds, k', rfl, rfl, _, _, _, h2⟩ := h.inv
    obtain ⟨hz, b, hb, hp2⟩ := part_cons hp
    rcases h2 with ⟨hc, _⟩ | ⟨_, h2⟩
    · rw [hz] at hc; cases hc
    · obtain ⟨h3, h4⟩ := Tree.part (h2 b (List.mem_of_getElem? hb)) hp2
      rw [List.length_cons, Nat.add_sub_add_right]
      exact ⟨h3, by omega⟩
theorem W1_set : ∀ {ds : List PyData} {k : Nat} {b v : PyData}, ds[k]? = some b → W1 (ds.set k v) + b.weight = W1 ds + v.weight
  | [], _, _, _, h => by simp at h
  | d :: ds, 0, b, v, h => by
    simp at h
    subst h
    rw [List.set_cons_zero, W1_cons, W1_cons]; omega
  | d :: ds, k + 1, b, v, h => by
    have := W1_set (ds := ds) (k := k) (b := b) (v := v) (by simpa using h)
    rw [List.set_cons_succ, W1_cons, W1_cons]; omega
theorem depth_set : ∀ {ds : List PyData} {k m : Nat} {v : PyData}, PyData.depthAll ds ≤ m → v.depth ≤ m → PyData.depthAll (ds.set k v) ≤ m
  | [], _, _, _, h, _ => by simpa using h
  | d :: ds, 0, m, v, h, hv => by
    rw [PyData.depthAll] at h
    rw [List.set_cons_zero, PyData.depthAll]
    omega
  | d :: ds, k + 1, m, v, h, hv => by
    rw [PyData.depthAll] at h
    have := depth_set (ds := ds) (k := k) (m := m) (v := v) (by omega) hv
    rw [List.set_cons_succ, PyData.depthAll]
    omega
theorem put_eq {z : Str} {ds : List PyData} {j : Nat} {l : List Nat} {b e : PyData} (h : ds[j]? = some b) : putF3 (.tuple (.str z :: ds)) (j :: l) e = .tuple (.str z :: ds.set j (putF3 b l e)) := by rw [putF3, h]
theorem Tree.put {e : PyData} {m W2 : Nat} (he : Tree m W2 e) : ∀ {l : List Nat} {d c : PyData} {k W : Nat}, Tree k W d → partF d l = some c → Tree (max k (l.length + m)) (W + W2) (putF3 d l e)
  | [], d, c, k, W, h, hp => by
    rw [putF3]
    exact he.up (by show m ≤ max k (0 + m); omega) (by omega)
  | j :: l, d, c, k, W, h, hp => by
    have hw0 := h.bd.wt
    have has := h.bd.as
    obtain ⟨z, ds, k', rfl, rfl, hz1, hzW, _, h2⟩ := h.inv
    obtain ⟨hz, b, hb, hp2⟩ := part_cons hp
    rcases h2 with ⟨hc, _⟩ | ⟨_, h2⟩
    · rw [hz] at hc; cases hc
    have hb' := h2 b (List.mem_of_getElem? hb)
    have hbw : Tree k' b.weight b := ⟨hb'.tl, hb'.sy, hb'.bd.as, hb'.bd.dp, Nat.le_refl _⟩
    have ih := Tree.put he hbw hp2
    have hs := W1_set (v := putF3 b l e) hb
    have hiw := ih.bd.wt
    rw [w_tup, W1_cons, w_str] at hw0
    rw [put_eq hb]
    have hall : ∀ f ∈ ds.set j (putF3 b l e), TL f = true ∧ SyF f = true ∧ AsD f = true := fun f hf => by
      rcases List.mem_or_eq_of_mem_set hf with hf | rfl
      · have := h2 f hf
        exact ⟨this.tl, this.sy, this.bd.as⟩
      · exact ⟨ih.tl, ih.sy, ih.bd.as⟩
    refine ⟨?_, ?_, ?_, ?_, ?_⟩
    · rw [TL, decide_eq_true hz1, TLAll_iff.mpr fun f hf => (hall f hf).1]; simp
    · rw [SyF, hz]
      show SyAll _ = true
      exact SyAll_iff.mpr fun f hf => (hall f hf).2.1
    · rw [AsD] at has ⊢
      refine asAll_iff.mpr fun f hf => ?_
      rcases List.mem_cons.mp hf with rfl | hf
      · exact asAll_iff.mp has _ (List.mem_cons_self ..)
      · exact (hall f hf).2.2
    · have hd := h.bd.dp
      rw [PyData.depth, PyData.depthAll] at hd
      rw [PyData.depth, PyData.depthAll]
      have h5 := depth_set (ds := ds) (k := j) (m := max k' (l.length + m)) (v := putF3 b l e) (by omega) ih.bd.dp
      have h6 : (PyData.str z).depth = 0 := by rw [PyData.depth]
      rw [List.length_cons]
      omega
    · rw [w_tup, W1_cons, w_str]; omega
theorem toldAll_set {x : Lex} : ∀ {ds : List PyData} {as : List Str} {k : Nat} {b v : PyData}, ds[k]? = some b → toldF x v = toldF x b → toldAll x (ds.set k v) as = toldAll x ds as
  | [], _, _, _, _, h, _ => by simp at h
  | d :: ds, [], k, _, _, _, _ => by cases k <;> simp [toldAll]
  | d :: ds, a :: as, 0, b, v, h, e => by
    simp at h
    subst h
    rw [List.set_cons_zero, toldAll, toldAll, e]
  | d :: ds, a :: as, k + 1, b, v, h, e => by
    rw [List.set_cons_succ, toldAll, toldAll, toldAll_set (ds := ds) (k := k) (by simpa using h) e]
theorem told_put {x : Lex} {e : PyData} : ∀ {l : List Nat} {d c : PyData}, partF d l = some c → toldF x e = toldF x c → toldF x (putF3 d l e) = toldF x d
  | [], d, c, h, he => by
    rw [partF] at h
    cases h
    rw [putF3]; exact he
  | j :: l, d, c, h, he => by
    obtain ⟨z, ds, rfl⟩ := part_form h
    obtain ⟨hz, b, hb, h2⟩ := part_cons h
    have hv : ¬ varF z = true := fun q => by rw [var_cap q] at hz; cases hz
    rw [put_eq hb, toldF, toldF, if_neg hv, if_neg hv]
    cases fnd x.syms z with
    | none => rfl
    | some p =>
      show (if _ then _ else _) = (if _ then _ else _)
      rw [toldAll_set hb (told_put h2 he)]
theorem toldAll_get {x : Lex} : ∀ {ds : List PyData} {as : List Str} {k : Nat} {b : PyData}, toldAll x ds as = true → ds[k]? = some b → ∃ t, as[k]? = some t ∧ toldF x b = some t
  | [], _, _, _, _, h => by simp at h
  | d :: ds, [], _, _, h, _ => by simp [toldAll] at h
  | d :: ds, a :: as, 0, b, h, hb => by
    simp at hb
    subst hb
    rw [toldAll, Bool.and_eq_true] at h
    exact ⟨a, rfl, of_decide_eq_true h.1⟩
  | d :: ds, a :: as, k + 1, b, h, hb => by
    rw [toldAll, Bool.and_eq_true] at h
    obtain ⟨t, h1, h2⟩ := toldAll_get (k := k) h.2 (by simpa using hb)
    exact ⟨t, by simpa using h1, h2⟩
theorem told_part {x : Lex} (ok : RowsOk x.S x.rows) : ∀ {l : List Nat} {d c : PyData} {s : Str}, toldF x d = some s → partF d l = some c → l ≠ [] → ∃ t ∈ x.S, toldF x c = some t
  | [], _, _, _, _, _, h => absurd rfl h
  | j :: l, d, c, s, ht, h, _ => by
    obtain ⟨z, ds, rfl⟩ := part_form h
    obtain ⟨hz, b, hb, h2⟩ := part_cons h
    obtain ⟨z', ds', e, h3⟩ := told_inv ht
    cases e
    rcases h3 with ⟨hv, _⟩ | ⟨_, p, hp, hta, _⟩
    · rw [var_cap hv] at hz; cases hz
    · obtain ⟨t, h4, h5⟩ := toldAll_get hta hb
      cases l with
      | nil =>
        rw [partF] at h2
        cases h2
        exact ⟨t, arg_sort ok (fnd_mem hp) (List.mem_of_getElem? h4), h5⟩
      | cons i l => exact told_part ok h5 h2 (by simp)
theorem true_told {x : Lex} (ok : RowsOk x.S x.rows) : toldF x trueD = none := by
  unfold trueD
  have hv : ¬ varF "true" = true := by decide +kernel
  rw [toldF, if_neg hv]
  cases h : fnd x.syms "true" with
  | none => rfl
  | some p => have := syms_name ok h; rw [true_name] at this; cases this
def Tre (x : Lex) (d : PyData) : Prop := (∃ s, toldF x d = some s) ∨ d = trueD
def sortT (x : Lex) (d : PyData) : Str := (toldF x d).getD "truth"
theorem sort_told {x : Lex} {d : PyData} {s : Str} (h : toldF x d = some s) : sortT x d = s := by unfold sortT; rw [h]; rfl
theorem sort_ne {x : Lex} (ok : RowsOk x.S x.rows) {s : Str} (h : s ∈ x.S) : s ≠ "truth" := fun e => by
  have := sort_name ok h
  rw [e, show nameF "truth" = false from by decide +kernel] at this; cases this
theorem told_of {x : Lex} (ok : RowsOk x.S x.rows) {d : PyData} {s : Str} (h : sortT x d = s) (hs : s ∈ x.S) : toldF x d = some s := by
  unfold sortT at h
  cases e : toldF x d with
  | none => rw [e] at h; exact absurd h.symm (sort_ne ok hs)
  | some t => rw [e] at h; rw [← h]; rfl
theorem part_true {l : List Nat} {c : PyData} (h : partF trueD l = some c) : l = [] ∧ c = trueD := by
  cases l with
  | nil => rw [partF] at h; exact ⟨rfl, (Option.some.inj h).symm⟩
  | cons k l =>
    obtain ⟨_, b, hb, _⟩ := part_cons h
    cases hb
theorem tre_part {x : Lex} (ok : RowsOk x.S x.rows) {l : List Nat} {d c : PyData} (h : Tre x d) (hp : partF d l = some c) : (l = [] ∧ c = d) ∨ (l ≠ [] ∧ ∃ t ∈ x.S, toldF x c = some t) := by
  by_cases hl : l = []
  · subst hl
    rw [partF] at hp
    exact .inl ⟨rfl, (Option.some.inj hp).symm⟩
  · rcases h with ⟨s, h⟩ | rfl
    · exact .inr ⟨hl, told_part ok h hp hl⟩
    · exact absurd (part_true hp).1 hl
theorem tre_put {x : Lex} (ok : RowsOk x.S x.rows) {l : List Nat} {d c e : PyData} (h : Tre x d) (hp : partF d l = some c) (he : Tre x e) (hs : sortT x e = sortT x c) : Tre x (putF3 d l e) := by
  rcases tre_part ok h hp with ⟨rfl, rfl⟩ | ⟨hl, t, ht, hc⟩
  · rw [putF3]; exact he
  · rw [sort_told hc] at hs
    have := told_of ok hs ht
    rcases h with ⟨s, h⟩ | rfl
    · exact .inl ⟨s, by rw [told_put hp (this.trans hc.symm)]; exact h⟩
    · exact absurd (part_true hp).1 hl
theorem part_app : ∀ {l m : List Nat} {d : PyData}, partF d (l ++ m) = (partF d l).bind fun c => partF c m
  | [], m, d => by rw [List.nil_append, partF]; rfl
  | k :: l, m, d => by
    rw [List.cons_append]
    match d with
    | .tuple (.str z :: ds) =>
      rw [partF, partF]
      split
      · rfl
      · cases ds[k]? with
        | none => rfl
        | some b => exact part_app
    | .none => rfl
    | .bool _ => rfl
    | .int _ => rfl
    | .str _ => rfl
    | .list _ => rfl
    | .dict _ => rfl
    | .tuple [] => rfl
    | .tuple (.none :: _) => rfl
    | .tuple (.bool _ :: _) => rfl
    | .tuple (.int _ :: _) => rfl
    | .tuple (.list _ :: _) => rfl
    | .tuple (.tuple _ :: _) => rfl
    | .tuple (.dict _ :: _) => rfl
theorem part_no {z : Str} {ds : List PyData} {m : Nat} {r : List Nat} (h : capF z = true ∨ ds.length ≤ m) : partF (.tuple (.str z :: ds)) (m :: r) = none := by
  rw [partF]
  split
  · rfl
  · rcases h with h | h
    · rename_i h2; exact absurd h h2
    · rw [List.getElem?_eq_none_iff.mpr h]
theorem part_one {z : Str} {ds : List PyData} {m : Nat} : partF (.tuple (.str z :: ds)) [m] = if capF z = true then none else ds[m]? := by
  rw [partF]
  split
  · rfl
  · cases ds[m]? with
    | none => rfl
    | some b => show partF b [] = _; rw [partF]
theorem part_take {d : PyData} {l : List Nat} {i k : Nat} (h : l[i]? = some k) : partF d (l.take (i + 1)) = (partF d (l.take i)).bind fun c => partF c [k] := by
  rw [List.take_add_one, h, part_app]; rfl
theorem part_take_none {d : PyData} {l : List Nat} {i : Nat} (h : partF d (l.take i) = none) : partF d l = none := by
  rw [← List.take_append_drop i l, part_app, h]; rfl
/-! variables -/
def varP : PyData → Option (Str × Str)
  | .tuple [.str z, .str s] => if capF z = true then some (z, s) else none
  | _ => none
def addV (ps : List (Str × Str)) (p : Str × Str) : List (Str × Str) := if p ∈ ps then ps else ps ++ [p]
def varsO (ps : List (Str × Str)) (o : Option (Str × Str)) : List (Str × Str) := match o with
  | some p => addV ps p
  | none => ps
def varsA (ps : List (Str × Str)) (ds : List PyData) : List (Str × Str) := ds.foldl (fun q d => varsO q (varP d)) ps
theorem varsA_app (ps : List (Str × Str)) (a b : List PyData) : varsA ps (a ++ b) = varsA (varsA ps a) b := by unfold varsA; rw [List.foldl_append]
def varsF (d : PyData) : List (Str × Str) := varsA [] (subsF d)
theorem varP_of {z s : Str} (h : capF z = true) : varP (.tuple [.str z, .str s]) = some (z, s) := by rw [varP, if_pos h]
theorem varP_no {d : PyData} (h : capD d = false) : varP d = none := by
  unfold varP
  split
  · rename_i z s
    have : capF z = false := h
    rw [this]; rfl
  · rfl
theorem addV_len (ps : List (Str × Str)) (p : Str × Str) : (addV ps p).length ≤ ps.length + 1 := by
  unfold addV
  split
  · omega
  · rw [List.length_append, List.length_singleton]; exact Nat.le_refl _
theorem varsA_len (ps : List (Str × Str)) : ∀ ds : List PyData, (varsA ps ds).length ≤ ps.length + ds.length := by
  intro ds
  induction ds generalizing ps with
  | nil => exact Nat.le_refl _
  | cons d ds ih =>
    have h1 := ih (varsO ps (varP d))
    have h2 : (varsO ps (varP d)).length ≤ ps.length + 1 := by
      unfold varsO
      split
      · exact addV_len _ _
      · omega
    rw [List.length_cons]
    show (varsA (varsO ps (varP d)) ds).length ≤ _
    omega
theorem nkey_var (p q : Str × Str) : nkey (varD p) = nkey (varD q) ↔ p = q := by
  constructor
  · intro h
    have h2 : NestedKey.tup [.text p.1, .text p.2] = .tup [.text q.1, .text q.2] := by
      have e : ∀ p : Str × Str, nkey (varD p) = .tup [.text p.1, .text p.2] := fun p => by
        show nkey (.tuple [.str p.1, .str p.2]) = _
        rw [nkey, nkeys, nkeys, nkeys, nkey, nkey]
      rw [← e, ← e]; exact h
    injection h2 with h2
    injection h2 with h3 h4
    injection h4 with h4 _
    injection h3 with h3
    injection h4 with h4
    exact Prod.ext h3 h4
  · intro h; rw [h]
theorem nkey_depth (p : Str × Str) : (nkey (varD p)).depth ≤ 8 := by
  have e : nkey (varD p) = .tup [.text p.1, .text p.2] := by
    show nkey (.tuple [.str p.1, .str p.2]) = _
    rw [nkey, nkeys, nkeys, nkeys, nkey, nkey]
  rw [e]
  show (NestedKey.tup [.text p.1, .text p.2]).depth ≤ 8
  simp [NestedKey.depth, NestedKey.depthAll]
theorem put_keys {kvs : List NEnt} {ps : List (Str × Str)} {p : Str × Str} {b : Addr} {v : V} (h : kvs.map (·.1) = ps.map varD) : (putN kvs (varD p) b v).map (·.1) = (addV ps p).map varD := by
  have hf : (findN kvs (nkey (varD p))).isSome = decide (p ∈ ps) := by
    unfold findN
    refine Bool.eq_iff_iff.mpr (Iff.trans List.find?_isSome ⟨fun g => ?_, fun g => ?_⟩)
    · obtain ⟨q, hq, e⟩ := g
      have hm : q.1 ∈ ps.map varD := by rw [← h]; exact List.mem_map.mpr ⟨q, hq, rfl⟩
      obtain ⟨r, hr, e2⟩ := List.mem_map.mp hm
      have e := of_decide_eq_true e
      rw [← e2] at e
      rw [(nkey_var r p).mp e] at hr
      exact decide_eq_true hr
    · have hm : varD p ∈ kvs.map (·.1) := by rw [h]; exact List.mem_map.mpr ⟨p, of_decide_eq_true g, rfl⟩
      obtain ⟨q, hq, e⟩ := List.mem_map.mp hm
      exact ⟨q, hq, decide_eq_true (by rw [e])⟩
  unfold putN addV
  rw [hf]
  by_cases g : p ∈ ps
  · rw [if_pos (decide_eq_true g), if_pos g, ← h, List.map_map]
    refine List.map_congr_left fun q _ => ?_
    show (if nkey q.1 = nkey (varD p) then (q.1, q.2.1, v) else q).1 = q.1
    split <;> rfl
  · rw [if_neg (by simpa using g), if_neg g, List.map_append, List.map_append, h]; rfl
/-! inner places -/
def innerF (sp : List Nat) (d : PyData) : List (List Nat) := ((placesF d sp).filter fun q => !capD q.2).map (·.1)
def innerQ (q : List Nat × PyData) : List (List Nat) := innerF q.1 q.2
def innerAll (ds : List PyData) (sp : List Nat) (k : Nat) : List (List Nat) := ((placesAll ds sp k).filter fun q => !capD q.2).map (·.1)
theorem inner_var {z : Str} {ds : List PyData} {sp : List Nat} (h : capF z = true) : innerF sp (.tuple (.str z :: ds)) = [] := by
  unfold innerF
  rw [placesF, h, if_pos rfl, List.filter_cons]
  show (if (!capF z) = true then _ else _ : List _).map _ = []
  rw [h]; rfl
theorem inner_fun {z : Str} {ds : List PyData} {sp : List Nat} (h : capF z = false) : innerF sp (.tuple (.str z :: ds)) = sp :: innerAll ds sp 0 := by
  unfold innerF innerAll
  rw [placesF, h, if_neg (by decide), List.filter_cons]
  show (if (!capF z) = true then _ else _ : List _).map _ = _
  rw [h]; rfl
theorem innerAll_cons {d : PyData} {ds : List PyData} {sp : List Nat} {k : Nat} : innerAll (d :: ds) sp k = innerF (sp ++ [k]) d ++ innerAll ds sp (k + 1) := by
  unfold innerAll innerF
  rw [placesAll, List.filter_append, List.map_append]
theorem innerAll_nil {sp : List Nat} {k : Nat} : innerAll [] sp k = [] := by unfold innerAll; rw [placesAll]; rfl
theorem innerAll_drop {ds : List PyData} {sp : List Nat} {k : Nat} {e : PyData} (h : ds[k]? = some e) : innerAll (ds.drop k) sp k = innerF (sp ++ [k]) e ++ innerAll (ds.drop (k + 1)) sp (k + 1) := by
  obtain ⟨hk, hg⟩ := List.getElem?_eq_some_iff.mp h
  rw [List.drop_eq_getElem_cons hk, hg, innerAll_cons]
theorem placesF_var {z : Str} {ds : List PyData} {sp : List Nat} (h : capF z = true) : placesF (.tuple (.str z :: ds)) sp = [(sp, .tuple (.str z :: ds))] := by rw [placesF, h, if_pos rfl]
theorem placesF_fun {z : Str} {ds : List PyData} {sp : List Nat} (h : capF z = false) : placesF (.tuple (.str z :: ds)) sp = (sp, .tuple (.str z :: ds)) :: placesAll ds sp 0 := by rw [placesF, h, if_neg (by decide)]
theorem placesAll_app {sp : List Nat} : ∀ {a b : List PyData} {k : Nat}, placesAll (a ++ b) sp k = placesAll a sp k ++ placesAll b sp (k + a.length)
  | [], b, k => by rw [List.nil_append, placesAll, List.nil_append]; rfl
  | d :: a, b, k => by rw [List.cons_append, placesAll, placesAll, placesAll_app, List.append_assoc, List.length_cons, show k + 1 + a.length = k + (a.length + 1) by omega]
theorem placesAll_take {ds : List PyData} {sp : List Nat} {i : Nat} {e : PyData} (h : ds[i]? = some e) : placesAll (ds.take (i + 1)) sp 0 = placesAll (ds.take i) sp 0 ++ placesF e (sp ++ [i]) := by
  have hi : i < ds.length := (List.getElem?_eq_some_iff.mp h).1
  rw [List.take_add_one, h, placesAll_app, Nat.zero_add, List.length_take, show min i ds.length = i by omega]
  show _ ++ placesAll [e] sp i = _
  rw [placesAll, placesAll, List.append_nil]
mutual
theorem places_len : ∀ (d : PyData) (sp : List Nat), (placesF d sp).length ≤ d.weight + 1
  | .tuple (.str z :: ds), sp => by
    rw [placesF, List.length_cons, w_tup, W1_cons]
    have := placesAll_len ds sp 0
    split
    · simp
    · omega
  | .none, sp => by rw [placesF]; simp; all_goals (intro _ _ e; cases e)
  | .bool b, sp => by rw [placesF]; simp; all_goals (intro _ _ e; cases e)
  | .int i, sp => by rw [placesF]; simp; all_goals (intro _ _ e; cases e)
  | .str i, sp => by rw [placesF]; simp; all_goals (intro _ _ e; cases e)
  | .list i, sp => by rw [placesF]; simp; all_goals (intro _ _ e; cases e)
  | .dict i, sp => by rw [placesF]; simp; all_goals (intro _ _ e; cases e)
  | .tuple [], sp => by rw [placesF]; simp; all_goals (intro _ _ e; cases e)
  | .tuple (.none :: _), sp => by rw [placesF]; simp; all_goals (intro _ _ e; cases e)
  | .tuple (.bool _ :: _), sp => by rw [placesF]; simp; all_goals (intro _ _ e; cases e)
  | .tuple (.int _ :: _), sp => by rw [placesF]; simp; all_goals (intro _ _ e; cases e)
  | .tuple (.list _ :: _), sp => by rw [placesF]; simp; all_goals (intro _ _ e; cases e)
  | .tuple (.dict _ :: _), sp => by rw [placesF]; simp; all_goals (intro _ _ e; cases e)
  | .tuple (.tuple _ :: _), sp => by rw [placesF]; simp; all_goals (intro _ _ e; cases e)
theorem placesAll_len : ∀ (ds : List PyData) (sp : List Nat) (k : Nat), (placesAll ds sp k).length ≤ W1 ds
  | [], sp, k => by rw [placesAll]; exact Nat.zero_le _
  | d :: ds, sp, k => by
    rw [placesAll, List.length_append, W1_cons]
    have := places_len d (sp ++ [k])
    have := placesAll_len ds sp (k + 1)
    omega
end
def placeD (q : List Nat × PyData) : PyData := .tuple [pathD q.1, q.2]
theorem im_path (l : List Nat) : Im (pathD l) = true := by
  unfold pathD
  rw [Im]
  exact imAll_iff.mpr fun d hd => by obtain ⟨k, _, rfl⟩ := List.mem_map.mp hd; rfl
theorem path_app (l m : List Nat) : PyData.tuple ((l.map fun (k : Nat) => PyData.int (k : Int)) ++ m.map fun (k : Nat) => PyData.int (k : Int)) = pathD (l ++ m) := by
  unfold pathD
  rw [List.map_append]
theorem places_head (d : PyData) (sp : List Nat) : ∃ r, placesF d sp = (sp, d) :: r := by
  unfold placesF
  split
  · exact ⟨_, rfl⟩
  · exact ⟨_, rfl⟩
theorem set_split {ds : List PyData} {j : Nat} {b v : PyData} (h : ds[j]? = some b) (z : Str) : (PyData.str z :: ds).take (j + 1) ++ [v] ++ (PyData.str z :: ds).drop (j + 2) = .str z :: ds.set j v := by
  have hj : j < ds.length := (List.getElem?_eq_some_iff.mp h).1
  rw [List.take_succ_cons, List.drop_succ_cons, List.set_eq_take_append_cons_drop, if_pos hj, List.append_assoc]
  rfl
theorem path_bd (l : List Nat) : AsD (pathD l) = true ∧ (pathD l).depth ≤ 1 := by
  unfold pathD
  refine ⟨?_, ?_⟩
  · rw [AsD]
    exact asAll_iff.mpr fun d hd => by obtain ⟨k, _, rfl⟩ := List.mem_map.mp hd; rfl
  · rw [PyData.depth]
    have : ∀ l : List Nat, PyData.depthAll (l.map fun (k : Nat) => PyData.int (k : Int)) = 0 := by
      intro l
      induction l with
      | nil => rw [List.map_nil, PyData.depthAll]
      | cons k l ih => rw [List.map_cons, PyData.depthAll, ih, PyData.depth]; rfl
    rw [this]; exact Nat.le_refl _
section
variable {P : Program} {K : PySem.W.Frag} {mg : Str → Option Value}
def sp__has_form (_ : Top0 P K mg) : Sp := fun vs H Q _ => ∃ z : Str, vs = [.str z] ∧ z.length ≤ 10000000 ∧ ∀ H', Xt H H' → Q (.bl (plainF z)) H'
def sp_is_name (_ : Top0 P K mg) : Sp := fun vs H Q _ => ∃ z : Str, vs = [.str z] ∧ z.length ≤ 10000000 ∧ ∀ H', Xt H H' → Q (.bl (nameF z)) H'
def sp_is_variable_name (_ : Top0 P K mg) : Sp := fun vs H Q _ => ∃ z : Str, vs = [.str z] ∧ z.length ≤ 10000000 ∧ ∀ H', Xt H H' → Q (.bl (varF z)) H'
def sp__check_rows (_ : Top0 P K mg) : Sp := fun vs H Q _ => ∃ (v s : V) (S : List Str) (rows : List (Str × List Str)), vs = [v, s] ∧ Dp K H v (.list (rows.map pD)) ∧ Dp K H s (.tuple (S.map PyData.str)) ∧ RowsOk S rows ∧ ∀ H', Xt H H' → Q .non H'
def sp_Vocabulary___init__ (T : Top0 P K mg) : Sp := fun vs H Q _ => ∃ (a dx : Addr) (v1 v2 v3 : V) (x : Lex), vs = [.ref a, v1, v2, v3] ∧ H a = some (.ins T.C_Vocabulary dx []) ∧ Dp K H v1 (.list (x.S.map PyData.str)) ∧ Dp K H v2 (.list (x.F.map fD)) ∧ Dp K H v3 (.list (x.P.map pD)) ∧
  RowsOk x.S x.rows ∧ ∀ H', (∀ b o, b ≠ a → H b = some o → H' b = some o) → VocAt K T.C_Vocabulary H' a x → Q .non H'
def sp_Vocabulary_arguments (T : Top0 P K mg) : Sp := fun vs H Q _ => ∃ (a : Addr) (z : Str) (x : Lex), vs = [.ref a, .str z] ∧ VocAt K T.C_Vocabulary H a x ∧ ∀ v, Dp K H v ((tabF (argsTab x) z).getD .none) → Q v H
def sp_Vocabulary_value_sort (T : Top0 P K mg) : Sp := fun vs H Q _ => ∃ (a : Addr) (z : Str) (x : Lex), vs = [.ref a, .str z] ∧ VocAt K T.C_Vocabulary H a x ∧ ∀ v, Dp K H v ((tabF (sortTab x) z).getD .none) → Q v H
def sp__law_cell (_ : Top0 P K mg) : Sp := fun vs H Q _ => ∃ (l : Addr) (ns : List Int) (k : Int), vs = [.ref l, .int k] ∧ SqL K H l (ns.map V.int) ∧ ns.length ≤ 63 ∧ (0 ≤ k ∧ k ≤ 1000) ∧ ∀ v, Q (.int v) H
def sp__law_digits (_ : Top0 P K mg) : Sp := fun vs H Q _ => ∃ (c : Int) (a : Addr) (ss : List Int), vs = [.int c, .ref a] ∧ SqL K H a (ss.map V.int) ∧ ss.length ≤ 1000 ∧ (∀ x ∈ ss, 0 < x ∧ x < 1073741824) ∧ ∀ p H' ds, Xt H H' → H' p = some (.lst (ds.map V.int)) → DigOk ds ss → Q (.ref p) H'
def sp_is_variable (_ : Top0 P K mg) : Sp := fun vs H Q _ => ∃ (v : V) (z : Str) (ds : List PyData), vs = [v] ∧ Dp K H v (.tuple (.str z :: ds)) ∧ (1 ≤ z.length ∧ z.length ≤ 10000000) ∧ Q (.bl (capF z)) H
def sp__layer_sort (T : Top0 P K mg) : Sp := fun vs H Q _ => ∃ (a : Addr) (v : V) (x : Lex) (d : PyData) (n : Nat), vs = [.ref a, v] ∧ VocAt K T.C_Vocabulary H a x ∧ RowsOk x.S x.rows ∧ Dp K H v d ∧ Sm n d ∧ SyF d = true ∧ ∀ H', Xt H H' → Q (optV (layerF x d)) H'
def sp__parts_fit (T : Top0 P K mg) : Sp := fun vs H Q _ => ∃ (a : Addr) (v : V) (x : Lex) (d : PyData) (n : Nat) (s : Str), vs = [.ref a, v] ∧ VocAt K T.C_Vocabulary H a x ∧ RowsOk x.S x.rows ∧ Dp K H v d ∧ Sm n d ∧ SyF d = true ∧ layerF x d = some s ∧ ∀ H', Xt H H' → Q (.bl (fitF x d)) H'
def sp_is_term (T : Top0 P K mg) : Sp := fun vs H Q _ => ∃ (a : Addr) (v : V) (x : Lex) (d : PyData) (n : Nat), vs = [.ref a, v] ∧ VocAt K T.C_Vocabulary H a x ∧ RowsOk x.S x.rows ∧ Dp K H v d ∧ Sm n d ∧ SyF d = true ∧ ∀ H', Xt H H' → Q (.bl (termF x d)) H'
def sp_is_atom (T : Top0 P K mg) : Sp := fun vs H Q _ => ∃ (a : Addr) (v : V) (x : Lex) (d : PyData) (n : Nat), vs = [.ref a, v] ∧ VocAt K T.C_Vocabulary H a x ∧ RowsOk x.S x.rows ∧ Dp K H v d ∧ Sm n d ∧ SyF d = true ∧ ∀ H', Xt H H' → Q (.bl (atomF x d)) H'
def sp_sort_of (T : Top0 P K mg) : Sp := fun vs H Q _ => ∃ (a : Addr) (v : V) (x : Lex) (d : PyData) (n : Nat) (s : Str), vs = [.ref a, v] ∧ VocAt K T.C_Vocabulary H a x ∧ RowsOk x.S x.rows ∧ Dp K H v d ∧ Sm n d ∧ n ≤ 190 ∧ (toldF x d = some s ∨ (d = trueD ∧ s = "truth")) ∧ ∀ H', Xt H H' → Q (.str s) H'
def sp_subterms (T : Top0 P K mg) : Sp := fun vs H Q _ => ∃ (v : V) (d : PyData) (n : Nat), vs = [v] ∧ Dp K H v d ∧ Sm n d ∧ TL d = true ∧ ∀ p H' xs, Xt H H' → H' p = some (.lst xs) → DpAll K H' xs (subsF d) → Q (.ref p) H'
def sp_size_of (T : Top0 P K mg) : Sp := fun vs H Q _ => ∃ (v : V) (d : PyData) (n : Nat), vs = [v] ∧ Dp K H v d ∧ Sm n d ∧ TL d = true ∧ ∀ H', Xt H H' → Q (.int (subsF d).length) H'
def sp__law_words (_ : Top0 P K mg) : Sp := fun vs H Q _ => vs = [] ∧ ∀ p H', Xt H H' → H' p = some (.lst W13) → Q (.ref p) H'
def sp__law_names (_ : Top0 P K mg) : Sp := fun vs H Q _ => ∃ (a : Addr) (ds : List Int) (many : Int), vs = [.ref a, .int many] ∧ SqL K H a (ds.map V.int) ∧ DigOk ds [12, 26, 7, 7, 2, 36, 36, 36, 36, 36, 36] ∧ (0 ≤ many ∧ many ≤ 26) ∧ ∀ p H' (ns : List Str), Xt H H' → H' p = some (.lst (ns.map V.str)) → ns.length = many.toNat → ns.Nodup → (∀ n ∈ ns, nameF n = true) → Q (.ref p) H'
def sp__law_variable_names (_ : Top0 P K mg) : Sp := fun vs H Q _ => ∃ (a : Addr) (ds : List Int) (many : Int), vs = [.ref a, .int many] ∧ SqL K H a (ds.map V.int) ∧ DigOk ds [26, 12, 7, 7, 3, 36, 36, 36, 36, 36, 36] ∧ (0 ≤ many ∧ many ≤ 26) ∧ ∀ p H' (ns : List Str), Xt H H' → H' p = some (.lst (ns.map V.str)) → ns.length = many.toNat → (∀ n ∈ ns, varF n = true) → Q (.ref p) H'
def sp__law_drawn_vocabulary (_ : Top0 P K mg) : Sp := fun vs H Q _ => ∃ c1 c2 c3 : Int, vs = [.int c1, .int c2, .int c3] ∧ ∀ p H' (x : Lex), Xt H H' → LexAt K H' p x → LexOk x → x.S ≠ [] → Q (.ref p) H'
def sp__law_term (_ : Top0 P K mg) : Nat → Sp
  | 0 => fun _ _ _ _ => False
  | n + 1 => fun vs H Q _ => ∃ (l r vr : Addr) (x : Lex) (s : Str) (ds : List Int) (at' deep : Int) (vl : List (Str × Str)) (ws : List V) (m : Nat), vs = [.ref l, .str s, .ref r, .int at', .int deep, .ref vr] ∧ LexAt K H l x ∧ LexOk x ∧ s ∈ x.S ∧ SqL K H r (ds.map V.int) ∧ 0 < ds.length ∧ ds.length ≤ 1000 ∧ deep ≤ m ∧ m ≤ n ∧
    H vr = some (.lst ws) ∧ DpAll K H ws (vl.map varD) ∧ VarsOk x vl ∧ ∀ p H' (v : V) (d : PyData) (a2 : Int), Xt H H' → H' p = some (.lst [v, .int a2]) → Dp K H' v d → Tm x m s d → Q (.ref p) H'
def sp__law_applied (_ : Top0 P K mg) : Sp := fun vs H Q _ => ∃ (l r vr : Addr) (hv : V) (x : Lex) (h : Str × List Str × Str) (rest : List PyData) (n : Nat) (ds : List Int) (deep : Int) (vl : List (Str × Str)) (ws : List V), vs = [.ref l, hv, .ref r, .int deep, .ref vr] ∧ LexAt K H l x ∧ LexOk x ∧ h ∈ x.syms ∧ Dp K H hv (.tuple (.str h.1 :: .tuple (h.2.1.map PyData.str) :: rest)) ∧ SqL K H r (ds.map V.int) ∧ 0 < ds.length ∧ ds.length ≤ 1000 ∧ deep ≤ n ∧
    H vr = some (.lst ws) ∧ DpAll K H ws (vl.map varD) ∧ VarsOk x vl ∧ n ≤ 6 ∧ ∀ H' (v : V) (d : PyData), Xt H H' → Dp K H' v d → Tm x (n + 1) h.2.2 d → Q v H'
def sp__law_large (_ : Top0 P K mg) : Sp := fun vs H Q _ => ∃ (l r vr : Addr) (x : Lex) (n : Nat) (ds : List Int) (dig deep : Int) (vl : List (Str × Str)) (ws : List V), vs = [.ref l, .int dig, .ref r, .int deep, .ref vr] ∧ LexAt K H l x ∧ LexOk x ∧ x.S ≠ [] ∧ SqL K H r (ds.map V.int) ∧ 0 < ds.length ∧ ds.length ≤ 1000 ∧ deep ≤ n ∧
    H vr = some (.lst ws) ∧ DpAll K H ws (vl.map varD) ∧ VarsOk x vl ∧ n ≤ 6 ∧ ∀ H' (v : V) (s : Str) (d : PyData), Xt H H' → Dp K H' v d → Tm x (n + 1) s d → Q v H'
def sp__law_wrapped (_ : Top0 P K mg) : Sp := fun vs H Q _ => ∃ (l r vr : Addr) (tv : V) (x : Lex) (s : Str) (d : PyData) (n : Nat) (ds : List Int) (many : Int) (vl : List (Str × Str)) (ws : List V), vs = [.ref l, tv, .str s, .ref r, .int many, .ref vr] ∧ LexAt K H l x ∧ LexOk x ∧ s ∈ x.S ∧ Dp K H tv d ∧ Tm x n s d ∧ n ≤ 2 ∧ SqL K H r (ds.map V.int) ∧ 0 < ds.length ∧ ds.length ≤ 1000 ∧ (0 ≤ many ∧ many ≤ 12) ∧
    H vr = some (.lst ws) ∧ DpAll K H ws (vl.map varD) ∧ VarsOk x vl ∧ ∀ p H' (v : V) (s' : Str) (d' : PyData), Xt H H' → H' p = some (.lst [v, .str s']) → Dp K H' v d' → toldF x d' = some s' → Bd 15 5000 d' → Q (.ref p) H'
def sp__law_chain (_ : Top0 P K mg) : Sp := fun vs H Q _ => ∃ (l r vr : Addr) (x : Lex) (ds : List Int) (dig many : Int) (vl : List (Str × Str)) (ws : List V), vs = [.ref l, .int dig, .ref r, .int many, .ref vr] ∧ LexAt K H l x ∧ LexOk x ∧ x.S ≠ [] ∧ SqL K H r (ds.map V.int) ∧ 7 < ds.length ∧ ds.length ≤ 1000 ∧ (0 ≤ many ∧ many ≤ 12) ∧
    H vr = some (.lst ws) ∧ DpAll K H ws (vl.map varD) ∧ VarsOk x vl ∧ ∀ H' (v : V) (s' : Str) (d' : PyData), Xt H H' → Dp K H' v d' → toldF x d' = some s' → Bd 15 5000 d' → Q v H'

end
end K03

set_option Elab.async false
set_option linter.all false
set_option maxRecDepth 100000
set_option maxHeartbeats 2000000
namespace K03
open PySem PySem.Spec PyProof.Rows L2 NdefX CW RZ
open PySem.W (fnX)
mutual
theorem subs_len : ∀ d : PyData, (subsF d).length ≤ d.weight + 1
  | .tuple (.str z :: ds) => by
    rw [subsF, List.length_cons, w_tup, W1_cons]
    have := subsAll_len2 ds
    split
    · simp
    · omega
  | .none => by rw [subsF]; simp; all_goals (intro _ _ e; cases e)
  | .bool b => by rw [subsF]; simp; all_goals (intro _ _ e; cases e)
  | .int i => by rw [subsF]; simp; all_goals (intro _ _ e; cases e)
  | .str i => by rw [subsF]; simp; all_goals (intro _ _ e; cases e)
  | .list i => by rw [subsF]; simp; all_goals (intro _ _ e; cases e)
  | .dict i => by rw [subsF]; simp; all_goals (intro _ _ e; cases e)
  | .tuple [] => by rw [subsF]; simp; all_goals (intro _ _ e; cases e)
  | .tuple (.none :: _) => by rw [subsF]; simp; all_goals (intro _ _ e; cases e)
  | .tuple (.bool _ :: _) => by rw [subsF]; simp; all_goals (intro _ _ e; cases e)
  | .tuple (.int _ :: _) => by rw [subsF]; simp; all_goals (intro _ _ e; cases e)
  | .tuple (.list _ :: _) => by rw [subsF]; simp; all_goals (intro _ _ e; cases e)
  | .tuple (.dict _ :: _) => by rw [subsF]; simp; all_goals (intro _ _ e; cases e)
  | .tuple (.tuple _ :: _) => by rw [subsF]; simp; all_goals (intro _ _ e; cases e)
theorem subsAll_len2 : ∀ ds : List PyData, (subsAll ds).length ≤ W1 ds
  | [] => by rw [subsAll]; exact Nat.zero_le _
  | d :: ds => by
    rw [subsAll, List.length_append, W1_cons]
    have := subs_len d
    have := subsAll_len2 ds
    omega
end
structure PlOk (l : List Nat) : Prop where
  len : l.length ≤ 400
  sm : ∀ k ∈ l, k ≤ 10 ^ 30
theorem plOk_rep {K : PySem.W.Frag} {H : Hp} {u : V} {l : List Nat} (h : Dp K H u (pathD l)) (ok : PlOk l) : RepX K H u := by
  obtain ⟨a, xs, rfl, hs, hd⟩ := Dp.tup_inv h
  refine .inr ⟨a, xs, rfl, hs, ?_, fun x hx => ?_⟩
  · have := hd.len
    rw [List.length_map] at this
    have := ok.len
    omega
  · obtain ⟨i, hi⟩ := List.getElem?_of_mem hx
    obtain ⟨d, hd2, hp⟩ := DpAll.getV hd hi
    rw [List.getElem?_map] at hd2
    cases hk : l[i]? with
    | none => rw [hk] at hd2; cases hd2
    | some k =>
      rw [hk] at hd2
      cases hd2
      cases Dp.int_inv hp
      refine .inr ⟨(k : Int), rfl, ?_⟩
      have h1 := ok.sm k (List.mem_of_getElem? hk)
      show (Int.natAbs (k : Int)).log2 < 1000
      rw [Int.natAbs_natCast]
      rcases Nat.eq_zero_or_pos k with h0 | h0
      · subst h0; decide
      · rw [Nat.log2_lt (by omega)]
        exact Nat.lt_of_le_of_lt h1 (by decide +kernel)
theorem mkO_endX {K : PySem.W.Frag} {C : Addr} {fld : Str} {u : V} {H : Hp} {E : XK} (hz : RepX K H u) (q : ∀ d H', Xt H H' → H' d = some (.xd [(fld, u)]) → E (.ref C) (some d) H') :
    ∀ a, H a = none → spErrQ K C fld (.ref a :: ([u] ++ [])) (upd H a (exo a C none)) (fun v H2 => v = .non ∧ ∃ (d : Addr) (fs : List (Str × V)), H2 a = some (exo a C (some d)) ∧ H2 d = some (exd d fs) ∧ H d = none ∧ E (.ref C) (some d) (upd (del H2 a) d (.xd fs))) (fun _ _ _ => False) := by
  intro a ha
  have hz2 : RepX K (upd H a (exo a C none)) u := by
    rcases hz with hz | ⟨b, xs, rfl, hs, r⟩
    · exact .inl hz
    · exact .inr ⟨b, xs, rfl, xt (xnew ha) hs, r⟩
  refine ⟨a, u, rfl, upd_same, hz2, fun dx hdx hne => ⟨rfl, dx, [(fld, u)], upd_same, ?_, ?_, ?_⟩⟩
  · rw [upd_ne hne, upd_same]
  · rw [upd_ne hne] at hdx; exact hdx
  · rw [upd_ne hne] at hdx
    refine q _ _ (fun b o hb => ?_) upd_same
    have h1 : b ≠ dx := fun e => by rw [e, hdx] at hb; cases hb
    have h2 : b ≠ a := fun e => by rw [e, ha] at hb; cases hb
    rw [upd_ne h1]
    unfold del
    rw [if_neg h2, upd_ne h2, upd_ne h1, upd_ne h2]
    exact hb
theorem sy_shaped {z : Str} {e : PyData} {n : Nat} (h : SyF (.tuple [.str z, e]) = true) (hv : varF z = true) (hsm : Sm n e) : SeqAt.shaped e = true := by
  rw [SyF, if_pos (var_cap hv)] at h
  cases e with
  | str s => unfold SeqAt.shaped; rw [as_lay hsm.as, PyData.depth]; rfl
  | _ => simp [oneStr] at h
theorem sy_in {z : Str} {ds : List PyData} {e : PyData} (h : SyF (.tuple (.str z :: ds)) = true) (hc : capF z = false) (he : e ∈ ds) : SyF e = true := by
  rw [SyF, hc] at h
  exact SyAll_iff.mp h e he
theorem Tree.mem {k W : Nat} : ∀ {d e : PyData}, Tree k W d → e ∈ subsF d → Tree k W e := by
  induction k with
  | zero => intro d e h _; obtain ⟨_, _, k', _, e0, _⟩ := h.inv; cases e0
  | succ k ih =>
    intro d e h he
    have h0 := h
    obtain ⟨z, ds, k', rfl, e0, _, _, _, hc⟩ := h.inv
    obtain rfl : k = k' := by omega
    rcases hc with ⟨hc, _⟩ | ⟨hc, ha⟩
    · rw [subs_var hc, List.mem_singleton] at he
      rw [he]; exact h0
    · rw [subs_fun hc] at he
      rcases List.mem_cons.mp he with rfl | he
      · exact h0
      · have : ∀ ds : List PyData, (∀ c ∈ ds, Tree k W c) → e ∈ subsAll ds → Tree (k + 1) W e := by
          intro ds
          induction ds with
          | nil => intro _ he; rw [subsAll] at he; cases he
          | cons c ds ihd =>
            intro hd he
            rw [subsAll] at he
            rcases List.mem_append.mp he with he | he
            · exact (ih (hd c (List.mem_cons_self ..)) he).up (by omega) (Nat.le_refl _)
            · exact ihd (fun c hc => hd c (List.mem_cons_of_mem _ hc)) he
        exact this ds ha he
theorem varsA_as {ps : List (Str × Str)} {es : List PyData} (h : ∀ p ∈ ps, AsD (varD p) = true) (he : ∀ e ∈ es, AsD e = true) : ∀ p ∈ varsA ps es, AsD (varD p) = true := by
  induction es generalizing ps with
  | nil => exact h
  | cons d es ih =>
    refine ih (ps := varsO ps (varP d)) (fun p hp => ?_) fun e hm => he e (List.mem_cons_of_mem _ hm)
    have hd := he d (List.mem_cons_self ..)
    unfold varsO at hp
    split at hp
    · rename_i r hr
      unfold addV at hp
      split at hp
      · exact h p hp
      · rcases List.mem_append.mp hp with hp | hp
        · exact h p hp
        · rw [List.mem_singleton] at hp
          subst hp
          unfold varP at hr
          split at hr
          · split at hr
            · cases hr; exact hd
            · cases hr
          · cases hr
    · exact h p hp
theorem any_var (ps : List (Str × Str)) (p : Str × Str) : ((ps.map varD).any fun z => PyData.eqv z (varD p)) = decide (p ∈ ps) := by
  rw [List.any_map]
  induction ps with
  | nil => rfl
  | cons r ps ih =>
    rw [List.any_cons, ih]
    have e : PyData.eqv (varD r) (varD p) = decide (r = p) := by
      show PyData.eqv (.tuple [.str r.1, .str r.2]) (.tuple [.str p.1, .str p.2]) = _
      rw [PyData.eqv, PyData.eqvAll, PyData.eqvAll, PyData.eqvAll, PyData.eqv, PyData.eqv]
      obtain ⟨a, b⟩ := r
      obtain ⟨c, d⟩ := p
      by_cases h1 : a = c
      · by_cases h2 : b = d
        · subst h1; subst h2; simp
        · simp [h2]
      · simp [h1]
    show (PyData.eqv (varD r) (varD p) || decide (p ∈ ps)) = _
    rw [e]
    by_cases h : r = p
    · subst h; simp
    · have h2 : ¬ p = r := fun q => h q.symm
      simp [h, h2]
theorem im_vars (ps : List (Str × Str)) : ImAll (ps.map varD) = true := imAll_iff.mpr fun d hd => by obtain ⟨p, _, rfl⟩ := List.mem_map.mp hd; rfl
theorem vars_shaped {ps : List (Str × Str)} (h : ∀ p ∈ ps, AsD (varD p) = true) : SeqAt.shaped (.list (ps.map varD)) = true ∧ SeqAt.shaped (.tuple (ps.map varD)) = true := by
  have e : PyData.canLayAll0 (ps.map varD) = true := as_layAll (asAll_iff.mpr fun e he => by obtain ⟨p, hp, rfl⟩ := List.mem_map.mp he; exact h p hp)
  have hd : PyData.depthAll (ps.map varD) ≤ 1 := by
    clear h e
    induction ps with
    | nil => rw [List.map_nil, PyData.depthAll]; exact Nat.zero_le _
    | cons p ps ih =>
      rw [List.map_cons, PyData.depthAll]
      have : (varD p).depth = 1 := by
        show (PyData.tuple [.str p.1, .str p.2]).depth = 1
        simp [PyData.depth, PyData.depthAll]
      omega
  unfold SeqAt.shaped
  rw [PyData.canLay0, PyData.canLay0, e, PyData.depth, PyData.depth]
  exact ⟨by rw [Bool.true_and]; exact decide_eq_true (by omega), by rw [Bool.true_and]; exact decide_eq_true (by omega)⟩
theorem var_shaped {p : Str × Str} (h : AsD (varD p) = true) : SeqAt.shaped (varD p) = true := by
  unfold SeqAt.shaped
  rw [as_lay h, show (varD p).depth = 1 from by
    show (PyData.tuple [.str p.1, .str p.2]).depth = 1
    simp [PyData.depth, PyData.depthAll]]
  rfl
theorem w_in_var {K : PySem.W.Frag} {H : Hp} {Q : VK} {a : Addr} {ks : List V} {v : V} {ps : List (Str × Str)} {p : Str × Str} (ea : H a = some (.lst ks)) (hk : DpAll K H ks (ps.map varD)) (hv : Dp K H v (varD p)) (h : ∀ p ∈ ps, AsD (varD p) = true) (hp : AsD (varD p) = true) (q : Q (.bl (decide (p ∈ ps))) H) : rInV K v (.ref a) H Q := by
  refine .inr (.inr ⟨varD p, _, hv, .of_lst ea hk, var_shaped hp, (vars_shaped h).1, ?_⟩)
  rw [any_var]; exact q
theorem subsAll_take {ds : List PyData} {i : Nat} {e : PyData} (h : ds[i]? = some e) : subsAll (ds.take (i + 1)) = subsAll (ds.take i) ++ subsF e := by
  rw [List.take_add_one, h, subsAll_app]
  show _ ++ subsAll [e] = _
  rw [subsAll, subsAll, List.append_nil]
theorem Tree.pos {k W : Nat} {d : PyData} (h : Tree k W d) : ∃ k', k = k' + 1 := by
  obtain ⟨_, _, k', _, e, _⟩ := h.inv
  exact ⟨k', e⟩
theorem nd_keys {K : PySem.W.Frag} {H : Hp} {kvs : List NEnt} (h : ∀ p ∈ kvs, NKey K H (.ref p.2.1) p.1) : DpAll K H (keysN kvs) (kvs.map (·.1)) := by
  induction kvs with
  | nil => exact .nil
  | cons p kvs ih => exact .cons (h p (List.mem_cons_self ..)).1 (ih fun q hq => h q (List.mem_cons_of_mem _ hq))
theorem ext_ne {H : Hp} {a b : Addr} {φ : Heap → Prop} {xs : List V} (h : H a = some (.ext φ)) (h2 : H b = some (.lst xs)) : b ≠ a := fun e => by rw [e, h] at h2; cases h2
theorem d_neq {K : PySem.W.Frag} {H : Hp} {Q : VK} {x y : V} {d : PyData} (h1 : Dp K H x d) (h2 : Dp K H y d) (s : SeqAt.shaped d = true) (q : Q (.bl false) H) : rNeU K x y H Q :=
  d_ne h1 h2 s s (by rw [SeqAt.eqv_refl d (SeqAt.canLay_of_shaped s)]; exact q)
theorem d_neqB {K : PySem.W.Frag} {H : Hp} {Q : VK} {x y : V} {d : PyData} (h1 : Dp K H x d) (h2 : Dp K H y d) (s : AsD d = true) (hd : d.depth ≤ 190) (q : Q (.bl false) H) : rNeB K x y H Q :=
  ⟨d, d, h1, h2, as_lay s, as_lay s, hd, by rw [SeqAt.eqv_refl d (as_lay s)]; exact q⟩
theorem paths_shaped (ls : List (List Nat)) : SeqAt.shaped (.tuple (ls.map pathD)) = true := by
  have e : PyData.canLayAll0 (ls.map pathD) = true := as_layAll (asAll_iff.mpr fun e he => by obtain ⟨p, _, rfl⟩ := List.mem_map.mp he; exact (path_bd p).1)
  have hd : PyData.depthAll (ls.map pathD) ≤ 1 := by
    clear e
    induction ls with
    | nil => rw [List.map_nil, PyData.depthAll]; exact Nat.zero_le _
    | cons p ps ih =>
      rw [List.map_cons, PyData.depthAll]
      have := (path_bd p).2
      omega
  unfold SeqAt.shaped
  rw [PyData.canLay0, e, PyData.depth, Bool.true_and]
  exact decide_eq_true (by omega)
theorem two_shaped (l : List Nat) : SeqAt.shaped (.list [pathD l, pathD l]) = true := by
  have h := (path_bd l).1
  have hd := (path_bd l).2
  unfold SeqAt.shaped
  rw [PyData.canLay0, PyData.canLayAll0, PyData.canLayAll0, PyData.canLayAll0, as_lay h, PyData.depth, PyData.depthAll, PyData.depthAll, PyData.depthAll]
  simp only [Bool.true_and, Bool.and_true]
  exact decide_eq_true (by omega)
theorem d_eqq {K : PySem.W.Frag} {H : Hp} {Q : VK} {x y : V} {d : PyData} (h1 : Dp K H x d) (h2 : Dp K H y d) (s : SeqAt.shaped d = true) (q : Q (.bl true) H) : rEqU K x y H Q :=
  d_eq h1 h2 s s (by rw [SeqAt.eqv_refl d (SeqAt.canLay_of_shaped s)]; exact q)
theorem paths_as (ls : List (List Nat)) : AsD (.tuple (ls.map pathD)) = true := by
  rw [AsD]
  exact asAll_iff.mpr fun e he => by obtain ⟨p, _, rfl⟩ := List.mem_map.mp he; exact (path_bd p).1
theorem filter_map_p (qs : List (List Nat × PyData)) : ((qs.map placeD).filter fun o => !capD (secD o)) = (qs.filter fun q => !capD q.2).map placeD := by
  induction qs with
  | nil => rfl
  | cons q qs ih =>
    rw [List.map_cons, List.filter_cons, List.filter_cons, ih]
    show (if (!capD q.2) = true then _ else _) = _
    cases capD q.2 <;> rfl
def fstD : PyData → PyData
  | .tuple (d :: _) => d
  | d => d
theorem fst_map (qs : List (List Nat × PyData)) : (qs.map placeD).map fstD = (qs.map (·.1)).map pathD := by
  rw [List.map_map, List.map_map]; rfl
theorem F_get {x : Lex} (ok : RowsOk x.S x.rows) {f : Str × List Str × Str} (hf : f ∈ x.F) : fnd x.syms f.1 = some f.2 := fnd_of (syms_nd ok) (F_syms hf)
theorem sort_hit {x : Lex} (ok : RowsOk x.S x.rows) {f : Str × List Str × Str} {ds : List PyData} (hf : f ∈ x.F) (h : Tre x (.tuple (.str f.1 :: ds))) : sortT x (.tuple (.str f.1 :: ds)) = f.2.2 := by
  have hg := F_get ok hf
  rcases h with ⟨s, h⟩ | h
  · obtain ⟨z, ds', e, h2⟩ := told_inv h
    cases e
    rcases h2 with ⟨hv, _⟩ | ⟨_, p, hp, _, rfl⟩
    · have := name_var (syms_name ok hg)
      rw [hv] at this; cases this
    · rw [hg] at hp
      cases hp
      exact sort_told h
  · unfold trueD at h
    injection h with h
    injection h with h1 h2
    injection h1 with h1
    have := syms_name ok hg
    rw [h1, true_name] at this; cases this
theorem sort_miss {x : Lex} (ok : RowsOk x.S x.rows) {z : Str} {ds : List PyData} (hc : capF z = false) (hm : ∀ f ∈ x.F, f.1 ≠ z) (h : Tre x (.tuple (.str z :: ds))) : sortT x (.tuple (.str z :: ds)) = "truth" := by
  rcases h with ⟨s, h⟩ | h
  · obtain ⟨z, ds', e, h2⟩ := told_inv h
    cases e
    rcases h2 with ⟨hv, _⟩ | ⟨_, p, hp, _, rfl⟩
    · rw [var_cap hv] at hc; cases hc
    · rw [sort_told h]
      have hmem := fnd_mem hp
      unfold Lex.syms at hmem
      rcases List.mem_append.mp hmem with hmem | hmem
      · exact absurd rfl (hm _ hmem)
      · obtain ⟨r, _, e⟩ := List.mem_map.mp hmem
        cases e; rfl
  · rw [h]
    unfold sortT
    rw [true_told ok]; rfl
theorem sort_var {x : Lex} {z s : Str} (ok : RowsOk x.S x.rows) (hc : capF z = true) (h : Tre x (.tuple [.str z, .str s])) : sortT x (.tuple [.str z, .str s]) = s := by
  rcases h with ⟨t, h⟩ | h
  · obtain ⟨z', ds', e, h2⟩ := told_inv h
    cases e
    rcases h2 with ⟨hv, h3, _⟩ | ⟨_, p, hp, _, rfl⟩
    · cases h3
      exact sort_told h
    · have := name_cap (syms_name ok hp)
      rw [hc] at this; cases this
  · cases h
theorem path_sm : ∀ {l : List Nat} {d c : PyData} {k W : Nat}, Tree k W d → partF d l = some c → ∀ j ∈ l, j < W
  | [], _, _, _, _, _, _ => fun j hj => by cases hj
  | i :: l, d, c, k, W, h, hp => fun j hj => by
    obtain ⟨z, ds, k', rfl, rfl, _, _, hlW, h2⟩ := h.inv
    obtain ⟨hz, b, hb, hp2⟩ := part_cons hp
    rcases h2 with ⟨hc, _⟩ | ⟨_, h2⟩
    · rw [hz] at hc; cases hc
    · rcases List.mem_cons.mp hj with rfl | hj
      · have := (List.getElem?_eq_some_iff.mp hb).1
        omega
      · exact path_sm (h2 b (List.mem_of_getElem? hb)) hp2 j hj
theorem pl_ok {l : List Nat} {d c : PyData} {k W : Nat} (h : Tree k W d) (hp : partF d l = some c) (hk : k ≤ 400) (hW : W ≤ 1000000) : PlOk l :=
  ⟨by have := (h.part hp).2; omega, fun j hj => Nat.le_trans (Nat.le_of_lt (path_sm h hp j hj)) (Nat.le_trans hW (by decide))⟩
theorem big_at {d : Int} (h0 : 0 ≤ d) (h1 : d < 5) : ∃ t : Nat, atI [V.int 0, V.int 1, V.int 0, V.int (10 ^ Int.toNat 20), V.int 2] d = some (.int (t : Int)) ∧ t ≤ 10 ^ 20 := by
  obtain ⟨k, rfl⟩ : ∃ k : Nat, d = (k : Int) := ⟨d.toNat, by omega⟩
  have h2 : k = 0 ∨ k = 1 ∨ k = 2 ∨ k = 3 ∨ k = 4 := by omega
  rcases h2 with rfl | rfl | rfl | rfl | rfl
  · exact ⟨0, atI_nat (j := 0) rfl, by decide⟩
  · exact ⟨1, atI_nat (j := 1) rfl, by decide⟩
  · exact ⟨0, atI_nat (j := 2) rfl, by decide⟩
  · exact ⟨10 ^ 20, atI_nat (j := 3) rfl, Nat.le_refl _⟩
  · exact ⟨2, atI_nat (j := 4) rfl, by decide⟩
theorem many_nat {m t : Nat} {mi : Int} (h : mi = 0 ∨ mi = 1) (ht : t ≤ 10 ^ 20) : ∃ q : Nat, (m : Int) + (t : Int) * mi = (q : Int) ∧ m ≤ q ∧ q ≤ m + 10 ^ 20 := by
  rcases h with rfl | rfl
  · exact ⟨m, by omega, Nat.le_refl _, by omega⟩
  · exact ⟨m + t, by omega, by omega, by omega⟩
theorem ext_of {o : PyData} (h : o ∈ [pathD [], pathD [0], pathD [1, 0]]) : ∃ ext : List Nat, o = pathD ext ∧ ext.length ≤ 2 ∧ ∀ k ∈ ext, k ≤ 1 := by
  simp only [List.mem_cons, List.not_mem_nil, or_false] at h
  rcases h with rfl | rfl | rfl
  · exact ⟨[], rfl, by decide, by decide⟩
  · exact ⟨[0], rfl, by decide, by decide⟩
  · exact ⟨[1, 0], rfl, by decide, by decide⟩
def pIn (s : Str) : PyData → Bool
  | .tuple [.str _, .tuple as] => as.any fun a => isS s a
  | _ => false
theorem pIn_pD (s : Str) (r : Str × List Str) : pIn s (pD r) = decide (s ∈ r.2) := by
  show ((r.2.map PyData.str).any fun a => isS s a) = _
  rw [List.any_map]
  induction r.2 with
  | nil => rfl
  | cons t l ih =>
    rw [List.any_cons, ih]
    show (decide (t = s) || decide (s ∈ l)) = _
    by_cases h : t = s
    · subst h; simp
    · have h2 : ¬ s = t := fun q => h q.symm
      simp [h, h2]
theorem first_ix {s : Str} : ∀ {l : List Str}, s ∈ l → ∃ j : Nat, l[j]? = some s ∧ ∀ (m : Nat) (z : Str), m < j → l[m]? = some z → z ≠ s
  | [], h => by cases h
  | t :: l, h => by
    by_cases e : t = s
    · exact ⟨0, by rw [e]; rfl, fun m z hm => absurd hm (Nat.not_lt_zero _)⟩
    · rcases List.mem_cons.mp h with h | h
      · exact absurd h.symm e
      · obtain ⟨j, h1, h2⟩ := first_ix h
        refine ⟨j + 1, by simpa using h1, fun m z hm hz => ?_⟩
        cases m with
        | zero => simp at hz; subst hz; exact e
        | succ m => exact h2 m z (by omega) (by simpa using hz)
def smallD (r : Str × List Str) : PyData := .tuple (.str r.1 :: r.2.map leafD)
theorem small_tm {x : Lex} (lok : LexOk x) {r : Str × List Str} (hr : r ∈ x.P) : Tm x 1 "truth" (smallD r) := by
  have hs := P_syms hr
  refine tm_mk lok.ok hs (es := r.2.map leafD) (by rw [List.length_map]) (lok.pl r hr) (fun j e s h1 h2 => ?_) (.inr (Nat.le_refl _))
  rw [List.getElem?_map, h2] at h1
  cases h1
  exact tm_var (p := ("X", s)) lok.ok (show varF "X" = true by decide +kernel) (arg_sort lok.ok hs (List.mem_of_getElem? h2))
theorem small_cap {x : Lex} (lok : LexOk x) {r : Str × List Str} (hr : r ∈ x.P) : capF r.1 = false := name_cap (syms_name lok.ok (fnd_of (syms_nd lok.ok) (P_syms hr)))
theorem small_part {x : Lex} (lok : LexOk x) {r : Str × List Str} (hr : r ∈ x.P) {j : Nat} {s : Str} (h : r.2[j]? = some s) : partF (smallD r) [j] = some (leafD s) := by
  unfold smallD
  rw [part_one, if_neg (by rw [small_cap lok hr]; decide), List.getElem?_map, h]; rfl
theorem eqV_str (a b : Str) : eqV (.str a) (.str b) = decide (a = b) := by
  unfold eqV
  first | rfl | simp
theorem leaf_told {x : Lex} (ok : RowsOk x.S x.rows) {s : Str} (hs : s ∈ x.S) : toldF x (leafD s) = some s := (tm_var (p := ("X", s)) ok (show varF "X" = true by decide +kernel) hs).td
theorem told_sort {x : Lex} (ok : RowsOk x.S x.rows) {d : PyData} {s : Str} (h : toldF x d = some s) : s ∈ x.S ∨ s = "truth" := by
  obtain ⟨z, ds, rfl, h2⟩ := told_inv h
  rcases h2 with ⟨_, _, hs⟩ | ⟨_, p, hp, _, rfl⟩
  · exact .inl hs
  · have hm := fnd_mem hp
    unfold Lex.syms at hm
    rcases List.mem_append.mp hm with hm | hm
    · exact .inl (F_sort ok hm)
    · obtain ⟨r, _, e⟩ := List.mem_map.mp hm
      cases e; exact .inr rfl
theorem tre_sub {x : Lex} (ok : RowsOk x.S x.rows) {l : List Nat} {d c : PyData} (h : Tre x d) (hp : partF d l = some c) : Tre x c := by
  rcases tre_part ok h hp with ⟨_, rfl⟩ | ⟨_, t, _, ht⟩
  · exact h
  · exact .inl ⟨t, ht⟩
theorem tre_sort {x : Lex} (ok : RowsOk x.S x.rows) {d : PyData} (h : Tre x d) (hs : sortT x d ≠ "truth") : sortT x d ∈ x.S ∧ toldF x d = some (sortT x d) := by
  rcases h with ⟨s, h⟩ | rfl
  · rw [sort_told h] at hs ⊢
    rcases told_sort ok h with h2 | h2
    · exact ⟨h2, h⟩
    · exact absurd h2 hs
  · exact absurd (by unfold sortT; rw [true_told ok]; rfl) hs
theorem sort_true {x : Lex} (ok : RowsOk x.S x.rows) : sortT x trueD = "truth" := by unfold sortT; rw [true_told ok]; rfl
theorem tree_true : Tree 1 10 trueD := ⟨by decide +kernel, by decide +kernel, by decide +kernel, by decide +kernel, by decide +kernel⟩
theorem tree_told {x : Lex} (ok : RowsOk x.S x.rows) {k W : Nat} {d : PyData} {s : Str} (h : toldF x d = some s) (hb : Bd k W d) : Tree k W d := ⟨told_TL ok h, told_Sy ok h, hb⟩
theorem eqv_path (l : List Nat) : PyData.eqv (pathD l) (pathD []) = decide (l = []) := by
  cases l with
  | nil => decide +kernel
  | cons k l =>
    rw [decide_eq_false (by simp)]
    show PyData.eqv (.tuple (.int (k : Int) :: l.map fun (k : Nat) => PyData.int (k : Int))) (.tuple []) = false
    simp [PyData.eqv, PyData.eqvAll]
theorem path_shaped (l : List Nat) : SeqAt.shaped (pathD l) = true := by
  unfold SeqAt.shaped
  rw [as_lay (path_bd l).1, decide_eq_true (Nat.le_trans (path_bd l).2 (by decide))]; rfl
def nilD : PyData → Bool
  | .tuple [] => true
  | _ => false
def grP (x : Lex) (s : Str) (o : PyData) : Bool := !nilD (fstD o) && decide (sortT x (secD o) = s)
theorem grP_at (x : Lex) (s : Str) (q : List Nat × PyData) : grP x s (placeD q) = (!decide (q.1 = []) && decide (sortT x q.2 = s)) := by
  obtain ⟨l, e⟩ := q
  cases l with
  | nil => rfl
  | cons k l =>
    rw [show decide (((k :: l, e) : List Nat × PyData).1 = []) = false from decide_eq_false (by simp)]
    rfl
theorem gr_mem {x : Lex} {s : Str} {qs : List (List Nat × PyData)} {o : PyData} (h : o ∈ ((qs.map placeD).filter (grP x s)).map fstD) : ∃ q ∈ qs, o = pathD q.1 ∧ q.1 ≠ [] ∧ sortT x q.2 = s := by
  obtain ⟨p, hp, rfl⟩ := List.mem_map.mp h
  obtain ⟨h1, h2⟩ := List.mem_filter.mp hp
  obtain ⟨q, hq, rfl⟩ := List.mem_map.mp h1
  rw [grP_at, Bool.and_eq_true] at h2
  exact ⟨q, hq, rfl, by simpa using h2.1, of_decide_eq_true h2.2⟩
structure Grow (x : Lex) (d : PyData) (s : Str) (k : Nat) (sp : List Nat) (g : PyData) : Prop where
  td : toldF x g = some s
  pt : partF g sp = some d
  len : sp.length ≤ 14 * k
  tr : Tree (15 + 14 * k) (5000 * (k + 1)) g
theorem Grow.zero {x : Lex} {d : PyData} {s : Str} (h : toldF x d = some s) (ht : Tree 15 5000 d) : Grow x d s 0 [] d := ⟨h, by rw [partF], Nat.le_refl _, ht⟩
theorem Grow.step {x : Lex} {d c g : PyData} {s : Str} {k : Nat} {sp l : List Nat} (h : Grow x d s k sp g) (hd : toldF x d = some s) (ht : Tree 15 5000 d) (hp : partF d l = some c) (hc : toldF x c = some s) : partF g (sp ++ l) = some c ∧ Grow x d s (k + 1) (sp ++ l) (putF3 g (sp ++ l) d) := by
  have hpt : partF g (sp ++ l) = some c := by rw [part_app, h.pt]; exact hp
  have hl := (ht.part hp).2
  have h3 := h.len
  refine ⟨hpt, (told_put hpt (hd.trans hc.symm)).trans h.td, part_put hpt, ?_, ?_⟩
  · rw [List.length_append]; omega
  · exact (ht.put h.tr hpt).up (by rw [List.length_append]; omega) (by omega)
section
variable {K : PySem.W.Frag} {σ : L2.St} {H : Hp} {Q : VK} {te : TE} {vs : List Nat} {j : Nat}
theorem b_rngD {n : Nat} {lo : Int} (Pd : PyData → Prop) (hI : ∀ d, Pd d → Im d = true) (hn : n < 100000) (hw : ∀ x, wipe ((wipe σ vs).set j (some x)) vs = wipe σ vs)
    (body : ∀ i H', i < n → Xt H H' → ∀ R : VK, (∀ y d H2, Xt H' H2 → Dp K H2 y d → Pd d → R y H2) → te ((wipe σ vs).set j (some (.int (lo + (i : Int))))) H' R)
    (k : ∀ Dl ys ds H2, H Dl = none → Xt H H2 → H2 Dl = some (.lst ys) → DpAll K H2 ys ds → ds.length = n → (∀ d ∈ ds, Pd d) → Q (.ref Dl) H2) : LcB (Itr lo n) (gName j) tYes te vs σ Q H := fun Dl hD =>
  lc_range (g := gName j) (tt := tYes) (te := te) (σ := σ) (vs := vs) (fun i H' => Xt H H' ∧ ∃ ys ds, H' Dl = some (.lst ys) ∧ DpAll K H' ys ds ∧ ds.length = i ∧ ∀ d ∈ ds, Pd d) ⟨xnew hD, [], [], upd_same, .nil, rfl, fun d hd => by cases hd⟩
    (fun i H' hi w => ⟨hw _, by
      refine k_yesT ?_
      rw [if_pos rfl]
      obtain ⟨x1, ys, ds, e, hys, hl, hP⟩ := w
      refine body i H' hi x1 _ fun y d H2 x2 hy hd => ?_
      have e2 := x2 _ _ e
      have hys2 := DpAll.mono x2 hys
      have hyl := hys.len
      refine ⟨ys, e2, szL2 (by omega), xmut (xtr x1 x2) hD, ys ++ [y], ds ++ [d], upd_same, ?_, by rw [List.length_append, List.length_singleton, hl], fun c hc => ?_⟩
      · exact DpAll.app (DpAll.im (fun _ _ h => SqT.upd e2 h) (imAll_iff.mpr fun c hc => hI c (hP c hc)) hys2) (.cons (Dp.im (fun _ _ h => SqT.upd e2 h) (hI d hd) hy) .nil)
      · rcases List.mem_append.mp hc with hc | hc
        · exact hP c hc
        · rw [List.mem_singleton] at hc; subst hc; exact hd⟩)
    (fun H' w => by obtain ⟨x, ys, ds, e, h1, h2, h3⟩ := w; exact k Dl ys ds H' hD x e h1 h2 h3)
end
def ValOk (x : Lex) (d : PyData) : Prop := Tre x d ∧ Tree 15 5000 d
theorem ValOk.im {x : Lex} {d : PyData} (h : ValOk x d) : Im d = true := (h.2.sm (by decide)).im
def headL : List Int := [3, 4, 3, 10] ++ [26, 12, 7, 7, 3] ++ (List.replicate 6 [36]).flatten
def PlT (k W : Nat) (q : List Nat × PyData) : Prop := ∃ kk, Tree kk W q.2 ∧ q.1.length + kk ≤ k
theorem place_im {q : List Nat × PyData} (h : Im q.2 = true) : Im (placeD q) = true := by
  show (ImAll [pathD q.1, q.2]) = true
  rw [ImAll, ImAll, ImAll, im_path, h]; rfl
theorem plT_im {k W : Nat} {L : List (List Nat × PyData)} (hW : W ≤ 1000000) (h : ∀ q ∈ L, PlT k W q) : ImAll (L.map placeD) = true := imAll_iff.mpr fun e he => by
  obtain ⟨q, hq, rfl⟩ := List.mem_map.mp he
  obtain ⟨kk, ht, _⟩ := h q hq
  exact place_im (ht.sm (by omega)).im
def upF (d : PyData) (l : List Nat) (i : Nat) : List PyData := (List.range i).map fun j => (partF d (l.take j)).getD .none
theorem upF_succ {d c : PyData} {l : List Nat} {i : Nat} (h : partF d (l.take i) = some c) : upF d l (i + 1) = upF d l i ++ [c] := by
  unfold upF
  rw [List.range_succ, List.map_append, List.map_cons, h]; rfl
theorem upF_get {d c : PyData} {l : List Nat} {i j : Nat} (hj : j < i) (h : partF d (l.take j) = some c) : (upF d l i)[j]? = some c := by
  unfold upF
  rw [List.getElem?_map, List.getElem?_range hj]
  show some ((partF d (l.take j)).getD .none) = _
  rw [h]; rfl
theorem part_pre {d c : PyData} {l : List Nat} (i : Nat) (h : partF d l = some c) : ∃ b, partF d (l.take i) = some b := by
  cases e : partF d (l.take i) with
  | some b => exact ⟨b, rfl⟩
  | none => rw [part_take_none e] at h; cases h
theorem put_step {d c b e : PyData} {l : List Nat} {j k : Nat} (hk : l[j]? = some k) (hb : partF d (l.take j) = some b) (hc : partF d (l.take (j + 1)) = some c) : ∃ z ds, b = .tuple (.str z :: ds) ∧ ds[k]? = some c ∧ putF3 b (l.drop j) e = .tuple (.str z :: ds.set k (putF3 c (l.drop (j + 1)) e)) := by
  rw [part_take hk, hb] at hc
  have hc : partF b [k] = some c := hc
  obtain ⟨z, ds, rfl⟩ := part_form hc
  obtain ⟨_, c2, h1, h2⟩ := part_cons hc
  rw [partF] at h2
  cases h2
  have hd : l.drop j = k :: l.drop (j + 1) := by
    obtain ⟨hj, hg⟩ := List.getElem?_eq_some_iff.mp hk
    rw [List.drop_eq_getElem_cons hj, hg]
  exact ⟨z, ds, rfl, h1, by rw [hd, put_eq h1]⟩
section
variable {P : Program} {K : PySem.W.Frag} {mg : Str → Option Value}
def KL (T : Top0 P K mg) : List Addr := [T.C_BadName, T.C_NameTaken, T.C_NoSort, T.C_BadTable, T.C_BadSize, T.C_BadPlace, T.C_FilledTwice, T.C_NoSelection]
theorem kit_of (T : Top0 P K mg) : kitB K (KL T) T.C_ClaimError T.C_TextError = true := by
  have h := T.kit
  unfold kitN at h
  rw [addrOf_eq T.a_ClaimError, addrOf_eq T.a_TextError] at h
  have e : (["BadName", "NameTaken", "NoSort", "BadTable", "BadSize", "BadPlace", "FilledTwice", "NoSelection"] : List Str).map (addrOf K) = KL T := by
    simp only [List.map_cons, List.map_nil]
    rw [addrOf_eq T.a_BadName, addrOf_eq T.a_NameTaken, addrOf_eq T.a_NoSort, addrOf_eq T.a_BadTable, addrOf_eq T.a_BadSize, addrOf_eq T.E_BadPlace.a, addrOf_eq T.a_FilledTwice, addrOf_eq T.a_NoSelection]
    rfl
  rw [e] at h
  exact h
theorem exm_bp (T : Top0 P K mg) : PySem.W.exmOne K (.ref T.C_BadPlace) (.ref T.C_ClaimError) = some true := by
  have h := T.exm
  unfold exmN at h
  simp only [List.all_cons, List.all_nil, Bool.and_true, Bool.and_eq_true, decide_eq_true_eq] at h
  rw [addrOf_eq T.a_ClaimError, addrOf_eq T.a_BadName, addrOf_eq T.a_NameTaken, addrOf_eq T.a_NoSort, addrOf_eq T.E_BadPlace.a] at h
  exact h.2.2.2
theorem is_at (T : Top0 P K mg) {i : Nat} {Ci a d : Addr} {fs : List (Str × V)} {H : Hp} {Q : VK} (hi : (KL T)[i]? = some Ci) (e : H d = some (.xd fs)) (q : Q (.bl (5 == i)) H) : rIsS K a (.ref T.C_BadPlace) (some d) [.ref a, .ref Ci] H Q :=
  ⟨T.C_BadPlace, .ref Ci, .ref Ci, _, rfl, rfl, .inr ⟨d, fs, rfl, e⟩, T.E_BadPlace.xc, fun u r => by cases r; rfl, (kit_at (i := 5) (kit_of T) rfl).1 i _ hi, q⟩
theorem is_te (T : Top0 P K mg) {a d : Addr} {fs : List (Str × V)} {H : Hp} {Q : VK} (e : H d = some (.xd fs)) (q : Q (.bl false) H) : rIsS K a (.ref T.C_BadPlace) (some d) [.ref a, .ref T.C_TextError] H Q :=
  ⟨T.C_BadPlace, .ref T.C_TextError, .ref T.C_TextError, _, rfl, rfl, .inr ⟨d, fs, rfl, e⟩, T.E_BadPlace.xc, fun u r => by cases r; rfl, (kit_at (i := 5) (kit_of T) rfl).2.2.2, q⟩
theorem is_ve (T : Top0 P K mg) {a d : Addr} {fs : List (Str × V)} {H : Hp} {Q : VK} (e : H d = some (.xd fs)) (q : Q (.bl true) H) : rIsS K a (.ref T.C_BadPlace) (some d) [.ref a, .ty "ValueError"] H Q :=
  ⟨T.C_BadPlace, .ty "ValueError", .type "ValueError", _, rfl, rfl, .inr ⟨d, fs, rfl, e⟩, T.E_BadPlace.xc, fun u r => by cases r; rfl, (kit_at (i := 5) (kit_of T) rfl).2.2.1, q⟩
def raisesP (T : Top0 P K mg) (u : V) (H : Hp) (E : XK) : Prop := ∀ dd H', Xt H H' → H' dd = some (.xd [("place", u)]) → E (.ref T.C_BadPlace) (some dd) H'
def sp_variables_of (_ : Top0 P K mg) : Sp := fun vs H Q _ => ∃ (v : V) (d : PyData) (k W : Nat), vs = [v] ∧ Dp K H v d ∧ Tree k W d ∧ W ≤ 1000000 ∧ ∀ H' w, Xt H H' → Dp K H' w (.tuple ((varsF d).map varD)) → Q w H'
def sp__part (T : Top0 P K mg) : Sp := fun vs H Q E => ∃ (v u : V) (d : PyData) (n k W : Nat) (l : List Nat), vs = [v, .int (n : Int), u] ∧ Dp K H v d ∧ Tree k W d ∧ W ≤ 1000000 ∧ Dp K H u (pathD l) ∧ PlOk l ∧ (∀ c w, partF d [n] = some c → Dp K H w c → Q w H) ∧ (partF d [n] = none → raisesP T u H E)
def sp_part_at (T : Top0 P K mg) : Sp := fun vs H Q E => ∃ (v u : V) (d : PyData) (k W : Nat) (l : List Nat), vs = [v, u] ∧ Dp K H v d ∧ Tree k W d ∧ W ≤ 1000000 ∧ Dp K H u (pathD l) ∧ PlOk l ∧ (∀ c w, partF d l = some c → Dp K H w c → Q w H) ∧ (partF d l = none → raisesP T u H E)
def sp_put_at (T : Top0 P K mg) : Sp := fun vs H Q E => ∃ (v u y : V) (d e : PyData) (k W m W2 : Nat) (l : List Nat), vs = [v, u, y] ∧ Dp K H v d ∧ Tree k W d ∧ W ≤ 1000000 ∧ Dp K H u (pathD l) ∧ PlOk l ∧ Dp K H y e ∧ Tree m W2 e ∧ W2 ≤ 1000000 ∧ (∀ c w H', partF d l = some c → Xt H H' → Dp K H' w (putF3 d l e) → Q w H') ∧ (partF d l = none → raisesP T u H E)
def sp_inner_places (_ : Top0 P K mg) : Sp := fun vs H Q _ => ∃ (v : V) (d : PyData) (k W : Nat), vs = [v] ∧ Dp K H v d ∧ Tree k W d ∧ W ≤ 1000000 ∧ k ≤ 1000 ∧ ∀ H' w, Xt H H' → Dp K H' w (.tuple ((innerF [] d).map pathD)) → Q w H'
def sp__law_is_variable (_ : Top0 P K mg) : Sp := fun vs H Q _ => ∃ (v : V) (d : PyData) (k W : Nat), vs = [v] ∧ Dp K H v d ∧ Tree k W d ∧ W ≤ 1000000 ∧ Q (.bl (capD d)) H
def sp__law_symbols (_ : Top0 P K mg) : Nat → Sp
  | 0 => fun _ _ _ _ => False
  | n + 1 => fun vs H Q _ => ∃ (v : V) (d : PyData) (W : Nat), vs = [v] ∧ Dp K H v d ∧ Tree (n + 1) W d ∧ W ≤ 1000000 ∧ ∀ H', Xt H H' → Q (.int (subsF d).length) H'
def sp__law_term_variables (_ : Top0 P K mg) : Nat → Sp
  | 0 => fun _ _ _ _ => False
  | n + 1 => fun vs H Q _ => ∃ (v : V) (a : Addr) (ks : List V) (d : PyData) (ps : List (Str × Str)) (W : Nat), vs = [v, .ref a] ∧ Dp K H v d ∧ Tree (n + 1) W d ∧ W ≤ 1000000 ∧ H a = some (.lst ks) ∧ DpAll K H ks (ps.map varD) ∧ ps.length + (subsF d).length ≤ 3000000 ∧ (∀ p ∈ ps, AsD (varD p) = true) ∧ ∀ a2 H' ks2, Xt H H' → H' a2 = some (.lst ks2) → DpAll K H' ks2 ((varsA ps (subsF d)).map varD) → Q (.ref a2) H'
def sp__law_all_places (_ : Top0 P K mg) : Nat → Sp
  | 0 => fun _ _ _ _ => False
  | n + 1 => fun vs H Q _ => ∃ (v u : V) (d : PyData) (l : List Nat) (W : Nat), vs = [v, u] ∧ Dp K H v d ∧ Tree (n + 1) W d ∧ W ≤ 1000000 ∧ Dp K H u (pathD l) ∧ l.length + n ≤ 1000 ∧ ∀ a H' xs, Xt H H' → H' a = some (.lst xs) → DpAll K H' xs ((placesF d l).map placeD) → Q (.ref a) H'
def sp__law_put (_ : Top0 P K mg) : Nat → Sp
  | 0 => fun _ _ _ _ => False
  | n + 1 => fun vs H Q _ => ∃ (v u y : V) (d c e : PyData) (k W m W2 : Nat) (l : List Nat), vs = [v, u, y] ∧ Dp K H v d ∧ Tree k W d ∧ W ≤ 1000000 ∧ Dp K H u (pathD l) ∧ l.length ≤ n ∧ Dp K H y e ∧ Tree m W2 e ∧ W2 ≤ 1000000 ∧ partF d l = some c ∧ ∀ w H', Xt H H' → Dp K H' w (putF3 d l e) → Q w H'
def sp__law_sort (_ : Top0 P K mg) : Sp := fun vs H Q _ => ∃ (l : Addr) (v : V) (x : Lex) (d : PyData) (k W : Nat), vs = [.ref l, v] ∧ LexAt K H l x ∧ LexOk x ∧ Dp K H v d ∧ Tree k W d ∧ W ≤ 1000000 ∧ Tre x d ∧ Q (.str (sortT x d)) H
def sp__law_value (_ : Top0 P K mg) : Sp := fun vs H Q _ => ∃ (l vr : Addr) (x : Lex) (c : Int) (vl : List (Str × Str)) (ws : List V), vs = [.ref l, .int c, .ref vr] ∧ LexAt K H l x ∧ LexOk x ∧ x.S ≠ [] ∧ H vr = some (.lst ws) ∧ DpAll K H ws (vl.map varD) ∧ VarsOk x vl ∧ ∀ H' v s d, Xt H H' → Dp K H' v d → toldF x d = some s → Bd 15 5000 d → Q v H'
def sp__law_refused (_ : Top0 P K mg) : Sp := fun vs H Q _ => ∃ (v u y : V) (d e : PyData) (k W m W2 : Nat) (l : List Nat), vs = [v, u, y] ∧ Dp K H v d ∧ Tree k W d ∧ W ≤ 1000000 ∧ Dp K H u (pathD l) ∧ PlOk l ∧ Dp K H y e ∧ Tree m W2 e ∧ W2 ≤ 1000000 ∧ partF d l = none ∧ ∀ H', Xt H H' → Q (.bl true) H'
def sp__law_listed (_ : Top0 P K mg) : Sp := fun vs H Q _ => ∃ (v : V) (d : PyData) (k W : Nat), vs = [v] ∧ Dp K H v d ∧ Tree k W d ∧ W ≤ 1000000 ∧ k ≤ 115 ∧ ∀ H', Xt H H' → Q (.bl true) H'
def sp__law_asked (_ : Top0 P K mg) : Sp := fun vs H Q _ => ∃ (l vr : Addr) (v : V) (x : Lex) (d : PyData) (c : Int) (vl : List (Str × Str)) (ws : List V), vs = [.ref l, v, .int c, .ref vr] ∧ LexAt K H l x ∧ LexOk x ∧ x.S ≠ [] ∧ Dp K H v d ∧ Tree 15 5000 d ∧ Tre x d ∧ H vr = some (.lst ws) ∧ DpAll K H ws (vl.map varD) ∧ VarsOk x vl ∧ ∀ H', Xt H H' → Q (.bl true) H'
def sp__law_grown_atom (T : Top0 P K mg) : Sp := fun vs H Q _ => ∃ (l b : Addr) (v : V) (x : Lex) (d : PyData) (s : Str), vs = [.ref l, .ref b, v, .str s] ∧ LexAt K H l x ∧ LexOk x ∧ VocAt K T.C_Vocabulary H b x ∧ Dp K H v d ∧ Tree 114 50000 d ∧ toldF x d = some s ∧ s ∈ x.S ∧ ∀ H', Xt H H' → Q (.bl true) H'
def sp__law_grown (T : Top0 P K mg) : Sp := fun vs H Q _ => ∃ (l b r : Addr) (v : V) (x : Lex) (d : PyData) (ds : List Int), vs = [.ref l, .ref b, v, .ref r] ∧ LexAt K H l x ∧ LexOk x ∧ VocAt K T.C_Vocabulary H b x ∧ Dp K H v d ∧ Tree 15 5000 d ∧ Tre x d ∧ SqL K H r (ds.map V.int) ∧ DigOk ds [60, 60, 60, 60, 60, 60, 60, 6] ∧ ∀ H', Xt H H' → Q (.bl true) H'
end
end K03

set_option Elab.async false
set_option linter.all false
set_option maxRecDepth 100000
set_option maxHeartbeats 2000000
namespace K03
open PySem PySem.Spec PyProof.Rows L2 NdefX CW RZ
open PySem.W (fnX)
def sp_lawK (K : PySem.W.Frag) : Sp := fun vs H Q _ => ∃ (l : Addr) (ns : List Int), vs = [.ref l] ∧ SqL K H l (ns.map V.int) ∧ ns.length ≤ 63 ∧ ∀ H', Q (.bl true) H'
local macro_rules | `(tactic| walk_at "lb") => `(tactic| repeat' (with_reducible first | refine' lb_app ?_ ?_ | refine' lb_cut ?_ | exact lb_one | refine' lb_up ?_ | exact Nat.le_refl _))
local macro_rules | `(tactic| walk_at "0") => `(tactic| (with_reducible refine k_seq ?_))
local macro_rules | `(tactic| walk_at "1") => `(tactic| (with_reducible refine k_asg ?_))
local macro_rules | `(tactic| walk_at "2") => `(tactic| (with_reducible refine k_ret ?_))
local macro_rules | `(tactic| walk_at "3") => `(tactic| (with_reducible refine k_drop ?_))
local macro_rules | `(tactic| walk_at "4") => `(tactic| (with_reducible refine k_ifs ?_))
local macro_rules | `(tactic| walk_at "5") => `(tactic| (with_reducible refine k_next ?_))
local macro_rules | `(tactic| walk_at "6") => `(tactic| (with_reducible refine k_name ?_))
local macro_rules | `(tactic| walk_at "7") => `(tactic| (with_reducible refine k_c ?_))
local macro_rules | `(tactic| walk_at "8") => `(tactic| (with_reducible refine k_op ?_))
local macro_rules | `(tactic| walk_at "9") => `(tactic| (with_reducible refine k_cons ?_))
local macro_rules | `(tactic| walk_at "10") => `(tactic| (with_reducible refine k_nil ?_))
local macro_rules | `(tactic| walk_at "11") => `(tactic| (with_reducible refine k_cb ?_))
local macro_rules | `(tactic| walk_at "12") => `(tactic| (with_reducible refine k_call ?_))
local macro_rules | `(tactic| walk_at "14") => `(tactic| (with_reducible refine k_test ?_))
local macro_rules | `(tactic| walk_at "15") => `(tactic| (with_reducible refine k_tb ?_))
local macro_rules | `(tactic| walk_at "16") => `(tactic| (with_reducible refine k_not ?_))
local macro_rules | `(tactic| walk_at "17") => `(tactic| (with_reducible refine k_and ?_))
local macro_rules | `(tactic| walk_at "18") => `(tactic| (with_reducible refine k_or ?_))
local macro_rules | `(tactic| walk_at "19") => `(tactic| (with_reducible refine k_andV ?_))
local macro_rules | `(tactic| walk_at "21") => `(tactic| (with_reducible refine k_notV ?_))
local macro_rules | `(tactic| walk_at "22") => `(tactic| (with_reducible refine k_ife ?_))
local macro_rules | `(tactic| walk_at "23") => `(tactic| (with_reducible refine k_chain ?_))
local macro_rules | `(tactic| walk_at "24") => `(tactic| (with_reducible refine k_callN ?_))
local macro_rules | `(tactic| walk_at "25") => `(tactic| (with_reducible refine k_fld ?_))
local macro_rules | `(tactic| walk_at "26") => `(tactic| (with_reducible refine k_sfld ?_))
local macro_rules | `(tactic| walk_at "27") => `(tactic| (with_reducible refine k_dget ?_))
local macro_rules | `(tactic| walk_at "28") => `(tactic| (with_reducible refine k_din ?_))
local macro_rules | `(tactic| walk_at "29") => `(tactic| (with_reducible refine k_dput ?_))
local macro_rules | `(tactic| walk_at "30") => `(tactic| (with_reducible refine k_meth ?_))
local macro_rules | `(tactic| walk_at "31") => `(tactic| (with_reducible refine k_make ?_))
local macro_rules | `(tactic| walk_at "32") => `(tactic| (with_reducible refine k_dc ?_))
local macro_rules | `(tactic| walk_at "33") => `(tactic| (with_reducible refine k_bm0 ?_))
local macro_rules | `(tactic| walk_at "34") => `(tactic| (with_reducible refine k_lst0 ?_))
local macro_rules | `(tactic| walk_at "35") => `(tactic| (with_reducible refine k_tup0 ?_))
local macro_rules | `(tactic| walk_at "36") => `(tactic| (with_reducible refine k_bm ?_))
local macro_rules | `(tactic| walk_at "37") => `(tactic| (with_reducible refine k_for ?_))
local macro_rules | `(tactic| walk_at "38") => `(tactic| (with_reducible refine k_ilist ?_))
local macro_rules | `(tactic| walk_at "39") => `(tactic| (with_reducible refine k_itup ?_))
local macro_rules | `(tactic| walk_at "40") => `(tactic| (with_reducible refine k_istr ?_))
local macro_rules | `(tactic| walk_at "41") => `(tactic| (with_reducible refine k_izip ?_))
local macro_rules | `(tactic| walk_at "42") => `(tactic| (with_reducible refine k_irng1 ?_))
local macro_rules | `(tactic| walk_at "45") => `(tactic| (with_reducible refine v_isstr ?_))
local macro_rules | `(tactic| walk_at "46") => `(tactic| (with_reducible refine v_isi_str ?_))
local macro_rules | `(tactic| walk_at "48") => `(tactic| (with_reducible refine k_sl ?_))
local macro_rules | `(tactic| walk_at "49") => `(tactic| (with_reducible refine k_nopart ?_))
local macro_rules | `(tactic| walk_at "50") => `(tactic| (with_reducible refine k_part ?_))
local macro_rules | `(tactic| walk_at "51") => `(tactic| (with_reducible refine k_lcl ?_))
local macro_rules | `(tactic| walk_at "53") => `(tactic| (with_reducible refine k_m1 ?_))
local macro_rules | `(tactic| walk_at "55") => `(tactic| (with_reducible refine v_I0 ?_))
local macro_rules | `(tactic| walk_at "56") => `(tactic| (with_reducible refine v_plus_int ?_))
local macro_rules | `(tactic| walk_at "57") => `(tactic| (with_reducible refine v_int ?_))
local macro_rules | `(tactic| walk_at "61") => `(tactic| (with_reducible refine w_in_s ?_))
local macro_rules | `(tactic| walk_at "62") => `(tactic| (with_reducible refine w_notin_s ?_))
local macro_rules | `(tactic| walk_at "64") => `(tactic| (with_reducible refine v_notN ?_))
local macro_rules | `(tactic| walk_at "65") => `(tactic| (with_reducible refine v_leS ?_))
local macro_rules | `(tactic| walk_at "66") => `(tactic| (with_reducible refine k_tr ?_))
local macro_rules | `(tactic| walk_at "67") => `(tactic| (with_reducible refine v_isi_int ?_))
local macro_rules | `(tactic| walk_at "68") => `(tactic| (with_reducible refine v_isi_intB ?_))
local macro_rules | `(tactic| walk_at "69") => `(tactic| (((with_reducible refine' k_var ?hv ?_); case hv => exact rfl)))
local macro_rules | `(tactic| walk_at "70") => `(tactic| (((with_reducible refine' v_I ?hc ?_); case hc => first | (show (0 : Int) < _; first | decide | omega | assumption) | exact ⟨by decide, by decide⟩ | exact ⟨by decide, by decide, by decide⟩ | exact ⟨by omega, by decide⟩)))
local macro_rules | `(tactic| walk_at "72") => `(tactic| (((with_reducible refine' u_times_int ?hc ?_); case hc => first | exact .inr ⟨by decide, by decide⟩ | exact .inl ⟨by decide, by decide⟩ | exact .inr ⟨by omega, by omega⟩ | exact .inl ⟨by omega, by omega⟩)))
local macro_rules | `(tactic| walk_at "75") => `(tactic| (((with_reducible refine' v_eqU ?hc ?_); case hc => exact rfl)))
local macro_rules | `(tactic| walk_at "76") => `(tactic| (((with_reducible refine' v_neU ?hc ?_); case hc => exact rfl)))
local macro_rules | `(tactic| walk_at "77") => `(tactic| (((with_reducible refine' v_len_l ?hc ?_); case hc => first | assumption | exact sql (by assumption))))
local macro_rules | `(tactic| walk_at "78") => `(tactic| (((with_reducible refine' v_len_s ?hc ?_); case hc => first | exact szL (by omega) | decide)))
local macro_rules | `(tactic| walk_at "79") => `(tactic| (((with_reducible refine' v_ix_l ?hs ?ha ?_); (case hs => first | assumption | exact sql (by assumption)); (case ha => assumption))))
local macro_rules | `(tactic| walk_at "80") => `(tactic| (((with_reducible refine' v_sl_s ?hc ?_); case hc => first | exact szL (Nat.le_trans (by walk_at "lb") (by omega)) | exact szL (by omega) | decide)))
local macro_rules | `(tactic| walk_at "81") => `(tactic| (((with_reducible refine' v_plus_str ?hc ?_); case hc => first | exact szL (Nat.le_trans (Nat.add_le_add (by walk_at "lb") (by walk_at "lb")) (by omega)) | exact szL (by omega) | decide)))
local macro_rules | `(tactic| walk_at "82") => `(tactic| (((with_reducible refine' v_new ?hz ?_); case hz => first | decide | (simp only [List.length_cons, List.length_nil]; decide))))
local macro_rules | `(tactic| walk_at "83") => `(tactic| (((with_reducible refine' v_newT ?hz ?_); case hz => first | decide | (simp only [List.length_cons, List.length_nil]; decide))))
local macro_rules | `(tactic| walk_at "87") => `(tactic| (refine ⟨(rfl : List.length _ = _), (rfl : List.length _ = _), ?_⟩))
local macro_rules | `(tactic| walk_at "88") => `(tactic| (with_reducible refine' ⟨_, rfl, ?_⟩))
local macro_rules | `(tactic| walk_at "89") => `(tactic| (refine k_no ?_))
local macro_rules | `(tactic| walk_at "90") => `(tactic| (refine k_yes ?_))
section
variable {P : Program} {w : World} {K : PySem.W.Frag} {mg : Str → Option Value} {base : Heap}
theorem ok__has_form (T : Top0 P K mg) : FnOk P w K mg base CX0 1 T.f__has_form T.fd__has_form ["value"] (sp__has_form T) := by
  refine T.F__has_form.ok sc__has_form (fun vs H Q E h => ?_) (fun cdv A outer s H vs Q E hr h => ?_)
  · obtain ⟨z, rfl, hz, q⟩ := h
    rfl
  · obtain ⟨z, rfl, hz, q⟩ := h
    refine ⟨_, (pss_cons (ps_if (PW.pt (pw_or (pt_not (pt_val (pe_callB (r := rIsi K) call_isi (by rfl) T.n_isinstance PyProof.Rows.boot_isinstance (pa_cons (pv 0) (pa_cons (pe_bltn (v := .ty "str") (by rfl) T.n_str (by decide +kernel) rfl) pa_nil))))) (pw_or1 (pt_not (pt_chain op_le op_le pe_int (pe_callB (r := rLenU K) call_lenU (by rfl) T.n_len PySem.boot_len (pa_cons (pv 0) pa_nil)) (pe_glob (v := .int 8) (by rfl) T.c_LONGEST ⟨_, rfl⟩)))))) (pss_one (ps_ret pe_bl)) pss_nil)
      (pss_one (ps_ret (pe_callB (r := rAll K) (cr_all rfl) (by rfl) T.n_all PyProof.Rows.boot_all (pa_cons (pe_lc (own := [("sign", 1)]) (g := gName 1) rfl sc__has_form.nd (pi_str (pe_slice (r := rSlU K) sl_any (pv 0) (po_some pe_int) po_none)) (blkOk_by (N := N__has_form) (sc := defScope s__has_form) (by decide +kernel)) (fun _ _ _ _ _ => (pg_name (i := 1) sc__has_form.nd rfl (Or.inl rfl))) (fun _ _ _ _ _ => pts_nil) (fun _ _ _ _ _ => (pe_cmpR (r := rInV K) (op_inV hr) (pv 1) (pe_glob (v := .str "abcdefghijklmnopqrstuvwxyz0123456789") (by rfl) T.c_SMALL_SIGNS ⟨_, rfl⟩) (by with_unfolding_all rfl)))) pa_nil))))), ?_⟩
    walk_at "0"
    walk_at "4"
    walk_at "18"
    walk_at "16"
    walk_at "15"
    walk_at "11"
    walk_at "9"
    walk_at "69"
    walk_at "9"
    walk_at "7"
    walk_at "10"
    walk_at "46"
    walk_at "88"
    walk_at "89"
    walk_at "16"
    walk_at "14"
    walk_at "23"
    walk_at "7"
    walk_at "11"
    walk_at "9"
    walk_at "69"
    walk_at "10"
    walk_at "78"
    walk_at "55"
    walk_at "88"
    refine k_if (fun h1 => ?_) (fun h1 => ?_)
    · walk_at "7"
      walk_at "55"
      walk_at "88"
      refine k_ifn (fun h2 => ?_) (fun h2 => ?_)
      · walk_at "2"
        walk_at "7"
        have e := plainF_no (z := z) (by omega)
        rw [← e]; exact q H (xrefl H)
      · walk_at "5"
        walk_at "2"
        walk_at "11"
        walk_at "9"
        walk_at "51"
        walk_at "40"
        walk_at "48"
        walk_at "69"
        walk_at "50"
        walk_at "7"
        walk_at "88"
        walk_at "49"
        walk_at "80"
        walk_at "88"
        refine' b_txt (fun i y => ∃ c, (cutS z (some 1) none).cps.toList[i]? = some c ∧ y = .bl (decide (c ∈ smallL))) ?hn (fun x => ?hw) ?hb ?hk
        case hn => have := len_cut z (some 1) none; omega
        case hw => rfl
        case hb =>
          intro i c H' hc x R hR
          walk_at "8"
          walk_at "69"
          walk_at "7"
          walk_at "61"
          exact hR _ _ (xrefl _) ⟨c, by rw [Array.getElem?_toList]; exact hc, rfl⟩
        case hk =>
          intro D ys H2 hD hl hP x2 e2
          walk_at "10"
          have e := list_map_of (l := (cutS z (some 1) none).cps.toList) (f := fun c => V.bl (decide (c ∈ smallL))) (by rw [hl, Array.length_toList]; rfl) hP
          have e3 : ys = ((cutS z (some 1) none).cps.toList.map fun c => decide (c ∈ smallL)).map V.bl := by rw [e, List.map_map]; rfl
          refine v_all (bs := (cutS z (some 1) none).cps.toList.map fun c => decide (c ∈ smallL)) (sql (by rw [← e3]; exact e2)) ?_
          rw [List.all_map, cut_from1]
          have e4 := plainF_yes (z := z) (by omega) (by omega)
          have e5 : (z.cps.toList.drop 1).all (id ∘ fun c => decide (c ∈ smallL)) = plainF z := e4.symm
          rw [e5]
          exact q H2 x2
    · walk_at "88"
      walk_at "90"
      walk_at "2"
      walk_at "7"
      have e := plainF_no (z := z) (by omega)
      rw [← e]; exact q H (xrefl H)



theorem ok_Vocabulary_arguments (T : Top0 P K mg) : FnOk P w K mg base CX0 1 T.f_Vocabulary_arguments T.fd_Vocabulary_arguments ["self", "name"] (sp_Vocabulary_arguments T) := by
  refine T.F_Vocabulary_arguments.ok sc_Vocabulary_arguments (fun vs H Q E h => ?_) (fun cdv A outer s H vs Q E hr h => ?_)
  · obtain ⟨a, z, x, rfl, hV, q⟩ := h
    rfl
  · obtain ⟨a, z, x, rfl, hV, q⟩ := h
    refine ⟨_, (pss_one (ps_ret (pe_dget1 (hu_of hr) (show PE _ _ (tFld K _ _) from pe_fld (pv 0) rfl) (pv 1) ⟨rfl, rfl, rfl, rfl⟩))), ?_⟩
    obtain ⟨dx, fs, s, dA, dS, kA, kS, h1, h2, h3, h4, h5, h6, h7, h8, h9, h10, h11⟩ := hV
    walk_at "2"
    walk_at "27"
    walk_at "25"
    walk_at "69"
    refine v_fld h1 T.cl_Vocabulary T.na_Vocabulary__argument_sorts h4 ?_
    refine ⟨dA, rfl, .inl ⟨kA, .inl h5⟩, ?_⟩
    walk_at "69"
    refine ⟨_, DGet.k (k := Sum.inr z) h5, ?_⟩
    have hz := h6 z
    cases e : tabF (argsTab x) z with
    | none => rw [e] at hz; rw [e] at q; rw [hz]; exact q _ .non
    | some d => rw [e] at hz; rw [e] at q; obtain ⟨_, v, e1, e2⟩ := hz; rw [e1]; exact q _ e2



theorem ok_Vocabulary_value_sort (T : Top0 P K mg) : FnOk P w K mg base CX0 1 T.f_Vocabulary_value_sort T.fd_Vocabulary_value_sort ["self", "name"] (sp_Vocabulary_value_sort T) := by
  refine T.F_Vocabulary_value_sort.ok sc_Vocabulary_value_sort (fun vs H Q E h => ?_) (fun cdv A outer s H vs Q E hr h => ?_)
  · obtain ⟨a, z, x, rfl, hV, q⟩ := h
    rfl
  · obtain ⟨a, z, x, rfl, hV, q⟩ := h
    refine ⟨_, (pss_one (ps_ret (pe_dget1 (hu_of hr) (show PE _ _ (tFld K _ _) from pe_fld (pv 0) rfl) (pv 1) ⟨rfl, rfl, rfl, rfl⟩))), ?_⟩
    obtain ⟨dx, fs, s, dA, dS, kA, kS, h1, h2, h3, h4, h5, h6, h7, h8, h9, h10, h11⟩ := hV
    walk_at "2"
    walk_at "27"
    walk_at "25"
    walk_at "69"
    refine v_fld h1 T.cl_Vocabulary T.na_Vocabulary__value_sorts h7 ?_
    refine ⟨dS, rfl, .inl ⟨kS, .inl h8⟩, ?_⟩
    walk_at "69"
    refine ⟨_, DGet.k (k := Sum.inr z) h8, ?_⟩
    have hz := h9 z
    cases e : tabF (sortTab x) z with
    | none => rw [e] at hz; rw [e] at q; rw [hz]; exact q _ .non
    | some d => rw [e] at hz; rw [e] at q; obtain ⟨_, v, e1, e2⟩ := hz; rw [e1]; exact q _ e2



theorem ok_is_variable (T : Top0 P K mg) : FnOk P w K mg base CX0 1 T.f_is_variable T.fd_is_variable ["term"] (sp_is_variable T) := by
  refine T.F_is_variable.ok sc_is_variable (fun vs H Q E h => ?_) (fun cdv A outer s H vs Q E hr h => ?_)
  · obtain ⟨v, z, ds, rfl, hv, hz, q⟩ := h
    rfl
  · obtain ⟨v, z, ds, rfl, hv, hz, q⟩ := h
    refine ⟨_, (pss_one (ps_ret (pe_chain op_leS op_leS pe_str (pe_ix (r := rIx K) ix_seq (pe_ix (r := rIx K) ix_seq (pv 0) pe_int (fun _ _ => rfl)) pe_int (fun _ _ => rfl)) pe_str))), ?_⟩
    obtain ⟨c, r, ez, ec⟩ := head_of hz.1
    have e : capF z = decide (65 ≤ c ∧ c ≤ 90) := by unfold capF; rw [ez]
    walk_at "2"
    walk_at "23"
    walk_at "7"
    walk_at "8"
    walk_at "8"
    walk_at "69"
    walk_at "7"
    refine d_ix hv (atI_nat (j := 0) rfl) fun w hw => ?_
    cases Dp.str_inv hw
    walk_at "7"
    refine v_ix_s (szL (by omega)) ec ?_
    walk_at "65"
    walk_at "88"
    have e1 : (!decide ((⟨#[c]⟩ : Str).cps.toList < (Str.ofString "A").cps.toList)) = decide (65 ≤ c) := by
      rw [show (⟨#[c]⟩ : Str).cps.toList = [c] from rfl, show (Str.ofString "A").cps.toList = [65] from by decide +kernel]
      by_cases h : 65 ≤ c
      · rw [decide_eq_true h, decide_eq_false (fun q => by rw [List.cons_lt_cons_iff] at q; rcases q with q | q; omega; exact absurd q.2 (by decide))]; rfl
      · rw [decide_eq_false h, decide_eq_true (by rw [List.cons_lt_cons_iff]; left; omega)]; rfl
    have e2 : (!decide ((Str.ofString "Z").cps.toList < (⟨#[c]⟩ : Str).cps.toList)) = decide (c ≤ 90) := by
      rw [show (⟨#[c]⟩ : Str).cps.toList = [c] from rfl, show (Str.ofString "Z").cps.toList = [90] from by decide +kernel]
      by_cases h : c ≤ 90
      · rw [decide_eq_true h, decide_eq_false (fun q => by rw [List.cons_lt_cons_iff] at q; rcases q with q | q; omega; exact absurd q.2 (by decide))]; rfl
      · rw [decide_eq_false h, decide_eq_true (by rw [List.cons_lt_cons_iff]; left; omega)]; rfl
    rw [show (!decide ((⟨#[c]⟩ : Str).cps.toList < (Str.ofString "A").cps.toList)) = decide (65 ≤ c) from e1]
    refine k_if (fun h1 => ?_) (fun h1 => ?_)
    · walk_at "7"
      walk_at "65"
      rw [show (!decide ((Str.ofString "Z").cps.toList < (⟨#[c]⟩ : Str).cps.toList)) = decide (c ≤ 90) from e2]
      have e3 : decide (c ≤ 90) = capF z := by rw [e]; exact decide_eq_decide.mpr ⟨fun h => ⟨h1, h⟩, fun h => h.2⟩
      rw [e3]; exact q
    · have e3 : false = capF z := by rw [e]; exact (decide_eq_false (by omega)).symm
      rw [e3]; exact q



theorem ok__law_cell (T : Top0 P K mg) : FnOk P w K mg base CX0 1 T.f__law_cell T.fd__law_cell ["script", "k"] (sp__law_cell T) := by
  refine T.F__law_cell.ok sc__law_cell (fun vs H Q E h => ?_) (fun cdv A outer s H vs Q E hr h => ?_)
  · obtain ⟨l, ns, k, rfl, hS, hn, hk, q⟩ := h
    rfl
  · obtain ⟨l, ns, k, rfl, hS, hn, hk, q⟩ := h
    refine ⟨_, (pss_cons (ps_if (pt_cmpR op_lt (pv 1) (pe_callB (r := rLenU K) call_lenU (by rfl) T.n_len PySem.boot_len (pa_cons (pv 0) pa_nil)) (nomark _)) (pss_one (ps_ret (pe_ix (r := rIx K) ix_seq (pv 0) (pv 1) (fun _ _ => rfl)))) pss_nil)
      (pss_cons (ps_set (i := 2) sc__law_cell.nd rfl (Or.inl rfl) pe_int)
      (pss_cons (ps_for PassesOwn.never rfl (pi_list (pv 0)) (pg_name (i := 3) sc__law_cell.nd rfl (Or.inl rfl)) (pss_one (ps_set (i := 2) sc__law_cell.nd rfl (Or.inl rfl) (pe_op op_mod (pe_callTy call_intU (by rfl) T.n_int PyProof.Rows.boot_int (pa_cons (pe_op (r := rPlus K) op_plus (pe_op op_timesU (pv 2) pe_int) (pe_op op_mod (pe_callTy call_intU (by rfl) T.n_int PyProof.Rows.boot_int (pa_cons (pv 3) pa_nil)) pe_int)) pa_nil)) pe_int))))
      (pss_one (ps_ret (pe_op op_mod (pe_callTy call_intU (by rfl) T.n_int PyProof.Rows.boot_int (pa_cons (pe_op op_timesU (pe_op op_timesU (pe_op (r := rPlus K) op_plus (pv 2) pe_int) (pe_op (r := rPlus K) op_plus (pv 1) pe_int)) pe_int) pa_nil)) pe_int)))))), ?_⟩
    walk_at "0"
    walk_at "4"
    walk_at "14"
    walk_at "8"
    walk_at "69"
    walk_at "11"
    walk_at "9"
    walk_at "69"
    walk_at "10"
    walk_at "77"
    walk_at "55"
    walk_at "88"
    refine k_if (fun hlt => ?_) (fun hge => ?_)
    · rw [List.length_map] at hlt
      obtain ⟨n, e, _⟩ := atI_int (ns := ns) (i := k) hk.1 hlt
      walk_at "2"
      walk_at "8"
      walk_at "69"
      walk_at "69"
      walk_at "79"
      exact q n
    · walk_at "5"
      walk_at "0"
      walk_at "1"
      walk_at "7"
      walk_at "6"
      walk_at "0"
      walk_at "37"
      walk_at "38"
      walk_at "69"
      walk_at "88"
      refine ⟨⟨_, hS⟩, for_list (xs := ns.map V.int) (fun i σ' H' => ∃ sd y, σ' = [some (.ref l), some (.int k), some (.int sd), y] ∧ 0 ≤ sd ∧ sd < 1000003 ∧ H' = H) ⟨17, none, rfl, by decide, by decide, rfl⟩ ?_ ?_ ?_⟩
      · rintro i σ' H' hi ⟨sd, y, rfl, h1, h2, rfl⟩
        exact hS
      · rintro i x σ' H' hx ⟨sd, y, rfl, h1, h2, rfl⟩
        obtain ⟨n, rfl, _⟩ := map_int_at hx
        walk_at "6"
        walk_at "1"
        walk_at "8"
        walk_at "11"
        walk_at "9"
        walk_at "8"
        walk_at "8"
        walk_at "69"
        walk_at "7"
        walk_at "72"
        walk_at "8"
        walk_at "11"
        walk_at "9"
        walk_at "69"
        walk_at "10"
        walk_at "57"
        walk_at "7"
        walk_at "70"
        walk_at "56"
        walk_at "10"
        walk_at "57"
        walk_at "7"
        walk_at "70"
        walk_at "6"
        exact ⟨_, _, rfl, by omega, by omega, rfl⟩
      · rintro σ' H' ⟨sd, y, rfl, h1, h2, rfl⟩
        walk_at "2"
        walk_at "8"
        walk_at "11"
        walk_at "9"
        walk_at "8"
        walk_at "8"
        walk_at "8"
        walk_at "69"
        walk_at "7"
        walk_at "56"
        walk_at "8"
        walk_at "69"
        walk_at "7"
        walk_at "56"
        walk_at "72"
        walk_at "7"
        walk_at "72"
        walk_at "10"
        walk_at "57"
        walk_at "7"
        walk_at "70"
        exact q _



theorem ok__law_digits (T : Top0 P K mg) : FnOk P w K mg base CX0 1 T.f__law_digits T.fd__law_digits ["cell", "sizes"] (sp__law_digits T) := by
  refine T.F__law_digits.ok sc__law_digits (fun vs H Q E h => ?_) (fun cdv A outer s H vs Q E hr h => ?_)
  · obtain ⟨c, a, ss, rfl, hS, hl, hb, q⟩ := h
    rfl
  · obtain ⟨c, a, ss, rfl, hS, hl, hb, q⟩ := h
    refine ⟨_, (pss_cons (ps_set (i := 2) sc__law_digits.nd rfl (Or.inl rfl) (pe_lst pa_nil))
      (pss_cons (ps_set (i := 3) sc__law_digits.nd rfl (Or.inl rfl) (pe_callTy call_intU (by rfl) T.n_int PyProof.Rows.boot_int (pa_cons (pv 0) pa_nil)))
      (pss_cons (ps_if (pt_cmpR op_ge (pv 3) (pe_op op_pow pe_int pe_int) (nomark _)) (pss_cons (ps_set (i := 3) sc__law_digits.nd rfl (Or.inl rfl) (pe_op op_sub (pv 3) (pe_op op_pow pe_int pe_int)))
      (pss_cons (ps_for PassesOwn.never rfl (pi_list (pv 1)) (pg_name (i := 4) sc__law_digits.nd rfl (Or.inl rfl)) (pss_cons (ps_expr (pe_bm PySem.F.plainAttrs_list PySem.F.slot_list_append PySem.F.type_list_append mt_append (pv 2) (pa_cons (pe_op op_mod (pe_callTy call_intU (by rfl) T.n_int PyProof.Rows.boot_int (pa_cons (pv 3) pa_nil)) (pv 4)) pa_nil)))
      (pss_one (ps_set (i := 3) sc__law_digits.nd rfl (Or.inl rfl) (pe_op op_fdivW (pe_callTy call_intU (by rfl) T.n_int PyProof.Rows.boot_int (pa_cons (pv 3) pa_nil)) (pv 4))))))
      (pss_one (ps_ret (pv 2))))) pss_nil)
      (pss_cons (ps_set (i := 5) sc__law_digits.nd rfl (Or.inl rfl) (pe_op op_mod (pe_callTy call_intU (by rfl) T.n_int PyProof.Rows.boot_int (pa_cons (pv 3) pa_nil)) pe_int))
      (pss_cons (ps_for PassesOwn.never rfl (pi_range1 (by rfl) T.n_range (pa_cons (pe_callB (r := rLenU K) call_lenU (by rfl) T.n_len PySem.boot_len (pa_cons (pv 1) pa_nil)) pa_nil)) (pg_name (i := 6) sc__law_digits.nd rfl (Or.inl rfl)) (pss_cons (ps_set (i := 5) sc__law_digits.nd rfl (Or.inl rfl) (pe_op op_mod (pe_callTy call_intU (by rfl) T.n_int PyProof.Rows.boot_int (pa_cons (pe_op (r := rPlus K) op_plus (pe_op (r := rPlus K) op_plus (pe_op op_timesU (pv 5) pe_int) (pe_op op_timesU pe_int (pv 6))) pe_int) pa_nil)) pe_int))
      (pss_cons (ps_set (i := 7) sc__law_digits.nd rfl (Or.inl rfl) (pe_op op_mod (pe_callTy call_intU (by rfl) T.n_int PyProof.Rows.boot_int (pa_cons (pe_op op_timesU (pv 5) (pe_op (r := rPlus K) op_plus (pe_op op_fdivW (pv 5) pe_int) pe_int)) pa_nil)) pe_int))
      (pss_one (ps_expr (pe_bm PySem.F.plainAttrs_list PySem.F.slot_list_append PySem.F.type_list_append mt_append (pv 2) (pa_cons (pe_op op_mod (pe_op op_fdivW (pv 7) pe_int) (pe_ix (r := rIx K) ix_seq (pv 1) (pv 6) (fun _ _ => rfl))) pa_nil)))))))
      (pss_one (ps_ret (pv 2)))))))), ?_⟩
    walk_at "0"
    walk_at "1"
    walk_at "34"
    walk_at "10"
    walk_at "82"
    intro o H1 no x1 eo
    walk_at "6"
    walk_at "0"
    walk_at "1"
    walk_at "11"
    walk_at "9"
    walk_at "69"
    walk_at "10"
    walk_at "57"
    walk_at "6"
    walk_at "0"
    walk_at "4"
    walk_at "14"
    walk_at "8"
    walk_at "69"
    walk_at "8"
    walk_at "7"
    walk_at "7"
    walk_at "70"
    walk_at "55"
    walk_at "88"
    refine k_if (fun hge => ?_) (fun hlt => ?_)
    · walk_at "0"
      walk_at "1"
      walk_at "8"
      walk_at "69"
      walk_at "8"
      walk_at "7"
      walk_at "7"
      walk_at "70"
      walk_at "55"
      walk_at "6"
      walk_at "0"
      walk_at "37"
      walk_at "38"
      walk_at "69"
      walk_at "88"
      refine ⟨⟨_, xl x1 hS⟩, for_list (xs := ss.map V.int) (fun i σ' H' => ∃ (rest : Int) (y : Option V) (ds : List Int), σ' = [some (.int c), some (.ref a), some (.ref o), some (.int rest), y, none, none, none] ∧ i ≤ ss.length ∧ Xt H H' ∧ H' o = some (.lst (ds.map V.int)) ∧ DigOk ds (ss.take i)) ⟨_, none, [], rfl, Nat.zero_le _, x1, eo, DigOk.nil⟩ ?_ ?_ ?_⟩
      · rintro i σ' H' hi ⟨rest, y, ds, rfl, hi2, x2, e2, hd⟩
        exact xl x2 hS
      · rintro i x σ' H' hx ⟨rest, y, ds, rfl, hi2, x2, e2, hd⟩
        obtain ⟨n, rfl, hn⟩ := map_int_at hx
        have hb2 := hb n (List.mem_of_getElem? hn)
        have hi3 : i < ss.length := (List.getElem?_eq_some_iff.mp hn).1
        have hdl : ds.length = i := by rw [hd.1, List.length_take]; omega
        walk_at "6"
        walk_at "0"
        walk_at "3"
        walk_at "36"
        walk_at "69"
        refine ⟨ty_l e2, ?_⟩
        walk_at "9"
        walk_at "8"
        walk_at "11"
        walk_at "9"
        walk_at "69"
        walk_at "10"
        walk_at "57"
        walk_at "69"
        walk_at "70"
        walk_at "10"
        refine v_app e2 (by rw [List.length_map]; omega) ?_
        walk_at "1"
        walk_at "8"
        walk_at "11"
        walk_at "9"
        walk_at "69"
        walk_at "10"
        walk_at "57"
        walk_at "69"
        refine v_I (wide_div (b := 30) hb2.1 (by omega) (by decide) (by decide)) ?_
        walk_at "6"
        refine ⟨_, _, ds ++ [rest % n], rfl, hi3, xmut x2 no, ?_, hd.snoc hn (Int.emod_nonneg _ (by omega)) (Int.emod_lt_of_pos _ hb2.1)⟩
        rw [upd_same, List.map_append]
        rfl
      · rintro σ' H' ⟨rest, y, ds, rfl, hi2, x2, e2, hd⟩
        walk_at "2"
        walk_at "69"
        rw [List.length_map, List.take_length] at hd
        exact q o H' ds x2 e2 hd
    · walk_at "5"
      walk_at "0"
      walk_at "1"
      walk_at "8"
      walk_at "11"
      walk_at "9"
      walk_at "69"
      walk_at "10"
      walk_at "57"
      walk_at "7"
      walk_at "70"
      walk_at "6"
      walk_at "0"
      walk_at "37"
      walk_at "42"
      walk_at "9"
      walk_at "11"
      walk_at "9"
      walk_at "69"
      walk_at "10"
      refine v_len_l (xl x1 hS) ?_
      walk_at "10"
      walk_at "88"
      rw [List.length_map]
      refine ⟨by omega, by omega, ?_⟩
      rw [Int.toNat_natCast]
      refine for_range (lo := 0) (n := ss.length) (fun i σ' H' => ∃ (rest sd : Int) (y z : Option V) (ds : List Int), σ' = [some (.int c), some (.ref a), some (.ref o), some (.int rest), none, some (.int sd), y, z] ∧ i ≤ ss.length ∧ (0 ≤ sd ∧ sd < 2147483647) ∧ Xt H H' ∧ H' o = some (.lst (ds.map V.int)) ∧ DigOk ds (ss.take i)) ⟨_, _, none, none, [], rfl, Nat.zero_le _, ⟨by omega, by omega⟩, x1, eo, DigOk.nil⟩ ?_ ?_
      · rintro i σ' H' hi ⟨rest, sd, y, z, ds, rfl, hi2, ⟨h1, h2⟩, x2, e2, hd⟩
        obtain ⟨n, hn⟩ : ∃ n, ss[i]? = some n := ⟨_, List.getElem?_eq_getElem hi⟩
        have hb2 := hb n (List.mem_of_getElem? hn)
        have hdl : ds.length = i := by rw [hd.1, List.length_take]; omega
        have ha : atI (ss.map V.int) (0 + (i : Int)) = some (.int n) := by
          rw [Int.zero_add]
          exact atI_nat (by rw [List.getElem?_map, hn]; rfl)
        walk_at "6"
        walk_at "0"
        walk_at "1"
        walk_at "8"
        walk_at "11"
        walk_at "9"
        walk_at "8"
        walk_at "8"
        walk_at "8"
        walk_at "69"
        walk_at "7"
        walk_at "72"
        walk_at "8"
        walk_at "7"
        walk_at "69"
        walk_at "72"
        walk_at "56"
        walk_at "7"
        walk_at "56"
        walk_at "10"
        walk_at "57"
        walk_at "7"
        walk_at "70"
        walk_at "6"
        walk_at "0"
        walk_at "1"
        walk_at "8"
        walk_at "11"
        walk_at "9"
        walk_at "8"
        walk_at "69"
        walk_at "8"
        walk_at "8"
        walk_at "69"
        walk_at "7"
        walk_at "70"
        walk_at "7"
        walk_at "56"
        walk_at "72"
        walk_at "10"
        walk_at "57"
        walk_at "7"
        walk_at "70"
        walk_at "6"
        walk_at "3"
        walk_at "36"
        walk_at "69"
        have h3 : 0 ≤ (sd * 48271 + 974711 * (0 + (i : Int)) + 12345) % 2147483647 := by omega
        have h4 : (sd * 48271 + 974711 * (0 + (i : Int)) + 12345) % 2147483647 < 2147483647 := by omega
        generalize (sd * 48271 + 974711 * (0 + (i : Int)) + 12345) % 2147483647 = sd2 at h3 h4 ⊢
        skip
        refine ⟨ty_l e2, ?_⟩
        walk_at "9"
        walk_at "8"
        walk_at "8"
        walk_at "69"
        walk_at "7"
        walk_at "70"
        walk_at "8"
        walk_at "69"
        walk_at "69"
        refine v_ix_l (xl x2 hS) ha ?_
        walk_at "70"
        walk_at "10"
        refine v_app e2 (by rw [List.length_map]; omega) ?_
        skip
        refine ⟨rest, _, _, _, ds ++ [sd2 * (sd2 / 65537 + 3) % 2147483629 / 19 % n], rfl, hi, ⟨h3, h4⟩, xmut x2 no, ?_, hd.snoc hn (Int.emod_nonneg _ (by omega)) (Int.emod_lt_of_pos _ hb2.1)⟩
        rw [upd_same, List.map_append]
        rfl
      · rintro σ' H' ⟨rest, sd, y, z, ds, rfl, hi2, ⟨h1, h2⟩, x2, e2, hd⟩
        walk_at "2"
        walk_at "69"
        rw [List.take_length] at hd
        exact q o H' ds x2 e2 hd



theorem ok__law_words (T : Top0 P K mg) : FnOk P w K mg base CX0 1 T.f__law_words T.fd__law_words [] (sp__law_words T) := by
  refine T.F__law_words.ok sc__law_words (fun vs H Q E h => ?_) (fun cdv A outer s H vs Q E hr h => ?_)
  · obtain ⟨rfl, q⟩ := h
    rfl
  · obtain ⟨rfl, q⟩ := h
    refine ⟨_, (pss_one (ps_ret (pe_lst (pa_cons pe_str (pa_cons pe_str (pa_cons pe_str (pa_cons pe_str (pa_cons pe_str (pa_cons pe_str (pa_cons pe_str (pa_cons pe_str (pa_cons pe_str (pa_cons pe_str (pa_cons pe_str (pa_cons pe_str (pa_cons pe_str pa_nil)))))))))))))))), ?_⟩
    walk_at "2"
    walk_at "34"
    walk_at "9"
    walk_at "7"
    walk_at "9"
    walk_at "7"
    walk_at "9"
    walk_at "7"
    walk_at "9"
    walk_at "7"
    walk_at "9"
    walk_at "7"
    walk_at "9"
    walk_at "7"
    walk_at "9"
    walk_at "7"
    walk_at "9"
    walk_at "7"
    walk_at "9"
    walk_at "7"
    walk_at "9"
    walk_at "7"
    walk_at "9"
    walk_at "7"
    walk_at "9"
    walk_at "7"
    walk_at "9"
    walk_at "7"
    walk_at "10"
    walk_at "82"
    intro p1 H1 n1 x1 e1
    exact q p1 H1 x1 e1



theorem ok__law_variable_names (T : Top0 P K mg) : FnOk P w K mg base CX0 1 T.f__law_variable_names T.fd__law_variable_names ["row", "many"] (sp__law_variable_names T) := by
  refine T.F__law_variable_names.ok sc__law_variable_names (fun vs H Q E h => ?_) (fun cdv A outer s H vs Q E hr h => ?_)
  · obtain ⟨a, ds, many, rfl, hS, hD, hm, q⟩ := h
    rfl
  · obtain ⟨a, ds, many, rfl, hS, hD, hm, q⟩ := h
    refine ⟨_, (pss_cons (ps_set (i := 2) sc__law_variable_names.nd rfl (Or.inl rfl) pe_str)
      (pss_cons (ps_set (i := 3) sc__law_variable_names.nd rfl (Or.inr rfl) pe_str)
      (pss_cons (ps_set (i := 4) sc__law_variable_names.nd rfl (Or.inl rfl) (pe_joinN pe_str (pe_lc (own := [("digit", 10)]) (g := gName 10) rfl sc__law_variable_names.nd (pi_list (pe_slice (r := rSlU K) sl_any (pv 0) (po_some pe_int) (po_some (pe_op (r := rPlus K) op_plus pe_int (pe_ix (r := rIx K) ix_seq (pv 0) pe_int (fun _ _ => rfl)))))) (blkOk_by (N := N__law_variable_names) (sc := defScope s__law_variable_names) (by decide +kernel)) (fun _ _ _ _ _ => (pg_name (i := 10) sc__law_variable_names.nd rfl (Or.inl rfl))) (fun _ _ _ _ _ => pts_nil) (fun _ _ _ _ _ => (pe_ix (r := rIx K) ix_seq (pv 3) (pv 10) (fun _ _ => rfl))))))
      (pss_cons (ps_set (i := 5) sc__law_variable_names.nd rfl (Or.inl rfl) (pe_lst pa_nil))
      (pss_cons (ps_for PassesOwn.never rfl (pi_range1 (by rfl) T.n_range (pa_cons (pv 1) pa_nil)) (pg_name (i := 6) sc__law_variable_names.nd rfl (Or.inl rfl)) (pss_cons (ps_set (i := 7) sc__law_variable_names.nd rfl (Or.inl rfl) (pe_op op_mod (pe_callTy call_intU (by rfl) T.n_int PyProof.Rows.boot_int (pa_cons (pe_op (r := rPlus K) op_plus (pe_op op_timesU (pv 6) (pe_ix (r := rIx K) ix_seq (pe_lst (pa_cons pe_int (pa_cons pe_int (pa_cons pe_int (pa_cons pe_int (pa_cons pe_int (pa_cons pe_int (pa_cons pe_int (pa_cons pe_int (pa_cons pe_int (pa_cons pe_int (pa_cons pe_int (pa_cons pe_int pa_nil))))))))))))) (pe_ix (r := rIx K) ix_seq (pv 0) pe_int (fun _ _ => rfl)) (fun _ _ => rfl))) (pe_ix (r := rIx K) ix_seq (pv 0) pe_int (fun _ _ => rfl))) pa_nil)) pe_int))
      (pss_cons (ps_set (i := 8) sc__law_variable_names.nd rfl (Or.inl rfl) (pe_op (r := rPlus K) op_plus (pe_ix (r := rIx K) ix_seq (pv 2) (pv 7) (fun _ _ => rfl)) (pv 4)))
      (Evl.pss_cut (ps_if (pt_cmpR op_gt (pe_ix (r := rIx K) ix_seq (pv 0) pe_int (fun _ _ => rfl)) pe_int (nomark _)) (pss_cons (ps_set (i := 9) sc__law_variable_names.nd rfl (Or.inl rfl) (pe_op op_mod (pe_callTy call_intU (by rfl) T.n_int PyProof.Rows.boot_int (pa_cons (pe_ix (r := rIx K) ix_seq (pv 0) pe_int (fun _ _ => rfl)) pa_nil)) (pe_op (r := rPlus K) op_plus (pe_callB (r := rLenU K) call_lenU (by rfl) T.n_len PySem.boot_len (pa_cons (pv 4) pa_nil)) pe_int)))
      (pss_one (ps_set (i := 8) sc__law_variable_names.nd rfl (Or.inl rfl) (pe_op (r := rPlus K) op_plus (pe_op (r := rPlus K) op_plus (pe_op (r := rPlus K) op_plus (pe_ix (r := rIx K) ix_seq (pv 2) (pe_ix (r := rIx K) ix_seq (pv 0) pe_int (fun _ _ => rfl)) (fun _ _ => rfl)) (pe_slice (r := rSlU K) sl_any (pv 4) po_none (po_some (pv 9)))) (pe_ix (r := rIx K) ix_seq (pv 3) (pv 7) (fun _ _ => rfl))) (pe_slice (r := rSlU K) sl_any (pv 4) (po_some (pv 9)) po_none))))) pss_nil)
      (Evl.pss_cut (ps_if (PW.pt (pw_and (pt_cmpR (r := rEqU K) (op_eqU hr) (pe_ix (r := rIx K) ix_seq (pv 0) pe_int (fun _ _ => rfl)) pe_int (nomark _)) (pw_and (pt_cmpR (r := rEqU K) (op_eqU hr) (pe_op op_mod (pv 6) pe_int) pe_int (nomark _)) (pw_and1 (pt_cmpR op_lt (pe_callB (r := rLenU K) call_lenU (by rfl) T.n_len PySem.boot_len (pa_cons (pv 8) pa_nil)) pe_int (nomark _)))))) (pss_one (ps_set (i := 8) sc__law_variable_names.nd rfl (Or.inl rfl) (pe_op (r := rPlus K) op_plus (pe_ix (r := rIx K) ix_seq (pv 5) (pe_op op_sub (pv 6) pe_int) (fun _ _ => rfl)) pe_str))) pss_nil)
      (pss_one (ps_expr (pe_bm PySem.F.plainAttrs_list PySem.F.slot_list_append PySem.F.type_list_append mt_append (pv 5) (pa_cons (pv 8) pa_nil)))))))))
      (pss_one (ps_ret (pv 5)))))))), ?_⟩
    obtain ⟨d0, a0, l0, u0⟩ := hD.get 0 0 rfl rfl
    obtain ⟨d1, a1, l1, u1⟩ := hD.get 1 1 rfl rfl
    obtain ⟨d2, a2, l2, u2⟩ := hD.get 2 2 rfl rfl
    obtain ⟨d3, a3, l3, u3⟩ := hD.get 3 3 rfl rfl
    obtain ⟨d4, a4, l4, u4⟩ := hD.get 4 4 rfl rfl
    have hdl : ds.length = 11 := hD.1
    obtain ⟨st, hst, hst2⟩ := atI_int (ns := steps12) (i := d1) l1 (by show d1 < 12; exact u1)
    have hstm : st ∈ steps12 := List.mem_of_getElem? hst2
    have hstb : 1 ≤ st ∧ st ≤ 25 := by
      have : ∀ s ∈ steps12, 1 ≤ s ∧ s ≤ 25 := by decide
      exact this st hstm
    obtain ⟨cb, hcb, hcb2⟩ := atI_ok (l := capL) l0 (by rw [show (capL.length : Int) = 26 by decide +kernel]; exact u0)
    have hcbm : cb ∈ capL := List.mem_of_getElem? hcb2
    walk_at "0"
    walk_at "1"
    walk_at "7"
    walk_at "6"
    walk_at "0"
    walk_at "1"
    walk_at "7"
    walk_at "6"
    walk_at "0"
    walk_at "1"
    walk_at "53"
    walk_at "7"
    walk_at "45"
    walk_at "51"
    walk_at "38"
    walk_at "48"
    walk_at "69"
    walk_at "50"
    walk_at "7"
    walk_at "88"
    walk_at "50"
    walk_at "8"
    walk_at "7"
    walk_at "8"
    walk_at "69"
    walk_at "7"
    walk_at "79"
    walk_at "56"
    walk_at "88"
    refine v_sl_l hS fun p1 H1 n1 x1 e1 => ?_
    walk_at "88"
    have hcl := cutV_len (xs := ds.map V.int) (lo := 5) (hi := 5 + d2) (by omega) (by omega) (by rw [List.length_map]; omega)
    refine ⟨⟨_, sql e1⟩, b_lst (fun i y => ∃ c, y = .str ⟨#[c]⟩ ∧ c ∈ smallL) (sql e1) (by omega) (fun x => rfl) ?_ ?_⟩
    · intro i x H' hx xx R hR
      have hx2 := cutV_at (k := 5) (by rw [List.length_map]; omega) hx
      obtain ⟨n, rfl, hn⟩ := map_int_at hx2
      obtain ⟨s, hs, hs0, hs1⟩ := hD.at hn
      have hs36 : s = 36 := by
        have hlt := (List.getElem?_eq_some_iff.mp hn).1
        rcases show i = 0 ∨ i = 1 ∨ i = 2 ∨ i = 3 ∨ i = 4 ∨ i = 5 by omega with h | h | h | h | h | h <;> subst h <;> exact (Option.some.inj hs).symm
      subst hs36
      obtain ⟨c, hc, hc2⟩ := atI_ok (l := smallL) hs0 (by rw [show (smallL.length : Int) = 36 by decide +kernel]; exact hs1)
      walk_at "8"
      walk_at "69"
      walk_at "69"
      refine v_ix_s (szL (by decide)) hc ?_
      exact hR _ _ (xrefl _) ⟨c, rfl, List.mem_of_getElem? hc2⟩
    intro Dl ys H2 hDl hl hP x2 e2
    skip
    refine v_joinP e2 hP (by omega) fun cs hcsl hcs => ?_
    have hz6 : (⟨cs.toArray⟩ : Str).length ≤ 6 := by rw [ofl_len]; omega
    have hsm : ∀ b ∈ (⟨cs.toArray⟩ : Str).cps.toList, b ∈ smallL := hcs
    generalize (⟨cs.toArray⟩ : Str) = z at hz6 hsm
    clear hcs hcsl cs
    have hzl := len_l z
    walk_at "6"
    walk_at "0"
    walk_at "1"
    walk_at "34"
    walk_at "10"
    walk_at "82"
    intro p Hn nn xn en
    walk_at "6"
    walk_at "0"
    walk_at "37"
    walk_at "42"
    walk_at "9"
    walk_at "69"
    walk_at "10"
    walk_at "88"
    refine ⟨by omega, by omega, ?_⟩
    have x12 := xtr (xtr x1 x2) xn
    have hpn : H p = none := xfree (xtr x1 x2) nn
    refine for_range (lo := 0) (n := many.toNat) (fun i σ' H' => ∃ y6 y7 y8 y9 ns, σ' = [some (.ref a), some (.int many), some (.str "ABCDEFGHIJKLMNOPQRSTUVWXYZ"), some (.str "abcdefghijklmnopqrstuvwxyz0123456789"), some (.str z), some (.ref p), y6, y7, y8, y9, none] ∧ Xt H H' ∧ H' p = some (.lst (ns.map V.str)) ∧ ns.length = i ∧ ∀ (k : Nat) (t : Str), ns[k]? = some t → varF t = true ∧ (k % 2 = 0 → t.length = if d3 > 2 then z.length + 2 else z.length + 1)) ⟨_, _, _, _, [], rfl, x12, en, rfl, fun k t h => by simp at h⟩ ?_ ?_
    · rintro i σ' H' hi ⟨y6, y7, y8, y9, ns, rfl, xx, ep, hnl, hns⟩
      have hS' := xl xx hS
      have hk0 : 0 ≤ (0 + (i : Int)) := by omega
      have hk1 : (0 + (i : Int)) < 26 := by omega
      rw [show ((0 : Int) + (i : Int)) = (i : Int) by omega] at hk0 hk1 ⊢
      walk_at "6"
      walk_at "0"
      walk_at "1"
      walk_at "8"
      walk_at "11"
      walk_at "9"
      walk_at "8"
      walk_at "8"
      walk_at "69"
      walk_at "8"
      walk_at "34"
      walk_at "9"
      walk_at "7"
      walk_at "9"
      walk_at "7"
      walk_at "9"
      walk_at "7"
      walk_at "9"
      walk_at "7"
      walk_at "9"
      walk_at "7"
      walk_at "9"
      walk_at "7"
      walk_at "9"
      walk_at "7"
      walk_at "9"
      walk_at "7"
      walk_at "9"
      walk_at "7"
      walk_at "9"
      walk_at "7"
      walk_at "9"
      walk_at "7"
      walk_at "9"
      walk_at "7"
      walk_at "10"
      walk_at "82"
      intro pl Hl nl xl1 el
      have hSl := xl xl1 hS'
      walk_at "8"
      walk_at "69"
      walk_at "7"
      walk_at "79"
      walk_at "79"
      walk_at "72"
      walk_at "8"
      walk_at "69"
      walk_at "7"
      walk_at "79"
      walk_at "56"
      walk_at "10"
      walk_at "57"
      walk_at "7"
      walk_at "70"
      walk_at "6"
      walk_at "0"
      walk_at "1"
      walk_at "8"
      walk_at "8"
      walk_at "69"
      walk_at "69"
      have hT0 := Int.emod_nonneg ((i : Int) * st + d0) (show (26 : Int) ≠ 0 by decide)
      have hT1 := Int.emod_lt_of_pos ((i : Int) * st + d0) (show (0 : Int) < 26 by decide)
      obtain ⟨cT, hcT, hcTm⟩ := cap26 ((i : Int) * st + d0)
      have hsT := sm26 ((i : Int) * st + d0)
      have hlT := let_small _ (let26 ((i : Int) * st + d0))
      generalize ((i : Int) * st + d0) % 26 = TT at hT0 hT1 hcT hsT hlT ⊢
      skip
      refine v_ix_s (szL (by decide)) hcT ?_
      walk_at "69"
      walk_at "81"
      walk_at "6"
      refine k_cut (fun σ' H' => ∃ (t : Str) (y9 : Option V), σ' = [some (.ref a), some (.int many), some (.str "ABCDEFGHIJKLMNOPQRSTUVWXYZ"), some (.str "abcdefghijklmnopqrstuvwxyz0123456789"), some (.str z), some (.ref p), some (.int (i : Int)), some (.int TT), some (.str t), y9, none] ∧ H' = Hl ∧ varF t = true ∧ t.length = if d3 > 2 then z.length + 2 else z.length + 1) ?_ ?_
      · walk_at "4"
        walk_at "14"
        walk_at "8"
        walk_at "8"
        walk_at "69"
        walk_at "7"
        walk_at "79"
        walk_at "7"
        walk_at "55"
        walk_at "88"
        refine k_if (fun h3 => ?_) (fun h3 => ?_)
        · rw [if_pos (show d3 > 2 from h3)]
          walk_at "0"
          walk_at "1"
          walk_at "8"
          walk_at "11"
          walk_at "9"
          walk_at "8"
          walk_at "69"
          walk_at "7"
          walk_at "79"
          walk_at "10"
          walk_at "57"
          walk_at "8"
          walk_at "11"
          walk_at "9"
          walk_at "69"
          walk_at "10"
          walk_at "78"
          walk_at "7"
          walk_at "56"
          walk_at "70"
          walk_at "6"
          walk_at "1"
          walk_at "8"
          walk_at "8"
          walk_at "8"
          walk_at "8"
          walk_at "69"
          walk_at "8"
          walk_at "69"
          walk_at "7"
          walk_at "79"
          have hA0 := Int.emod_nonneg d3 (show ((z.length : Int) + 1) ≠ 0 by omega)
          have hA1 := Int.emod_lt_of_pos d3 (show 0 < (z.length : Int) + 1 by omega)
          generalize d3 % ((z.length : Int) + 1) = A at hA0 hA1 ⊢
          refine v_ix_s (szL (by decide)) hcb ?_
          walk_at "48"
          walk_at "69"
          walk_at "49"
          walk_at "50"
          walk_at "69"
          walk_at "88"
          walk_at "80"
          walk_at "81"
          walk_at "8"
          walk_at "69"
          walk_at "69"
          refine v_ix_s (szL (by decide)) hsT ?_
          walk_at "81"
          walk_at "48"
          walk_at "69"
          walk_at "50"
          walk_at "69"
          walk_at "88"
          walk_at "49"
          walk_at "80"
          walk_at "81"
          walk_at "6"
          have hzz : (⟨#[cb]⟩ ++ cutS z none (some A) ++ ⟨#[97 + TT.toNat]⟩ ++ cutS z (some A) none : Str).cps.toList = cb :: (z.cps.toList.take A.toNat ++ [97 + TT.toNat] ++ z.cps.toList.drop A.toNat) := by
            rw [app_l, app_l, app_l, one_l, one_l, cut_to hA0 (by omega), cut_fr hA0 (by omega)]
            rfl
          have hll : (⟨#[cb]⟩ ++ cutS z none (some A) ++ ⟨#[97 + TT.toNat]⟩ ++ cutS z (some A) none : Str).length = z.length + 2 := by
            rw [← len_l, hzz, List.length_cons, List.length_append, List.length_append, List.length_take, List.length_drop, List.length_singleton]; omega
          have hv := var_of hzz hcbm (fun b hb => by
            rcases List.mem_append.mp hb with hb | hb
            · rcases List.mem_append.mp hb with hb | hb
              · exact hsm b (List.mem_of_mem_take hb)
              · rw [List.mem_singleton] at hb; subst hb; exact hlT
            · exact hsm b (List.mem_of_mem_drop hb)) (by omega)
          first
          | exact ⟨rfl, hv, hll⟩
          | exact ⟨_, rfl, rfl, hv, hll⟩
          | exact ⟨_, _, rfl, rfl, hv, hll⟩
        · rw [if_neg (show ¬ d3 > 2 from h3)]
          have hll : (⟨#[cT]⟩ ++ z : Str).length = z.length + 1 := by rw [len_app, len_one]; omega
          have hv := var_of (t := ⟨#[cT]⟩ ++ z) (c := cT) (r := z.cps.toList) (by rw [app_l, one_l]; rfl) hcTm hsm (by omega)
          walk_at "5"
          first
          | exact ⟨rfl, hv, hll⟩
          | exact ⟨_, rfl, rfl, hv, hll⟩
          | exact ⟨_, _, rfl, rfl, hv, hll⟩
      rintro σ' H4 ⟨t, y9', rfl, rfl, hvt, hlt⟩
      have ep4 := xl1 _ _ ep
      have ho1 : (Str.ofString "0").length = 1 := rfl
      have hvl : t.length ≤ 8 := by obtain ⟨_, _, _, _, _, h⟩ := var_inv hvt; exact h
      refine k_cut (fun σ' H' => ∃ t : Str, σ' = [some (.ref a), some (.int many), some (.str "ABCDEFGHIJKLMNOPQRSTUVWXYZ"), some (.str "abcdefghijklmnopqrstuvwxyz0123456789"), some (.str z), some (.ref p), some (.int (i : Int)), some (.int TT), some (.str t), y9', none] ∧ H' = H4 ∧ varF t = true ∧ (i % 2 = 0 → t.length = if d3 > 2 then z.length + 2 else z.length + 1)) ?_ ?_
      · walk_at "4"
        walk_at "17"
        walk_at "14"
        walk_at "8"
        walk_at "8"
        walk_at "69"
        walk_at "7"
        walk_at "79"
        walk_at "7"
        walk_at "75"
        walk_at "88"
        refine k_if (fun h4 => ?_) (fun h4 => ?_)
        · walk_at "17"
          walk_at "14"
          walk_at "8"
          walk_at "8"
          walk_at "69"
          walk_at "7"
          walk_at "70"
          walk_at "7"
          walk_at "75"
          walk_at "88"
          refine k_if (fun h5 => ?_) (fun h5 => ?_)
          · have h5' : (i : Int) % 2 = 1 := by injection h5
            walk_at "14"
            walk_at "8"
            walk_at "11"
            walk_at "9"
            walk_at "69"
            walk_at "10"
            walk_at "78"
            walk_at "7"
            walk_at "55"
            walk_at "88"
            refine k_if (fun h6 => ?_) (fun h6 => ?_)
            · obtain ⟨t0, ht0⟩ : ∃ t0, ns[i - 1]? = some t0 := ⟨_, List.getElem?_eq_getElem (by omega)⟩
              obtain ⟨hv0, hl0⟩ := hns _ _ ht0
              have hl0' := hl0 (by omega)
              have ht7 : t0.length ≤ 7 := by rw [hl0', ← hlt]; have h6' : (t.length : Int) < 8 := h6; omega
              have hix : atI (ns.map V.str) ((i : Int) - 1) = some (.str t0) := by
                rw [show (i : Int) - 1 = ((i - 1 : Nat) : Int) by omega]
                exact atI_nat (by rw [List.getElem?_map, ht0]; rfl)
              have hv1 := var_add (w := t0 ++ Str.ofString "0") hv0 ht7 (by rw [app_l]; rfl) o_small
              walk_at "1"
              walk_at "8"
              walk_at "8"
              walk_at "69"
              walk_at "8"
              walk_at "69"
              walk_at "7"
              walk_at "55"
              walk_at "79"
              walk_at "7"
              walk_at "81"
              walk_at "6"
              walk_at "88"
              first
              | exact ⟨rfl, hv1, fun h => by omega⟩
              | exact ⟨_, rfl, rfl, hv1, fun h => by omega⟩
            · walk_at "5"
              walk_at "88"
              first
              | exact ⟨rfl, hvt, fun _ => hlt⟩
              | exact ⟨_, rfl, rfl, hvt, fun _ => hlt⟩
          · walk_at "89"
            walk_at "5"
            walk_at "88"
            first
            | exact ⟨rfl, hvt, fun _ => hlt⟩
            | exact ⟨_, rfl, rfl, hvt, fun _ => hlt⟩
        · walk_at "89"
          walk_at "5"
          walk_at "88"
          first
          | exact ⟨rfl, hvt, fun _ => hlt⟩
          | exact ⟨_, rfl, rfl, hvt, fun _ => hlt⟩
      rintro σ' H5 ⟨t2, rfl, rfl, hv2, hl2⟩
      walk_at "3"
      walk_at "36"
      walk_at "69"
      refine ⟨ty_l ep4, ?_⟩
      walk_at "9"
      walk_at "69"
      walk_at "10"
      refine v_app ep4 (by rw [List.length_map]; omega) ?_
      skip
      refine ⟨_, _, _, _, ns ++ [t2], rfl, xmut (xtr xx xl1) hpn, ?_, ?_, ?_⟩
      · rw [upd_same, List.map_append]; rfl
      · rw [List.length_append, List.length_singleton, hnl]
      · intro k t' hk
        by_cases hki : k < ns.length
        · rw [List.getElem?_append_left hki] at hk
          exact hns k t' hk
        · have hke : k = ns.length := by
            have := (List.getElem?_eq_some_iff.mp hk).1
            rw [List.length_append, List.length_singleton] at this; omega
          subst hke
          rw [List.getElem?_append_right (Nat.le_refl _), Nat.sub_self] at hk
          simp at hk
          subst hk
          rw [hnl]
          exact ⟨hv2, hl2⟩
    · rintro σ' H' ⟨y6, y7, y8, y9, ns, rfl, xx, ep, hnl, hns⟩
      walk_at "2"
      walk_at "69"
      refine q p H' ns xx ep hnl fun t ht => ?_
      obtain ⟨k, hk⟩ := List.getElem?_of_mem ht
      exact (hns k t hk).1



theorem ok__law_is_variable (T : Top0 P K mg) : FnOk P w K mg base CX0 1 T.f__law_is_variable T.fd__law_is_variable ["tree"] (sp__law_is_variable T) := by
  refine T.F__law_is_variable.ok sc__law_is_variable (fun vs H Q E h => ?_) (fun cdv A outer s H vs Q E hr h => ?_)
  · obtain ⟨v, d, k, W, rfl, hv, ht, hW, q⟩ := h
    rfl
  · obtain ⟨v, d, k, W, rfl, hv, ht, hW, q⟩ := h
    refine ⟨_, (pss_one (ps_ret (pe_and (pe_cmpR (r := rEqU K) (op_eqU hr) (pe_callB (r := rLenU K) call_lenU (by rfl) T.n_len PySem.boot_len (pa_cons (pv 0) pa_nil)) pe_int (nomark _)) (pe_one (pe_callB (r := rIsi K) call_isi (by rfl) T.n_isinstance PyProof.Rows.boot_isinstance (pa_cons (pe_ix (r := rIx K) ix_seq (pv 0) pe_int (fun _ _ => rfl)) (pa_cons (pe_bltn (v := .ty "str") (by rfl) T.n_str (by decide +kernel) rfl) pa_nil))))))), ?_⟩
    obtain ⟨z, ds, k', rfl, rfl, hz1, hzW, hlW, hcase⟩ := ht.inv
    walk_at "2"
    walk_at "19"
    walk_at "8"
    walk_at "11"
    walk_at "9"
    walk_at "69"
    walk_at "10"
    refine d_len hv ?_
    walk_at "7"
    walk_at "75"
    walk_at "88"
    rcases hcase with ⟨hc, s, rfl⟩ | ⟨hc, hall⟩
    · walk_at "90"
      walk_at "11"
      walk_at "9"
      walk_at "8"
      walk_at "69"
      walk_at "7"
      refine d_ix hv (atI_nat (j := 1) rfl) fun w hw => ?_
      cases Dp.str_inv hw
      walk_at "9"
      walk_at "7"
      walk_at "10"
      walk_at "46"
      have hq : Q (.bl true) H := by
        have e : capD (.tuple (.str z :: [.str s])) = true := hc
        rw [← e]; exact q
      exact hq
    · have hq : Q (.bl false) H := by
        have e : capD (.tuple (.str z :: ds)) = false := hc
        rw [← e]; exact q
      refine k_if (fun h2 => ?_) (fun h2 => ?_)
      · obtain ⟨e, he⟩ : ∃ e, ds[0]? = some e := by
          injection h2 with h2
          rw [List.length_cons] at h2
          exact ⟨_, List.getElem?_eq_getElem (by omega)⟩
        have hte := hall e (List.mem_of_getElem? he)
        walk_at "11"
        walk_at "9"
        walk_at "8"
        walk_at "69"
        walk_at "7"
        refine d_ix hv (atI_nat (j := 1) he) fun w hw => ?_
        walk_at "9"
        walk_at "7"
        walk_at "10"
        refine d_isStr hw (hte.sm (by omega)).im ?_
        obtain ⟨z2, ds2, _, rfl, _⟩ := hte.inv
        exact hq
      · exact hq


theorem ok__law_term (T : Top0 P K mg) : ∀ n : Nat, FnOk P w K mg base CX0 (1 + n) T.f__law_term T.fd__law_term ["vocabulary", "sort", "row", "at", "deep", "variables"] (sp__law_term T n)
  | 0 => T.F__law_term.ok sc__law_term (fun vs H Q E h => False.elim h) (fun cdv A outer s H vs Q E hr h => False.elim h)
  | n + 1 => by
    have ih := ok__law_term T n
    refine T.F__law_term.ok sc__law_term (fun vs H Q E h => ?_) (fun cdv A outer s H vs Q E hr h => ?_)
    · obtain ⟨l, r, vr, x, st, ds, at0, deep, vl, ws, m, rfl, hL, lok, hst, hds, hd0, hd1, hdeep, hmn, hvr, hvd, vok, q⟩ := h
      rfl
    · obtain ⟨l, r, vr, x, st, ds, at0, deep, vl, ws, m, rfl, hL, lok, hst, hds, hd0, hd1, hdeep, hmn, hvr, hvd, vok, q⟩ := h
      refine ⟨_, (pss_cons (ps_setLc (i := 6) (own := [("one", 12)]) (g := gName 12) rfl sc__law_term.nd rfl rfl (sw_true rfl rfl rfl (by decide +kernel)) (pi_list (pv 5)) (blkOk_by (N := N__law_term) (sc := defScope s__law_term) (by decide +kernel)) (fun _ _ _ _ _ => (pg_name (i := 12) sc__law_term.nd rfl (Or.inl rfl))) (fun _ _ _ _ _ => pts_one (pt_cmpR (r := rEqU K) (op_eqU hr) (pe_ix (r := rIx K) ix_seq (pv 12) pe_int (fun _ _ => rfl)) (pv 1) (nomark _))) (fun _ _ _ _ _ => (pv 12)))
      (pss_cons (ps_set (i := 6) sc__law_term.nd rfl (Or.inl rfl) (pe_op (r := rPlus K) op_plus (pv 6) (pe_lc (own := [("one", 12)]) (g := gName 12) rfl sc__law_term.nd (pi_list (pe_ix (r := rIx K) ix_seq (pv 0) pe_int (fun _ _ => rfl))) (blkOk_by (N := N__law_term) (sc := defScope s__law_term) (by decide +kernel)) (fun _ _ _ _ _ => (pg_name (i := 12) sc__law_term.nd rfl (Or.inl rfl))) (fun _ _ _ _ _ => pts_one (PW.pt (pw_and (pt_cmpR (r := rEqU K) (op_eqU hr) (pe_ix (r := rIx K) ix_seq (pv 12) pe_int (fun _ _ => rfl)) (pv 1) (nomark _)) (pw_and1 (pt_cmpR (r := rEqU K) (op_eqU hr) (pe_callB (r := rLenU K) call_lenU (by rfl) T.n_len PySem.boot_len (pa_cons (pe_ix (r := rIx K) ix_seq (pv 12) pe_int (fun _ _ => rfl)) pa_nil)) pe_int (nomark _)))))) (fun _ _ _ _ _ => (pv 12)))))
      (Evl.pss_cut (ps_if (pt_cmpR op_gt (pv 4) pe_int (nomark _)) (pss_cons (ps_setLc (i := 7) (own := [("one", 12)]) (g := gName 12) rfl sc__law_term.nd rfl rfl (sw_true rfl rfl rfl (by decide +kernel)) (pi_list (pe_ix (r := rIx K) ix_seq (pv 0) pe_int (fun _ _ => rfl))) (blkOk_by (N := N__law_term) (sc := defScope s__law_term) (by decide +kernel)) (fun _ _ _ _ _ => (pg_name (i := 12) sc__law_term.nd rfl (Or.inl rfl))) (fun _ _ _ _ _ => pts_one (PW.pt (pw_and (pt_cmpR (r := rEqU K) (op_eqU hr) (pe_ix (r := rIx K) ix_seq (pv 12) pe_int (fun _ _ => rfl)) (pv 1) (nomark _)) (pw_and1 (pt_cmpR op_gt (pe_callB (r := rLenU K) call_lenU (by rfl) T.n_len PySem.boot_len (pa_cons (pe_ix (r := rIx K) ix_seq (pv 12) pe_int (fun _ _ => rfl)) pa_nil)) pe_int (nomark _)))))) (fun _ _ _ _ _ => (pv 12)))
      (pss_one (ps_set (i := 6) sc__law_term.nd rfl (Or.inl rfl) (pe_op (r := rPlus K) op_plus (pe_op (r := rPlus K) op_plus (pv 7) (pv 6)) (pv 7))))) pss_nil)
      (pss_cons (ps_set (i := 8) sc__law_term.nd rfl (Or.inl rfl) (pe_ix (r := rIx K) ix_seq (pv 6) (pe_op op_mod (pe_callTy call_intU (by rfl) T.n_int PyProof.Rows.boot_int (pa_cons (pe_ix (r := rIx K) ix_seq (pv 2) (pe_op op_mod (pe_callTy call_intU (by rfl) T.n_int PyProof.Rows.boot_int (pa_cons (pv 3) pa_nil)) (pe_callB (r := rLenU K) call_lenU (by rfl) T.n_len PySem.boot_len (pa_cons (pv 2) pa_nil))) (fun _ _ => rfl)) pa_nil)) (pe_callB (r := rLenU K) call_lenU (by rfl) T.n_len PySem.boot_len (pa_cons (pv 6) pa_nil))) (fun _ _ => rfl)))
      (pss_cons (ps_set (i := 3) sc__law_term.nd rfl (Or.inl rfl) (pe_op (r := rPlus K) op_plus (pv 3) pe_int))
      (pss_cons (ps_if (pt_cmpR (r := rEqU K) (op_eqU hr) (pe_callB (r := rLenU K) call_lenU (by rfl) T.n_len PySem.boot_len (pa_cons (pv 8) pa_nil)) pe_int (nomark _)) (pss_one (ps_ret (pe_lst (pa_cons (pv 8) (pa_cons (pv 3) pa_nil))))) pss_nil)
      (pss_cons (ps_set (i := 9) sc__law_term.nd rfl (Or.inl rfl) (pe_tup (pa_cons (pe_ix (r := rIx K) ix_seq (pv 8) pe_int (fun _ _ => rfl)) pa_nil)))
      (pss_cons (ps_for PassesOwn.never rfl (pi_tup (pe_ix (r := rIx K) ix_seq (pv 8) pe_int (fun _ _ => rfl))) (pg_name (i := 10) sc__law_term.nd rfl (Or.inl rfl)) (pss_cons (ps_set (i := 11) sc__law_term.nd rfl (Or.inl rfl) (pe_call ih (hr.mono (by first | decide | exact Nat.le_refl _ | omega | (show _ ≤ _ + n; omega))) (by rfl) T.g__law_term T.F__law_term.kp T.b__law_term .nil pass0 (pa_cons (pv 0) (pa_cons (pv 10) (pa_cons (pv 2) (pa_cons (pv 3) (pa_cons (pe_op op_sub (pv 4) pe_int) (pa_cons (pv 5) pa_nil))))))))
      (pss_cons (ps_set (i := 9) sc__law_term.nd rfl (Or.inl rfl) (pe_op (r := rPlus K) op_plus (pv 9) (pe_tup (pa_cons (pe_ix (r := rIx K) ix_seq (pv 11) pe_int (fun _ _ => rfl)) pa_nil))))
      (pss_one (ps_set (i := 3) sc__law_term.nd rfl (Or.inl rfl) (pe_ix (r := rIx K) ix_seq (pv 11) pe_int (fun _ _ => rfl)))))))
      (pss_one (ps_ret (pe_lst (pa_cons (pv 9) (pa_cons (pv 3) pa_nil))))))))))))), ?_⟩
      walk_at "0"
      walk_at "1"
      walk_at "51"
      walk_at "38"
      walk_at "69"
      walk_at "88"
      refine ⟨⟨_, sql hvr⟩, b_datF walk_list (fun H' x' => xl x' (sql hvr)) hvd (varT st) (fun d => d) (fun d hd => ?_) ?_ ?_ ?_⟩
      · obtain ⟨p, _, rfl⟩ := List.mem_map.mp hd
        rfl
      · rw [List.length_map]; have := vok.len; omega
      · intro v d H' hv hd xx R R0 hR hR0
        obtain ⟨p, hp, rfl⟩ := List.mem_map.mp hd
        rw [varT_var] at hR hR0
        walk_at "6"
        refine ⟨rfl, ?_⟩
        walk_at "14"
        walk_at "8"
        walk_at "8"
        walk_at "69"
        walk_at "7"
        refine d_ix hv (atI_nat (j := 1) rfl) fun w hw => ?_
        cases Dp.str_inv hw
        walk_at "69"
        walk_at "75"
        walk_at "88"
        refine k_if (fun h => ?_) (fun h => ?_)
        · walk_at "69"
          exact hR (decide_eq_true (by injection h)) v H' (xrefl _) hv
        · exact hR0 (decide_eq_false (fun e => h (by rw [e]))) H' (xrefl _)
      intro D1 ys1 H1 n1 x1 e1 hy1
      rw [List.map_id'] at hy1
      obtain ⟨a, b, c, fs, ps, h1, h2, h3, h4, h5, h6⟩ := LexAt.mono x1 hL
      have i1 : atI ([.ref a, .ref b, .ref c] : List V) 1 = some (.ref b) := atI_nat (j := 1) rfl
      walk_at "6"
      walk_at "0"
      walk_at "1"
      walk_at "8"
      walk_at "69"
      walk_at "51"
      walk_at "38"
      walk_at "8"
      walk_at "69"
      walk_at "7"
      walk_at "79"
      walk_at "88"
      refine ⟨⟨_, sql h3⟩, b_datF walk_list (fun H' x' => xl x' (sql h3)) h4 (conT st) (fun d => d) (fun d hd => ?_) ?_ ?_ ?_⟩
      · obtain ⟨p, _, rfl⟩ := List.mem_map.mp hd
        exact im_fD p
      · rw [List.length_map]; have := lok.nF; omega
      · intro v d H' hv hd xx R R0 hR hR0
        obtain ⟨p, hp, rfl⟩ := List.mem_map.mp hd
        rw [conT_fD] at hR hR0
        walk_at "6"
        refine ⟨rfl, ?_⟩
        walk_at "17"
        walk_at "14"
        walk_at "8"
        walk_at "8"
        walk_at "69"
        walk_at "7"
        refine d_ix hv (atI_nat (j := 2) rfl) fun w hw => ?_
        cases Dp.str_inv hw
        walk_at "69"
        walk_at "75"
        walk_at "88"
        refine k_if (fun h => ?_) (fun h => ?_)
        · rw [decide_eq_true (show p.2.2 = st by injection h), Bool.true_and] at hR hR0
          walk_at "14"
          walk_at "8"
          walk_at "11"
          walk_at "9"
          walk_at "8"
          walk_at "69"
          walk_at "7"
          refine d_ix hv (atI_nat (j := 1) rfl) fun w2 hw2 => ?_
          walk_at "10"
          refine d_len hw2 ?_
          walk_at "7"
          walk_at "75"
          walk_at "88"
          rw [List.length_map]
          refine k_if (fun h' => ?_) (fun h' => ?_)
          · walk_at "69"
            exact hR (decide_eq_true (by injection h' with h'; omega)) v H' (xrefl _) hv
          · exact hR0 (decide_eq_false (fun e => h' (by rw [e]; rfl))) H' (xrefl _)
        · rw [decide_eq_false (fun e => h (by rw [e])), Bool.false_and] at hR0
          exact hR0 rfl H' (xrefl _)
      intro D2 ys2 H2 n2 x2 e2 hy2
      rw [List.map_id'] at hy2
      have hl1 := hy1.len
      have hl2 := hy2.len
      have hf1 := List.length_filter_le (varT st) (vl.map varD)
      have hf2 := List.length_filter_le (conT st) (x.F.map fD)
      rw [List.length_map] at hf1 hf2
      have hv8 := vok.len
      have hF10 := lok.nF
      refine v_plus_lst (x2 _ _ e1) e2 (szL (by omega)) fun p3 H3 n3 x3 e3 => ?_
      have hy3 := DpAll.mono x3 (DpAll.app (DpAll.mono x2 hy1) hy2)
      walk_at "6"
      refine k_cut (fun σ' H' => ∃ po y7 os ys, σ' = [some (.ref l), some (.str st), some (.ref r), some (.int at0), some (.int deep), some (.ref vr), some (.ref po), y7, none, none, none, none, none] ∧ Xt H H' ∧ H' po = some (.lst ys) ∧ DpAll K H' ys os ∧ os ≠ [] ∧ os.length ≤ 40 ∧ ∀ o ∈ os, OptD x st deep o) ?_ ?_
      · have h30 := xtr x1 (xtr x2 x3)
        have h3' : H3 b = some (.lst fs) := x3 _ _ (x2 _ _ h3)
        have h1' : H3 l = some (.lst [.ref a, .ref b, .ref c]) := x3 _ _ (x2 _ _ h1)
        walk_at "4"
        walk_at "14"
        walk_at "8"
        walk_at "69"
        walk_at "7"
        walk_at "55"
        walk_at "88"
        refine k_if (fun h => ?_) (fun h => ?_)
        · walk_at "0"
          walk_at "1"
          walk_at "51"
          walk_at "38"
          walk_at "8"
          walk_at "69"
          walk_at "7"
          walk_at "79"
          walk_at "88"
          refine ⟨⟨_, sql h3'⟩, b_datF walk_list (fun H' x' => xl x' (sql h3')) (DpAll.mono (xtr x2 x3) h4) (funT st) (fun d => d) (fun d hd => ?_) ?_ ?_ ?_⟩
          · obtain ⟨p, _, rfl⟩ := List.mem_map.mp hd
            exact im_fD p
          · rw [List.length_map]; omega
          · intro v d H' hv hd xx R R0 hR hR0
            obtain ⟨p, hp, rfl⟩ := List.mem_map.mp hd
            rw [funT_fD] at hR hR0
            walk_at "6"
            refine ⟨rfl, ?_⟩
            walk_at "17"
            walk_at "14"
            walk_at "8"
            walk_at "8"
            walk_at "69"
            walk_at "7"
            refine d_ix hv (atI_nat (j := 2) rfl) fun w hw => ?_
            cases Dp.str_inv hw
            walk_at "69"
            walk_at "75"
            walk_at "88"
            refine k_if (fun h => ?_) (fun h => ?_)
            · rw [decide_eq_true (show p.2.2 = st by injection h), Bool.true_and] at hR hR0
              walk_at "14"
              walk_at "8"
              walk_at "11"
              walk_at "9"
              walk_at "8"
              walk_at "69"
              walk_at "7"
              refine d_ix hv (atI_nat (j := 1) rfl) fun w2 hw2 => ?_
              walk_at "10"
              refine d_len hw2 ?_
              walk_at "7"
              walk_at "55"
              walk_at "88"
              rw [List.length_map]
              refine k_if (fun h' => ?_) (fun h' => ?_)
              · walk_at "69"
                exact hR (decide_eq_true (by omega)) v H' (xrefl _) hv
              · exact hR0 (decide_eq_false (fun e => h' (by omega))) H' (xrefl _)
            · rw [decide_eq_false (fun e => h (by rw [e])), Bool.false_and] at hR0
              exact hR0 rfl H' (xrefl _)
          intro D4 ys4 H4 n4 x4 e4 hy4
          rw [List.map_id'] at hy4
          have hl4 := hy4.len
          have hf4 := List.length_filter_le (funT st) (x.F.map fD)
          rw [List.length_map] at hf4
          walk_at "6"
          walk_at "1"
          walk_at "8"
          walk_at "8"
          walk_at "69"
          walk_at "69"
          refine v_plus_lst e4 (x4 _ _ e3) (szL (by rw [List.length_append]; omega)) fun p5 H5 n5 x5 e5 => ?_
          walk_at "69"
          refine v_plus_lst e5 (x5 _ _ e4) (szL (by rw [List.length_append, List.length_append]; omega)) fun p6 H6 n6 x6 e6 => ?_
          walk_at "6"
          have x56 := xtr x5 x6
          refine ⟨p6, _, _, _, rfl, xtr h30 (xtr x4 x56), e6, DpAll.app (DpAll.app (DpAll.mono x56 hy4) (DpAll.mono (xtr x4 x56) hy3)) (DpAll.mono x56 hy4), ?_, ?_, ?_⟩
          · intro e
            have := List.append_eq_nil_iff.mp (List.append_eq_nil_iff.mp e).1
            exact opt_ne vok hst (List.append_eq_nil_iff.mp this.2).1
          · simp only [List.length_append]; omega
          · intro o ho
            rcases List.mem_append.mp ho with ho | ho
            · rcases List.mem_append.mp ho with ho | ho
              · exact opt_fun h ho
              · rcases List.mem_append.mp ho with ho | ho
                · exact opt_var vok ho
                · exact opt_con ho
            · exact opt_fun h ho
        · walk_at "5"
          refine ⟨p3, _, _, _, rfl, h30, e3, hy3, ?_, ?_, ?_⟩
          · intro e
            exact opt_ne vok hst (List.append_eq_nil_iff.mp e).1
          · rw [List.length_append]; omega
          · intro o ho
            rcases List.mem_append.mp ho with ho | ho
            · exact opt_var vok ho
            · exact opt_con ho
      rintro σ' H' ⟨po, y7, os, ys, rfl, xx, epo, hos, hne, hol, hopt⟩
      obtain ⟨hdl, dg, hdg⟩ := mod_int (ds := ds) at0 hd0
      obtain ⟨hyl, cv, o, hcv, hoo, hod⟩ := mod_dat dg hos hne
      have hds' := xl xx hds
      have hL' := LexAt.mono xx hL
      have hvr' := xx _ _ hvr
      have hvd' := DpAll.mono xx hvd
      walk_at "0"
      walk_at "1"
      walk_at "8"
      walk_at "69"
      walk_at "8"
      walk_at "11"
      walk_at "9"
      walk_at "8"
      walk_at "69"
      walk_at "8"
      walk_at "11"
      walk_at "9"
      walk_at "69"
      walk_at "10"
      walk_at "57"
      walk_at "11"
      walk_at "9"
      walk_at "69"
      walk_at "10"
      walk_at "77"
      walk_at "70"
      walk_at "79"
      walk_at "10"
      walk_at "57"
      walk_at "11"
      walk_at "9"
      walk_at "69"
      walk_at "10"
      walk_at "77"
      walk_at "70"
      walk_at "79"
      walk_at "6"
      walk_at "0"
      walk_at "1"
      walk_at "8"
      walk_at "69"
      walk_at "7"
      walk_at "56"
      walk_at "6"
      walk_at "0"
      walk_at "4"
      walk_at "14"
      walk_at "8"
      walk_at "11"
      walk_at "9"
      walk_at "69"
      walk_at "10"
      rcases hopt o hoo with ⟨p, rfl, hp1, hp2, hp3⟩ | ⟨f, hf, rfl, hfs, hfa⟩
      · refine d_len hod ?_
        walk_at "7"
        walk_at "75"
        walk_at "88"
        walk_at "90"
        walk_at "2"
        walk_at "34"
        walk_at "9"
        walk_at "69"
        walk_at "9"
        walk_at "69"
        walk_at "10"
        walk_at "82"
        skip
        intro p4 H4 n4 x4 e4
        refine q p4 H4 cv _ _ (xtr xx x4) e4 (Dp.mono x4 hod) ?_
        rw [← hp3]
        exact (tm_var lok.ok hp1 hp2).up (Nat.zero_le _)
      refine d_len hod ?_
      walk_at "7"
      walk_at "75"
      walk_at "88"
      walk_at "89"
      walk_at "5"
      walk_at "0"
      walk_at "1"
      walk_at "35"
      walk_at "9"
      walk_at "8"
      walk_at "69"
      walk_at "7"
      refine d_ix hod (atI_nat (j := 0) rfl) fun w0 hw0 => ?_
      cases Dp.str_inv hw0
      walk_at "10"
      walk_at "83"
      intro p4 H4 n4 x4 e4
      have hod4 := Dp.mono x4 hod
      walk_at "6"
      walk_at "0"
      walk_at "37"
      walk_at "39"
      walk_at "8"
      walk_at "69"
      walk_at "7"
      refine d_ix hod4 (atI_nat (j := 1) rfl) fun w1 hw1 => ?_
      obtain ⟨aw, xw, rfl, hSw, hdw⟩ := Dp.tup_inv hw1
      have exw := DpAll.strs_inv hdw
      subst exw
      have h3 := lok.fl f hf
      refine ⟨_, rfl, ⟨_, hSw⟩, for_tup (xs := f.2.1.map V.str) (fun i σ' H' => ∃ a2 mv es y10 y11, σ' = [some (.ref l), some (.str st), some (.ref r), some (.int a2), some (.int deep), some (.ref vr), some (.ref po), y7, some cv, some mv, y10, y11, none] ∧ Xt H4 H' ∧ Dp K H' mv (.tuple (.str f.1 :: es)) ∧ es.length = i ∧ ∀ (j : Nat) (e : PyData) (s : Str), es[j]? = some e → f.2.1[j]? = some s → Tm x (m - 1) s e) ⟨_, _, [], _, _, rfl, xrefl _, .of_tup e4 (.cons (.str _) .nil), rfl, fun j e s h => by simp at h⟩ ?_ ?_ ?_⟩
      · rintro i σ' H5 hi ⟨a2, mv, es, y10, y11, rfl, x5, _⟩
        exact xt x5 hSw
      · rintro i y σ' H5 hy ⟨a2, mv, es, y10, y11, rfl, x5, hmv, hel, hes⟩
        rw [List.getElem?_map] at hy
        cases hq : f.2.1[i]? with
        | none => rw [hq] at hy; cases hy
        | some sq =>
          rw [hq] at hy
          cases hy
          have hil := (List.getElem?_eq_some_iff.mp hq).1
          have hdp : 0 < deep := by
            rcases hfa with h | h
            · rw [h] at hil; simp at hil
            · exact h
          obtain ⟨m', rfl⟩ : ∃ m', m = m' + 1 := ⟨m - 1, by omega⟩
          obtain ⟨n', rfl⟩ : ∃ n', n = n' + 1 := ⟨n - 1, by omega⟩
          have x45 := xtr x4 x5
          walk_at "6"
          walk_at "0"
          walk_at "1"
          walk_at "12"
          walk_at "9"
          walk_at "69"
          walk_at "9"
          walk_at "69"
          walk_at "9"
          walk_at "69"
          walk_at "9"
          walk_at "69"
          walk_at "9"
          walk_at "8"
          walk_at "69"
          walk_at "7"
          walk_at "55"
          walk_at "9"
          walk_at "69"
          walk_at "10"
          refine ⟨l, r, vr, x, sq, ds, a2, deep - 1, vl, ws, m', rfl, LexAt.mono x45 hL', lok, arg_sort lok.ok (F_syms hf) (List.mem_of_getElem? hq), xl x45 hds', hd0, hd1, by omega, by omega, x45 _ _ hvr', DpAll.mono x45 hvd', vok, fun p6 H6 v6 d6 a6 x6 e6 hd6 tm6 => ?_⟩
          have j0 : atI [v6, V.int a6] 0 = some v6 := atI_nat (j := 0) rfl
          have j1 : atI [v6, V.int a6] 1 = some (.int a6) := atI_nat (j := 1) rfl
          walk_at "6"
          walk_at "0"
          walk_at "1"
          walk_at "8"
          walk_at "69"
          walk_at "35"
          walk_at "9"
          walk_at "8"
          walk_at "69"
          walk_at "7"
          walk_at "79"
          walk_at "10"
          walk_at "83"
          intro p7 H7 n7 x7 e7
          have hp7 : Dp K H7 (.ref p7) (.tuple [d6]) := .of_tup e7 (DpAll.mono x7 (.cons hd6 .nil))
          refine d_plus (Dp.mono (xtr x6 x7) hmv) hp7 (by simp only [List.length_cons, List.length_nil]; omega) fun w8 H8 x8 hw8 => ?_
          have e8 := x8 _ _ (x7 _ _ e6)
          walk_at "6"
          walk_at "1"
          walk_at "8"
          walk_at "69"
          walk_at "7"
          walk_at "79"
          walk_at "6"
          refine ⟨_, _, es ++ [d6], _, _, rfl, xtr x5 (xtr x6 (xtr x7 x8)), hw8, by rw [List.length_append, List.length_singleton, hel], fun j e s h1' h2' => ?_⟩
          by_cases hji : j < es.length
          · rw [List.getElem?_append_left hji] at h1'
            exact hes j e s h1' h2'
          · have hje : j = es.length := by
              have := (List.getElem?_eq_some_iff.mp h1').1
              rw [List.length_append, List.length_singleton] at this; omega
            subst hje
            rw [List.getElem?_append_right (Nat.le_refl _), Nat.sub_self] at h1'
            simp at h1'
            subst h1'
            rw [hel, hq] at h2'
            cases h2'
            exact tm6
      · rintro σ' H5 ⟨a2, mv, es, y10, y11, rfl, x5, hmv, hel, hes⟩
        walk_at "2"
        walk_at "34"
        walk_at "9"
        walk_at "69"
        walk_at "9"
        walk_at "69"
        walk_at "10"
        walk_at "82"
        intro p6 H6 n6 x6 e6
        refine q p6 H6 mv _ _ (xtr xx (xtr x4 (xtr x5 x6))) e6 (Dp.mono x6 hmv) ?_
        rw [← hfs]
        rw [List.length_map] at hel
        refine tm_mk lok.ok (F_syms hf) hel h3 hes ?_
        rcases hfa with h | h
        · exact .inl h
        · exact .inr (by omega)



theorem ok__law_symbols (T : Top0 P K mg) : ∀ n : Nat, FnOk P w K mg base CX0 (1 + n) T.f__law_symbols T.fd__law_symbols ["tree"] (sp__law_symbols T n)
  | 0 => T.F__law_symbols.ok sc__law_symbols (fun vs H Q E h => False.elim h) (fun cdv A outer s H vs Q E hr h => False.elim h)
  | n + 1 => by
    have ih := ok__law_symbols T n
    refine T.F__law_symbols.ok sc__law_symbols (fun vs H Q E h => ?_) (fun cdv A outer s H vs Q E hr h => ?_)
    · obtain ⟨v, d, W, rfl, hv, ht, hW, q⟩ := h
      rfl
    · obtain ⟨v, d, W, rfl, hv, ht, hW, q⟩ := h
      refine ⟨_, (pss_cons (ps_if (pt_val (pe_call (ok__law_is_variable T) (hr.mono (by first | decide | exact Nat.le_refl _ | omega | (show _ ≤ _ + n; omega))) (by rfl) T.g__law_is_variable T.F__law_is_variable.kp T.b__law_is_variable .nil pass0 (pa_cons (pv 0) pa_nil))) (pss_one (ps_ret pe_int)) pss_nil)
      (pss_one (ps_ret (pe_op (r := rPlus K) op_plus pe_int (pe_callB (r := rSum K) (cr_sum rfl) (by rfl) T.n_sum PyProof.Rows.boot_sum (pa_cons (pe_lc (own := [("part", 1)]) (g := gName 1) rfl sc__law_symbols.nd (pi_tup (pe_slice (r := rSlU K) sl_any (pv 0) (po_some pe_int) po_none)) (blkOk_by (N := N__law_symbols) (sc := defScope s__law_symbols) (by decide +kernel)) (fun _ _ _ _ _ => (pg_name (i := 1) sc__law_symbols.nd rfl (Or.inl rfl))) (fun _ _ _ _ _ => pts_nil) (fun _ _ _ _ _ => (pe_call ih (hr.mono (by first | decide | exact Nat.le_refl _ | omega | (show _ ≤ _ + n; omega))) (by rfl) T.g__law_symbols T.F__law_symbols.kp T.b__law_symbols .nil pass0 (pa_cons (pv 1) pa_nil)))) pa_nil)))))), ?_⟩
      obtain ⟨z, ds, k', rfl, e0, hz1, hzW, hlW, hcase⟩ := ht.inv
      obtain rfl : n = k' := by omega
      walk_at "0"
      walk_at "4"
      walk_at "15"
      walk_at "12"
      walk_at "9"
      walk_at "69"
      walk_at "10"
      refine ⟨v, _, _, W, rfl, hv, ht, hW, ?_⟩
      rcases hcase with ⟨hc, s, rfl⟩ | ⟨hc, hall⟩
      · rw [show capD (.tuple (.str z :: [.str s])) = true from hc]
        walk_at "88"
        walk_at "90"
        walk_at "2"
        walk_at "7"
        have hq := q H (xrefl H)
        rw [subs_var hc] at hq
        exact hq
      · rw [show capD (.tuple (.str z :: ds)) = false from hc]
        walk_at "88"
        walk_at "89"
        walk_at "5"
        walk_at "2"
        walk_at "8"
        walk_at "7"
        walk_at "11"
        walk_at "9"
        walk_at "51"
        walk_at "39"
        walk_at "48"
        walk_at "69"
        walk_at "50"
        walk_at "7"
        walk_at "88"
        walk_at "49"
        refine d_cut hv fun w2 H3 x3 hw3 => ?_
        rw [cut_tail] at hw3
        obtain ⟨a2, xs2, rfl, hS2, hd2⟩ := Dp.tup_inv hw3
        walk_at "88"
        refine ⟨⟨_, hS2⟩, b_dat walk_tup (fun H' x' => xt x' hS2) hd2 (fun d => .int (subsF d).length) ?_ ?_ ?_ ?_ gm_name⟩
        · intro d _; rfl
        · omega
        · intro v2 d H' hv2 hd2' xx R hR
          walk_at "6"
          refine ⟨rfl, ?_⟩
          walk_at "12"
          walk_at "9"
          walk_at "69"
          walk_at "10"
          have htd := hall d hd2'
          obtain ⟨n', rfl⟩ := htd.pos
          refine ⟨v2, d, W, rfl, hv2, htd, hW, fun H5 x5 => hR _ _ x5 (.int _)⟩
        · intro Dl ys H4 hDl x4 e4 hys
          have e5 : ys = (ds.map fun d => ((subsF d).length : Int)).map V.int := DpAll.ints_inv (by rw [List.map_map]; exact hys)
          subst e5
          walk_at "10"
          refine ⟨Dl, _, rfl, sql e4, ?_⟩
          walk_at "56"
          have hq := q H4 (xtr x3 x4)
          rw [subs_fun hc, List.length_cons, subsAll_len] at hq
          have e6 : (1 + (ds.map fun d => ((subsF d).length : Int)).sum) = (((ds.map fun d => (subsF d).length).sum + 1 : Nat) : Int) := by
            have := sum_cast (ds.map fun d => (subsF d).length)
            rw [List.map_map] at this
            have e7 : (ds.map ((fun (n : Nat) => (n : Int)) ∘ fun d => (subsF d).length)) = ds.map fun d => ((subsF d).length : Int) := rfl
            rw [e7] at this
            omega
          rw [e6]
          exact hq


theorem ok__law_term_variables (T : Top0 P K mg) : ∀ n : Nat, FnOk P w K mg base CX0 (1 + n) T.f__law_term_variables T.fd__law_term_variables ["tree", "known"] (sp__law_term_variables T n)
  | 0 => T.F__law_term_variables.ok sc__law_term_variables (fun vs H Q E h => False.elim h) (fun cdv A outer s H vs Q E hr h => False.elim h)
  | n + 1 => by
    have ih := ok__law_term_variables T n
    refine T.F__law_term_variables.ok sc__law_term_variables (fun vs H Q E h => ?_) (fun cdv A outer s H vs Q E hr h => ?_)
    · obtain ⟨v, a, ks, d, ps, W, rfl, hv, ht, hW, ea, hks, hlen, has, q⟩ := h
      rfl
    · obtain ⟨v, a, ks, d, ps, W, rfl, hv, ht, hW, ea, hks, hlen, has, q⟩ := h
      refine ⟨_, (pss_cons (ps_if (pt_val (pe_call (ok__law_is_variable T) (hr.mono (by first | decide | exact Nat.le_refl _ | omega | (show _ ≤ _ + n; omega))) (by rfl) T.g__law_is_variable T.F__law_is_variable.kp T.b__law_is_variable .nil pass0 (pa_cons (pv 0) pa_nil))) (pss_cons (ps_if (pt_cmpR (r := rInV K) (op_inV hr) (pv 0) (pv 1) (by with_unfolding_all rfl)) (pss_one (ps_ret (pv 1))) pss_nil)
      (pss_one (ps_ret (pe_op (r := rPlus K) op_plus (pv 1) (pe_lst (pa_cons (pv 0) pa_nil)))))) pss_nil)
      (pss_cons (ps_for PassesOwn.never rfl (pi_tup (pe_slice (r := rSlU K) sl_any (pv 0) (po_some pe_int) po_none)) (pg_name (i := 2) sc__law_term_variables.nd rfl (Or.inl rfl)) (pss_one (ps_set (i := 1) sc__law_term_variables.nd rfl (Or.inl rfl) (pe_call ih (hr.mono (by first | decide | exact Nat.le_refl _ | omega | (show _ ≤ _ + n; omega))) (by rfl) T.g__law_term_variables T.F__law_term_variables.kp T.b__law_term_variables .nil pass0 (pa_cons (pv 2) (pa_cons (pv 1) pa_nil))))))
      (pss_one (ps_ret (pv 1))))), ?_⟩
      obtain ⟨z, ds, k', rfl, e0, hz1, hzW, hlW, hcase⟩ := ht.inv
      obtain rfl : n = k' := by omega
      walk_at "0"
      walk_at "4"
      walk_at "15"
      walk_at "12"
      walk_at "9"
      walk_at "69"
      walk_at "10"
      refine ⟨v, _, _, W, rfl, hv, ht, hW, ?_⟩
      rcases hcase with ⟨hc, s, rfl⟩ | ⟨hc, hall⟩
      · rw [show capD (.tuple (.str z :: [.str s])) = true from hc]
        have hpa : AsD (varD (z, s)) = true := ht.bd.as
        have hvs : varsA ps (subsF (.tuple (.str z :: [.str s]))) = addV ps (z, s) := by
          rw [subs_var hc]
          show varsO ps (varP (.tuple [.str z, .str s])) = _
          rw [varP_of hc]; rfl
        rw [hvs] at q
        walk_at "88"
        walk_at "90"
        walk_at "0"
        walk_at "4"
        walk_at "14"
        walk_at "8"
        walk_at "69"
        walk_at "69"
        refine w_in_var (p := (z, s)) ea hks hv has hpa ?_
        unfold addV at q
        by_cases hm : (z, s) ∈ ps
        · rw [if_pos hm] at q
          rw [decide_eq_true hm]
          walk_at "88"
          walk_at "90"
          walk_at "2"
          walk_at "69"
          exact q a H ks (xrefl H) ea hks
        · rw [if_neg hm] at q
          rw [decide_eq_false hm]
          walk_at "88"
          walk_at "89"
          walk_at "5"
          walk_at "2"
          walk_at "8"
          walk_at "69"
          walk_at "34"
          walk_at "9"
          walk_at "69"
          walk_at "10"
          walk_at "82"
          intro p2 H2 n2 x2 e2
          have hkl := hks.len
          rw [List.length_map] at hkl
          refine v_plus_lst (x2 _ _ ea) e2 (szL (by rw [List.length_singleton]; omega)) fun p3 H3 n3 x3 e3 => ?_
          have x23 := xtr x2 x3
          refine q p3 H3 _ x23 e3 ?_
          rw [List.map_append]
          exact DpAll.app (DpAll.mono x23 hks) (.cons (Dp.mono x23 hv) .nil)
      · rw [show capD (.tuple (.str z :: ds)) = false from hc]
        walk_at "88"
        walk_at "89"
        walk_at "5"
        walk_at "0"
        walk_at "37"
        walk_at "39"
        walk_at "48"
        walk_at "69"
        walk_at "50"
        walk_at "7"
        walk_at "88"
        walk_at "49"
        refine d_cut hv fun w2 H3 x3 hw3 => ?_
        rw [cut_tail] at hw3
        obtain ⟨a2, xs2, rfl, hS2, hd2⟩ := Dp.tup_inv hw3
        walk_at "88"
        have hv0 : varP (.tuple (.str z :: ds)) = none := varP_no hc
        rw [subs_fun hc] at q hlen
        have q : ∀ a2 H' ks2, Xt H H' → H' a2 = some (.lst ks2) → DpAll K H' ks2 ((varsA ps (subsAll ds)).map varD) → Q (.ref a2) H' := by
          have e : varsA ps (.tuple (.str z :: ds) :: subsAll ds) = varsA ps (subsAll ds) := by
            show varsA (varsO ps (varP (.tuple (.str z :: ds)))) (subsAll ds) = _
            rw [hv0]; rfl
          rw [e] at q; exact q
        rw [List.length_cons] at hlen
        have hsa : ∀ i, ∀ e ∈ subsAll (ds.take i), AsD e = true := fun i e he => by
          have : e ∈ subsF (.tuple (.str z :: ds)) := by
            rw [subs_fun hc, ← List.take_append_drop i ds, subsAll_app]
            exact List.mem_cons_of_mem _ (List.mem_append_left _ he)
          exact (ht.mem this).bd.as
        have hsl : ∀ i, (subsAll (ds.take i)).length + (subsAll (ds.drop i)).length = (subsAll ds).length := fun i => by
          rw [← List.length_append, ← subsAll_app, List.take_append_drop]
        have hxl := hd2.len
        refine ⟨⟨_, hS2⟩, for_tup (xs := xs2) (fun i σ' H' => ∃ b ks' y, σ' = [some v, some (.ref b), y] ∧ Xt H3 H' ∧ H' b = some (.lst ks') ∧ DpAll K H' ks' ((varsA ps (subsAll (ds.take i))).map varD)) ⟨a, ks, _, rfl, xrefl _, x3 _ _ ea, by rw [List.take_zero, subsAll]; exact DpAll.mono x3 hks⟩ ?_ ?_ ?_⟩
        · rintro i σ' H' hi ⟨b, ks', y, rfl, xx, _⟩
          exact xt xx hS2
        · rintro i u σ' H' hu ⟨b, ks', y, rfl, xx, eb, hkb⟩
          obtain ⟨e, he, hue⟩ := DpAll.getV hd2 hu
          have hem := List.mem_of_getElem? he
          have hte := hall e hem
          obtain ⟨n', rfl⟩ := hte.pos
          walk_at "6"
          walk_at "1"
          walk_at "12"
          walk_at "9"
          walk_at "69"
          walk_at "9"
          walk_at "69"
          walk_at "10"
          have hl2 := varsA_len ps (subsAll (ds.take i))
          have hl3 : (subsAll (ds.take i)).length + (subsF e).length ≤ (subsAll ds).length := by
            have h1 := hsl (i + 1)
            rw [subsAll_take he, List.length_append] at h1
            omega
          refine ⟨u, b, ks', e, _, W, rfl, Dp.mono xx hue, hte, hW, eb, hkb, by omega, varsA_as has (hsa i), fun a4 H4 ks4 x4 e4 h4 => ?_⟩
          walk_at "6"
          refine ⟨_, _, _, rfl, xtr xx x4, e4, ?_⟩
          rw [subsAll_take he, varsA_app]; exact h4
        · rintro σ' H' ⟨b, ks', y, rfl, xx, eb, hkb⟩
          rw [List.take_of_length_le (by omega)] at hkb
          walk_at "2"
          walk_at "69"
          exact q b H' ks' (xtr x3 xx) eb hkb


theorem ok__law_all_places (T : Top0 P K mg) : ∀ n : Nat, FnOk P w K mg base CX0 (1 + n) T.f__law_all_places T.fd__law_all_places ["tree", "spot"] (sp__law_all_places T n)
  | 0 => T.F__law_all_places.ok sc__law_all_places (fun vs H Q E h => False.elim h) (fun cdv A outer s H vs Q E hr h => False.elim h)
  | n + 1 => by
    have ih := ok__law_all_places T n
    refine T.F__law_all_places.ok sc__law_all_places (fun vs H Q E h => ?_) (fun cdv A outer s H vs Q E hr h => ?_)
    · obtain ⟨v, u, d, l, W, rfl, hv, ht, hW, hu, hl, q⟩ := h
      rfl
    · obtain ⟨v, u, d, l, W, rfl, hv, ht, hW, hu, hl, q⟩ := h
      refine ⟨_, (pss_cons (ps_set (i := 2) sc__law_all_places.nd rfl (Or.inl rfl) (pe_lst (pa_cons (pe_tup (pa_cons (pv 1) (pa_cons (pv 0) pa_nil))) pa_nil)))
      (pss_cons (ps_if (pt_val (pe_call (ok__law_is_variable T) (hr.mono (by first | decide | exact Nat.le_refl _ | omega | (show _ ≤ _ + n; omega))) (by rfl) T.g__law_is_variable T.F__law_is_variable.kp T.b__law_is_variable .nil pass0 (pa_cons (pv 0) pa_nil))) (pss_one (ps_ret (pv 2))) pss_nil)
      (pss_cons (ps_for PassesOwn.never rfl (pi_range1 (by rfl) T.n_range (pa_cons (pe_op op_sub (pe_callB (r := rLenU K) call_lenU (by rfl) T.n_len PySem.boot_len (pa_cons (pv 0) pa_nil)) pe_int) pa_nil)) (pg_name (i := 3) sc__law_all_places.nd rfl (Or.inl rfl)) (pss_one (ps_set (i := 2) sc__law_all_places.nd rfl (Or.inl rfl) (pe_op (r := rPlus K) op_plus (pv 2) (pe_call ih (hr.mono (by first | decide | exact Nat.le_refl _ | omega | (show _ ≤ _ + n; omega))) (by rfl) T.g__law_all_places T.F__law_all_places.kp T.b__law_all_places .nil pass0 (pa_cons (pe_ix (r := rIx K) ix_seq (pv 0) (pe_op (r := rPlus K) op_plus (pv 3) pe_int) (fun _ _ => rfl)) (pa_cons (pe_op (r := rPlus K) op_plus (pv 1) (pe_tup (pa_cons (pv 3) pa_nil))) pa_nil)))))))
      (pss_one (ps_ret (pv 2)))))), ?_⟩
      obtain ⟨z, ds, k', rfl, e0, hz1, hzW, hlW, hcase⟩ := ht.inv
      obtain rfl : n = k' := by omega
      have him : Im (.tuple (.str z :: ds)) = true := (ht.sm (by omega)).im
      have hwt := ht.bd.wt
      rw [w_tup, W1_cons] at hwt
      walk_at "0"
      walk_at "1"
      walk_at "34"
      walk_at "9"
      walk_at "35"
      walk_at "9"
      walk_at "69"
      walk_at "9"
      walk_at "69"
      walk_at "10"
      walk_at "83"
      intro p1 H1 n1 x1 e1
      have h1 : Dp K H1 (.ref p1) (placeD (l, .tuple (.str z :: ds))) := .of_tup e1 (DpAll.mono x1 (.cons hu (.cons hv .nil)))
      walk_at "10"
      walk_at "82"
      intro p2 H2 n2 x2 e2
      have x12 := xtr x1 x2
      have h2 : DpAll K H2 [.ref p1] ([(l, PyData.tuple (.str z :: ds))].map placeD) := .cons (Dp.mono x2 h1) .nil
      walk_at "6"
      walk_at "0"
      walk_at "4"
      walk_at "15"
      walk_at "12"
      walk_at "9"
      walk_at "69"
      walk_at "10"
      refine ⟨v, _, _, W, rfl, Dp.mono x12 hv, ht, hW, ?_⟩
      rcases hcase with ⟨hc, s, rfl⟩ | ⟨hc, hall⟩
      · rw [show capD (.tuple (.str z :: [.str s])) = true from hc]
        walk_at "88"
        walk_at "90"
        walk_at "2"
        walk_at "69"
        refine q p2 H2 _ x12 e2 ?_
        rw [placesF_var hc]; exact h2
      · rw [show capD (.tuple (.str z :: ds)) = false from hc]
        rw [placesF_fun hc] at q
        walk_at "88"
        walk_at "89"
        walk_at "5"
        walk_at "0"
        walk_at "37"
        walk_at "42"
        walk_at "9"
        walk_at "8"
        walk_at "11"
        walk_at "9"
        walk_at "69"
        walk_at "10"
        refine d_len (Dp.mono x12 hv) ?_
        walk_at "7"
        walk_at "55"
        walk_at "10"
        walk_at "88"
        refine ⟨by omega, by rw [List.length_cons]; omega, ?_⟩
        rw [show ((((PyData.str z :: ds).length : Nat) : Int) - 1).toNat = ds.length by rw [List.length_cons]; omega]
        have hu2 := Dp.mono x12 hu
        have hv2 := Dp.mono x12 hv
        refine for_range (lo := 0) (n := ds.length) (fun k σ' H' => ∃ pf ys y3, σ' = [some v, some u, some (.ref pf), y3] ∧ Xt H2 H' ∧ H' pf = some (.lst ys) ∧ DpAll K H' ys (((l, PyData.tuple (.str z :: ds)) :: placesAll (ds.take k) l 0).map placeD)) ⟨p2, _, _, rfl, xrefl _, e2, by rw [List.take_zero, placesAll]; exact h2⟩ ?_ ?_
        · rintro k σ' H3 hk ⟨pf, ys, y3, rfl, x3, e3, h3⟩
          obtain ⟨e, he⟩ : ∃ e, ds[k]? = some e := ⟨_, List.getElem?_eq_getElem hk⟩
          have hte := hall e (List.mem_of_getElem? he)
          obtain ⟨n', rfl⟩ := hte.pos
          rw [show ((0 : Int) + (k : Int)) = (k : Int) by omega]
          walk_at "6"
          walk_at "1"
          walk_at "8"
          walk_at "69"
          walk_at "12"
          walk_at "9"
          walk_at "8"
          walk_at "69"
          walk_at "8"
          walk_at "69"
          walk_at "7"
          walk_at "56"
          refine d_ix (Dp.mono x3 hv2) (show atI (PyData.str z :: ds) ((k : Int) + 1) = some e from ?_) fun w4 hw4 => ?_
          · rw [show (k : Int) + 1 = ((k + 1 : Nat) : Int) by omega]; exact atI_nat (by simpa using he)
          walk_at "9"
          walk_at "8"
          walk_at "69"
          walk_at "35"
          walk_at "9"
          walk_at "69"
          walk_at "10"
          walk_at "83"
          intro p5 H5 n5 x5 e5
          have hp5 : Dp K H5 (.ref p5) (.tuple [.int (k : Int)]) := .of_tup e5 (.cons (.int _) .nil)
          refine d_plus (Dp.mono (xtr x3 x5) hu2) hp5 (by rw [List.length_map]; simp only [List.length_cons, List.length_nil]; omega) fun w6 H6 x6 hw6 => ?_
          rw [path_snoc] at hw6
          walk_at "10"
          have x56 := xtr x5 x6
          refine ⟨w4, w6, e, l ++ [k], W, rfl, Dp.mono x56 hw4, hte, hW, hw6, by rw [List.length_append, List.length_singleton]; omega, fun p7 H7 ys7 x7 e7 h7 => ?_⟩
          have x57 := xtr x56 x7
          have l3 := h3.len
          have l7 := h7.len
          rw [List.length_map] at l3 l7
          have hp1 := places_len e (l ++ [k])
          have hp2 := placesAll_len (ds.take k) l 0
          have hw1 := W1_take_le ds k
          have hew := hte.bd.wt
          rw [List.length_cons] at l3
          refine v_plus_lst (x57 _ _ e3) e7 (szL (by omega)) fun p8 H8 n8 x8 e8 => ?_
          walk_at "6"
          refine ⟨_, _, _, rfl, xtr x3 (xtr x57 x8), e8, ?_⟩
          rw [placesAll_take he, ← List.cons_append, List.map_append]
          exact DpAll.app (DpAll.mono (xtr x57 x8) h3) (DpAll.mono x8 h7)
        · rintro σ' H3 ⟨pf, ys, y3, rfl, x3, e3, h3⟩
          rw [List.take_length] at h3
          walk_at "2"
          walk_at "69"
          exact q pf H3 ys (xtr x12 x3) e3 h3


theorem ok__law_put (T : Top0 P K mg) : ∀ n : Nat, FnOk P w K mg base CX0 (1 + n) T.f__law_put T.fd__law_put ["tree", "spot", "fresh"] (sp__law_put T n)
  | 0 => T.F__law_put.ok sc__law_put (fun vs H Q E h => False.elim h) (fun cdv A outer s H vs Q E hr h => False.elim h)
  | n + 1 => by
    have ih := ok__law_put T n
    refine T.F__law_put.ok sc__law_put (fun vs H Q E h => ?_) (fun cdv A outer s H vs Q E hr h => ?_)
    · obtain ⟨v, u, y, d, c, e, k, W, m, W2, l, rfl, hv, ht, hW, hu, hl, hy, he, hW2, hp, q⟩ := h
      rfl
    · obtain ⟨v, u, y, d, c, e, k, W, m, W2, l, rfl, hv, ht, hW, hu, hl, hy, he, hW2, hp, q⟩ := h
      refine ⟨_, (pss_cons (ps_if (pt_cmpR (r := rEqU K) (op_eqU hr) (pe_callB (r := rLenU K) call_lenU (by rfl) T.n_len PySem.boot_len (pa_cons (pv 1) pa_nil)) pe_int (nomark _)) (pss_one (ps_ret (pv 2))) pss_nil)
      (pss_cons (ps_set (i := 3) sc__law_put.nd rfl (Or.inl rfl) (pe_op (r := rPlus K) op_plus (pe_ix (r := rIx K) ix_seq (pv 1) pe_int (fun _ _ => rfl)) pe_int))
      (pss_one (ps_ret (pe_op (r := rPlus K) op_plus (pe_op (r := rPlus K) op_plus (pe_slice (r := rSlU K) sl_any (pv 0) po_none (po_some (pv 3))) (pe_tup (pa_cons (pe_call ih (hr.mono (by first | decide | exact Nat.le_refl _ | omega | (show _ ≤ _ + n; omega))) (by rfl) T.g__law_put T.F__law_put.kp T.b__law_put .nil pass0 (pa_cons (pe_ix (r := rIx K) ix_seq (pv 0) (pv 3) (fun _ _ => rfl)) (pa_cons (pe_slice (r := rSlU K) sl_any (pv 1) (po_some pe_int) po_none) (pa_cons (pv 2) pa_nil)))) pa_nil))) (pe_slice (r := rSlU K) sl_any (pv 0) (po_some (pe_op (r := rPlus K) op_plus (pv 3) pe_int)) po_none)))))), ?_⟩
      walk_at "0"
      walk_at "4"
      walk_at "14"
      walk_at "8"
      walk_at "11"
      walk_at "9"
      walk_at "69"
      walk_at "10"
      refine d_len hu ?_
      rw [List.length_map]
      walk_at "7"
      walk_at "75"
      walk_at "88"
      cases l with
      | nil =>
        walk_at "90"
        walk_at "2"
        walk_at "69"
        exact q y H (xrefl H) hy
      | cons j l =>
        obtain ⟨z, ds, k', rfl, rfl, hz1, hzW, hlW, hcase⟩ := ht.inv
        obtain ⟨hz, b, hb, hp2⟩ := part_cons hp
        rcases hcase with ⟨hc, _⟩ | ⟨_, hall⟩
        · rw [hz] at hc; cases hc
        have htb := hall b (List.mem_of_getElem? hb)
        have hj : j < ds.length := (List.getElem?_eq_some_iff.mp hb).1
        rw [put_eq hb] at q
        rw [List.length_cons] at hl
        obtain ⟨n', rfl⟩ : ∃ n', n = n' + 1 := ⟨n - 1, by omega⟩
        walk_at "89"
        walk_at "5"
        walk_at "0"
        walk_at "1"
        walk_at "8"
        walk_at "8"
        walk_at "69"
        walk_at "7"
        refine d_ix (d := .int j) hu (atI_nat (j := 0) rfl) fun w0 hw0 => ?_
        cases Dp.int_inv hw0
        walk_at "7"
        walk_at "56"
        walk_at "6"
        walk_at "2"
        walk_at "8"
        walk_at "8"
        walk_at "48"
        walk_at "69"
        walk_at "49"
        walk_at "50"
        walk_at "69"
        walk_at "88"
        rw [show (j : Int) + 1 = ((j + 1 : Nat) : Int) by omega]
        refine d_cut hv fun w1 H1 x1 hw1 => ?_
        rw [cutP_to (by rw [List.length_cons]; omega)] at hw1
        have hu1 := Dp.mono x1 hu
        walk_at "35"
        walk_at "9"
        walk_at "12"
        walk_at "9"
        walk_at "8"
        walk_at "69"
        walk_at "69"
        refine d_ix (Dp.mono x1 hv) (atI_nat (by simpa using hb)) fun w3 hw3 => ?_
        walk_at "9"
        walk_at "48"
        walk_at "69"
        walk_at "50"
        walk_at "7"
        walk_at "88"
        walk_at "49"
        refine d_cut hu1 fun w4 H4 x4 hw4 => ?_
        have hw4' : Dp K H4 w4 (pathD l) := by
          unfold pathD at hw4 ⊢
          rw [List.map_cons, cut_tail] at hw4
          exact hw4
        walk_at "9"
        walk_at "69"
        walk_at "10"
        refine ⟨w3, w4, y, b, c, e, k', W, m, W2, l, rfl, Dp.mono x4 hw3, htb, hW, hw4', by omega, Dp.mono (xtr x1 x4) hy, he, hW2, hp2, fun y5 H5 x5 hy5 => ?_⟩
        walk_at "10"
        walk_at "83"
        intro p6 H6 n6 x6 e6
        have hp6 : Dp K H6 (.ref p6) (.tuple [putF3 b l e]) := .of_tup e6 (DpAll.mono x6 (.cons hy5 .nil))
        have x16 := xtr x4 (xtr x5 x6)
        skip
        refine d_plus (Dp.mono x16 hw1) hp6 (by rw [List.length_take]; simp only [List.length_cons, List.length_nil]; omega) fun w7 H7 x7 hw7 => ?_
        have x07 := xtr x1 (xtr x16 x7)
        walk_at "48"
        walk_at "69"
        walk_at "50"
        walk_at "8"
        walk_at "69"
        walk_at "7"
        walk_at "56"
        walk_at "88"
        walk_at "49"
        refine d_cut (Dp.mono x07 hv) fun w9 H9 x9 hw9 => ?_
        rw [show ((j + 1 : Nat) : Int) + 1 = ((j + 2 : Nat) : Int) by omega, cutP_fr (by rw [List.length_cons]; omega)] at hw9
        refine d_plus (Dp.mono x9 hw7) hw9 (by rw [List.length_append, List.length_take, List.length_drop]; simp only [List.length_cons, List.length_nil]; omega) fun y H' x' hy => ?_
        rw [set_split hb] at hy
        exact q y H' (xtr x07 (xtr x9 x')) hy


theorem ok_is_name (T : Top0 P K mg) : FnOk P w K mg base CX0 2 T.f_is_name T.fd_is_name ["value"] (sp_is_name T) := by
  refine T.F_is_name.ok sc_is_name (fun vs H Q E h => ?_) (fun cdv A outer s H vs Q E hr h => ?_)
  · obtain ⟨z, rfl, hz, q⟩ := h
    rfl
  · obtain ⟨z, rfl, hz, q⟩ := h
    refine ⟨_, (pss_one (ps_ret (pe_and (pe_call (ok__has_form T) (hr.mono (by first | decide | exact Nat.le_refl _ | omega | (show _ ≤ _ + n; omega))) (by rfl) T.g__has_form T.F__has_form.kp T.b__has_form .nil pass0 (pa_cons (pv 0) pa_nil)) (pe_and (pe_cmpR (r := rInV K) (op_inV hr) (pe_ix (r := rIx K) ix_seq (pv 0) pe_int (fun _ _ => rfl)) (pe_glob (v := .str "abcdefghijklmnopqrstuvwxyz0123456789") (by rfl) T.c_SMALL_SIGNS ⟨_, rfl⟩) (by with_unfolding_all rfl)) (pe_and (pe_cmpR (r := rNotInV K) (op_notInV hr) (pe_ix (r := rIx K) ix_seq (pv 0) pe_int (fun _ _ => rfl)) (pe_glob (v := .str "0123456789") (by rfl) T.c_DIGITS ⟨_, rfl⟩) (by with_unfolding_all rfl)) (pe_one (pe_cmpR (r := rNotInV K) (op_notInV hr) (pv 0) (pe_glob (v := .ref T.a_WORDS) (by rfl) T.c_WORDS rfl) (by with_unfolding_all rfl)))))))), ?_⟩
    walk_at "2"
    walk_at "19"
    walk_at "12"
    walk_at "9"
    walk_at "69"
    walk_at "10"
    refine ⟨z, rfl, hz, fun H1 x1 => ?_⟩
    walk_at "88"
    refine k_ifb (fun hp => ?_) (fun hp => ?_)
    · have hl := plain_len hp
      obtain ⟨c, r, ez, ec⟩ := head_of hl.1
      have eh : headIn z letL = decide (c ∈ letL) := by unfold headIn; rw [ez]
      have en : nameF z = (decide (c ∈ letL) && !inV (.str z) W13) := by unfold nameF; rw [hp, eh]; rfl
      rw [← letters c] at en
      walk_at "19"
      walk_at "8"
      walk_at "8"
      walk_at "69"
      walk_at "7"
      refine v_ix_s (szL (by omega)) ec ?_
      walk_at "7"
      walk_at "61"
      walk_at "88"
      refine k_if (fun h1 => ?_) (fun h1 => ?_)
      · walk_at "19"
        walk_at "8"
        walk_at "8"
        walk_at "69"
        walk_at "7"
        refine v_ix_s (szL (by omega)) ec ?_
        walk_at "7"
        walk_at "62"
        walk_at "88"
        refine k_ifn (fun h2 => ?_) (fun h2 => ?_)
        · walk_at "8"
          walk_at "69"
          walk_at "7"
          refine w_notin_q (.inr (T.q_WORDS H1)) rfl (by decide +kernel) ?_
          have e1 : (decide (c ∈ smallL) && !decide (c ∈ digL)) = true := by rw [decide_eq_true (show c ∈ smallL from h1), decide_eq_false (show ¬ c ∈ digL from h2)]; rfl
          rw [e1, Bool.true_and] at en
          rw [show (!inV (V.str z) [V.str "all", V.str "some", V.str "not", V.str "and", V.str "or", V.str "implies", V.str "iff", V.str "true", V.str "false", V.str "truth", V.str "sort", V.str "function", V.str "axiom"]) = nameF z from en.symm]
          exact q H1 x1
        · have e1 : (decide (c ∈ smallL) && !decide (c ∈ digL)) = false := by rw [decide_eq_true (show c ∈ smallL from h1), decide_eq_true (show c ∈ digL from h2)]; rfl
          rw [e1, Bool.false_and] at en
          rw [← en]
          exact q H1 x1
      · have e1 : (decide (c ∈ smallL) && !decide (c ∈ digL)) = false := by rw [decide_eq_false (show ¬ c ∈ smallL from h1)]; rfl
        rw [e1, Bool.false_and] at en
        rw [← en]
        exact q H1 x1
    · have en : nameF z = false := by unfold nameF; rw [hp]; rfl
      rw [← en]
      exact q H1 x1



theorem ok_is_variable_name (T : Top0 P K mg) : FnOk P w K mg base CX0 2 T.f_is_variable_name T.fd_is_variable_name ["value"] (sp_is_variable_name T) := by
  refine T.F_is_variable_name.ok sc_is_variable_name (fun vs H Q E h => ?_) (fun cdv A outer s H vs Q E hr h => ?_)
  · obtain ⟨z, rfl, hz, q⟩ := h
    rfl
  · obtain ⟨z, rfl, hz, q⟩ := h
    refine ⟨_, (pss_one (ps_ret (pe_and (pe_call (ok__has_form T) (hr.mono (by first | decide | exact Nat.le_refl _ | omega | (show _ ≤ _ + n; omega))) (by rfl) T.g__has_form T.F__has_form.kp T.b__has_form .nil pass0 (pa_cons (pv 0) pa_nil)) (pe_one (pe_cmpR (r := rInV K) (op_inV hr) (pe_ix (r := rIx K) ix_seq (pv 0) pe_int (fun _ _ => rfl)) (pe_glob (v := .str "ABCDEFGHIJKLMNOPQRSTUVWXYZ") (by rfl) T.c_CAPITALS ⟨_, rfl⟩) (by with_unfolding_all rfl)))))), ?_⟩
    walk_at "2"
    walk_at "19"
    walk_at "12"
    walk_at "9"
    walk_at "69"
    walk_at "10"
    refine ⟨z, rfl, hz, fun H1 x1 => ?_⟩
    walk_at "88"
    refine k_ifb (fun hp => ?_) (fun hp => ?_)
    · have hl := plain_len hp
      obtain ⟨c, r, ez, ec⟩ := head_of hl.1
      have eh : headIn z capL = decide (c ∈ capL) := by unfold headIn; rw [ez]
      have en : varF z = decide (c ∈ capL) := by unfold varF; rw [hp, eh]; rfl
      walk_at "8"
      walk_at "8"
      walk_at "69"
      walk_at "7"
      refine v_ix_s (szL (by omega)) ec ?_
      walk_at "7"
      walk_at "61"
      rw [show decide (c ∈ (Str.ofString "ABCDEFGHIJKLMNOPQRSTUVWXYZ").cps.toList) = varF z from en.symm]
      exact q H1 x1
    · have en : varF z = false := by unfold varF; rw [hp]; rfl
      rw [← en]
      exact q H1 x1



theorem ok_sort_of (T : Top0 P K mg) : FnOk P w K mg base CX0 2 T.f_sort_of T.fd_sort_of ["vocabulary", "term"] (sp_sort_of T) := by
  refine T.F_sort_of.ok sc_sort_of (fun vs H Q E h => ?_) (fun cdv A outer s H vs Q E hr h => ?_)
  · obtain ⟨a, v, x, d, n, s, rfl, hV, ok, hv, hs, hn, hd, q⟩ := h
    rfl
  · obtain ⟨a, v, x, d, n, s, rfl, hV, ok, hv, hs, hn, hd, q⟩ := h
    refine ⟨_, (pss_cons (ps_if (pt_val (pe_call (ok_is_variable T) (hr.mono (by first | decide | exact Nat.le_refl _ | omega | (show _ ≤ _ + n; omega))) (by rfl) T.g_is_variable T.F_is_variable.kp T.b_is_variable .nil pass0 (pa_cons (pv 1) pa_nil))) (pss_one (ps_ret (pe_ix (r := rIx K) ix_seq (pv 1) pe_int (fun _ _ => rfl)))) pss_nil)
      (pss_cons (ps_if (pt_cmpR (r := rEqB K) (op_eqB hr) (pv 1) (pe_glob (v := .ref T.a_TRUTH) (by rfl) T.c_TRUTH rfl) (nomark _)) (pss_one (ps_ret (pe_glob (v := .str "truth") (by rfl) T.c_TRUTH_SORT ⟨_, rfl⟩))) pss_nil)
      (pss_one (ps_ret (pe_meth (pv 0) T.cl_Vocabulary T.m_Vocabulary_value_sort (ok_Vocabulary_value_sort T) (hr.mono (by first | decide | exact Nat.le_refl _ | omega | (show _ ≤ _ + n; omega))) T.b_Vocabulary_value_sort .nil pass0 (pa_cons (pe_ix (r := rIx K) ix_seq (pv 1) pe_int (fun _ _ => rfl)) pa_nil)))))), ?_⟩
    obtain ⟨dx, fs, sv, dA, dS, kA, kS, g1, g2, g3, g4, g5, g6, g7, g8, g9, g10, g11⟩ := id hV
    rcases hd with ht | ⟨rfl, rfl⟩
    · obtain ⟨z, ds, rfl, h2⟩ := told_inv ht
      rcases h2 with ⟨hvar, rfl, hS⟩ | ⟨hvar, p, hp, hta, rfl⟩
      · have hc := var_cap hvar
        unfold varF at hvar
        rw [Bool.and_eq_true] at hvar
        have hl := plain_len hvar.1
        walk_at "0"
        walk_at "4"
        walk_at "15"
        walk_at "12"
        walk_at "9"
        walk_at "69"
        walk_at "10"
        refine ⟨v, z, [.str s], rfl, hv, ⟨hl.1, by omega⟩, ?_⟩
        rw [hc]
        walk_at "88"
        walk_at "90"
        walk_at "2"
        walk_at "8"
        walk_at "69"
        walk_at "7"
        refine d_ix hv (atI_nat (j := 1) rfl) fun w hw => ?_
        cases Dp.str_inv hw
        exact q H (xrefl H)
      · have hnm := syms_name ok hp
        have hc := name_cap hnm
        have hl := plain_len (name_plain hnm)
        walk_at "0"
        walk_at "4"
        walk_at "15"
        walk_at "12"
        walk_at "9"
        walk_at "69"
        walk_at "10"
        refine ⟨v, z, ds, rfl, hv, ⟨hl.1, by omega⟩, ?_⟩
        rw [hc]
        walk_at "88"
        walk_at "89"
        walk_at "5"
        walk_at "0"
        walk_at "4"
        walk_at "14"
        walk_at "8"
        walk_at "69"
        walk_at "7"
        refine ⟨_, _, hv, dp_true (T.q_TRUTH H), as_lay hs.as, by decide +kernel, Nat.le_trans hs.dp (by omega), ?_⟩
        rw [eqv_true (fun h => by rw [h, true_name] at hnm; cases hnm)]
        walk_at "88"
        walk_at "89"
        walk_at "5"
        walk_at "2"
        walk_at "30"
        walk_at "69"
        refine ⟨a, dx, fs, rfl, g1, g11, ?_⟩
        walk_at "9"
        walk_at "8"
        walk_at "69"
        walk_at "7"
        refine d_ix hv (atI_nat (j := 0) rfl) fun w hw => ?_
        cases Dp.str_inv hw
        walk_at "10"
        refine ⟨a, z, x, rfl, hV, fun u hu => ?_⟩
        rw [tab_sort ok, hp] at hu
        cases Dp.str_inv hu
        exact q H (xrefl H)
    · walk_at "0"
      walk_at "4"
      walk_at "15"
      walk_at "12"
      walk_at "9"
      walk_at "69"
      walk_at "10"
      refine ⟨v, _, _, rfl, hv, ⟨by decide, by decide⟩, ?_⟩
      rw [true_cap]
      walk_at "88"
      walk_at "89"
      walk_at "5"
      walk_at "0"
      walk_at "4"
      walk_at "14"
      walk_at "8"
      walk_at "69"
      walk_at "7"
      refine ⟨_, _, hv, dp_true (T.q_TRUTH H), as_lay hs.as, by decide +kernel, Nat.le_trans hs.dp (by omega), ?_⟩
      rw [show PyData.eqv trueD trueD = true from by decide +kernel]
      walk_at "88"
      walk_at "90"
      walk_at "2"
      walk_at "7"
      exact q H (xrefl H)



theorem ok_subterms (T : Top0 P K mg) : FnOk P w K mg base CX0 2 T.f_subterms T.fd_subterms ["term"] (sp_subterms T) := by
  refine T.F_subterms.ok sc_subterms (fun vs H Q E h => ?_) (fun cdv A outer s H vs Q E hr h => ?_)
  · obtain ⟨v, d, n, rfl, hv, hs, hT, q⟩ := h
    rfl
  · obtain ⟨v, d, n, rfl, hv, hs, hT, q⟩ := h
    refine ⟨_, (pss_cons (ps_set (i := 1) sc_subterms.nd rfl (Or.inl rfl) (pe_lst pa_nil))
      (pss_cons (ps_set (i := 2) sc_subterms.nd rfl (Or.inl rfl) (pe_lst (pa_cons (pv 0) pa_nil)))
      (pss_cons (ps_while PassesOwn.never (pt_truth (pv 2) (by intro _; rfl)) (pss_cons (ps_set (i := 3) sc_subterms.nd rfl (Or.inl rfl) (pe_bm0 PySem.F.plainAttrs_list PySem.F.slot_list_pop PySem.F.type_list_pop mt_pop (pv 2)))
      (pss_cons (ps_expr (pe_bm PySem.F.plainAttrs_list PySem.F.slot_list_append PySem.F.type_list_append mt_append (pv 1) (pa_cons (pv 3) pa_nil)))
      (pss_one (ps_if (pt_not (pt_val (pe_call (ok_is_variable T) (hr.mono (by first | decide | exact Nat.le_refl _ | omega | (show _ ≤ _ + n; omega))) (by rfl) T.g_is_variable T.F_is_variable.kp T.b_is_variable .nil pass0 (pa_cons (pv 3) pa_nil)))) (pss_one (ps_expr (pe_bm PySem.F.plainAttrs_list PySem.F.slot_list_extend PySem.F.type_list_extend mt_extU (pv 2) (pa_cons (pe_tailrev (pv 3)) pa_nil)))) pss_nil)))))
      (pss_one (ps_ret (pv 1)))))), ?_⟩
    walk_at "0"
    walk_at "1"
    walk_at "34"
    walk_at "10"
    walk_at "82"
    intro f H1 hf0 x1 e1
    walk_at "6"
    walk_at "0"
    walk_at "1"
    walk_at "34"
    walk_at "9"
    walk_at "69"
    walk_at "10"
    walk_at "82"
    intro l H2 hl0 x2 e2
    walk_at "6"
    walk_at "0"
    have hfl : f ≠ l := fun h => by rw [← h, e1] at hl0; cases hl0
    have hl00 : H l = none := xfree x1 hl0
    have el1 := x2 _ _ e1
    refine ⟨fun m σ' H' => ∃ y fs ws FS es, σ' = [some v, some (.ref f), some (.ref l), y] ∧ Xt H H' ∧ H' f = some (.lst fs) ∧ H' l = some (.lst ws) ∧ DpAll K H' fs FS ∧ DpAll K H' ws es ∧ (∀ e ∈ FS ++ es, Sm n e) ∧ (∀ e ∈ es, TL e = true) ∧ FS ++ subsAll es.reverse = subsF d ∧ W1 es = m ∧ FS.length + m ≤ 6000000, ⟨_, none, [], [v], [], [d], rfl, xtr x1 x2, el1, e2, .nil, .cons (Dp.mono (xtr x1 x2) hv) .nil, ?_, ?_, ?_, rfl, ?_⟩, ?_⟩
    · intro e he
      rw [List.nil_append, List.mem_singleton] at he
      subst he
      exact hs
    · intro e he
      rw [List.mem_singleton] at he
      subst he
      exact hT
    · show subsAll [d] = subsF d
      rw [subsAll, subsAll, List.append_nil]
    · rw [W1_cons, W1_nil]; have := hs.wt; simp only [List.length_nil]; omega
    rintro m σ' H' ⟨y, fs, ws, FS, es, rfl, xx, ef, el, hFS, hes, hsm, htl, hsub, hm, hmm⟩
    walk_at "69"
    refine ⟨!ws.isEmpty, .inl ⟨ws, sql el, rfl⟩, ?_⟩
    rcases List.eq_nil_or_concat es with rfl | ⟨L, part, hpe⟩
    · have := DpAll.nil_inv hes
      subst this
      walk_at "89"
      walk_at "2"
      walk_at "69"
      refine q f H' fs xx ef ?_
      rw [← hsub]
      show DpAll K H' fs (FS ++ subsAll [])
      rw [subsAll, List.append_nil]; exact hFS
    rw [List.concat_eq_append] at hpe
    subst hpe
    obtain ⟨ws', w, rfl, hL, hw⟩ := DpAll.snoc_inv hes
    rw [show (!(ws' ++ [w]).isEmpty) = true by simp]
    refine iteT ⟨fun σ' H' => ∃ m', m' < m ∧ ∃ y fs ws FS es, σ' = [some v, some (.ref f), some (.ref l), y] ∧ Xt H H' ∧ H' f = some (.lst fs) ∧ H' l = some (.lst ws) ∧ DpAll K H' fs FS ∧ DpAll K H' ws es ∧ (∀ e ∈ FS ++ es, Sm n e) ∧ (∀ e ∈ es, TL e = true) ∧ FS ++ subsAll es.reverse = subsF d ∧ W1 es = m' ∧ FS.length + m' ≤ 6000000, fun _ _ h => h, ?_⟩
    walk_at "0"
    walk_at "1"
    walk_at "33"
    walk_at "69"
    refine ⟨ty_l el, v_pop el ?_⟩
    have hsp : Sm n part := hsm part (List.mem_append_right _ (List.mem_append_right _ (List.mem_singleton_self _)))
    have hsL : ∀ e ∈ L, Sm n e := fun e he => hsm e (List.mem_append_right _ (List.mem_append_left _ he))
    have hsF : ∀ e ∈ FS, Sm n e := fun e he => hsm e (List.mem_append_left _ he)
    have imL : ImAll L = true := imAll_iff.mpr fun e he => (hsL e he).im
    have imF : ImAll FS = true := imAll_iff.mpr fun e he => (hsF e he).im
    have x3 : Xt H (upd H' l (.lst ws')) := xmut xx hl00
    have hL3 : DpAll K (upd H' l (.lst ws')) ws' L := DpAll.im (fun _ _ h => SqT.upd el h) imL hL
    have hF3 : DpAll K (upd H' l (.lst ws')) fs FS := DpAll.im (fun _ _ h => SqT.upd el h) imF hFS
    have hw3 : Dp K (upd H' l (.lst ws')) w part := Dp.im (fun _ _ h => SqT.upd el h) hsp.im hw
    have hl3 : (upd H' l (.lst ws')) l = some (.lst ws') := upd_same
    have hf3 : (upd H' l (.lst ws')) f = some (.lst fs) := by rw [upd_ne hfl]; exact ef
    generalize upd H' l (.lst ws') = H3 at x3 hL3 hF3 hw3 hl3 hf3
    have hTp := htl part (List.mem_append_right _ (List.mem_singleton_self _))
    obtain ⟨z, ds, rfl, hz1, hcase⟩ := TL_inv hTp
    obtain ⟨n', rfl⟩ := hsp.pos
    have hzl := (hsp.tup _ (List.mem_cons_self ..)).str
    rw [W1_app] at hm
    have hwt : W1 [.tuple (.str z :: ds)] = ((PyData.str z).weight + 1 + W1 ds) + 1 + 0 := by rw [W1_cons, w_tup, W1_cons, W1_nil]
    rw [subsAll_snoc] at hsub
    have hfl3 := hFS.len
    walk_at "6"
    walk_at "0"
    walk_at "3"
    walk_at "36"
    walk_at "69"
    refine ⟨ty_l hf3, ?_⟩
    walk_at "9"
    walk_at "69"
    walk_at "10"
    refine ⟨f, _, w, rfl, rfl, hf3, szL2 (by omega), ?_⟩
    have x4 : Xt H (upd H3 f (.lst (fs ++ [w]))) := xmut x3 hf0
    have hL4 : DpAll K (upd H3 f (.lst (fs ++ [w]))) ws' L := DpAll.im (fun _ _ h => SqT.upd hf3 h) imL hL3
    have hF4 : DpAll K (upd H3 f (.lst (fs ++ [w]))) (fs ++ [w]) (FS ++ [.tuple (.str z :: ds)]) := DpAll.im (fun _ _ h => SqT.upd hf3 h) (imAll_iff.mpr fun e he => by
      rcases List.mem_append.mp he with he | he
      · exact (hsF e he).im
      · rw [List.mem_singleton] at he; subst he; exact hsp.im) (DpAll.app hF3 (.cons hw3 .nil))
    have hw4 : Dp K (upd H3 f (.lst (fs ++ [w]))) w (.tuple (.str z :: ds)) := Dp.im (fun _ _ h => SqT.upd hf3 h) hsp.im hw3
    have hf4 : (upd H3 f (.lst (fs ++ [w]))) f = some (.lst (fs ++ [w])) := upd_same
    have hl4 : (upd H3 f (.lst (fs ++ [w]))) l = some (.lst ws') := by rw [upd_ne (fun h => hfl h.symm)]; exact hl3
    generalize upd H3 f (.lst (fs ++ [w])) = H4 at x4 hL4 hF4 hw4 hf4 hl4
    walk_at "4"
    walk_at "16"
    walk_at "15"
    walk_at "12"
    walk_at "9"
    walk_at "69"
    walk_at "10"
    refine ⟨w, z, ds, rfl, hw4, ⟨hz1, by omega⟩, ?_⟩
    have hlen1 : (FS ++ [PyData.tuple (.str z :: ds)]).length = FS.length + 1 := by rw [List.length_append, List.length_singleton]
    rcases Bool.eq_false_or_eq_true (capF z) with hc | hc
    · rw [hc]
      walk_at "88"
      walk_at "89"
      walk_at "5"
      refine ⟨_, ?_, _, fs ++ [w], ws', FS ++ [.tuple (.str z :: ds)], L, rfl, x4, hf4, hl4, hF4, hL4, ?_, fun e he => htl e (List.mem_append_left _ he), ?_, rfl, ?_⟩
      · omega
      · intro e he
        rcases List.mem_append.mp he with he | he
        · rcases List.mem_append.mp he with he | he
          · exact hsF e he
          · rw [List.mem_singleton] at he; subst he; exact hsp
        · exact hsL e he
      · rw [← hsub, subs_var hc, List.append_assoc]
      · rw [hlen1]; omega
    · rw [hc]
      have htd : ∀ e ∈ ds, TL e = true := by
        rcases hcase with h | h
        · rw [hc] at h; cases h
        · exact TLAll_iff.mp h
      have hsd : ∀ e ∈ ds, Sm (n' + 1) e := fun e he => (hsp.tup e (List.mem_cons_of_mem _ he)).up (by omega)
      have imds : ImAll ds.reverse = true := imAll_iff.mpr fun e he => (hsd e (List.mem_reverse.mp he)).im
      walk_at "88"
      walk_at "90"
      walk_at "3"
      walk_at "36"
      walk_at "69"
      refine ⟨ty_l hl4, ?_⟩
      walk_at "9"
      walk_at "66"
      walk_at "69"
      refine d_tr hw4 fun p H5 rs hp5 x5 ep5 hrs => ?_
      walk_at "10"
      have hl5 := x5 _ _ hl4
      have hrl := hrs.len
      rw [List.length_reverse] at hrl
      have hLl := hL4.len
      have hL9 : L.length ≤ W1 L := len_weight (ds := L)
      have hd9 : ds.length ≤ W1 ds := len_weight (ds := ds)
      refine v_extT hl5 (sqt ep5) (by omega) ?_
      skip
      refine ⟨_, ?_, _, fs ++ [w], ws' ++ rs, FS ++ [.tuple (.str z :: ds)], L ++ ds.reverse, rfl, xmut (xtr x4 x5) hl00, ?_, upd_same, ?_, ?_, ?_, ?_, ?_, rfl, ?_⟩
      · rw [W1_app, W1_rev]; omega
      · rw [upd_ne hfl]; exact x5 _ _ hf4
      · exact DpAll.im (fun _ _ h => SqT.upd hl5 h) (imAll_iff.mpr fun e he => by
          rcases List.mem_append.mp he with he | he
          · exact (hsF e he).im
          · rw [List.mem_singleton] at he; subst he; exact hsp.im) (DpAll.mono x5 hF4)
      · exact DpAll.im (fun _ _ h => SqT.upd hl5 h) (imAll_iff.mpr fun e he => by
          rcases List.mem_append.mp he with he | he
          · exact (hsL e he).im
          · exact imAll_iff.mp imds e he) (DpAll.app (DpAll.mono x5 hL4) hrs)
      · intro e he
        rcases List.mem_append.mp he with he | he
        · rcases List.mem_append.mp he with he | he
          · exact hsF e he
          · rw [List.mem_singleton] at he; subst he; exact hsp
        · rcases List.mem_append.mp he with he | he
          · exact hsL e he
          · exact hsd e (List.mem_reverse.mp he)
      · intro e he
        rcases List.mem_append.mp he with he | he
        · exact htl e (List.mem_append_left _ he)
        · exact htd e (List.mem_reverse.mp he)
      · rw [← hsub, subs_fun hc, List.reverse_append, List.reverse_reverse, subsAll_app, List.append_assoc]
        simp
      · rw [hlen1, W1_app, W1_rev]; omega



theorem ok_inner_places (T : Top0 P K mg) : FnOk P w K mg base CX0 2 T.f_inner_places T.fd_inner_places ["term"] (sp_inner_places T) := by
  refine T.F_inner_places.ok sc_inner_places (fun vs H Q E h => ?_) (fun cdv A outer s H vs Q E hr h => ?_)
  · obtain ⟨v, d, k, W, rfl, hv, ht, hW, hk, q⟩ := h
    rfl
  · obtain ⟨v, d, k, W, rfl, hv, ht, hW, hk, q⟩ := h
    refine ⟨_, (pss_cons (ps_set (i := 1) sc_inner_places.nd rfl (Or.inl rfl) (pe_lst pa_nil))
      (pss_cons (ps_set (i := 2) sc_inner_places.nd rfl (Or.inl rfl) (pe_lst (pa_cons (pe_tup (pa_cons (pe_tup pa_nil) (pa_cons (pv 0) pa_nil))) pa_nil)))
      (pss_cons (ps_while PassesOwn.never (pt_truth (pv 2) (by intro _; rfl)) (pss_cons (ps_asg (pe_bm0 PySem.F.plainAttrs_list PySem.F.slot_list_pop PySem.F.type_list_pop mt_pop (pv 2)) (pg_tup rfl (pgs_cons (pg_name (i := 3) sc_inner_places.nd rfl (Or.inl rfl)) (pgs_cons (pg_name (i := 4) sc_inner_places.nd rfl (Or.inl rfl)) pgs_nil))))
      (pss_one (ps_if (pt_not (pt_val (pe_call (ok_is_variable T) (hr.mono (by first | decide | exact Nat.le_refl _ | omega | (show _ ≤ _ + n; omega))) (by rfl) T.g_is_variable T.F_is_variable.kp T.b_is_variable .nil pass0 (pa_cons (pv 4) pa_nil)))) (pss_cons (ps_expr (pe_bm PySem.F.plainAttrs_list PySem.F.slot_list_append PySem.F.type_list_append mt_append (pv 1) (pa_cons (pv 3) pa_nil)))
      (pss_one (ps_for PassesOwn.never rfl (pi_revR (by rfl) T.n_reversed (prg_1 (by rfl) T.n_range (pe_op op_sub (pe_callB (r := rLenU K) call_lenU (by rfl) T.n_len PySem.boot_len (pa_cons (pv 4) pa_nil)) pe_int))) (pg_name (i := 5) sc_inner_places.nd rfl (Or.inl rfl)) (pss_one (ps_expr (pe_bm PySem.F.plainAttrs_list PySem.F.slot_list_append PySem.F.type_list_append mt_append (pv 2) (pa_cons (pe_tup (pa_cons (pe_op (r := rPlus K) op_plus (pv 3) (pe_tup (pa_cons (pv 5) pa_nil))) (pa_cons (pe_ix (r := rIx K) ix_seq (pv 4) (pe_op (r := rPlus K) op_plus (pv 5) pe_int) (fun _ _ => rfl)) pa_nil))) pa_nil))))))) pss_nil))))
      (pss_one (ps_ret (pe_callTy (r := rTup K) call_tupU (by rfl) T.n_tuple (by decide +kernel) (pa_cons (pv 1) pa_nil))))))), ?_⟩
    walk_at "0"
    walk_at "1"
    walk_at "34"
    walk_at "10"
    walk_at "82"
    intro f H1 hf x1 e1
    walk_at "6"
    walk_at "0"
    walk_at "1"
    walk_at "34"
    walk_at "9"
    walk_at "35"
    walk_at "9"
    walk_at "35"
    walk_at "10"
    walk_at "83"
    intro p2 H2 n2 x2 e2
    walk_at "9"
    walk_at "69"
    walk_at "10"
    walk_at "83"
    intro p3 H3 n3 x3 e3
    walk_at "10"
    walk_at "82"
    intro l H4 hl0 x4 e4
    walk_at "6"
    walk_at "0"
    have x23 := xtr x2 (xtr x3 x4)
    have x14 := xtr x1 x23
    have hl00 : H l = none := xfree (xtr x1 (xtr x2 x3)) hl0
    have hfl : f ≠ l := fun h => by rw [← h, (xtr x2 x3) _ _ e1] at hl0; cases hl0
    have hw0 : Dp K H4 (.ref p3) (placeD ([], d)) := .of_tup (x4 _ _ e3) (.cons (Dp.mono (xtr x3 x4) (.of_tup e2 .nil)) (.cons (Dp.mono x14 hv) .nil))
    have hwt0 := ht.bd.wt
    have el0 := e4
    have ef0 := x23 _ _ e1
    refine ⟨fun m σ' H' => ∃ y3 y4 y5 fs ws FS, ∃ es : List (List Nat × PyData), σ' = [some v, some (.ref f), some (.ref l), y3, y4, y5] ∧ Xt H H' ∧ H' f = some (.lst fs) ∧ H' l = some (.lst ws) ∧ DpAll K H' fs (FS.map pathD) ∧ DpAll K H' ws (es.map placeD) ∧ (∀ q ∈ es, PlT k W q) ∧ FS ++ es.reverse.flatMap innerQ = innerF [] d ∧ W1 (es.map (·.2)) = m ∧ FS.length + m ≤ 6000000, ⟨_, none, none, none, [], [.ref p3], [], [([], d)], rfl, x14, ef0, el0, .nil, .cons hw0 .nil, ?_, ?_, rfl, ?_⟩, ?_⟩
    · intro q hq
      rw [List.mem_singleton] at hq
      subst hq
      exact ⟨k, ht, by simp⟩
    · show innerQ ([], d) ++ [] = _
      rw [List.append_nil]; rfl
    · show 0 + W1 [d] ≤ _
      rw [W1_cons, W1_nil]; omega
    rintro m σ' H' ⟨y3, y4, y5, fs, ws, FS, es, rfl, xx, ef, el, hFS, hes, htr, hin, hm, hmm⟩
    walk_at "69"
    refine ⟨!ws.isEmpty, .inl ⟨ws, sql el, rfl⟩, ?_⟩
    rcases List.eq_nil_or_concat es with rfl | ⟨L, pq, hpe⟩
    · have := DpAll.nil_inv hes
      subst this
      walk_at "89"
      walk_at "2"
      walk_at "11"
      walk_at "9"
      walk_at "69"
      walk_at "10"
      refine d_tupl (.of_lst ef hFS) fun w9 H9 x9 hw9 => ?_
      have hin : FS = innerF [] d := by rw [← hin]; simp
      rw [hin] at hw9
      exact q H9 w9 (xtr xx x9) hw9
    rw [List.concat_eq_append] at hpe
    subst hpe
    rw [List.map_append] at hes
    obtain ⟨ws', w, rfl, hL, hw⟩ := DpAll.snoc_inv hes
    rw [show (!(ws' ++ [w]).isEmpty) = true by simp]
    refine iteT ⟨fun σ' H' => ∃ m', m' < m ∧ ∃ y3 y4 y5 fs ws FS, ∃ es : List (List Nat × PyData), σ' = [some v, some (.ref f), some (.ref l), y3, y4, y5] ∧ Xt H H' ∧ H' f = some (.lst fs) ∧ H' l = some (.lst ws) ∧ DpAll K H' fs (FS.map pathD) ∧ DpAll K H' ws (es.map placeD) ∧ (∀ q ∈ es, PlT k W q) ∧ FS ++ es.reverse.flatMap innerQ = innerF [] d ∧ W1 (es.map (·.2)) = m' ∧ FS.length + m' ≤ 6000000, fun _ _ h => h, ?_⟩
    walk_at "0"
    walk_at "1"
    walk_at "33"
    walk_at "69"
    refine ⟨ty_l el, v_pop el ?_⟩
    obtain ⟨p, part⟩ := pq
    obtain ⟨kk, htp, hpl⟩ := htr (p, part) (List.mem_append_right _ (List.mem_singleton_self _))
    have htL : ∀ q ∈ L, PlT k W q := fun q hq => htr q (List.mem_append_left _ hq)
    have imL : ImAll (L.map placeD) = true := plT_im hW htL
    have imF : ImAll (FS.map pathD) = true := imAll_iff.mpr fun e he => by obtain ⟨q, _, rfl⟩ := List.mem_map.mp he; exact im_path q
    have imP : Im (placeD (p, part)) = true := place_im (htp.sm (by omega)).im
    have x5 : Xt H (upd H' l (.lst ws')) := xmut xx hl00
    have hL5 : DpAll K (upd H' l (.lst ws')) ws' (L.map placeD) := DpAll.im (fun _ _ h => SqT.upd el h) imL hL
    have hF5 : DpAll K (upd H' l (.lst ws')) fs (FS.map pathD) := DpAll.im (fun _ _ h => SqT.upd el h) imF hFS
    have hw5 : Dp K (upd H' l (.lst ws')) w (placeD (p, part)) := Dp.im (fun _ _ h => SqT.upd el h) imP hw
    have hl5 : (upd H' l (.lst ws')) l = some (.lst ws') := upd_same
    have hf5 : (upd H' l (.lst ws')) f = some (.lst fs) := by rw [upd_ne hfl]; exact ef
    generalize upd H' l (.lst ws') = H5 at x5 hL5 hF5 hw5 hl5 hf5
    refine k_gtup hw5 rfl fun vs hvs => ?_
    refine k_gcons hvs fun w1 ws1 hw1 hws1 => ?_
    refine k_gcons hws1 fun w2 ws2 hw2 hws2 => ?_
    refine k_gnil hws2 ?_
    obtain ⟨z, ds, k', rfl, rfl, hz1, hzW, hlW, hcase⟩ := htp.inv
    have hpl : p.length + (k' + 1) ≤ k := hpl
    rw [List.reverse_append, List.flatMap_append] at hin
    have hin : FS ++ (innerF p (.tuple (.str z :: ds)) ++ L.reverse.flatMap innerQ) = innerF [] d := by
      rw [← hin]; simp [innerQ]
    rw [List.map_append, W1_app] at hm
    have hwt : W1 ([(p, PyData.tuple (.str z :: ds))].map (·.2)) = ((PyData.str z).weight + 1 + W1 ds) + 1 + 0 := by
      show W1 [PyData.tuple (.str z :: ds)] = _
      rw [W1_cons, w_tup, W1_cons, W1_nil]
    have hfl5 := hF5.len
    rw [List.length_map] at hfl5
    walk_at "4"
    walk_at "16"
    walk_at "15"
    walk_at "12"
    walk_at "9"
    walk_at "69"
    walk_at "10"
    refine ⟨w2, z, ds, rfl, hw2, ⟨hz1, by omega⟩, ?_⟩
    rcases hcase with ⟨hc, s, rfl⟩ | ⟨hc, hall⟩
    · rw [hc]
      rw [inner_var hc, List.nil_append] at hin
      walk_at "88"
      walk_at "89"
      walk_at "5"
      exact ⟨_, by omega, _, _, _, fs, ws', FS, L, rfl, x5, hf5, hl5, hF5, hL5, htL, hin, rfl, by omega⟩
    · rw [hc]
      rw [inner_fun hc] at hin
      walk_at "88"
      walk_at "90"
      walk_at "0"
      walk_at "3"
      walk_at "36"
      walk_at "69"
      refine ⟨ty_l hf5, ?_⟩
      walk_at "9"
      walk_at "69"
      walk_at "10"
      refine ⟨f, _, w1, rfl, rfl, hf5, szL2 (by omega), ?_⟩
      have x6 : Xt H (upd H5 f (.lst (fs ++ [w1]))) := xmut x5 hf
      have hL6 : DpAll K (upd H5 f (.lst (fs ++ [w1]))) ws' (L.map placeD) := DpAll.im (fun _ _ h => SqT.upd hf5 h) imL hL5
      have hF6 : DpAll K (upd H5 f (.lst (fs ++ [w1]))) (fs ++ [w1]) ((FS ++ [p]).map pathD) := by
        rw [List.map_append]
        exact DpAll.app (DpAll.im (fun _ _ h => SqT.upd hf5 h) imF hF5) (.cons (Dp.im (fun _ _ h => SqT.upd hf5 h) (im_path p) hw1) .nil)
      have hw16 : Dp K (upd H5 f (.lst (fs ++ [w1]))) w1 (pathD p) := Dp.im (fun _ _ h => SqT.upd hf5 h) (im_path p) hw1
      have hw26 : Dp K (upd H5 f (.lst (fs ++ [w1]))) w2 (.tuple (.str z :: ds)) := Dp.im (fun _ _ h => SqT.upd hf5 h) (htp.sm (by omega)).im hw2
      have hf6 : (upd H5 f (.lst (fs ++ [w1]))) f = some (.lst (fs ++ [w1])) := upd_same
      have hl6 : (upd H5 f (.lst (fs ++ [w1]))) l = some (.lst ws') := by rw [upd_ne (fun h => hfl h.symm)]; exact hl5
      generalize upd H5 f (.lst (fs ++ [w1])) = H6 at x6 hL6 hF6 hw16 hw26 hf6 hl6
      have imF6 : ImAll ((FS ++ [p]).map pathD) = true := imAll_iff.mpr fun e he => by obtain ⟨q, _, rfl⟩ := List.mem_map.mp he; exact im_path q
      have imT := (htp.sm (show W ≤ 5000000 by omega)).im
      walk_at "37"
      show tOp _ _ _ _ _ _
      walk_at "8"
      walk_at "11"
      walk_at "9"
      walk_at "69"
      walk_at "10"
      refine d_len hw26 ?_
      rw [List.length_cons]
      walk_at "7"
      walk_at "55"
      walk_at "88"
      refine ⟨by decide, by decide, by omega, by omega, ?_⟩
      rw [show ((((ds.length + 1 : Nat) : Int) - 1) - 0).toNat = ds.length by omega]
      refine for_rangeC (fun i σ' H2 => ∃ y5 ws2, ∃ PS : List (List Nat × PyData), σ' = [some v, some (.ref f), some (.ref l), some w1, some w2, y5] ∧ Xt H H2 ∧ H2 f = some (.lst (fs ++ [w1])) ∧ H2 l = some (.lst ws2) ∧ DpAll K H2 (fs ++ [w1]) ((FS ++ [p]).map pathD) ∧ DpAll K H2 ws2 ((L ++ PS).map placeD) ∧ Dp K H2 w1 (pathD p) ∧ Dp K H2 w2 (.tuple (.str z :: ds)) ∧ (∀ q ∈ PS, PlT k W q) ∧ PS.reverse.flatMap innerQ = innerAll (ds.drop (ds.length - i)) p (ds.length - i) ∧ W1 (PS.map (·.2)) = W1 (ds.drop (ds.length - i)) ∧ PS.length = i) ⟨_, ws', [], rfl, x6, hf6, hl6, hF6, by rw [List.append_nil]; exact hL6, hw16, hw26, fun q hq => (by cases hq), ?_, ?_, rfl⟩ ?_ ?_
      · rw [Nat.sub_zero, List.drop_length, innerAll_nil]; rfl
      · rw [Nat.sub_zero, List.drop_length]; rfl
      · rintro i σ' H7 hi ⟨y5, ws2, PS, rfl, x7, hf7, hl7, hF7, hL7, hw17, hw27, htP, hPS, hPW, hPl⟩
        obtain ⟨j, hj⟩ : ∃ j, ds.length - i = j + 1 := ⟨ds.length - i - 1, by omega⟩
        have hj2 : ds.length - (i + 1) = j := by omega
        rw [hj] at hPS hPW
        rw [hj2]
        have hjl : j < ds.length := by omega
        have he : ds[j]? = some ds[j] := List.getElem?_eq_getElem hjl
        have hte := hall _ (List.mem_of_getElem? he)
        rw [show (0 + ((ds.length : Nat) : Int) - 1) + (i : Int) * (-1) = (j : Int) by omega]
        have imL7 : ImAll ((L ++ PS).map placeD) = true := plT_im hW fun q hq => by
          rcases List.mem_append.mp hq with hq | hq
          · exact htL q hq
          · exact htP q hq
        have hL7l := hL7.len
        rw [List.length_map, List.length_append] at hL7l
        have hL9 : L.length ≤ W1 (L.map (·.2)) := by
          have := len_weight (ds := L.map (·.2))
          rw [List.length_map] at this; exact this
        have hdw := hPW
        walk_at "6"
        walk_at "3"
        walk_at "36"
        walk_at "69"
        refine ⟨ty_l hl7, ?_⟩
        walk_at "9"
        walk_at "35"
        walk_at "9"
        walk_at "8"
        walk_at "69"
        walk_at "35"
        walk_at "9"
        walk_at "69"
        walk_at "10"
        walk_at "83"
        intro p8 H8 n8 x8 e8
        have hp8 : Dp K H8 (.ref p8) (.tuple [.int (j : Int)]) := .of_tup e8 (.cons (.int _) .nil)
        refine d_plus (Dp.mono x8 hw17) hp8 (by rw [List.length_map]; simp only [List.length_cons, List.length_nil]; omega) fun w9 H9 x9 hw9 => ?_
        rw [path_snoc] at hw9
        have x89 := xtr x8 x9
        walk_at "9"
        walk_at "8"
        walk_at "69"
        walk_at "8"
        walk_at "69"
        walk_at "7"
        walk_at "56"
        refine d_ix (Dp.mono x89 hw27) (show atI (PyData.str z :: ds) ((j : Int) + 1) = some ds[j] from ?_) fun wa hwa => ?_
        · rw [show (j : Int) + 1 = ((j + 1 : Nat) : Int) by omega]; exact atI_nat (by simpa using he)
        walk_at "10"
        walk_at "83"
        intro pb Hb nb xb eb
        have hpb : Dp K Hb (.ref pb) (placeD (p ++ [j], ds[j])) := .of_tup eb (.cons (Dp.mono xb hw9) (.cons (Dp.mono xb hwa) .nil))
        have x7b := xtr x89 xb
        have hlb := x7b _ _ hl7
        refine ⟨l, _, .ref pb, rfl, rfl, hlb, ?_, ?_⟩
        · have hq1 : PS.length ≤ 6000000 := by omega
          exact szL2 (by omega)
        skip
        refine ⟨_, _, PS ++ [(p ++ [j], ds[j])], rfl, xmut (xtr x7 x7b) hl00, ?_, upd_same, ?_, ?_, ?_, ?_, ?_, ?_, ?_, ?_⟩
        · rw [upd_ne hfl]; exact x7b _ _ hf7
        · exact DpAll.im (fun _ _ h => SqT.upd hlb h) imF6 (DpAll.mono x7b hF7)
        · rw [← List.append_assoc, List.map_append]
          exact DpAll.app (DpAll.im (fun _ _ h => SqT.upd hlb h) imL7 (DpAll.mono x7b hL7)) (.cons (Dp.im (fun _ _ h => SqT.upd hlb h) (place_im (hte.sm (by omega)).im) hpb) .nil)
        · exact Dp.im (fun _ _ h => SqT.upd hlb h) (im_path p) (Dp.mono x7b hw17)
        · exact Dp.im (fun _ _ h => SqT.upd hlb h) imT (Dp.mono x7b hw27)
        · intro q hq
          rcases List.mem_append.mp hq with hq | hq
          · exact htP q hq
          · rw [List.mem_singleton] at hq
            subst hq
            exact ⟨k', hte, by show (p ++ [j]).length + k' ≤ k; rw [List.length_append, List.length_singleton]; omega⟩
        · rw [innerAll_drop he, List.reverse_append, List.flatMap_append, hPS]
          simp [innerQ]
        · rw [List.map_append, W1_app, hPW, List.drop_eq_getElem_cons hjl, W1_cons]
          show _ + W1 [ds[j]] = _
          rw [W1_cons, W1_nil]; omega
        · rw [List.length_append, List.length_singleton, hPl]
      · rintro σ' H7 ⟨y5, ws2, PS, rfl, x7, hf7, hl7, hF7, hL7, hw17, hw27, htP, hPS, hPW, hPl⟩
        rw [Nat.sub_self, List.drop_zero] at hPS hPW
        skip
        refine ⟨W1 ((L ++ PS).map (·.2)), ?_, _, _, _, _, ws2, FS ++ [p], L ++ PS, rfl, x7, hf7, hl7, hF7, hL7, fun q hq => ?_, ?_, rfl, ?_⟩
        · rw [List.map_append, W1_app, hPW]; omega
        · rcases List.mem_append.mp hq with hq | hq
          · exact htL q hq
          · exact htP q hq
        · rw [← hin, List.reverse_append, List.flatMap_append, hPS]
          simp
        · rw [List.map_append, W1_app, hPW, List.length_append, List.length_singleton]; omega


theorem ok__law_names (T : Top0 P K mg) : FnOk P w K mg base CX0 2 T.f__law_names T.fd__law_names ["row", "many"] (sp__law_names T) := by
  refine T.F__law_names.ok sc__law_names (fun vs H Q E h => ?_) (fun cdv A outer s H vs Q E hr h => ?_)
  · obtain ⟨a, ds, many, rfl, hS, hD, hm, q⟩ := h
    rfl
  · obtain ⟨a, ds, many, rfl, hS, hD, hm, q⟩ := h
    refine ⟨_, (pss_cons (ps_set (i := 2) sc__law_names.nd rfl (Or.inr rfl) pe_str)
      (pss_cons (ps_set (i := 3) sc__law_names.nd rfl (Or.inl rfl) (pe_joinN pe_str (pe_lc (own := [("digit", 9)]) (g := gName 9) rfl sc__law_names.nd (pi_list (pe_slice (r := rSlU K) sl_any (pv 0) (po_some pe_int) (po_some (pe_op (r := rPlus K) op_plus pe_int (pe_ix (r := rIx K) ix_seq (pv 0) pe_int (fun _ _ => rfl)))))) (blkOk_by (N := N__law_names) (sc := defScope s__law_names) (by decide +kernel)) (fun _ _ _ _ _ => (pg_name (i := 9) sc__law_names.nd rfl (Or.inl rfl))) (fun _ _ _ _ _ => pts_nil) (fun _ _ _ _ _ => (pe_ix (r := rIx K) ix_seq (pv 2) (pe_op op_mod (pe_callTy call_intU (by rfl) T.n_int PyProof.Rows.boot_int (pa_cons (pv 9) pa_nil)) pe_int) (fun _ _ => rfl))))))
      (Evl.pss_cut (ps_if (pt_cmpR op_gt (pe_ix (r := rIx K) ix_seq (pv 0) pe_int (fun _ _ => rfl)) pe_int (nomark _)) (pss_one (ps_set (i := 3) sc__law_names.nd rfl (Or.inl rfl) (pe_op (r := rPlus K) op_plus (pe_ix (r := rIx K) ix_seq (pv 2) (pe_op op_mod (pe_callTy call_intU (by rfl) T.n_int PyProof.Rows.boot_int (pa_cons (pe_ix (r := rIx K) ix_seq (pv 0) pe_int (fun _ _ => rfl)) pa_nil)) pe_int) (fun _ _ => rfl)) (pe_slice (r := rSlU K) sl_any (pv 3) (po_some pe_int) po_none)))) pss_nil)
      (pss_cons (ps_set (i := 4) sc__law_names.nd rfl (Or.inl rfl) (pe_op op_mod (pe_callTy call_intU (by rfl) T.n_int PyProof.Rows.boot_int (pa_cons (pe_ix (r := rIx K) ix_seq (pv 0) pe_int (fun _ _ => rfl)) pa_nil)) (pe_op (r := rPlus K) op_plus (pe_callB (r := rLenU K) call_lenU (by rfl) T.n_len PySem.boot_len (pa_cons (pv 3) pa_nil)) pe_int)))
      (pss_cons (ps_set (i := 5) sc__law_names.nd rfl (Or.inl rfl) (pe_lst pa_nil))
      (pss_cons (ps_for PassesOwn.never rfl (pi_range1 (by rfl) T.n_range (pa_cons (pv 1) pa_nil)) (pg_name (i := 6) sc__law_names.nd rfl (Or.inl rfl)) (pss_cons (ps_set (i := 7) sc__law_names.nd rfl (Or.inl rfl) (pe_op (r := rPlus K) op_plus (pe_op op_timesU (pv 6) (pe_ix (r := rIx K) ix_seq (pe_lst (pa_cons pe_int (pa_cons pe_int (pa_cons pe_int (pa_cons pe_int (pa_cons pe_int (pa_cons pe_int (pa_cons pe_int (pa_cons pe_int (pa_cons pe_int (pa_cons pe_int (pa_cons pe_int (pa_cons pe_int pa_nil))))))))))))) (pe_ix (r := rIx K) ix_seq (pv 0) pe_int (fun _ _ => rfl)) (fun _ _ => rfl))) (pe_ix (r := rIx K) ix_seq (pv 0) pe_int (fun _ _ => rfl))))
      (pss_cons (ps_set (i := 8) sc__law_names.nd rfl (Or.inl rfl) (pe_op (r := rPlus K) op_plus (pe_op (r := rPlus K) op_plus (pe_slice (r := rSlU K) sl_any (pv 3) po_none (po_some (pv 4))) (pe_ix (r := rIx K) ix_seq (pv 2) (pe_op op_mod (pe_callTy call_intU (by rfl) T.n_int PyProof.Rows.boot_int (pa_cons (pv 7) pa_nil)) pe_int) (fun _ _ => rfl))) (pe_slice (r := rSlU K) sl_any (pv 3) (po_some (pv 4)) po_none)))
      (Evl.pss_cut (ps_if (PW.pt (pw_and (pt_cmpR (r := rEqU K) (op_eqU hr) (pe_ix (r := rIx K) ix_seq (pv 0) pe_int (fun _ _ => rfl)) pe_int (nomark _)) (pw_and1 (pt_cmpR (r := rEqU K) (op_eqU hr) (pe_op op_mod (pv 6) pe_int) pe_int (nomark _))))) (pss_one (ps_set (i := 8) sc__law_names.nd rfl (Or.inl rfl) (pe_op (r := rPlus K) op_plus (pv 8) pe_str))) pss_nil)
      (Evl.pss_cut (ps_if (pt_cmpR (r := rInV K) (op_inV hr) (pv 8) (pe_call0 (ok__law_words T) (hr.mono (by first | decide | exact Nat.le_refl _ | omega | (show _ ≤ _ + n; omega))) (by rfl) T.g__law_words T.F__law_words.kp T.b__law_words .nil pass0) (by with_unfolding_all rfl)) (pss_one (ps_set (i := 8) sc__law_names.nd rfl (Or.inl rfl) (pe_op (r := rPlus K) op_plus (pv 8) pe_str))) pss_nil)
      (pss_one (ps_expr (pe_bm PySem.F.plainAttrs_list PySem.F.slot_list_append PySem.F.type_list_append mt_append (pv 5) (pa_cons (pv 8) pa_nil)))))))))
      (pss_one (ps_ret (pv 5))))))))), ?_⟩
    obtain ⟨d0, a0, l0, u0⟩ := hD.get 0 0 rfl rfl
    obtain ⟨d1, a1, l1, u1⟩ := hD.get 1 1 rfl rfl
    obtain ⟨d2, a2, l2, u2⟩ := hD.get 2 2 rfl rfl
    obtain ⟨d3, a3, l3, u3⟩ := hD.get 3 3 rfl rfl
    obtain ⟨d4, a4, l4, u4⟩ := hD.get 4 4 rfl rfl
    obtain ⟨d5, a5, l5, u5⟩ := hD.get 5 5 rfl rfl
    have hdl : ds.length = 11 := hD.1
    obtain ⟨st, hst, hst2⟩ := atI_int (ns := steps12) (i := d0) l0 (by show d0 < 12; exact u0)
    have hstm : st ∈ steps12 := List.mem_of_getElem? hst2
    have hstb : 1 ≤ st ∧ st ≤ 25 := by
      have : ∀ s ∈ steps12, 1 ≤ s ∧ s ≤ 25 := by decide
      exact this st hstm
    walk_at "0"
    walk_at "1"
    walk_at "7"
    walk_at "6"
    walk_at "0"
    walk_at "1"
    walk_at "53"
    walk_at "7"
    walk_at "45"
    walk_at "51"
    walk_at "38"
    walk_at "48"
    walk_at "69"
    walk_at "50"
    walk_at "7"
    walk_at "88"
    walk_at "50"
    walk_at "8"
    walk_at "7"
    walk_at "8"
    walk_at "69"
    walk_at "7"
    walk_at "79"
    walk_at "56"
    walk_at "88"
    refine v_sl_l hS fun p1 H1 n1 x1 e1 => ?_
    walk_at "88"
    have hcl := cutV_len (xs := ds.map V.int) (lo := 5) (hi := 5 + d2) (by omega) (by omega) (by rw [List.length_map]; omega)
    refine ⟨⟨_, sql e1⟩, b_lst (fun i y => ∃ c, y = .str ⟨#[c]⟩ ∧ c ∈ smallL) (sql e1) (by omega) (fun x => rfl) ?_ ?_⟩
    · intro i x H' hx xx R hR
      obtain ⟨n, rfl⟩ : ∃ n, x = .int n := by
        have := cutV_mem (List.mem_of_getElem? hx)
        obtain ⟨n, _, rfl⟩ := List.mem_map.mp this
        exact ⟨n, rfl⟩
      obtain ⟨c, hc, hcs⟩ := sm36 n
      walk_at "8"
      walk_at "69"
      walk_at "8"
      walk_at "11"
      walk_at "9"
      walk_at "69"
      walk_at "10"
      walk_at "57"
      walk_at "7"
      walk_at "70"
      refine v_ix_s (szL (by decide)) hc ?_
      exact hR _ _ (xrefl _) ⟨c, rfl, hcs⟩
    intro Dl ys H2 hDl hl hP x2 e2
    skip
    refine v_joinP e2 hP (by omega) fun cs hcsl hcs => ?_
    have hz0 : (⟨cs.toArray⟩ : Str).length ≤ d2.toNat := by rw [ofl_len]; omega
    have hz1 : ∀ b ∈ (⟨cs.toArray⟩ : Str).cps.toList, b ∈ smallL := hcs
    generalize (⟨cs.toArray⟩ : Str) = z0 at hz0 hz1
    clear hcs hcsl cs
    have hS2 := xl (xtr x1 x2) hS
    walk_at "6"
    refine k_cut (fun σ' H' => ∃ z : Str, σ' = [some (.ref a), some (.int many), some (.str "abcdefghijklmnopqrstuvwxyz0123456789"), some (.str z), none, none, none, none, none, none] ∧ H' = H2 ∧ z.length ≤ 6 ∧ (∀ b ∈ z.cps.toList, b ∈ smallL) ∧ ∀ b r, z.cps.toList = b :: r → b ∈ letL) ?_ ?_
    · walk_at "4"
      walk_at "14"
      walk_at "8"
      walk_at "8"
      walk_at "69"
      walk_at "7"
      walk_at "79"
      walk_at "7"
      walk_at "55"
      walk_at "88"
      refine k_if (fun h => ?_) (fun h => ?_)
      · walk_at "1"
        walk_at "8"
        walk_at "8"
        walk_at "69"
        walk_at "8"
        walk_at "11"
        walk_at "9"
        walk_at "8"
        walk_at "69"
        walk_at "7"
        walk_at "79"
        walk_at "10"
        walk_at "57"
        walk_at "7"
        walk_at "70"
        refine v_ix_s (szL (by decide)) (sm26 d5) ?_
        walk_at "48"
        walk_at "69"
        walk_at "50"
        walk_at "7"
        walk_at "88"
        walk_at "49"
        walk_at "80"
        walk_at "81"
        walk_at "6"
        walk_at "88"
        refine ⟨rfl, ?_, ?_, ?_⟩
        · rw [len_app, len_one]
          have := len_l (cutS z0 (some 1) none)
          rw [cut_from1, List.length_drop, len_l] at this
          omega
        · intro b hb
          rw [app_l, cut_from1, one_l] at hb
          rcases List.mem_append.mp hb with hb | hb
          · rw [List.mem_singleton] at hb; subst hb; exact let_small _ (let26 d5)
          · exact hz1 b (List.mem_of_mem_drop hb)
        · intro b r hb
          rw [app_l, one_l] at hb
          cases hb
          exact let26 d5
      · walk_at "5"
        walk_at "88"
        refine ⟨rfl, by omega, hz1, fun b r hb => ?_⟩
        have := len_l z0
        rw [hb] at this
        simp only [List.length_cons] at this
        omega
    rintro σ' H3 ⟨z, rfl, rfl, hz6, hsm, hhd⟩
    walk_at "0"
    walk_at "1"
    walk_at "8"
    walk_at "11"
    walk_at "9"
    walk_at "8"
    walk_at "69"
    walk_at "7"
    walk_at "79"
    walk_at "10"
    walk_at "57"
    walk_at "8"
    walk_at "11"
    walk_at "9"
    walk_at "69"
    walk_at "10"
    walk_at "78"
    walk_at "7"
    walk_at "56"
    walk_at "70"
    walk_at "6"
    walk_at "0"
    walk_at "1"
    walk_at "34"
    walk_at "10"
    walk_at "82"
    intro p Hn nn xn en
    have hA0 := Int.emod_nonneg d3 (show ((z.length : Int) + 1) ≠ 0 by omega)
    have hA1 := Int.emod_lt_of_pos d3 (show 0 < (z.length : Int) + 1 by omega)
    generalize d3 % ((z.length : Int) + 1) = A at hA0 hA1 ⊢
    walk_at "6"
    walk_at "0"
    walk_at "37"
    walk_at "42"
    walk_at "9"
    walk_at "69"
    walk_at "10"
    walk_at "88"
    refine ⟨by omega, by omega, ?_⟩
    have hSn := xl xn hS2
    have hpn : H p = none := xfree (xtr x1 x2) nn
    have hzl := len_l z
    refine for_range (lo := 0) (n := many.toNat) (fun i σ' H' => ∃ y6 y7 y8 ns, σ' = [some (.ref a), some (.int many), some (.str "abcdefghijklmnopqrstuvwxyz0123456789"), some (.str z), some (.int A), some (.ref p), y6, y7, y8, none] ∧ Xt H H' ∧ H' p = some (.lst (ns.map V.str)) ∧ ns.length = i ∧ ∀ (k : Nat) (t : Str), ns[k]? = some t → nameF t = true ∧ t.cps.toList[A.toNat]? = some (97 + (((k : Int) * st + d1) % 26).toNat)) ⟨_, _, _, [], rfl, xtr (xtr x1 x2) xn, en, rfl, fun k t h => by simp at h⟩ ?_ ?_
    · rintro i σ' H' hi ⟨y6, y7, y8, ns, rfl, xx, ep, hnl, hns⟩
      have hS' := xl xx hS
      have hk0 : 0 ≤ (0 + (i : Int)) := by omega
      have hk1 : (0 + (i : Int)) < 26 := by omega
      rw [show ((0 : Int) + (i : Int)) = (i : Int) by omega] at hk0 hk1 ⊢
      walk_at "6"
      walk_at "0"
      walk_at "1"
      walk_at "8"
      walk_at "8"
      walk_at "69"
      walk_at "8"
      walk_at "34"
      walk_at "9"
      walk_at "7"
      walk_at "9"
      walk_at "7"
      walk_at "9"
      walk_at "7"
      walk_at "9"
      walk_at "7"
      walk_at "9"
      walk_at "7"
      walk_at "9"
      walk_at "7"
      walk_at "9"
      walk_at "7"
      walk_at "9"
      walk_at "7"
      walk_at "9"
      walk_at "7"
      walk_at "9"
      walk_at "7"
      walk_at "9"
      walk_at "7"
      walk_at "9"
      walk_at "7"
      walk_at "10"
      walk_at "82"
      intro pl Hl nl xl1 el
      have hSl := xl xl1 hS'
      walk_at "8"
      walk_at "69"
      walk_at "7"
      walk_at "79"
      walk_at "79"
      walk_at "72"
      walk_at "8"
      walk_at "69"
      walk_at "7"
      walk_at "79"
      walk_at "56"
      walk_at "6"
      walk_at "0"
      walk_at "1"
      walk_at "8"
      walk_at "8"
      walk_at "48"
      walk_at "69"
      walk_at "49"
      walk_at "50"
      walk_at "69"
      walk_at "88"
      walk_at "80"
      walk_at "8"
      walk_at "69"
      walk_at "8"
      walk_at "11"
      walk_at "9"
      walk_at "69"
      walk_at "10"
      walk_at "57"
      walk_at "7"
      walk_at "70"
      refine v_ix_s (szL (by decide)) (sm26 _) ?_
      have hc9 := let26 ((i : Int) * st + d1)
      generalize hcc : 97 + (((i : Int) * st + d1) % 26).toNat = c at hc9 ⊢
      walk_at "81"
      walk_at "48"
      walk_at "69"
      walk_at "50"
      walk_at "69"
      walk_at "88"
      walk_at "49"
      walk_at "80"
      walk_at "81"
      walk_at "6"
      have hzz : (cutS z none (some A) ++ ⟨#[c]⟩ ++ cutS z (some A) none).cps.toList = z.cps.toList.take A.toNat ++ [c] ++ z.cps.toList.drop A.toNat := by
        rw [app_l, app_l, one_l, cut_to hA0 (by omega), cut_fr hA0 (by omega)]
      obtain ⟨hn1, hn7⟩ := near_of hzz (by omega) hz6 hc9 hsm hhd
      generalize (cutS z none (some A) ++ ⟨#[c]⟩ ++ cutS z (some A) none) = tx at hn1 hn7 ⊢
      skip
      have hq1 : (Str.ofString "q").length = 1 := rfl
      have ho1 : (Str.ofString "0").length = 1 := rfl
      refine k_cut (fun σ' H' => ∃ t : Str, σ' = [some (.ref a), some (.int many), some (.str "abcdefghijklmnopqrstuvwxyz0123456789"), some (.str z), some (.int A), some (.ref p), some (.int (i : Int)), some (.int ((i : Int) * st + d1)), some (.str t), none] ∧ H' = Hl ∧ NearN t A.toNat c) ?_ ?_
      · walk_at "4"
        walk_at "17"
        walk_at "14"
        walk_at "8"
        walk_at "8"
        walk_at "69"
        walk_at "7"
        walk_at "79"
        walk_at "7"
        walk_at "75"
        walk_at "88"
        refine k_if (fun h4 => ?_) (fun h4 => ?_)
        · walk_at "14"
          walk_at "8"
          walk_at "8"
          walk_at "69"
          walk_at "7"
          walk_at "70"
          walk_at "7"
          walk_at "75"
          walk_at "88"
          refine k_if (fun h5 => ?_) (fun h5 => ?_)
          · walk_at "1"
            walk_at "8"
            walk_at "69"
            walk_at "7"
            walk_at "81"
            walk_at "6"
            walk_at "88"
            first
            | exact ⟨rfl, (hn1.add hn7 (by rw [app_l]; rfl) (.inl rfl)).1⟩
            | exact ⟨_, rfl, rfl, (hn1.add hn7 (by rw [app_l]; rfl) (.inl rfl)).1⟩
          · walk_at "5"
            walk_at "88"
            first
            | exact ⟨rfl, hn1⟩
            | exact ⟨_, rfl, rfl, hn1⟩
        · walk_at "89"
          walk_at "5"
          walk_at "88"
          first
          | exact ⟨rfl, hn1⟩
          | exact ⟨_, rfl, rfl, hn1⟩
      rintro σ' H4 ⟨t, rfl, rfl, hnt⟩
      refine k_cut (fun σ' H' => ∃ t : Str, σ' = [some (.ref a), some (.int many), some (.str "abcdefghijklmnopqrstuvwxyz0123456789"), some (.str z), some (.int A), some (.ref p), some (.int (i : Int)), some (.int ((i : Int) * st + d1)), some (.str t), none] ∧ Xt H4 H' ∧ NearN t A.toNat c ∧ inV (.str t) W13 = false) ?_ ?_
      · walk_at "4"
        walk_at "14"
        walk_at "8"
        walk_at "69"
        walk_at "12"
        walk_at "10"
        refine ⟨rfl, fun pw Hw xw ew => ?_⟩
        skip
        refine w_in_q (.inl (sql ew)) rfl (by decide +kernel) ?_
        walk_at "88"
        refine k_ifb (fun h6 => ?_) (fun h6 => ?_)
        · have h7 : t.length ≤ 7 := by
            rcases hnt.lq with h | h
            · exact h
            · rw [h] at h6; cases h6
          have h8 := hnt.add (w := t ++ Str.ofString "0") h7 (by rw [app_l]; rfl) (.inr rfl)
          walk_at "1"
          walk_at "8"
          walk_at "69"
          walk_at "7"
          walk_at "81"
          walk_at "6"
          walk_at "88"
          first
          | exact ⟨xw, h8.1, h8.2⟩
          | exact ⟨_, rfl, xw, h8.1, h8.2⟩
        · walk_at "5"
          walk_at "88"
          first
          | exact ⟨xw, hnt, h6⟩
          | exact ⟨_, rfl, xw, hnt, h6⟩
      rintro σ' H5 ⟨t2, rfl, x5, hnt2, hnw⟩
      have x15 := xtr xl1 x5
      have ep5 := x15 _ _ ep
      walk_at "3"
      walk_at "36"
      walk_at "69"
      refine ⟨ty_l ep5, ?_⟩
      walk_at "9"
      walk_at "69"
      walk_at "10"
      refine v_app ep5 (by rw [List.length_map]; omega) ?_
      skip
      refine ⟨_, _, _, ns ++ [t2], rfl, xmut (xtr xx x15) hpn, ?_, ?_, ?_⟩
      · rw [upd_same, List.map_append]; rfl
      · rw [List.length_append, List.length_singleton, hnl]
      · intro k t' hk
        by_cases hki : k < ns.length
        · rw [List.getElem?_append_left hki] at hk
          exact hns k t' hk
        · have hke : k = ns.length := by
            have := (List.getElem?_eq_some_iff.mp hk).1
            rw [List.length_append, List.length_singleton] at this; omega
          subst hke
          rw [List.getElem?_append_right (Nat.le_refl _), Nat.sub_self] at hk
          simp at hk
          subst hk
          rw [hnl, hcc]
          exact ⟨hnt2.name hnw, hnt2.pl⟩
    · rintro σ' H' ⟨y6, y7, y8, ns, rfl, xx, ep, hnl, hns⟩
      walk_at "2"
      walk_at "69"
      refine q p H' ns xx ep hnl (names_nodup (a := A.toNat) (f := fun k => 97 + (((k : Int) * st + d1) % 26).toNat) (fun k t h => (hns k t h).2) fun i j hi hj h => step_inj hstm (b := d1) (by omega) (by omega) (by omega)) fun t ht => ?_
      obtain ⟨k, hk⟩ := List.getElem?_of_mem ht
      exact (hns k t hk).1



theorem ok__law_sort (T : Top0 P K mg) : FnOk P w K mg base CX0 2 T.f__law_sort T.fd__law_sort ["vocabulary", "tree"] (sp__law_sort T) := by
  refine T.F__law_sort.ok sc__law_sort (fun vs H Q E h => ?_) (fun cdv A outer s H vs Q E hr h => ?_)
  · obtain ⟨l, v, x, d, k, W, rfl, hL, lok, hv, ht, hW, hre, q⟩ := h
    rfl
  · obtain ⟨l, v, x, d, k, W, rfl, hL, lok, hv, ht, hW, hre, q⟩ := h
    refine ⟨_, (pss_cons (ps_if (pt_val (pe_call (ok__law_is_variable T) (hr.mono (by first | decide | exact Nat.le_refl _ | omega | (show _ ≤ _ + n; omega))) (by rfl) T.g__law_is_variable T.F__law_is_variable.kp T.b__law_is_variable .nil pass0 (pa_cons (pv 1) pa_nil))) (pss_one (ps_ret (pe_ix (r := rIx K) ix_seq (pv 1) pe_int (fun _ _ => rfl)))) pss_nil)
      (pss_cons (ps_for PassesOwn.never rfl (pi_list (pe_ix (r := rIx K) ix_seq (pv 0) pe_int (fun _ _ => rfl))) (pg_name (i := 2) sc__law_sort.nd rfl (Or.inl rfl)) (pss_one (ps_if (pt_cmpR (r := rEqU K) (op_eqU hr) (pe_ix (r := rIx K) ix_seq (pv 2) pe_int (fun _ _ => rfl)) (pe_ix (r := rIx K) ix_seq (pv 1) pe_int (fun _ _ => rfl)) (nomark _)) (pss_one (ps_ret (pe_ix (r := rIx K) ix_seq (pv 2) pe_int (fun _ _ => rfl)))) pss_nil)))
      (pss_one (ps_ret pe_str)))), ?_⟩
    obtain ⟨a, b, c, fs, ps, h1, h2, h3, h4, h5, h6⟩ := hL
    have i1 : atI ([.ref a, .ref b, .ref c] : List V) 1 = some (.ref b) := atI_nat (j := 1) rfl
    have hfl := h4.len
    rw [List.length_map] at hfl
    obtain ⟨z, ds, k', rfl, rfl, hz1, hzW, hlW, hcase⟩ := ht.inv
    walk_at "0"
    walk_at "4"
    walk_at "15"
    walk_at "12"
    walk_at "9"
    walk_at "69"
    walk_at "10"
    refine ⟨v, _, _, W, rfl, hv, ht, hW, ?_⟩
    rcases hcase with ⟨hc, s, rfl⟩ | ⟨hc, hall⟩
    · rw [show capD (.tuple (.str z :: [.str s])) = true from hc]
      rw [sort_var lok.ok hc hre] at q
      walk_at "88"
      walk_at "90"
      walk_at "2"
      walk_at "8"
      walk_at "69"
      walk_at "7"
      refine d_ix hv (atI_nat (j := 1) rfl) fun w hw => ?_
      cases Dp.str_inv hw
      exact q
    · rw [show capD (.tuple (.str z :: ds)) = false from hc]
      walk_at "88"
      walk_at "89"
      walk_at "5"
      walk_at "0"
      walk_at "37"
      walk_at "38"
      walk_at "8"
      walk_at "69"
      walk_at "7"
      walk_at "79"
      walk_at "88"
      refine ⟨⟨_, sql h3⟩, for_list (xs := fs) (fun i σ' H' => ∃ y2, σ' = [some (.ref l), some v, y2] ∧ H' = H ∧ ∀ (j : Nat) (f : Str × List Str × Str), j < i → x.F[j]? = some f → f.1 ≠ z) ⟨_, rfl, rfl, fun _ _ h => absurd h (Nat.not_lt_zero _)⟩ ?_ ?_ ?_⟩
      · rintro i σ' H' hi ⟨y2, rfl, rfl, _⟩
        exact sql h3
      · rintro i u σ' H' hu ⟨y2, rfl, rfl, hj⟩
        obtain ⟨e, he, hue⟩ := DpAll.getV h4 hu
        rw [List.getElem?_map] at he
        cases hf : x.F[i]? with
        | none => rw [hf] at he; cases he
        | some f =>
          rw [hf] at he
          cases he
          have hfm := List.mem_of_getElem? hf
          walk_at "6"
          walk_at "4"
          walk_at "14"
          walk_at "8"
          walk_at "8"
          walk_at "69"
          walk_at "7"
          refine d_ix hue (atI_nat (j := 0) rfl) fun w hw => ?_
          cases Dp.str_inv hw
          walk_at "8"
          walk_at "69"
          walk_at "7"
          refine d_ix hv (atI_nat (j := 0) rfl) fun w hw => ?_
          cases Dp.str_inv hw
          walk_at "75"
          walk_at "88"
          refine k_if (fun h => ?_) (fun h => ?_)
          · have hz : f.1 = z := by injection h
            subst hz
            rw [sort_hit lok.ok hfm hre] at q
            walk_at "2"
            walk_at "8"
            walk_at "69"
            walk_at "7"
            refine d_ix hue (atI_nat (j := 2) rfl) fun w hw => ?_
            cases Dp.str_inv hw
            exact q
          · walk_at "5"
            walk_at "88"
            refine ⟨rfl, fun j f' hj' hf' => ?_⟩
            by_cases hji : j < i
            · exact hj j f' hji hf'
            · obtain rfl : j = i := by omega
              rw [hf] at hf'
              cases hf'
              exact fun e => h (by rw [e])
      · rintro σ' H' ⟨y2, rfl, rfl, hj⟩
        rw [sort_miss lok.ok hc (fun f hf => by
          obtain ⟨j, hjf⟩ := List.getElem?_of_mem hf
          have := (List.getElem?_eq_some_iff.mp hjf).1
          exact hj j f (by omega) hjf) hre] at q
        walk_at "2"
        walk_at "7"
        exact q


theorem ok__check_rows (T : Top0 P K mg) : FnOk P w K mg base CX0 3 T.f__check_rows T.fd__check_rows ["rows", "sorts"] (sp__check_rows T) := by
  refine T.F__check_rows.ok sc__check_rows (fun vs H Q E h => ?_) (fun cdv A outer s H vs Q E hr h => ?_)
  · obtain ⟨v, s, S, rows, rfl, hv, hs, ok, q⟩ := h
    rfl
  · obtain ⟨v, s, S, rows, rfl, hv, hs, ok, q⟩ := h
    refine ⟨_, (pss_cons (ps_set (i := 2) sc__check_rows.nd rfl (Or.inl rfl) pe_dnewK)
      (pss_one (ps_for PassesOwn.never rfl (pi_list (pv 0)) (pg_tup rfl (pgs_cons (pg_name (i := 3) sc__check_rows.nd rfl (Or.inl rfl)) (pgs_cons (pg_name (i := 4) sc__check_rows.nd rfl (Or.inl rfl)) pgs_nil))) (pss_cons (ps_if (pt_not (pt_val (pe_call (ok_is_name T) (hr.mono (by first | decide | exact Nat.le_refl _ | omega | (show _ ≤ _ + n; omega))) (by rfl) T.g_is_name T.F_is_name.kp T.b_is_name .nil pass0 (pa_cons (pv 3) pa_nil)))) (pss_one ps_never) pss_nil)
      (pss_cons (ps_if (pt_cmp (pc_din (hu_of hr) (pv 3) (pv 2))) (pss_one ps_never) pss_nil)
      (pss_cons (ps_for PassesOwn.never rfl (pi_tup (pv 4)) (pg_name (i := 5) sc__check_rows.nd rfl (Or.inl rfl)) (pss_one (ps_if (pt_cmpR (r := rNotInV K) (op_notInV hr) (pv 5) (pv 1) (by with_unfolding_all rfl)) (pss_one ps_never) pss_nil)))
      (pss_one (ps_dput (hu_of hr) (pv 2) (pv 3) pe_bl rfl)))))))), ?_⟩
    obtain ⟨a, xs, rfl, hS, hd⟩ := Dp.lst_inv hv
    walk_at "0"
    walk_at "1"
    refine k_dnew fun t H1 n1 x1 e1 => ?_
    walk_at "6"
    walk_at "37"
    walk_at "38"
    walk_at "69"
    walk_at "88"
    have hlen := hd.len
    rw [List.length_map] at hlen
    refine ⟨⟨_, xl x1 hS⟩, for_list (xs := xs) (fun i σ' H' => ∃ y1 y2 y3 kvs, σ' = [some (.ref a), some s, some (.ref t), y1, y2, y3] ∧ Xt H H' ∧ H' t = some (.dK kvs) ∧ kvs.length ≤ i ∧ HasD K H' kvs (tabF ((rows.map fun r => (r.1, PyData.bool true)).take i))) ⟨_, _, _, _, rfl, x1, e1, Nat.le_refl _, HasD.nil⟩ ?_ ?_ ?_⟩
    · rintro i σ' H' hi ⟨y1, y2, y3, kvs, rfl, hx, _⟩
      exact xl hx hS
    · rintro i x σ' H' hx ⟨y1, y2, y3, kvs, rfl, xx, et, hk, hD⟩
      obtain ⟨d, hdx, hdp⟩ := DpAll.getV (DpAll.mono xx hd) hx
      rw [List.getElem?_map] at hdx
      cases hr : rows[i]? with
      | none => rw [hr] at hdx; cases hdx
      | some r =>
        rw [hr] at hdx
        cases hdx
        have hi : i < rows.length := (List.getElem?_eq_some_iff.mp hr).1
        have hmem : r ∈ rows := List.mem_of_getElem? hr
        have hsm := Dp.mono xx hs
        refine k_gtup hdp rfl fun vs hvs => ?_
        refine k_gcons hvs fun w1 ws1 hw1 hws1 => ?_
        refine k_gcons hws1 fun w2 ws2 hw2 hws2 => ?_
        refine k_gnil hws2 ?_
        cases Dp.str_inv hw1
        walk_at "0"
        walk_at "4"
        walk_at "16"
        walk_at "15"
        walk_at "12"
        walk_at "9"
        walk_at "69"
        walk_at "10"
        have hnm := ok.nm r hmem
        have hln := plain_len (name_plain hnm)
        refine ⟨_, rfl, by omega, fun H2 x2 => ?_⟩
        rw [hnm]
        walk_at "88"
        walk_at "89"
        walk_at "5"
        walk_at "0"
        walk_at "4"
        walk_at "15"
        walk_at "28"
        walk_at "69"
        walk_at "69"
        refine ⟨_, _, rfl, DGet.k (k := Sum.inr r.1) (x2 _ _ et), ?_⟩
        have hz := hD r.1
        have htn : tabF ((rows.map fun r => (r.1, PyData.bool true)).take i) r.1 = none := by
          refine tabF_none fun hm => ?_
          rw [← List.map_take, List.map_map] at hm
          exact nd_take ok.nd hr hm
        rw [htn] at hz
        rw [show valV kvs (Sum.inr r.1 : Key) = none from hz]
        walk_at "88"
        walk_at "89"
        walk_at "5"
        walk_at "0"
        walk_at "37"
        walk_at "39"
        walk_at "69"
        obtain ⟨aw, xw, rfl, hSw, hdw⟩ := Dp.tup_inv (Dp.mono x2 hw2)
        have exw := DpAll.strs_inv hdw
        subst exw
        refine ⟨_, rfl, ⟨_, hSw⟩, for_tup (xs := r.2.map V.str) (fun j σ' H' => ∃ y3, σ' = [some (.ref a), some s, some (.ref t), some (.str r.1), some (.ref aw), y3] ∧ H' = H2) ⟨_, rfl, rfl⟩ ?_ ?_ ?_⟩
        · rintro j σ' H' hj ⟨y3, rfl, rfl⟩
          exact hSw
        · rintro j y σ' H' hy ⟨y3, rfl, rfl⟩
          rw [List.getElem?_map] at hy
          cases hq : r.2[j]? with
          | none => rw [hq] at hy; cases hy
          | some sq =>
            rw [hq] at hy
            cases hy
            walk_at "6"
            walk_at "4"
            walk_at "14"
            walk_at "8"
            walk_at "69"
            walk_at "69"
            refine w_notin (Dp.mono x2 hsm) ?_
            rw [decide_eq_true (ok.ws r hmem sq (List.mem_of_getElem? hq))]
            walk_at "88"
            walk_at "89"
            walk_at "5"
            walk_at "88"
            rfl
        · rintro σ' H' ⟨y3, rfl, rfl⟩
          walk_at "29"
          walk_at "7"
          walk_at "69"
          walk_at "69"
          refine v_dput (x2 _ _ et) (by have := ok.len; omega) ?_
          skip
          refine ⟨_, _, _, _, rfl, xmut (xtr xx x2) n1, upd_same, ?_, ?_⟩
          · unfold putK
            split
            · rw [List.length_map]; omega
            · rw [List.length_append, List.length_singleton]; omega
          · have et2 : (rows.map fun r => (r.1, PyData.bool true)).take (i + 1) = (rows.map fun r => (r.1, PyData.bool true)).take i ++ [(r.1, PyData.bool true)] := by rw [List.take_add_one, List.getElem?_map, hr]; rfl
            rw [et2, tabF_snoc]
            exact HasD.im (fun a zs h => SqT.updD (x2 _ _ et) h) ((hD.mono x2).put rfl (.bl true))
    · rintro σ' H' ⟨y1, y2, y3, kvs, rfl, xx, _⟩
      exact q H' xx



theorem ok__layer_sort (T : Top0 P K mg) : FnOk P w K mg base CX0 3 T.f__layer_sort T.fd__layer_sort ["vocabulary", "value"] (sp__layer_sort T) := by
  refine T.F__layer_sort.ok sc__layer_sort (fun vs H Q E h => ?_) (fun cdv A outer s H vs Q E hr h => ?_)
  · obtain ⟨a, v, x, d, n, rfl, hV, ok, hv, hs, hn, q⟩ := h
    rfl
  · obtain ⟨a, v, x, d, n, rfl, hV, ok, hv, hs, hn, q⟩ := h
    refine ⟨_, (pss_cons (ps_if (PW.pt (pw_or (pt_not (pt_val (pe_callB (r := rIsi K) call_isi (by rfl) T.n_isinstance PyProof.Rows.boot_isinstance (pa_cons (pv 1) (pa_cons (pe_bltn (v := .ty "tuple") (by rfl) T.n_tuple (by decide +kernel) rfl) pa_nil))))) (pw_or (pt_cmpR (r := rEqU K) (op_eqU hr) (pe_callB (r := rLenU K) call_lenU (by rfl) T.n_len PySem.boot_len (pa_cons (pv 1) pa_nil)) pe_int (nomark _)) (pw_or1 (pt_not (pt_val (pe_callB (r := rIsi K) call_isi (by rfl) T.n_isinstance PyProof.Rows.boot_isinstance (pa_cons (pe_ix (r := rIx K) ix_seq (pv 1) pe_int (fun _ _ => rfl)) (pa_cons (pe_bltn (v := .ty "str") (by rfl) T.n_str (by decide +kernel) rfl) pa_nil))))))))) (pss_one (ps_ret pe_non)) pss_nil)
      (pss_cons (ps_set (i := 2) sc__layer_sort.nd rfl (Or.inl rfl) (pe_meth (pv 0) T.cl_Vocabulary T.m_Vocabulary_arguments (ok_Vocabulary_arguments T) (hr.mono (by first | decide | exact Nat.le_refl _ | omega | (show _ ≤ _ + n; omega))) T.b_Vocabulary_arguments .nil pass0 (pa_cons (pe_ix (r := rIx K) ix_seq (pv 1) pe_int (fun _ _ => rfl)) pa_nil)))
      (pss_cons (ps_if (pt_cmpR op_notN1 (pv 2) pe_non (nomark _)) (pss_one (ps_ret (pe_ifExp (pt_cmpR (r := rEqU K) (op_eqU hr) (pe_callB (r := rLenU K) call_lenU (by rfl) T.n_len PySem.boot_len (pa_cons (pv 1) pa_nil)) (pe_op (r := rPlus K) op_plus (pe_callB (r := rLenU K) call_lenU (by rfl) T.n_len PySem.boot_len (pa_cons (pv 2) pa_nil)) pe_int) (nomark _)) (pe_meth (pv 0) T.cl_Vocabulary T.m_Vocabulary_value_sort (ok_Vocabulary_value_sort T) (hr.mono (by first | decide | exact Nat.le_refl _ | omega | (show _ ≤ _ + n; omega))) T.b_Vocabulary_value_sort .nil pass0 (pa_cons (pe_ix (r := rIx K) ix_seq (pv 1) pe_int (fun _ _ => rfl)) pa_nil)) pe_non))) pss_nil)
      (pss_cons (ps_if (PW.pt (pw_and (pt_val (pe_call (ok_is_variable_name T) (hr.mono (by first | decide | exact Nat.le_refl _ | omega | (show _ ≤ _ + n; omega))) (by rfl) T.g_is_variable_name T.F_is_variable_name.kp T.b_is_variable_name .nil pass0 (pa_cons (pe_ix (r := rIx K) ix_seq (pv 1) pe_int (fun _ _ => rfl)) pa_nil))) (pw_and (pt_cmpR (r := rEqU K) (op_eqU hr) (pe_callB (r := rLenU K) call_lenU (by rfl) T.n_len PySem.boot_len (pa_cons (pv 1) pa_nil)) pe_int (nomark _)) (pw_and1 (pt_cmpR (r := rInV K) (op_inV hr) (pe_ix (r := rIx K) ix_seq (pv 1) pe_int (fun _ _ => rfl)) (show PE _ _ (tFld K _ _) from pe_fld (pv 0) rfl) (by with_unfolding_all rfl)))))) (pss_one (ps_ret (pe_ix (r := rIx K) ix_seq (pv 1) pe_int (fun _ _ => rfl)))) pss_nil)
      (pss_one (ps_ret pe_non)))))), ?_⟩
    walk_at "0"
    walk_at "4"
    walk_at "18"
    walk_at "16"
    walk_at "15"
    walk_at "11"
    walk_at "9"
    walk_at "69"
    walk_at "9"
    walk_at "7"
    walk_at "10"
    refine d_isTup hv hs.im ?_
    rcases kinds d with ⟨z, ds, rfl⟩ | rfl | ⟨e, ds, rfl, he⟩ | hT
    · rw [show isTupD (.tuple (.str z :: ds)) = true from rfl]
      walk_at "88"
      walk_at "89"
      walk_at "18"
      walk_at "14"
      walk_at "8"
      walk_at "11"
      walk_at "9"
      walk_at "69"
      walk_at "10"
      refine d_len hv ?_
      walk_at "7"
      walk_at "75"
      walk_at "88"
      walk_at "89"
      walk_at "16"
      walk_at "15"
      walk_at "11"
      walk_at "9"
      walk_at "8"
      walk_at "69"
      walk_at "7"
      refine d_ix hv (atI_nat (j := 0) rfl) fun w hw => ?_
      cases Dp.str_inv hw
      walk_at "9"
      walk_at "7"
      walk_at "10"
      walk_at "46"
      walk_at "88"
      walk_at "89"
      walk_at "5"
      walk_at "0"
      walk_at "1"
      walk_at "30"
      walk_at "69"
      obtain ⟨m, rfl⟩ := hs.pos
      have hz := (hs.tup _ (List.mem_cons_self ..)).str
      have hV2 := hV
      obtain ⟨dx, fs, sv, dA, dS, kA, kS, g1, g2, g3, g4, g5, g6, g7, g8, g9, g10, g11⟩ := hV2
      refine ⟨a, dx, fs, rfl, g1, g10, ?_⟩
      walk_at "9"
      walk_at "8"
      walk_at "69"
      walk_at "7"
      refine d_ix hv (atI_nat (j := 0) rfl) fun w hw => ?_
      cases Dp.str_inv hw
      walk_at "10"
      refine ⟨a, z, x, rfl, hV, fun u hu => ?_⟩
      rw [tab_args ok] at hu
      walk_at "6"
      walk_at "0"
      walk_at "4"
      walk_at "14"
      walk_at "8"
      walk_at "69"
      walk_at "7"
      walk_at "64"
      walk_at "88"
      cases hf : fnd x.syms z with
      | some p =>
        have hvar := name_var (syms_name ok hf)
        have hq := q H (xrefl H)
        rw [layerF, if_neg (by rw [hvar]; decide)] at hq
        rw [hf] at hu hq
        obtain ⟨au, xu, rfl, hsu, hdu⟩ := Dp.tup_inv hu
        rw [show decide (V.ref au = V.non) = false from decide_eq_false (fun h => by cases h)]
        walk_at "90"
        walk_at "2"
        walk_at "22"
        walk_at "14"
        walk_at "8"
        walk_at "11"
        walk_at "9"
        walk_at "69"
        walk_at "10"
        refine d_len hv ?_
        walk_at "8"
        walk_at "11"
        walk_at "9"
        walk_at "69"
        walk_at "10"
        refine d_len hu ?_
        walk_at "7"
        walk_at "56"
        walk_at "75"
        walk_at "88"
        refine k_if (fun h3 => ?_) (fun h3 => ?_)
        · have hl : ds.length = p.1.length := by
            injection h3 with h3
            rw [List.length_cons, List.length_map] at h3; omega
          simp only [if_pos hl] at hq
          walk_at "30"
          walk_at "69"
          refine ⟨a, dx, fs, rfl, g1, g11, ?_⟩
          walk_at "9"
          walk_at "8"
          walk_at "69"
          walk_at "7"
          refine d_ix hv (atI_nat (j := 0) rfl) fun w hw => ?_
          cases Dp.str_inv hw
          walk_at "10"
          refine ⟨a, z, x, rfl, hV, fun u2 hu2 => ?_⟩
          rw [tab_sort ok, hf] at hu2
          cases Dp.str_inv hu2
          exact hq
        · have hl : ds.length ≠ p.1.length := fun h => h3 (by rw [List.length_cons, List.length_map, h]; rfl)
          simp only [if_neg hl] at hq
          walk_at "7"
          exact hq
      | none =>
        rw [hf] at hu
        cases Dp.non_inv hu
        walk_at "89"
        walk_at "5"
        walk_at "0"
        walk_at "4"
        walk_at "17"
        walk_at "15"
        walk_at "12"
        walk_at "9"
        walk_at "8"
        walk_at "69"
        walk_at "7"
        refine d_ix hv (atI_nat (j := 0) rfl) fun w hw => ?_
        cases Dp.str_inv hw
        walk_at "10"
        refine ⟨z, rfl, by omega, fun H1 x1 => ?_⟩
        have hv1 := Dp.mono x1 hv
        have hV1 := VocAt.mono x1 hV
        have hq := q H1 x1
        walk_at "88"
        refine k_ifb (fun hvar => ?_) (fun hvar => ?_)
        · rw [layerF, if_pos hvar] at hq
          walk_at "17"
          walk_at "14"
          walk_at "8"
          walk_at "11"
          walk_at "9"
          walk_at "69"
          walk_at "10"
          refine d_len hv1 ?_
          walk_at "7"
          walk_at "75"
          walk_at "88"
          refine k_if (fun h2 => ?_) (fun h2 => ?_)
          · have hl : ds.length = 1 := by
              injection h2 with h2
              rw [List.length_cons] at h2; omega
            obtain ⟨e, rfl⟩ := List.length_eq_one_iff.mp hl
            rw [varSort_is] at hq
            walk_at "14"
            walk_at "8"
            walk_at "8"
            walk_at "69"
            walk_at "7"
            refine d_ix hv1 (atI_nat (j := 1) rfl) fun w hw => ?_
            walk_at "25"
            walk_at "69"
            refine v_fld (x1 _ _ g1) T.cl_Vocabulary T.na_Vocabulary_sorts g2 ?_
            refine w_inD (Dp.mono x1 g3) hw (sy_shaped hn hvar (hs.tup e (by simp))) (fun s hs => name_asc (sort_name ok hs)) ?_
            walk_at "88"
            refine k_ifb (fun h3 => ?_) (fun h3 => ?_)
            · rw [if_pos h3] at hq
              walk_at "2"
              walk_at "8"
              walk_at "69"
              walk_at "7"
              refine d_ix hv1 (atI_nat (j := 1) rfl) fun w2 hw2 => ?_
              cases e with
              | str s => cases Dp.str_inv hw2; exact hq
              | _ => cases h3
            · rw [if_neg (by rw [h3]; decide)] at hq
              walk_at "5"
              walk_at "2"
              walk_at "7"
              exact hq
          · have hl : ds.length ≠ 1 := fun h => h2 (by rw [List.length_cons, h]; rfl)
            rw [varSort_no hl] at hq
            walk_at "89"
            walk_at "5"
            walk_at "2"
            walk_at "7"
            exact hq
        · rw [layerF, if_neg (by rw [hvar]; decide), hf] at hq
          walk_at "89"
          walk_at "5"
          walk_at "2"
          walk_at "7"
          exact hq
    · rw [show isTupD (.tuple []) = true from rfl]
      walk_at "88"
      walk_at "89"
      walk_at "18"
      walk_at "14"
      walk_at "8"
      walk_at "11"
      walk_at "9"
      walk_at "69"
      walk_at "10"
      refine d_len hv ?_
      walk_at "7"
      walk_at "75"
      walk_at "88"
      walk_at "90"
      walk_at "90"
      walk_at "2"
      walk_at "7"
      exact q H (xrefl H)
    · rw [show isTupD (.tuple (e :: ds)) = true from rfl]
      walk_at "88"
      walk_at "89"
      walk_at "18"
      walk_at "14"
      walk_at "8"
      walk_at "11"
      walk_at "9"
      walk_at "69"
      walk_at "10"
      refine d_len hv ?_
      walk_at "7"
      walk_at "75"
      walk_at "88"
      walk_at "89"
      walk_at "16"
      walk_at "15"
      walk_at "11"
      walk_at "9"
      walk_at "8"
      walk_at "69"
      walk_at "7"
      refine d_ix hv (atI_nat (j := 0) rfl) fun w hw => ?_
      walk_at "9"
      walk_at "7"
      walk_at "10"
      obtain ⟨m, rfl⟩ := hs.pos
      refine d_isStr hw (hs.tup e (List.mem_cons_self ..)).im ?_
      rw [he]
      walk_at "88"
      walk_at "90"
      walk_at "2"
      walk_at "7"
      have hq := q H (xrefl H)
      rw [layer_no2 he] at hq
      exact hq
    · rw [hT]
      walk_at "88"
      walk_at "90"
      walk_at "90"
      walk_at "2"
      walk_at "7"
      have hq := q H (xrefl H)
      rw [layer_no1 hT] at hq
      exact hq



theorem ok_size_of (T : Top0 P K mg) : FnOk P w K mg base CX0 3 T.f_size_of T.fd_size_of ["term"] (sp_size_of T) := by
  refine T.F_size_of.ok sc_size_of (fun vs H Q E h => ?_) (fun cdv A outer s H vs Q E hr h => ?_)
  · obtain ⟨v, d, n, rfl, hv, hs, hT, q⟩ := h
    rfl
  · obtain ⟨v, d, n, rfl, hv, hs, hT, q⟩ := h
    refine ⟨_, (pss_one (ps_ret (pe_callB (r := rLenU K) call_lenU (by rfl) T.n_len PySem.boot_len (pa_cons (pe_call (ok_subterms T) (hr.mono (by first | decide | exact Nat.le_refl _ | omega | (show _ ≤ _ + n; omega))) (by rfl) T.g_subterms T.F_subterms.kp T.b_subterms .nil pass0 (pa_cons (pv 0) pa_nil)) pa_nil)))), ?_⟩
    walk_at "2"
    walk_at "11"
    walk_at "9"
    walk_at "12"
    walk_at "9"
    walk_at "69"
    walk_at "10"
    refine ⟨v, d, n, rfl, hv, hs, hT, fun p H' xs x1 e1 hxs => ?_⟩
    walk_at "10"
    walk_at "77"
    rw [hxs.len]
    exact q H' x1



theorem ok_variables_of (T : Top0 P K mg) : FnOk P w K mg base CX0 3 T.f_variables_of T.fd_variables_of ["term"] (sp_variables_of T) := by
  refine T.F_variables_of.ok sc_variables_of (fun vs H Q E h => ?_) (fun cdv A outer s H vs Q E hr h => ?_)
  · obtain ⟨v, d, k, W, rfl, hv, ht, hW, q⟩ := h
    rfl
  · obtain ⟨v, d, k, W, rfl, hv, ht, hW, q⟩ := h
    refine ⟨_, (pss_cons (ps_set (i := 1) sc_variables_of.nd rfl (Or.inl rfl) (show PE _ _ (tNNew P w K) from pe_nnew))
      (pss_cons (ps_for PassesOwn.never rfl (pi_list (pe_call (ok_subterms T) (hr.mono (by first | decide | exact Nat.le_refl _ | omega | (show _ ≤ _ + n; omega))) (by rfl) T.g_subterms T.F_subterms.kp T.b_subterms .nil pass0 (pa_cons (pv 0) pa_nil))) (pg_name (i := 2) sc_variables_of.nd rfl (Or.inl rfl)) (pss_one (ps_if (pt_val (pe_call (ok_is_variable T) (hr.mono (by first | decide | exact Nat.le_refl _ | omega | (show _ ≤ _ + n; omega))) (by rfl) T.g_is_variable T.F_is_variable.kp T.b_is_variable .nil pass0 (pa_cons (pv 2) pa_nil))) (pss_one (ps_asg pe_bl (pg_sub (t := rSetN P w K) (pv 1) (pv 2) (set_N (hu10 hr))))) pss_nil)))
      (pss_one (ps_ret (pe_callTy (r := rTupN P w K) (call_tupN rfl) (by rfl) T.n_tuple (by decide +kernel) (pa_cons (pv 1) pa_nil)))))), ?_⟩
    walk_at "0"
    walk_at "1"
    intro f hf hsy
    have x1 : Xt H (L2.upd H f (ndO P w f [])) := xnew hf
    have nd0 : ND P w K (L2.upd H f (ndO P w f [])) f [] := ND.new hsy
    generalize L2.upd H f (ndO P w f []) = H1 at x1 nd0
    walk_at "6"
    walk_at "0"
    walk_at "37"
    walk_at "38"
    walk_at "12"
    walk_at "9"
    walk_at "69"
    walk_at "10"
    refine ⟨v, d, k, rfl, Dp.mono x1 hv, ht.sm (by omega), ht.tl, fun p H2 xs x2 e2 hxs => ?_⟩
    have nd2 := nd0.mono x2
    have x12 := xtr x1 x2
    have hxl := hxs.len
    have hsl := subs_len d
    have hwt := ht.bd.wt
    walk_at "88"
    have him : ImAll (subsF d) = true := imAll_iff.mpr fun e he => ((ht.mem he).sm (by omega)).im
    refine ⟨⟨_, sql e2⟩, for_list (xs := xs) (fun i σ' H' => ∃ y kvs, σ' = [some v, some (.ref f), y] ∧ Xt H H' ∧ ND P w K H' f kvs ∧ kvs.map (·.1) = (varsA [] ((subsF d).take i)).map varD ∧ H' p = some (.lst xs) ∧ DpAll K H' xs (subsF d)) ⟨_, [], rfl, x12, nd2, by rw [List.take_zero]; rfl, e2, hxs⟩ ?_ ?_ ?_⟩
    · rintro i σ' H' hi ⟨y, kvs, rfl, xx, nd, hk, ep, hd⟩
      exact sql ep
    · rintro i u σ' H' hu ⟨y, kvs, rfl, xx, nd, hk, ep, hd⟩
      obtain ⟨e, he, hue⟩ := DpAll.getV hd hu
      have hte := ht.mem (List.mem_of_getElem? he)
      have htk : varsA [] ((subsF d).take (i + 1)) = varsO (varsA [] ((subsF d).take i)) (varP e) := by
        rw [List.take_add_one, he, varsA_app]; rfl
      have hvl := varsA_len [] ((subsF d).take i)
      rw [List.length_take] at hvl
      have hkl : kvs.length = (varsA [] ((subsF d).take i)).length := by
        have := congrArg List.length hk
        rw [List.length_map, List.length_map] at this; exact this
      obtain ⟨z, ds, k', rfl, e0, hz1, hzW, hlW, hcase⟩ := hte.inv
      walk_at "6"
      walk_at "4"
      walk_at "15"
      walk_at "12"
      walk_at "9"
      walk_at "69"
      walk_at "10"
      refine ⟨u, z, ds, rfl, hue, ⟨hz1, by omega⟩, ?_⟩
      rcases hcase with ⟨hc, s, rfl⟩ | ⟨hc, hall⟩
      · rw [hc]
        rw [varP_of hc] at htk
        obtain ⟨b, xb, rfl, _, _⟩ := Dp.tup_inv hue
        have nk : NKey K H' (.ref b) (varD (z, s)) := ⟨hue, rfl, nkey_depth _⟩
        walk_at "88"
        walk_at "90"
        walk_at "1"
        walk_at "7"
        show tVar 1 _ _ _
        walk_at "69"
        walk_at "69"
        refine ⟨f, b, varD (z, s), kvs, rfl, rfl, nd, nk, ?_, ?_⟩
        · have hkl2 : kvs.length < 10000000 := by
            rw [List.length_nil] at hvl
            omega
          exact szL2 hkl2
        · refine ⟨_, _, rfl, xmut xx hf, nd.put nk ?_, ?_, ?_, ?_⟩
          · have hkl2 : kvs.length < 10000000 := by
              rw [List.length_nil] at hvl
              omega
            exact szL2 hkl2
          · rw [htk]
            exact put_keys hk
          · rw [upd_ne (ext_ne nd.here ep)]; exact ep
          · exact DpAll.im (fun _ _ h => SqT.updN nd.here h) him hd
      · rw [hc]
        rw [varP_no (show capD (.tuple (.str z :: ds)) = false from hc)] at htk
        walk_at "88"
        walk_at "89"
        walk_at "5"
        refine ⟨_, kvs, rfl, xx, nd, ?_, ep, hd⟩
        rw [htk]; exact hk
    · rintro σ' H' ⟨y, kvs, rfl, xx, nd, hk, ep, hd⟩
      rw [List.take_of_length_le (by omega)] at hk
      walk_at "2"
      walk_at "11"
      walk_at "9"
      walk_at "69"
      walk_at "10"
      refine ⟨f, kvs, rfl, nd, fun r hr => q _ _ (xtr xx (xnew hr)) (.of_tup upd_same ?_)⟩
      unfold varsF
      rw [← hk]
      exact DpAll.mono (xnew hr) (nd_keys nd.ks)


theorem ok__part (T : Top0 P K mg) : FnOk P w K mg base (L2.CX P w) 3 T.f__part T.fd__part ["term", "number", "place"] (sp__part T) := by
  refine T.F__part.okX sc__part (fun vs H Q E h => ?_) (fun cdv A outer s H vs Q E hr h => ?_)
  · obtain ⟨v, u, d, nu, k, W, l, rfl, hv, ht, hW, hu, pok, q1, q2⟩ := h
    rfl
  · obtain ⟨v, u, d, nu, k, W, l, rfl, hv, ht, hW, hu, pok, q1, q2⟩ := h
    refine ⟨_, (pss_cons (ps_if (PW.pt (pw_or (pt_val (pe_call (ok_is_variable T) (hr.mono (by first | decide | exact Nat.le_refl _ | omega | (show _ ≤ _ + n; omega))) (by rfl) T.g_is_variable T.F_is_variable.kp T.b_is_variable .nil pass0 (pa_cons (pv 0) pa_nil))) (pw_or1 (pt_not (pt_chain op_le op_lt pe_int (pv 1) (pe_op op_sub (pe_callB (r := rLenU K) call_lenU (by rfl) T.n_len PySem.boot_len (pa_cons (pv 0) pa_nil)) pe_int)))))) (pss_one (ps_raise rfl (takes_of rfl rfl rfl rfl) (pmk_oex T.ox_BadPlace T.iI_BadPlace T.tI_BadPlace (ok_BadPlace___init__ T) (hr.mono (by first | decide | exact Nat.le_refl _ | omega | (show _ ≤ _ + n; omega))) T.bI_BadPlace .nil pass0 (by rfl) T.g_BadPlace (pa_cons (pv 2) pa_nil)))) pss_nil)
      (pss_one (ps_ret (pe_ix (r := rIx K) ix_seq (pv 0) (pe_op (r := rPlus K) op_plus (pv 1) pe_int) (fun _ _ => rfl))))), ?_⟩
    obtain ⟨z, ds, k', rfl, rfl, hz1, hzW, hlW, hcase⟩ := ht.inv
    walk_at "0"
    walk_at "4"
    walk_at "18"
    walk_at "15"
    walk_at "12"
    walk_at "9"
    walk_at "69"
    walk_at "10"
    refine ⟨v, z, ds, rfl, hv, ⟨hz1, by omega⟩, ?_⟩
    rcases hcase with ⟨hc, s, rfl⟩ | ⟨hc, hall⟩
    · rw [hc]
      walk_at "88"
      walk_at "90"
      walk_at "90"
      show tCons _ _ _ _ _
      walk_at "9"
      walk_at "69"
      walk_at "10"
      refine ⟨Nat.le_of_ble_eq_true rfl, mkO_endX (plOk_rep hu pok) fun d H3 x3 e3 => q2 (part_no (.inl hc)) d H3 x3 e3⟩
    · rw [hc]
      walk_at "88"
      walk_at "89"
      walk_at "16"
      walk_at "14"
      walk_at "23"
      walk_at "7"
      walk_at "69"
      walk_at "55"
      walk_at "88"
      walk_at "90"
      walk_at "8"
      walk_at "11"
      walk_at "9"
      walk_at "69"
      walk_at "10"
      refine d_len hv ?_
      rw [List.length_cons]
      walk_at "7"
      walk_at "55"
      walk_at "55"
      walk_at "88"
      by_cases hn : nu < ds.length
      · refine k_ifn (fun h => absurd (show (nu : Int) < ((ds.length + 1 : Nat) : Int) - 1 by omega) h) (fun _ => ?_)
        walk_at "5"
        walk_at "2"
        walk_at "8"
        walk_at "69"
        walk_at "8"
        walk_at "69"
        walk_at "7"
        walk_at "56"
        refine d_ix hv (show atI (PyData.str z :: ds) ((nu : Int) + 1) = some ds[nu] from ?_) fun w hw => ?_
        · rw [show (nu : Int) + 1 = ((nu + 1 : Nat) : Int) by omega]; exact atI_nat (by simp [hn])
        refine q1 ds[nu] w ?_ hw
        rw [part_one, if_neg (by rw [hc]; decide), List.getElem?_eq_getElem hn]
      · refine k_ifn (fun _ => ?_) (fun h => absurd h (show ¬ (nu : Int) < ((ds.length + 1 : Nat) : Int) - 1 by omega))
        skip
        show tCons _ _ _ _ _
        walk_at "9"
        walk_at "69"
        walk_at "10"
        refine ⟨Nat.le_of_ble_eq_true rfl, mkO_endX (plOk_rep hu pok) fun d H3 x3 e3 => q2 (part_no (.inr (by omega))) d H3 x3 e3⟩


theorem ok__law_drawn_vocabulary (T : Top0 P K mg) : FnOk P w K mg base CX0 3 T.f__law_drawn_vocabulary T.fd__law_drawn_vocabulary ["first", "second", "third"] (sp__law_drawn_vocabulary T) := by
  refine T.F__law_drawn_vocabulary.ok sc__law_drawn_vocabulary (fun vs H Q E h => ?_) (fun cdv A outer s H vs Q E hr h => ?_)
  · obtain ⟨c1, c2, c3, rfl, q⟩ := h
    rfl
  · obtain ⟨c1, c2, c3, rfl, q⟩ := h
    refine ⟨_, (pss_cons (ps_set (i := 3) sc__law_drawn_vocabulary.nd rfl (Or.inl rfl) (pe_call (ok__law_digits T) (hr.mono (by first | decide | exact Nat.le_refl _ | omega | (show _ ≤ _ + n; omega))) (by rfl) T.g__law_digits T.F__law_digits.kp T.b__law_digits .nil pass0 (pa_cons (pv 0) (pa_cons (pe_lst (pa_cons pe_int (pa_cons pe_int (pa_cons pe_int (pa_cons pe_int (pa_cons pe_int (pa_cons pe_int (pa_cons pe_int (pa_cons pe_int (pa_cons pe_int (pa_cons pe_int (pa_cons pe_int (pa_cons pe_int (pa_cons pe_int (pa_cons pe_int pa_nil))))))))))))))) pa_nil))))
      (pss_cons (ps_set (i := 4) sc__law_drawn_vocabulary.nd rfl (Or.inl rfl) (pe_lst (pa_cons (pe_ix (r := rIx K) ix_seq (pe_lst (pa_cons pe_int (pa_cons pe_int (pa_cons pe_int (pa_cons pe_int (pa_cons pe_int (pa_cons pe_int (pa_cons pe_int (pa_cons pe_int pa_nil))))))))) (pe_ix (r := rIx K) ix_seq (pv 3) pe_int (fun _ _ => rfl)) (fun _ _ => rfl)) (pa_cons (pe_ix (r := rIx K) ix_seq (pe_lst (pa_cons pe_int (pa_cons pe_int (pa_cons pe_int (pa_cons pe_int (pa_cons pe_int (pa_cons pe_int (pa_cons pe_int (pa_cons pe_int (pa_cons pe_int (pa_cons pe_int (pa_cons pe_int (pa_cons pe_int (pa_cons pe_int (pa_cons pe_int (pa_cons pe_int (pa_cons pe_int pa_nil))))))))))))))))) (pe_ix (r := rIx K) ix_seq (pv 3) pe_int (fun _ _ => rfl)) (fun _ _ => rfl)) pa_nil))))
      (pss_cons (ps_expr (pe_bm PySem.F.plainAttrs_list PySem.F.slot_list_append PySem.F.type_list_append mt_append (pv 4) (pa_cons (pe_ix (r := rIx K) ix_seq (pe_lst (pa_cons pe_int (pa_cons pe_int (pa_cons pe_int (pa_cons pe_int (pa_cons pe_int (pa_cons pe_int (pa_cons pe_int (pa_cons pe_int (pa_cons pe_int (pa_cons pe_int (pa_cons pe_int (pa_cons pe_int (pa_cons pe_int (pa_cons pe_int (pa_cons pe_int (pa_cons pe_int pa_nil))))))))))))))))) (pe_ix (r := rIx K) ix_seq (pv 3) pe_int (fun _ _ => rfl)) (fun _ _ => rfl)) pa_nil)))
      (pss_cons (ps_set (i := 5) sc__law_drawn_vocabulary.nd rfl (Or.inl rfl) (pe_call (ok__law_names T) (hr.mono (by first | decide | exact Nat.le_refl _ | omega | (show _ ≤ _ + n; omega))) (by rfl) T.g__law_names T.F__law_names.kp T.b__law_names .nil pass0 (pa_cons (pe_slice (r := rSlU K) sl_any (pv 3) (po_some pe_int) po_none) (pa_cons (pe_callB (r := rSum K) (cr_sum rfl) (by rfl) T.n_sum PyProof.Rows.boot_sum (pa_cons (pv 4) pa_nil)) pa_nil))))
      (pss_cons (ps_set (i := 6) sc__law_drawn_vocabulary.nd rfl (Or.inr rfl) (pe_slice (r := rSlU K) sl_any (pv 5) po_none (po_some (pe_ix (r := rIx K) ix_seq (pv 4) pe_int (fun _ _ => rfl)))))
      (pss_cons (ps_set (i := 7) sc__law_drawn_vocabulary.nd rfl (Or.inl rfl) (pe_call (ok__law_digits T) (hr.mono (by first | decide | exact Nat.le_refl _ | omega | (show _ ≤ _ + n; omega))) (by rfl) T.g__law_digits T.F__law_digits.kp T.b__law_digits .nil pass0 (pa_cons (pv 1) (pa_cons (pe_op op_timesU (pe_lst (pa_cons pe_int (pa_cons pe_int (pa_cons pe_int (pa_cons pe_int (pa_cons pe_int pa_nil)))))) (pe_ix (r := rIx K) ix_seq (pv 4) pe_int (fun _ _ => rfl))) pa_nil))))
      (pss_cons (ps_set (i := 8) sc__law_drawn_vocabulary.nd rfl (Or.inl rfl) (pe_lst pa_nil))
      (pss_cons (ps_for PassesOwn.never rfl (pi_range1 (by rfl) T.n_range (pa_cons (pe_ix (r := rIx K) ix_seq (pv 4) pe_int (fun _ _ => rfl)) pa_nil)) (pg_name (i := 9) sc__law_drawn_vocabulary.nd rfl (Or.inl rfl)) (pss_cons (ps_set (i := 10) sc__law_drawn_vocabulary.nd rfl (Or.inl rfl) (pe_callTy (r := rTup K) call_tupU (by rfl) T.n_tuple (by decide +kernel) (pa_cons (pe_lc (own := [("digit", 12)]) (g := gName 12) rfl sc__law_drawn_vocabulary.nd (pi_list (pe_slice (r := rSlU K) sl_any (pv 7) (po_some (pe_op (r := rPlus K) op_plus (pe_op op_timesU pe_int (pv 9)) pe_int)) (po_some (pe_op (r := rPlus K) op_plus (pe_op (r := rPlus K) op_plus (pe_op op_timesU pe_int (pv 9)) pe_int) (pe_ix (r := rIx K) ix_seq (pe_lst (pa_cons pe_int (pa_cons pe_int (pa_cons pe_int (pa_cons pe_int (pa_cons pe_int (pa_cons pe_int (pa_cons pe_int (pa_cons pe_int pa_nil))))))))) (pe_ix (r := rIx K) ix_seq (pv 7) (pe_op op_timesU pe_int (pv 9)) (fun _ _ => rfl)) (fun _ _ => rfl)))))) (blkOk_by (N := N__law_drawn_vocabulary) (sc := defScope s__law_drawn_vocabulary) (by decide +kernel)) (fun _ _ _ _ _ => (pg_name (i := 12) sc__law_drawn_vocabulary.nd rfl (Or.inl rfl))) (fun _ _ _ _ _ => pts_nil) (fun _ _ _ _ _ => (pe_ix (r := rIx K) ix_seq (pv 6) (pe_op op_mod (pe_callTy call_intU (by rfl) T.n_int PyProof.Rows.boot_int (pa_cons (pv 12) pa_nil)) (pe_callB (r := rLenU K) call_lenU (by rfl) T.n_len PySem.boot_len (pa_cons (pv 6) pa_nil))) (fun _ _ => rfl)))) pa_nil)))
      (pss_one (ps_expr (pe_bm PySem.F.plainAttrs_list PySem.F.slot_list_append PySem.F.type_list_append mt_append (pv 8) (pa_cons (pe_tup (pa_cons (pe_ix (r := rIx K) ix_seq (pv 5) (pe_op (r := rPlus K) op_plus (pe_ix (r := rIx K) ix_seq (pv 4) pe_int (fun _ _ => rfl)) (pv 9)) (fun _ _ => rfl)) (pa_cons (pv 10) (pa_cons (pe_ix (r := rIx K) ix_seq (pv 6) (pe_op op_mod (pe_callTy call_intU (by rfl) T.n_int PyProof.Rows.boot_int (pa_cons (pe_ix (r := rIx K) ix_seq (pv 7) (pe_op (r := rPlus K) op_plus (pe_op op_timesU pe_int (pv 9)) pe_int) (fun _ _ => rfl)) pa_nil)) (pe_callB (r := rLenU K) call_lenU (by rfl) T.n_len PySem.boot_len (pa_cons (pv 6) pa_nil))) (fun _ _ => rfl)) pa_nil)))) pa_nil))))))
      (pss_cons (ps_set (i := 7) sc__law_drawn_vocabulary.nd rfl (Or.inl rfl) (pe_call (ok__law_digits T) (hr.mono (by first | decide | exact Nat.le_refl _ | omega | (show _ ≤ _ + n; omega))) (by rfl) T.g__law_digits T.F__law_digits.kp T.b__law_digits .nil pass0 (pa_cons (pv 2) (pa_cons (pe_op op_timesU (pe_lst (pa_cons pe_int (pa_cons pe_int (pa_cons pe_int (pa_cons pe_int pa_nil))))) (pe_ix (r := rIx K) ix_seq (pv 4) pe_int (fun _ _ => rfl))) pa_nil))))
      (pss_cons (ps_set (i := 11) sc__law_drawn_vocabulary.nd rfl (Or.inl rfl) (pe_lst pa_nil))
      (pss_cons (ps_for PassesOwn.never rfl (pi_range1 (by rfl) T.n_range (pa_cons (pe_ix (r := rIx K) ix_seq (pv 4) pe_int (fun _ _ => rfl)) pa_nil)) (pg_name (i := 9) sc__law_drawn_vocabulary.nd rfl (Or.inl rfl)) (pss_cons (ps_set (i := 10) sc__law_drawn_vocabulary.nd rfl (Or.inl rfl) (pe_callTy (r := rTup K) call_tupU (by rfl) T.n_tuple (by decide +kernel) (pa_cons (pe_lc (own := [("digit", 12)]) (g := gName 12) rfl sc__law_drawn_vocabulary.nd (pi_list (pe_slice (r := rSlU K) sl_any (pv 7) (po_some (pe_op (r := rPlus K) op_plus (pe_op op_timesU pe_int (pv 9)) pe_int)) (po_some (pe_op (r := rPlus K) op_plus (pe_op (r := rPlus K) op_plus (pe_op op_timesU pe_int (pv 9)) pe_int) (pe_ix (r := rIx K) ix_seq (pe_lst (pa_cons pe_int (pa_cons pe_int (pa_cons pe_int (pa_cons pe_int (pa_cons pe_int (pa_cons pe_int (pa_cons pe_int (pa_cons pe_int pa_nil))))))))) (pe_ix (r := rIx K) ix_seq (pv 7) (pe_op op_timesU pe_int (pv 9)) (fun _ _ => rfl)) (fun _ _ => rfl)))))) (blkOk_by (N := N__law_drawn_vocabulary) (sc := defScope s__law_drawn_vocabulary) (by decide +kernel)) (fun _ _ _ _ _ => (pg_name (i := 12) sc__law_drawn_vocabulary.nd rfl (Or.inl rfl))) (fun _ _ _ _ _ => pts_nil) (fun _ _ _ _ _ => (pe_ix (r := rIx K) ix_seq (pv 6) (pe_op op_mod (pe_callTy call_intU (by rfl) T.n_int PyProof.Rows.boot_int (pa_cons (pv 12) pa_nil)) (pe_callB (r := rLenU K) call_lenU (by rfl) T.n_len PySem.boot_len (pa_cons (pv 6) pa_nil))) (fun _ _ => rfl)))) pa_nil)))
      (pss_one (ps_expr (pe_bm PySem.F.plainAttrs_list PySem.F.slot_list_append PySem.F.type_list_append mt_append (pv 11) (pa_cons (pe_tup (pa_cons (pe_ix (r := rIx K) ix_seq (pv 5) (pe_op (r := rPlus K) op_plus (pe_op (r := rPlus K) op_plus (pe_ix (r := rIx K) ix_seq (pv 4) pe_int (fun _ _ => rfl)) (pe_ix (r := rIx K) ix_seq (pv 4) pe_int (fun _ _ => rfl))) (pv 9)) (fun _ _ => rfl)) (pa_cons (pv 10) pa_nil))) pa_nil))))))
      (pss_one (ps_ret (pe_lst (pa_cons (pv 6) (pa_cons (pv 8) (pa_cons (pv 11) pa_nil))))))))))))))))), ?_⟩
    walk_at "0"
    walk_at "1"
    walk_at "12"
    walk_at "9"
    walk_at "69"
    walk_at "9"
    walk_at "34"
    walk_at "9"
    walk_at "7"
    walk_at "9"
    walk_at "7"
    walk_at "9"
    walk_at "7"
    walk_at "9"
    walk_at "7"
    walk_at "9"
    walk_at "7"
    walk_at "9"
    walk_at "7"
    walk_at "9"
    walk_at "7"
    walk_at "9"
    walk_at "7"
    walk_at "9"
    walk_at "7"
    walk_at "9"
    walk_at "7"
    walk_at "9"
    walk_at "7"
    walk_at "9"
    walk_at "7"
    walk_at "9"
    walk_at "7"
    walk_at "9"
    walk_at "7"
    walk_at "10"
    walk_at "82"
    intro p0 H0 n0 x0 e0
    walk_at "10"
    refine ⟨c1, p0, headS14, rfl, sql e0, by decide, by decide, fun ph H1 ds x1 e1 hD => ?_⟩
    obtain ⟨d0, a0, l0, u0⟩ := hD.get 0 0 rfl rfl
    obtain ⟨d1, a1, l1, u1⟩ := hD.get 1 1 rfl rfl
    obtain ⟨d2, a2, l2, u2⟩ := hD.get 2 2 rfl rfl
    obtain ⟨s0, hs0, hm0⟩ := atI_int (ns := tabA) (i := d0) l0 (by show d0 < 8; exact u0)
    obtain ⟨s1, hs1, hm1⟩ := atI_int (ns := tabB) (i := d1) l1 (by show d1 < 16; exact u1)
    obtain ⟨s2, hs2, hm2⟩ := atI_int (ns := tabC) (i := d2) l2 (by show d2 < 16; exact u2)
    have hb0 : 1 ≤ s0 ∧ s0 ≤ 4 := (by decide : ∀ s ∈ tabA, 1 ≤ s ∧ s ≤ 4) s0 (List.mem_of_getElem? hm0)
    have hb1 : 0 ≤ s1 ∧ s1 ≤ 10 := (by decide : ∀ s ∈ tabB, 0 ≤ s ∧ s ≤ 10) s1 (List.mem_of_getElem? hm1)
    have hb2 : 0 ≤ s2 ∧ s2 ≤ 10 := (by decide : ∀ s ∈ tabC, 0 ≤ s ∧ s ≤ 10) s2 (List.mem_of_getElem? hm2)
    walk_at "6"
    walk_at "0"
    walk_at "1"
    walk_at "34"
    walk_at "9"
    walk_at "8"
    walk_at "34"
    walk_at "9"
    walk_at "7"
    walk_at "9"
    walk_at "7"
    walk_at "9"
    walk_at "7"
    walk_at "9"
    walk_at "7"
    walk_at "9"
    walk_at "7"
    walk_at "9"
    walk_at "7"
    walk_at "9"
    walk_at "7"
    walk_at "9"
    walk_at "7"
    walk_at "10"
    walk_at "82"
    intro pA HA nA xA eA
    have hSA := xl xA (sql (K := K) e1)
    walk_at "8"
    walk_at "69"
    walk_at "7"
    walk_at "79"
    walk_at "79"
    walk_at "9"
    walk_at "8"
    walk_at "34"
    walk_at "9"
    walk_at "7"
    walk_at "9"
    walk_at "7"
    walk_at "9"
    walk_at "7"
    walk_at "9"
    walk_at "7"
    walk_at "9"
    walk_at "7"
    walk_at "9"
    walk_at "7"
    walk_at "9"
    walk_at "7"
    walk_at "9"
    walk_at "7"
    walk_at "9"
    walk_at "7"
    walk_at "9"
    walk_at "7"
    walk_at "9"
    walk_at "7"
    walk_at "9"
    walk_at "7"
    walk_at "9"
    walk_at "7"
    walk_at "9"
    walk_at "7"
    walk_at "9"
    walk_at "7"
    walk_at "9"
    walk_at "7"
    walk_at "10"
    walk_at "82"
    intro pB HB nB xB eB
    have hSB := xl xB hSA
    walk_at "8"
    walk_at "69"
    walk_at "7"
    walk_at "79"
    walk_at "79"
    walk_at "10"
    walk_at "82"
    intro ps Hs ns' xs es
    have hSs := xl xs hSB
    walk_at "6"
    walk_at "0"
    walk_at "3"
    walk_at "36"
    walk_at "69"
    refine ⟨ty_l es, ?_⟩
    walk_at "9"
    walk_at "8"
    walk_at "34"
    walk_at "9"
    walk_at "7"
    walk_at "9"
    walk_at "7"
    walk_at "9"
    walk_at "7"
    walk_at "9"
    walk_at "7"
    walk_at "9"
    walk_at "7"
    walk_at "9"
    walk_at "7"
    walk_at "9"
    walk_at "7"
    walk_at "9"
    walk_at "7"
    walk_at "9"
    walk_at "7"
    walk_at "9"
    walk_at "7"
    walk_at "9"
    walk_at "7"
    walk_at "9"
    walk_at "7"
    walk_at "9"
    walk_at "7"
    walk_at "9"
    walk_at "7"
    walk_at "9"
    walk_at "7"
    walk_at "9"
    walk_at "7"
    walk_at "10"
    walk_at "82"
    intro pC HC nC xC eC
    have hSC := xl xC hSs
    walk_at "8"
    walk_at "69"
    walk_at "7"
    walk_at "79"
    walk_at "79"
    walk_at "10"
    refine v_app (xC _ _ es) (show 2 < 100000 by decide) ?_
    have x1s := xtr (xtr (xtr x0 x1) xA) xB
    have hps : H ps = none := xfree x1s ns'
    have x3 : Xt H (upd HC ps (.lst ([.int s0, .int s1] ++ [.int s2]))) := xmut (xtr x1s (xtr xs xC)) hps
    have eh3 : (upd HC ps (.lst ([.int s0, .int s1] ++ [.int s2]))) ph = some (.lst (ds.map V.int)) := by
      have h1 : HB ph = some (.lst (ds.map V.int)) := xB _ _ (xA _ _ e1)
      rw [upd_ne (ne_of_none h1 ns')]
      exact xC _ _ (xs _ _ h1)
    have es3 : (upd HC ps (.lst ([.int s0, .int s1] ++ [.int s2]))) ps = some (.lst ([s0, s1, s2].map V.int)) := upd_same
    generalize upd HC ps (.lst ([.int s0, .int s1] ++ [.int s2])) = H3 at x3 eh3 es3
    clear hSC hSs hSB hSA xC eC nC xB eB nB xA eA nA xs es x1s e1 x1 e0 x0 n0 ns'
    have hdl : ds.length = 14 := hD.1
    have z0 : atI ([s0, s1, s2].map V.int) 0 = some (.int s0) := atI_nat (j := 0) rfl
    have z1 : atI ([s0, s1, s2].map V.int) 1 = some (.int s1) := atI_nat (j := 1) rfl
    have z2 : atI ([s0, s1, s2].map V.int) 2 = some (.int s2) := atI_nat (j := 2) rfl
    walk_at "0"
    walk_at "1"
    walk_at "12"
    walk_at "9"
    walk_at "48"
    walk_at "69"
    walk_at "50"
    walk_at "7"
    walk_at "88"
    walk_at "49"
    refine v_sl_l (sql eh3) fun p4 H4 n4 x4 e4 => ?_
    rw [show (some (3 : Int)) = some ((3 : Nat) : Int) from rfl, cut_drop (by rw [List.length_map]; omega), ← List.map_drop] at e4
    have es4 := x4 _ _ es3
    walk_at "9"
    walk_at "11"
    walk_at "9"
    walk_at "69"
    walk_at "10"
    refine ⟨ps, [s0, s1, s2], rfl, sql es4, ?_⟩
    rw [show [s0, s1, s2].sum = s0 + s1 + s2 by simp; omega]
    walk_at "10"
    refine ⟨p4, ds.drop 3, s0 + s1 + s2, rfl, sql e4, DigOk.drop hD 3, by omega, fun pn H5 ns x5 e5 hnl hnd hnn => ?_⟩
    have es5 := x5 _ _ es4
    have x35 := xtr x3 (xtr x4 x5)
    walk_at "6"
    walk_at "0"
    walk_at "1"
    walk_at "48"
    walk_at "69"
    walk_at "49"
    walk_at "50"
    walk_at "8"
    walk_at "69"
    walk_at "7"
    walk_at "79"
    walk_at "88"
    refine v_sl_l (sql e5) fun p6 H6 n6 x6 e6 => ?_
    have hnl2 : ns.length = s0.toNat + s1.toNat + s2.toNat := by omega
    rw [show (some s0) = some ((s0.toNat : Nat) : Int) by rw [Int.toNat_of_nonneg (by omega)], cut_take (by rw [List.length_map]; omega), ← List.map_take] at e6
    have hSl : (ns.take s0.toNat).length = s0.toNat := by rw [List.length_take]; omega
    generalize hS : ns.take s0.toNat = S at e6 hSl
    have es6 := x6 _ _ es5
    have en6 := x6 _ _ e5
    have x06 := xtr x35 x6
    clear x5 x4 eh3 e4 n4 es4 es5 e5 es3 x3 n6 x6 x35
    walk_at "6"
    walk_at "0"
    walk_at "1"
    walk_at "12"
    walk_at "9"
    walk_at "69"
    walk_at "9"
    walk_at "8"
    walk_at "34"
    walk_at "9"
    walk_at "7"
    walk_at "9"
    walk_at "7"
    walk_at "9"
    walk_at "7"
    walk_at "9"
    walk_at "7"
    walk_at "9"
    walk_at "7"
    walk_at "10"
    walk_at "82"
    intro p7 H7 n7 x7 e7
    have es7 := x7 _ _ es6
    walk_at "8"
    walk_at "69"
    walk_at "7"
    walk_at "79"
    refine u_rep (ss := [8, 12, 12, 12, 12]) e7 (by omega) (by omega) (by decide) fun p8 H8 n8 x8 e8 => ?_
    walk_at "10"
    refine ⟨c2, p8, _, rfl, sql e8, ?_, ?_, fun pr H9 rs x9 e9 hR => ?_⟩
    · rw [flat_len]; simp only [List.length_cons, List.length_nil]; omega
    · intro x hx
      exact (by decide : ∀ s ∈ ([8, 12, 12, 12, 12] : List Int), 0 < s ∧ s < 1073741824) x (flat_mem hx)
    have x79 := xtr x7 (xtr x8 x9)
    have es9 := x79 _ _ es6
    have en9 := x79 _ _ en6
    have eS9 := x79 _ _ e6
    have x09 := xtr x06 x79
    clear x7 x8 x9 e7 e8 n7 n8 es7 es6 en6 e6 x79 x06
    walk_at "6"
    walk_at "0"
    walk_at "1"
    walk_at "34"
    walk_at "10"
    walk_at "82"
    intro pf Hf nf xf ef
    have esf := xf _ _ es9
    walk_at "6"
    walk_at "0"
    walk_at "37"
    walk_at "42"
    walk_at "9"
    walk_at "8"
    walk_at "69"
    walk_at "7"
    walk_at "79"
    walk_at "10"
    walk_at "88"
    refine ⟨by omega, by omega, ?_⟩
    have hpf : H pf = none := xfree x09 nf
    refine for_range (lo := 0) (n := s1.toNat) (fun i σ' H' => ∃ y9 y10 F fs, σ' = [some (.int c1), some (.int c2), some (.int c3), some (.ref ph), some (.ref ps), some (.ref pn), some (.ref p6), some (.ref pr), some (.ref pf), y9, y10, none, none] ∧ Xt H9 H' ∧ H' pf = some (.lst fs) ∧ DpAll K H' fs (F.map fD) ∧ F.length = i ∧ ∀ (j : Nat) (r : Str × List Str × Str), F[j]? = some r → ns[s0.toNat + j]? = some r.1 ∧ r.2.1.length ≤ 3 ∧ (∀ s ∈ r.2.1, s ∈ S) ∧ r.2.2 ∈ S) ⟨_, _, [], [], rfl, xf, ef, .nil, rfl, fun j r h => by simp at h⟩ ?_ ?_
    · rintro i σ' H' hi ⟨y9, y10, F, fs, rfl, xx, ep, hF, hFl, hFr⟩
      have hi10 : (i : Int) < 10 := by omega
      have hi0 : 0 ≤ (i : Int) := by omega
      rw [show ((0 : Int) + (i : Int)) = (i : Int) by omega]
      obtain ⟨g0, ag0, lg0, ug0⟩ := hR.get (s := 8) (5 * i) (5 * (i : Int)) (by omega) (by have := flat_at [8, 12, 12, 12, 12] s1.toNat i 0 hi (by decide); simpa using this)
      obtain ⟨g4, ag4, lg4, ug4⟩ := hR.get (s := 12) (5 * i + 4) (5 * (i : Int) + 4) (by omega) (by have := flat_at [8, 12, 12, 12, 12] s1.toNat i 4 hi (by decide); simpa using this)
      obtain ⟨m, hm, hm'⟩ := atI_int (ns := tabF') (i := g0) lg0 (by show g0 < 8; exact ug0)
      have hm3 : 0 ≤ m ∧ m ≤ 3 := (by decide : ∀ s ∈ tabF', 0 ≤ s ∧ s ≤ 3) m (List.mem_of_getElem? hm')
      have hrsl : rs.length = 5 * s1.toNat := by rw [hR.1, flat_len]; rfl
      have eR' := xl xx (sql (K := K) e9)
      have eN' := xl xx (sql (K := K) en9)
      have eS' := xl xx (sql (K := K) eS9)
      have eZ' := xl xx (sql (K := K) es9)
      have hSpos : (0 : Int) < ((S.map V.str).length : Int) := by rw [List.length_map]; omega
      have hsl : (S.map V.str).length ≤ 10000000 := by rw [List.length_map]; omega
      walk_at "6"
      walk_at "0"
      walk_at "1"
      walk_at "11"
      walk_at "9"
      walk_at "51"
      walk_at "38"
      walk_at "48"
      walk_at "69"
      walk_at "50"
      walk_at "8"
      walk_at "8"
      walk_at "7"
      walk_at "69"
      walk_at "72"
      walk_at "7"
      walk_at "56"
      walk_at "88"
      walk_at "50"
      walk_at "8"
      walk_at "8"
      walk_at "8"
      walk_at "7"
      walk_at "69"
      walk_at "72"
      walk_at "7"
      walk_at "56"
      walk_at "8"
      walk_at "34"
      walk_at "9"
      walk_at "7"
      walk_at "9"
      walk_at "7"
      walk_at "9"
      walk_at "7"
      walk_at "9"
      walk_at "7"
      walk_at "9"
      walk_at "7"
      walk_at "9"
      walk_at "7"
      walk_at "9"
      walk_at "7"
      walk_at "9"
      walk_at "7"
      walk_at "10"
      walk_at "82"
      intro pT HT nT xT eT
      have eRT := xl xT eR'
      walk_at "8"
      walk_at "69"
      walk_at "8"
      walk_at "7"
      walk_at "69"
      walk_at "72"
      walk_at "79"
      walk_at "79"
      walk_at "56"
      walk_at "88"
      refine v_sl_l eRT fun p11 H11 n11 x11 e11 => ?_
      have hcl := cutV_len (xs := rs.map V.int) (lo := 5 * (i : Int) + 1) (hi := 5 * (i : Int) + 1 + m) (by omega) (by omega) (by rw [List.length_map]; omega)
      have xT11 := xtr xT x11
      have eS11 := xl xT11 eS'
      walk_at "88"
      refine ⟨⟨_, sql e11⟩, b_lst (fun i y => ∃ s, y = .str s ∧ s ∈ S) (sql e11) (by omega) (fun x => rfl) ?_ ?_⟩
      · intro i2 x H'' hx xx2 R hR2
        obtain ⟨n, rfl⟩ : ∃ n, x = .int n := by
          obtain ⟨n, _, rfl⟩ := List.mem_map.mp (cutV_mem (List.mem_of_getElem? hx))
          exact ⟨n, rfl⟩
        have eS'' := xl xx2 eS11
        obtain ⟨c, hc⟩ := atI_mod (l := S.map V.str) (i := n) (by omega)
        obtain ⟨s, hs, rfl⟩ := List.mem_map.mp (atI_mem hc)
        walk_at "8"
        walk_at "69"
        walk_at "8"
        walk_at "11"
        walk_at "9"
        walk_at "69"
        walk_at "10"
        walk_at "57"
        walk_at "11"
        walk_at "9"
        walk_at "69"
        walk_at "10"
        walk_at "77"
        walk_at "70"
        walk_at "79"
        exact hR2 _ _ (xrefl _) ⟨s, rfl, hs⟩
      intro Dl ys H12 hDl hl hP x12 e12
      obtain ⟨as, rfl, has⟩ := list_exP (f := V.str) (P := fun s => s ∈ S) hP
      rw [List.length_map] at hl
      walk_at "10"
      refine v_tupl (sql e12) fun pt H13 n13 x13 e13 => ?_
      have x' := xtr xT11 (xtr x12 x13)
      have ep13 := x' _ _ ep
      have eR13 := xl x' eR'
      have eN13 := xl x' eN'
      have eS13 := xl x' eS'
      have eZ13 := xl x' eZ'
      obtain ⟨nm, hnm⟩ : ∃ nm, ns[s0.toNat + i]? = some nm := ⟨_, List.getElem?_eq_getElem (by omega)⟩
      have hnmA : atI (ns.map V.str) (s0 + (i : Int)) = some (.str nm) := by
        rw [show s0 + (i : Int) = ((s0.toNat + i : Nat) : Int) by omega]
        exact atI_nat (by rw [List.getElem?_map, hnm]; rfl)
      obtain ⟨c, hc⟩ := atI_mod (l := S.map V.str) (i := g4) (by omega)
      obtain ⟨srt, hsrt, rfl⟩ := List.mem_map.mp (atI_mem hc)
      walk_at "6"
      walk_at "3"
      walk_at "36"
      walk_at "69"
      refine ⟨ty_l ep13, ?_⟩
      walk_at "9"
      walk_at "35"
      walk_at "9"
      walk_at "8"
      walk_at "69"
      walk_at "8"
      walk_at "8"
      walk_at "69"
      walk_at "7"
      walk_at "79"
      walk_at "69"
      walk_at "56"
      walk_at "79"
      walk_at "9"
      walk_at "69"
      walk_at "9"
      walk_at "8"
      walk_at "69"
      walk_at "8"
      walk_at "11"
      walk_at "9"
      walk_at "8"
      walk_at "69"
      walk_at "8"
      walk_at "8"
      walk_at "7"
      walk_at "69"
      walk_at "72"
      walk_at "7"
      walk_at "56"
      walk_at "79"
      walk_at "10"
      walk_at "57"
      walk_at "11"
      walk_at "9"
      walk_at "69"
      walk_at "10"
      walk_at "77"
      walk_at "70"
      walk_at "79"
      walk_at "10"
      walk_at "83"
      intro pq H14 n14 x14 e14
      have hfl := hF.len
      rw [List.length_map] at hfl
      walk_at "10"
      refine v_app (x14 _ _ ep13) (by omega) ?_
      skip
      have xF := xtr x' x14
      refine ⟨_, _, F ++ [(nm, as, srt)], fs ++ [.ref pq], rfl, xmut (xtr xx xF) nf, upd_same, ?_, by rw [List.length_append, List.length_singleton, hFl], ?_⟩
      · rw [List.map_append]
        refine DpAll.im (fun _ _ h => SqT.upd (x14 _ _ ep13) h) (imAll_iff.mpr fun d hd => ?_) (DpAll.app (DpAll.mono xF hF) (.cons (.of_tup e14 (.cons (.str nm) (.cons (Dp.mono x14 (.of_tup e13 (DpAll.strs as))) (.cons (.str srt) .nil)))) .nil))
        rcases List.mem_append.mp hd with hd | hd
        · obtain ⟨r, _, rfl⟩ := List.mem_map.mp hd; exact im_fD r
        · obtain ⟨r, _, rfl⟩ := List.mem_map.mp hd; exact im_fD r
      · intro j r hj
        by_cases hjl : j < F.length
        · rw [List.getElem?_append_left hjl] at hj
          exact hFr j r hj
        · have hje : j = F.length := by
            have := (List.getElem?_eq_some_iff.mp hj).1
            rw [List.length_append, List.length_singleton] at this; omega
          subst hje
          rw [List.getElem?_append_right (Nat.le_refl _), Nat.sub_self] at hj
          simp at hj
          subst hj
          rw [hFl]
          exact ⟨hnm, by show as.length ≤ 3; omega, has, hsrt⟩
    rintro σ' H10 ⟨y9, y10, F, fs, rfl, x10, ef10, hF, hFl, hFr⟩
    have es10 := x10 _ _ es9
    have en10 := x10 _ _ en9
    have eS10 := x10 _ _ eS9
    have x010 := xtr x09 x10
    clear es9 en9 eS9 e9 x09 x10 xf ef nf esf hpf hR
    walk_at "0"
    walk_at "1"
    walk_at "12"
    walk_at "9"
    walk_at "69"
    walk_at "9"
    walk_at "8"
    walk_at "34"
    walk_at "9"
    walk_at "7"
    walk_at "9"
    walk_at "7"
    walk_at "9"
    walk_at "7"
    walk_at "9"
    walk_at "7"
    walk_at "10"
    walk_at "82"
    intro p7 H7 n7 x7 e7
    have es7 := x7 _ _ es10
    walk_at "8"
    walk_at "69"
    walk_at "7"
    walk_at "79"
    refine u_rep (ss := [8, 12, 12, 12]) e7 (by omega) (by omega) (by decide) fun p8 H8 n8 x8 e8 => ?_
    walk_at "10"
    refine ⟨c3, p8, _, rfl, sql e8, ?_, ?_, fun pr2 H20 rs x20 e20 hR => ?_⟩
    · rw [flat_len]; simp only [List.length_cons, List.length_nil]; omega
    · intro x hx
      exact (by decide : ∀ s ∈ ([8, 12, 12, 12] : List Int), 0 < s ∧ s < 1073741824) x (flat_mem hx)
    have x720 := xtr x7 (xtr x8 x20)
    have es20 := x720 _ _ es10
    have en20 := x720 _ _ en10
    have eS20 := x720 _ _ eS10
    have ef20 := x720 _ _ ef10
    have hF20 := DpAll.mono x720 hF
    have x020 := xtr x010 x720
    clear x7 x8 x20 e7 e8 n7 n8 es7 es10 en10 eS10 ef10 hF x720 x010
    walk_at "6"
    walk_at "0"
    walk_at "1"
    walk_at "34"
    walk_at "10"
    walk_at "82"
    intro pg Hg ng xg eg
    have esg := xg _ _ es20
    walk_at "6"
    walk_at "0"
    walk_at "37"
    walk_at "42"
    walk_at "9"
    walk_at "8"
    walk_at "69"
    walk_at "7"
    walk_at "79"
    walk_at "10"
    walk_at "88"
    refine ⟨by omega, by omega, ?_⟩
    refine for_range (lo := 0) (n := s2.toNat) (fun i σ' H' => ∃ y9 y10 P gs, σ' = [some (.int c1), some (.int c2), some (.int c3), some (.ref ph), some (.ref ps), some (.ref pn), some (.ref p6), some (.ref pr2), some (.ref pf), y9, y10, some (.ref pg), none] ∧ Xt H20 H' ∧ H' pg = some (.lst gs) ∧ DpAll K H' gs (P.map pD) ∧ P.length = i ∧ ∀ (j : Nat) (r : Str × List Str), P[j]? = some r → ns[s0.toNat + s1.toNat + j]? = some r.1 ∧ r.2.length ≤ 3 ∧ ∀ s ∈ r.2, s ∈ S) ⟨_, _, [], [], rfl, xg, eg, .nil, rfl, fun j r h => by simp at h⟩ ?_ ?_
    · rintro i σ' H' hi ⟨y9', y10', P, gs, rfl, xx, ep, hP0, hPl, hPr⟩
      have hi10 : (i : Int) < 10 := by omega
      have hi0 : 0 ≤ (i : Int) := by omega
      rw [show ((0 : Int) + (i : Int)) = (i : Int) by omega]
      obtain ⟨g0, ag0, lg0, ug0⟩ := hR.get (s := 8) (4 * i) (4 * (i : Int)) (by omega) (by have := flat_at [8, 12, 12, 12] s2.toNat i 0 hi (by decide); simpa using this)
      obtain ⟨m, hm, hm'⟩ := atI_int (ns := tabP') (i := g0) lg0 (by show g0 < 8; exact ug0)
      have hm3 : 0 ≤ m ∧ m ≤ 3 := (by decide : ∀ s ∈ tabP', 0 ≤ s ∧ s ≤ 3) m (List.mem_of_getElem? hm')
      have hrsl : rs.length = 4 * s2.toNat := by rw [hR.1, flat_len]; rfl
      have eR' := xl xx (sql (K := K) e20)
      have eN' := xl xx (sql (K := K) en20)
      have eS' := xl xx (sql (K := K) eS20)
      have eZ' := xl xx (sql (K := K) es20)
      have hSpos : (0 : Int) < ((S.map V.str).length : Int) := by rw [List.length_map]; omega
      walk_at "6"
      walk_at "0"
      walk_at "1"
      walk_at "11"
      walk_at "9"
      walk_at "51"
      walk_at "38"
      walk_at "48"
      walk_at "69"
      walk_at "50"
      walk_at "8"
      walk_at "8"
      walk_at "7"
      walk_at "69"
      walk_at "72"
      walk_at "7"
      walk_at "56"
      walk_at "88"
      walk_at "50"
      walk_at "8"
      walk_at "8"
      walk_at "8"
      walk_at "7"
      walk_at "69"
      walk_at "72"
      walk_at "7"
      walk_at "56"
      walk_at "8"
      walk_at "34"
      walk_at "9"
      walk_at "7"
      walk_at "9"
      walk_at "7"
      walk_at "9"
      walk_at "7"
      walk_at "9"
      walk_at "7"
      walk_at "9"
      walk_at "7"
      walk_at "9"
      walk_at "7"
      walk_at "9"
      walk_at "7"
      walk_at "9"
      walk_at "7"
      walk_at "10"
      walk_at "82"
      intro pT HT nT xT eT
      have eRT := xl xT eR'
      walk_at "8"
      walk_at "69"
      walk_at "8"
      walk_at "7"
      walk_at "69"
      walk_at "72"
      walk_at "79"
      walk_at "79"
      walk_at "56"
      walk_at "88"
      refine v_sl_l eRT fun p11 H11 n11 x11 e11 => ?_
      have hcl := cutV_len (xs := rs.map V.int) (lo := 4 * (i : Int) + 1) (hi := 4 * (i : Int) + 1 + m) (by omega) (by omega) (by rw [List.length_map]; omega)
      have xT11 := xtr xT x11
      have eS11 := xl xT11 eS'
      walk_at "88"
      refine ⟨⟨_, sql e11⟩, b_lst (fun i y => ∃ s, y = .str s ∧ s ∈ S) (sql e11) (by omega) (fun x => rfl) ?_ ?_⟩
      · intro i2 x H'' hx xx2 R hR2
        obtain ⟨n, rfl⟩ : ∃ n, x = .int n := by
          obtain ⟨n, _, rfl⟩ := List.mem_map.mp (cutV_mem (List.mem_of_getElem? hx))
          exact ⟨n, rfl⟩
        have eS'' := xl xx2 eS11
        obtain ⟨c, hc⟩ := atI_mod (l := S.map V.str) (i := n) (by omega)
        obtain ⟨s, hs, rfl⟩ := List.mem_map.mp (atI_mem hc)
        walk_at "8"
        walk_at "69"
        walk_at "8"
        walk_at "11"
        walk_at "9"
        walk_at "69"
        walk_at "10"
        walk_at "57"
        walk_at "11"
        walk_at "9"
        walk_at "69"
        walk_at "10"
        walk_at "77"
        walk_at "70"
        walk_at "79"
        exact hR2 _ _ (xrefl _) ⟨s, rfl, hs⟩
      intro Dl ys H12 hDl hl hP x12 e12
      obtain ⟨as, rfl, has⟩ := list_exP (f := V.str) (P := fun s => s ∈ S) hP
      rw [List.length_map] at hl
      walk_at "10"
      refine v_tupl (sql e12) fun pt H13 n13 x13 e13 => ?_
      have x' := xtr xT11 (xtr x12 x13)
      have ep13 := x' _ _ ep
      have eN13 := xl x' eN'
      have eZ13 := xl x' eZ'
      obtain ⟨nm, hnm⟩ : ∃ nm, ns[s0.toNat + s1.toNat + i]? = some nm := ⟨_, List.getElem?_eq_getElem (by omega)⟩
      have hnmA : atI (ns.map V.str) (s0 + s1 + (i : Int)) = some (.str nm) := by
        rw [show s0 + s1 + (i : Int) = ((s0.toNat + s1.toNat + i : Nat) : Int) by omega]
        exact atI_nat (by rw [List.getElem?_map, hnm]; rfl)
      walk_at "6"
      walk_at "3"
      walk_at "36"
      walk_at "69"
      refine ⟨ty_l ep13, ?_⟩
      walk_at "9"
      walk_at "35"
      walk_at "9"
      walk_at "8"
      walk_at "69"
      walk_at "8"
      walk_at "8"
      walk_at "8"
      walk_at "69"
      walk_at "7"
      walk_at "79"
      walk_at "8"
      walk_at "69"
      walk_at "7"
      walk_at "79"
      walk_at "56"
      walk_at "69"
      walk_at "56"
      walk_at "79"
      walk_at "9"
      walk_at "69"
      walk_at "10"
      walk_at "83"
      intro pq H14 n14 x14 e14
      have hfl := hP0.len
      rw [List.length_map] at hfl
      walk_at "10"
      refine v_app (x14 _ _ ep13) (by omega) ?_
      skip
      have xF := xtr x' x14
      refine ⟨_, _, P ++ [(nm, as)], gs ++ [.ref pq], rfl, xmut (xtr xx xF) ng, upd_same, ?_, by rw [List.length_append, List.length_singleton, hPl], ?_⟩
      · rw [List.map_append]
        refine DpAll.im (fun _ _ h => SqT.upd (x14 _ _ ep13) h) (imAll_iff.mpr fun d hd => ?_) (DpAll.app (DpAll.mono xF hP0) (.cons (.of_tup e14 (.cons (.str nm) (.cons (Dp.mono x14 (.of_tup e13 (DpAll.strs as))) .nil))) .nil))
        rcases List.mem_append.mp hd with hd | hd
        · obtain ⟨r, _, rfl⟩ := List.mem_map.mp hd; exact im_pD r
        · obtain ⟨r, _, rfl⟩ := List.mem_map.mp hd; exact im_pD r
      · intro j r hj
        by_cases hjl : j < P.length
        · rw [List.getElem?_append_left hjl] at hj
          exact hPr j r hj
        · have hje : j = P.length := by
            have := (List.getElem?_eq_some_iff.mp hj).1
            rw [List.length_append, List.length_singleton] at this; omega
          subst hje
          rw [List.getElem?_append_right (Nat.le_refl _), Nat.sub_self] at hj
          simp at hj
          subst hj
          rw [hPl]
          exact ⟨hnm, by show as.length ≤ 3; omega, has⟩
    · rintro σ' H30 ⟨y9', y10', P, gs, rfl, x30, eg30, hP30, hPl, hPr⟩
      walk_at "2"
      walk_at "34"
      walk_at "9"
      walk_at "69"
      walk_at "9"
      walk_at "69"
      walk_at "9"
      walk_at "69"
      walk_at "10"
      walk_at "82"
      intro pz Hz nz xz ez
      have x3z := xtr x30 xz
      refine q pz Hz ⟨S, F, P⟩ (xtr x020 x3z) ⟨p6, pf, pg, fs, gs, ez, x3z _ _ eS20, x3z _ _ ef20, DpAll.mono x3z hF20, xz _ _ eg30, DpAll.mono xz hP30⟩ ?_ ?_
      · exact lex_ok hnd hnn (by show S = ns.take S.length; rw [hSl]; exact hS.symm) (by show ∀ (j : Nat) (r : Str × List Str × Str), F[j]? = some r → ns[S.length + j]? = some r.1 ∧ _; rw [hSl]; exact hFr) (by show ∀ (j : Nat) (r : Str × List Str), P[j]? = some r → ns[S.length + F.length + j]? = some r.1 ∧ _; rw [hSl, hFl]; exact hPr) (by show ns.length = S.length + F.length + P.length; omega) (by show S.length ≤ 4; omega) (by show F.length ≤ 10; omega) (by show P.length ≤ 10; omega)
      · intro h
        have h' : S = [] := h
        rw [h'] at hSl
        simp at hSl
        omega



theorem ok_Vocabulary___init__ (T : Top0 P K mg) : FnOk P w K mg base CX0 4 T.f_Vocabulary___init__ T.fd_Vocabulary___init__ ["self", "sorts", "functions", "predicates"] (sp_Vocabulary___init__ T) := by
  refine T.F_Vocabulary___init__.ok sc_Vocabulary___init__ (fun vs H Q E h => ?_) (fun cdv A outer s H vs Q E hr h => ?_)
  · obtain ⟨a, dx, v1, v2, v3, x, rfl, hA, hv1, hv2, hv3, ok, q⟩ := h
    rfl
  · obtain ⟨a, dx, v1, v2, v3, x, rfl, hA, hv1, hv2, hv3, ok, q⟩ := h
    refine ⟨_, (pss_cons (ps_fld (pv 0) (pe_callTy (r := rTup K) call_tupU (by rfl) T.n_tuple (by decide +kernel) (pa_cons (pv 1) pa_nil)) rfl)
      (pss_cons (ps_fld (pv 0) (pe_callTy (r := rTup K) call_tupU (by rfl) T.n_tuple (by decide +kernel) (pa_cons (pe_lc (own := [("name", 4), ("arguments", 10), ("sort", 5)]) (g := gTup K 3 (gCons (gName 4) (gCons (gName 10) (gCons (gName 5) gNil)))) rfl sc_Vocabulary___init__.nd (pi_list (pv 2)) (blkOk_by (N := N_Vocabulary___init__) (sc := defScope s_Vocabulary___init__) (by decide +kernel)) (fun _ _ _ _ _ => (pg_tup rfl (pgs_cons (pg_name (i := 4) sc_Vocabulary___init__.nd rfl (Or.inl rfl)) (pgs_cons (pg_name (i := 10) sc_Vocabulary___init__.nd rfl (Or.inl rfl)) (pgs_cons (pg_name (i := 5) sc_Vocabulary___init__.nd rfl (Or.inl rfl)) pgs_nil))))) (fun _ _ _ _ _ => pts_nil) (fun _ _ _ _ _ => (pe_tup (pa_cons (pv 4) (pa_cons (pe_callTy (r := rTup K) call_tupU (by rfl) T.n_tuple (by decide +kernel) (pa_cons (pv 10) pa_nil)) (pa_cons (pv 5) pa_nil)))))) pa_nil)) rfl)
      (pss_cons (ps_fld (pv 0) (pe_callTy (r := rTup K) call_tupU (by rfl) T.n_tuple (by decide +kernel) (pa_cons (pe_lc (own := [("name", 4), ("arguments", 10)]) (g := gTup K 2 (gCons (gName 4) (gCons (gName 10) gNil))) rfl sc_Vocabulary___init__.nd (pi_list (pv 3)) (blkOk_by (N := N_Vocabulary___init__) (sc := defScope s_Vocabulary___init__) (by decide +kernel)) (fun _ _ _ _ _ => (pg_tup rfl (pgs_cons (pg_name (i := 4) sc_Vocabulary___init__.nd rfl (Or.inl rfl)) (pgs_cons (pg_name (i := 10) sc_Vocabulary___init__.nd rfl (Or.inl rfl)) pgs_nil)))) (fun _ _ _ _ _ => pts_nil) (fun _ _ _ _ _ => (pe_tup (pa_cons (pv 4) (pa_cons (pe_callTy (r := rTup K) call_tupU (by rfl) T.n_tuple (by decide +kernel) (pa_cons (pv 10) pa_nil)) pa_nil))))) pa_nil)) rfl)
      (pss_cons (ps_setLc (i := 6) (own := [("name", 4)]) (g := gName 4) rfl sc_Vocabulary___init__.nd rfl rfl (sw_true rfl rfl rfl (by decide +kernel)) (pi_tup (show PE _ _ (tFld K _ _) from pe_fld (pv 0) rfl)) (blkOk_by (N := N_Vocabulary___init__) (sc := defScope s_Vocabulary___init__) (by decide +kernel)) (fun _ _ _ _ _ => (pg_name (i := 4) sc_Vocabulary___init__.nd rfl (Or.inl rfl))) (fun _ _ _ _ _ => pts_nil) (fun _ _ _ _ _ => (pe_tup (pa_cons (pv 4) (pa_cons (pe_tup pa_nil) pa_nil)))))
      (pss_cons (ps_expr (pe_bm PySem.F.plainAttrs_list PySem.F.slot_list_extend PySem.F.type_list_extend mt_extU (pv 6) (pa_cons (pe_lc (own := [("name", 4), ("arguments", 10), ("sort", 5)]) (g := gTup K 3 (gCons (gName 4) (gCons (gName 10) (gCons (gName 5) gNil)))) rfl sc_Vocabulary___init__.nd (pi_tup (show PE _ _ (tFld K _ _) from pe_fld (pv 0) rfl)) (blkOk_by (N := N_Vocabulary___init__) (sc := defScope s_Vocabulary___init__) (by decide +kernel)) (fun _ _ _ _ _ => (pg_tup rfl (pgs_cons (pg_name (i := 4) sc_Vocabulary___init__.nd rfl (Or.inl rfl)) (pgs_cons (pg_name (i := 10) sc_Vocabulary___init__.nd rfl (Or.inl rfl)) (pgs_cons (pg_name (i := 5) sc_Vocabulary___init__.nd rfl (Or.inl rfl)) pgs_nil))))) (fun _ _ _ _ _ => pts_nil) (fun _ _ _ _ _ => (pe_tup (pa_cons (pv 4) (pa_cons (pe_op (r := rPlus K) op_plus (pv 10) (pe_tup (pa_cons (pv 5) pa_nil))) pa_nil))))) pa_nil)))
      (pss_cons (ps_expr (pe_bm PySem.F.plainAttrs_list PySem.F.slot_list_extend PySem.F.type_list_extend mt_extU (pv 6) (pa_cons (show PE _ _ (tFld K _ _) from pe_fld (pv 0) rfl) pa_nil)))
      (pss_cons (ps_expr (pe_call (ok__check_rows T) (hr.mono (by first | decide | exact Nat.le_refl _ | omega | (show _ ≤ _ + n; omega))) (by rfl) T.g__check_rows T.F__check_rows.kp T.b__check_rows .nil pass0 (pa_cons (pv 6) (pa_cons (show PE _ _ (tFld K _ _) from pe_fld (pv 0) rfl) pa_nil))))
      (pss_cons (ps_fld (pv 0) (pe_dc (own := [("row", 9)]) (g := gName 9) rfl sc_Vocabulary___init__.nd (pi_list (pv 6)) (blkOk_by (N := N_Vocabulary___init__) (sc := defScope s_Vocabulary___init__) (by decide +kernel)) (fun _ _ _ _ _ => (pg_name (i := 9) sc_Vocabulary___init__.nd rfl (Or.inl rfl))) (fun _ _ _ _ _ => pts_nil) (fun _ _ _ _ _ => (pe_ix (r := rIx K) ix_seq (pv 9) pe_int (fun _ _ => rfl))) (fun _ _ _ _ _ => pe_bl)) rfl)
      (pss_cons (ps_fld (pv 0) (pe_dc (own := [("row", 9)]) (g := gName 9) rfl sc_Vocabulary___init__.nd (pi_tup (pe_op (r := rPlus K) op_plus (show PE _ _ (tFld K _ _) from pe_fld (pv 0) rfl) (show PE _ _ (tFld K _ _) from pe_fld (pv 0) rfl))) (blkOk_by (N := N_Vocabulary___init__) (sc := defScope s_Vocabulary___init__) (by decide +kernel)) (fun _ _ _ _ _ => (pg_name (i := 9) sc_Vocabulary___init__.nd rfl (Or.inl rfl))) (fun _ _ _ _ _ => pts_nil) (fun _ _ _ _ _ => (pe_ix (r := rIx K) ix_seq (pv 9) pe_int (fun _ _ => rfl))) (fun _ _ _ _ _ => (pe_ix (r := rIx K) ix_seq (pv 9) pe_int (fun _ _ => rfl)))) rfl)
      (pss_cons (ps_setDc (i := 8) (own := [("name", 4), ("_", 7)]) (g := gTup K 2 (gCons (gName 4) (gCons (gName 7) gNil))) rfl sc_Vocabulary___init__.nd rfl rfl (sw_trueD rfl rfl rfl (by decide +kernel)) (pi_tup (show PE _ _ (tFld K _ _) from pe_fld (pv 0) rfl)) (blkOk_by (N := N_Vocabulary___init__) (sc := defScope s_Vocabulary___init__) (by decide +kernel)) (fun _ _ _ _ _ => (pg_tup rfl (pgs_cons (pg_name (i := 4) sc_Vocabulary___init__.nd rfl (Or.inl rfl)) (pgs_cons (pg_name (i := 7) sc_Vocabulary___init__.nd rfl (Or.inl rfl)) pgs_nil)))) (fun _ _ _ _ _ => pts_nil) (fun _ _ _ _ _ => (pv 4)) (fun _ _ _ _ _ => (pe_glob (v := .str "truth") (by rfl) T.c_TRUTH_SORT ⟨_, rfl⟩)))
      (pss_cons (ps_for PassesOwn.never rfl (pi_tup (show PE _ _ (tFld K _ _) from pe_fld (pv 0) rfl)) (pg_tup rfl (pgs_cons (pg_name (i := 4) sc_Vocabulary___init__.nd rfl (Or.inl rfl)) (pgs_cons (pg_name (i := 7) sc_Vocabulary___init__.nd rfl (Or.inl rfl)) (pgs_cons (pg_name (i := 5) sc_Vocabulary___init__.nd rfl (Or.inl rfl)) pgs_nil)))) (pss_one (ps_dput (hu_of hr) (pv 8) (pv 4) (pv 5) rfl)))
      (pss_one (ps_fld (pv 0) (pv 8) rfl))))))))))))), ?_⟩
    have hlen := ok.len
    unfold Lex.rows at hlen
    rw [List.length_append, List.length_append, List.length_map, List.length_map] at hlen
    walk_at "0"
    walk_at "26"
    walk_at "11"
    walk_at "9"
    walk_at "69"
    walk_at "10"
    refine d_tupl hv1 fun s1 H1 x1 hs1 => ?_
    walk_at "69"
    refine v_sfld (x1 _ _ hA) T.cl_Vocabulary T.na_Vocabulary_sorts (by decide) ?_
    have i1 := x1 _ _ hA
    have hs1' := dpa i1 (xa_upd (o := .ins T.C_Vocabulary dx (putF "sorts" s1 []))) hs1
    have hv2' := dpa i1 (xa_upd (o := .ins T.C_Vocabulary dx (putF "sorts" s1 []))) (Dp.mono x1 hv2)
    have hv3' := dpa i1 (xa_upd (o := .ins T.C_Vocabulary dx (putF "sorts" s1 []))) (Dp.mono x1 hv3)
    have xa1 : Xa a H (upd H1 a (.ins T.C_Vocabulary dx (putF "sorts" s1 []))) := xa_tr (xa_of x1) xa_upd
    have i2 : (upd H1 a (.ins T.C_Vocabulary dx (putF "sorts" s1 []))) a = some (.ins T.C_Vocabulary dx (putF "sorts" s1 [])) := upd_same
    generalize upd H1 a (.ins T.C_Vocabulary dx (putF "sorts" s1 [])) = H2 at hs1' hv2' hv3' xa1 i2
    have l1 : (putF "sorts" s1 ([] : List (Str × V))).length = 1 := rfl
    have hk1 : ∀ g : Str, (putF "sorts" s1 ([] : List (Str × V))).lookup g = if g = "sorts" then some s1 else none := fun g => lookup_putF _ _ _ _
    generalize putF "sorts" s1 [] = F1 at i2 l1 hk1
    clear hs1 i1 x1 hA hv1 hv2 hv3
    obtain ⟨a2, xs2, rfl, hS2, hd2⟩ := Dp.lst_inv hv2'
    obtain ⟨a3, xs3, rfl, hS3, hd3⟩ := Dp.lst_inv hv3'
    walk_at "0"
    walk_at "26"
    walk_at "11"
    walk_at "9"
    walk_at "51"
    walk_at "38"
    walk_at "69"
    walk_at "88"
    refine ⟨⟨_, hS2⟩, b_dat walk_list (fun H' x' => xl x' hS2) hd2 (fun d => d) ?_ ?_ ?_ ?_ (gm_tup (gsm_cons (gsm_cons (gsm_cons gsm_nil))))⟩
    · intro d hd
      obtain ⟨r, _, rfl⟩ := List.mem_map.mp hd
      exact im_fD r
    · rw [List.length_map]; omega
    · intro v d H' hv hd xx R hR
      obtain ⟨r, hr9, rfl⟩ := List.mem_map.mp hd
      refine k_gtup hv rfl fun ws hws => ?_
      refine k_gcons hws fun w1 ws1 hw1 hws1 => ?_
      refine k_gcons hws1 fun w2 ws2 hw2 hws2 => ?_
      refine k_gcons hws2 fun w3 ws3 hw3 hws3 => ?_
      refine k_gnil hws3 ⟨rfl, ?_⟩
      walk_at "35"
      walk_at "9"
      walk_at "69"
      walk_at "9"
      walk_at "11"
      walk_at "9"
      walk_at "69"
      walk_at "10"
      refine d_tupt hw2 ?_
      walk_at "9"
      walk_at "69"
      walk_at "10"
      walk_at "83"
      exact fun p'' H'' _ x'' e'' => hR _ _ x'' (.of_tup e'' (DpAll.mono x'' (.cons hw1 (.cons hw2 (.cons hw3 .nil)))))
    intro D2 ys2 H3 hD2 x3 e3 hys2
    rw [List.map_id'] at hys2
    walk_at "10"
    refine d_tupl (.of_lst e3 hys2) fun s2 H4 x4 hs2 => ?_
    walk_at "69"
    have x34 := xtr x3 x4
    have i4 := x34 _ _ i2
    refine v_sfld i4 T.cl_Vocabulary T.na_Vocabulary_functions (by omega) ?_
    have hs1'' := dpa i4 (xa_upd (o := .ins T.C_Vocabulary dx (putF "functions" s2 F1))) (Dp.mono x34 hs1')
    have hs2' := dpa i4 (xa_upd (o := .ins T.C_Vocabulary dx (putF "functions" s2 F1))) hs2
    have hS3' := xal i4 (xa_upd (o := .ins T.C_Vocabulary dx (putF "functions" s2 F1))) _ _ (xl x34 hS3)
    have hd3' := DpAll.gen (xat i4 (xa_upd (o := .ins T.C_Vocabulary dx (putF "functions" s2 F1)))) (xal i4 (xa_upd (o := .ins T.C_Vocabulary dx (putF "functions" s2 F1)))) (DpAll.mono x34 hd3)
    have xa2 : Xa a H (upd H4 a (.ins T.C_Vocabulary dx (putF "functions" s2 F1))) := xa_tr xa1 (xa_tr (xa_of x34) xa_upd)
    have i5 : (upd H4 a (.ins T.C_Vocabulary dx (putF "functions" s2 F1))) a = some (.ins T.C_Vocabulary dx (putF "functions" s2 F1)) := upd_same
    generalize upd H4 a (.ins T.C_Vocabulary dx (putF "functions" s2 F1)) = H5 at hs1'' hs2' hS3' hd3' xa2 i5
    have l2 : (putF "functions" s2 F1).length ≤ 2 := by
      have := putF_len "functions" s2 F1; omega
    have hk2 : ∀ g : Str, (putF "functions" s2 F1).lookup g = if g = "functions" then some s2 else if g = "sorts" then some s1 else none := fun g => by rw [lookup_putF, hk1]
    generalize putF "functions" s2 F1 = F2 at i5 l2 hk2
    clear hs2 i4 x34 x4 x3 e3 hys2 hd3 hS3 hs1' hd2 hS2 hv2' hv3' i2 xa1 hD2
    walk_at "0"
    walk_at "26"
    walk_at "11"
    walk_at "9"
    walk_at "51"
    walk_at "38"
    walk_at "69"
    walk_at "88"
    refine ⟨⟨_, hS3'⟩, b_dat walk_list (fun H' x' => xl x' hS3') hd3' (fun d => d) ?_ ?_ ?_ ?_ (gm_tup (gsm_cons (gsm_cons gsm_nil)))⟩
    · intro d hd
      obtain ⟨r, _, rfl⟩ := List.mem_map.mp hd
      exact im_pD r
    · rw [List.length_map]; omega
    · intro v d H' hv hd xx R hR
      obtain ⟨r, hr9, rfl⟩ := List.mem_map.mp hd
      refine k_gtup hv rfl fun ws hws => ?_
      refine k_gcons hws fun w1 ws1 hw1 hws1 => ?_
      refine k_gcons hws1 fun w2 ws2 hw2 hws2 => ?_
      refine k_gnil hws2 ⟨rfl, ?_⟩
      walk_at "35"
      walk_at "9"
      walk_at "69"
      walk_at "9"
      walk_at "11"
      walk_at "9"
      walk_at "69"
      walk_at "10"
      refine d_tupt hw2 ?_
      walk_at "10"
      walk_at "83"
      exact fun p'' H'' _ x'' e'' => hR _ _ x'' (.of_tup e'' (DpAll.mono x'' (.cons hw1 (.cons hw2 .nil))))
    intro D3 ys3 H6 hD3 x6 e6 hys3
    rw [List.map_id'] at hys3
    walk_at "10"
    refine d_tupl (.of_lst e6 hys3) fun s3 H7 x7 hs3 => ?_
    walk_at "69"
    have x67 := xtr x6 x7
    have i7 := x67 _ _ i5
    refine v_sfld i7 T.cl_Vocabulary T.na_Vocabulary_predicates (by omega) ?_
    have hs1 := dpa i7 (xa_upd (o := .ins T.C_Vocabulary dx (putF "predicates" s3 F2))) (Dp.mono x67 hs1'')
    have hs2 := dpa i7 (xa_upd (o := .ins T.C_Vocabulary dx (putF "predicates" s3 F2))) (Dp.mono x67 hs2')
    have hs3' := dpa i7 (xa_upd (o := .ins T.C_Vocabulary dx (putF "predicates" s3 F2))) hs3
    have xa3 : Xa a H (upd H7 a (.ins T.C_Vocabulary dx (putF "predicates" s3 F2))) := xa_tr xa2 (xa_tr (xa_of x67) xa_upd)
    have i8 : (upd H7 a (.ins T.C_Vocabulary dx (putF "predicates" s3 F2))) a = some (.ins T.C_Vocabulary dx (putF "predicates" s3 F2)) := upd_same
    generalize upd H7 a (.ins T.C_Vocabulary dx (putF "predicates" s3 F2)) = H8 at hs1 hs2 hs3' xa3 i8
    have l3 : (putF "predicates" s3 F2).length ≤ 3 := by
      have := putF_len "predicates" s3 F2; omega
    have hk3 : ∀ g : Str, (putF "predicates" s3 F2).lookup g = if g = "predicates" then some s3 else if g = "functions" then some s2 else if g = "sorts" then some s1 else none := fun g => by rw [lookup_putF, hk2]
    generalize putF "predicates" s3 F2 = F3 at i8 l3 hk3
    clear hs3 i7 x67 x7 x6 e6 hys3 hd3' hS3' hs1'' hs2' i5 xa2 hD3 hk1 hk2 l1 l2
    have k3s : F3.lookup ("sorts" : Str) = some s1 := by rw [hk3]; rfl
    have k3f : F3.lookup ("functions" : Str) = some s2 := by rw [hk3]; rfl
    have k3p : F3.lookup ("predicates" : Str) = some s3 := by rw [hk3]; rfl
    obtain ⟨b1, ys1, rfl, hT1, hc1⟩ := Dp.tup_inv hs1
    walk_at "0"
    walk_at "1"
    walk_at "51"
    walk_at "39"
    walk_at "25"
    walk_at "69"
    refine v_fld i8 T.cl_Vocabulary T.na_Vocabulary_sorts k3s ?_
    walk_at "88"
    refine ⟨⟨_, hT1⟩, b_dat walk_tup (fun H' x' => xt x' hT1) hc1 rowS ?_ ?_ ?_ ?_ gm_name⟩
    · intro d hd
      obtain ⟨z, _, rfl⟩ := List.mem_map.mp hd
      rfl
    · rw [List.length_map]; have := ok.slen; omega
    · intro v d H' hv hd xx R hR
      obtain ⟨z, _, rfl⟩ := List.mem_map.mp hd
      cases Dp.str_inv hv
      walk_at "6"
      refine ⟨rfl, ?_⟩
      walk_at "35"
      walk_at "9"
      walk_at "69"
      walk_at "9"
      walk_at "35"
      walk_at "10"
      walk_at "83"
      intro p9 H9 _ x9 e9
      have hv9 : Dp K H9 (.ref p9) (.tuple []) := .of_tup e9 .nil
      walk_at "10"
      walk_at "83"
      exact fun p'' H'' _ x'' e'' => hR _ _ (xtr x9 x'') (.of_tup e'' (DpAll.mono x'' (.cons (.str z) (.cons hv9 .nil))))
    intro rw_ ysr H9 hDr x9 er hysr
    have i9 := x9 _ _ i8
    have hs2 := Dp.mono x9 hs2
    obtain ⟨b2, ys2', rfl, hT2, hc2⟩ := Dp.tup_inv hs2
    walk_at "6"
    walk_at "0"
    walk_at "3"
    walk_at "36"
    walk_at "69"
    refine ⟨ty_l er, ?_⟩
    walk_at "9"
    walk_at "51"
    walk_at "39"
    walk_at "25"
    walk_at "69"
    refine v_fld i9 T.cl_Vocabulary T.na_Vocabulary_functions k3f ?_
    walk_at "88"
    refine ⟨⟨_, hT2⟩, b_dat walk_tup (fun H' x' => xt x' hT2) hc2 rowF ?_ ?_ ?_ ?_ (gm_tup (gsm_cons (gsm_cons (gsm_cons gsm_nil))))⟩
    · intro d hd
      obtain ⟨r, _, rfl⟩ := List.mem_map.mp hd
      have h := imStrs r.2.1
      show Im (.tuple [.str r.1, .tuple (r.2.1.map PyData.str ++ [.str r.2.2])]) = true
      have := im_pD (r.1, r.2.1 ++ [r.2.2])
      unfold pD at this
      rw [List.map_append] at this
      exact this
    · rw [List.length_map]; omega
    · intro v d H' hv hd xx R hR
      obtain ⟨r, hr9, rfl⟩ := List.mem_map.mp hd
      refine k_gtup hv rfl fun ws hws => ?_
      refine k_gcons hws fun w1 ws1 hw1 hws1 => ?_
      refine k_gcons hws1 fun w2 ws2 hw2 hws2 => ?_
      refine k_gcons hws2 fun w3 ws3 hw3 hws3 => ?_
      refine k_gnil hws3 ⟨rfl, ?_⟩
      walk_at "35"
      walk_at "9"
      walk_at "69"
      walk_at "9"
      walk_at "8"
      walk_at "69"
      walk_at "35"
      walk_at "9"
      walk_at "69"
      walk_at "10"
      walk_at "83"
      intro p9 H9 _ x9 e9
      have hv9 : Dp K H9 (.ref p9) (.tuple [.str r.2.2]) := .of_tup e9 (DpAll.mono x9 (.cons hw3 .nil))
      skip
      refine d_plus (Dp.mono x9 hw2) hv9 ?_ fun v4 H10 x10 hv10 => ?_
      · have := ok.wl (r.1, r.2.1 ++ [r.2.2]) (by unfold Lex.rows; exact List.mem_append_left _ (List.mem_append_right _ (List.mem_map.mpr ⟨r, by assumption, rfl⟩)))
        simp only [List.length_append, List.length_cons, List.length_nil, List.length_map] at this ⊢
        omega
      walk_at "10"
      walk_at "83"
      exact fun p'' H'' _ x'' e'' => hR _ _ (xtr (xtr x9 x10) x'') (.of_tup e'' (DpAll.mono x'' (.cons (Dp.mono (xtr x9 x10) hw1) (.cons hv10 .nil))))
    intro De yse H10 hDe x10 ee hyse
    walk_at "10"
    have er10 := x10 _ _ er
    have hysr10 := DpAll.mono x10 hysr
    have hlr := hysr.len
    have hle := hyse.len
    rw [List.length_map, List.length_map] at hlr hle
    have hsl := ok.slen
    refine v_extU er10 ee (by omega) ?_
    have imr : ImAll ((x.S.map PyData.str).map rowS ++ (x.F.map fD).map rowF ++ x.P.map pD) = true := by
      rw [rows_map]
      exact imAll_iff.mpr fun d hd => by
        obtain ⟨r, _, rfl⟩ := List.mem_map.mp hd
        exact im_pD r
    have imr2 : ImAll ((x.S.map PyData.str).map rowS ++ (x.F.map fD).map rowF) = true := imAll_iff.mpr fun d hd => imAll_iff.mp imr d (List.mem_append_left _ hd)
    have hr11 : DpAll K (upd H10 rw_ (.lst (ysr ++ yse))) (ysr ++ yse) ((x.S.map PyData.str).map rowS ++ (x.F.map fD).map rowF) := DpAll.im (fun _ _ h => SqT.upd er10 h) imr2 (DpAll.app hysr10 hyse)
    have er11 : (upd H10 rw_ (.lst (ysr ++ yse))) rw_ = some (.lst (ysr ++ yse)) := upd_same
    have xa11 : Xa a H (upd H10 rw_ (.lst (ysr ++ yse))) := xa_mut (xa_tr xa3 (xa_of (xtr x9 x10))) (xa_free xa3 i8 hDr)
    have sp11 : ∀ p xs, SqT K H8 p xs → SqT K (upd H10 rw_ (.lst (ysr ++ yse))) p xs := fun p xs h => SqT.upd er10 (xt (xtr x9 x10) h)
    have i11 : (upd H10 rw_ (.lst (ysr ++ yse))) a = some (.ins T.C_Vocabulary dx F3) := by
      rw [upd_ne (fun h => by have := x9 _ _ i8; rw [h, er] at this; cases this)]
      exact x10 _ _ i9
    have hs1_11 := Dp.im (H' := upd H10 rw_ (.lst (ysr ++ yse))) sp11 (by show ImAll _ = true; exact imStrs _) hs1
    have hs2_11 := Dp.im (H' := upd H10 rw_ (.lst (ysr ++ yse))) (fun p xs h => SqT.upd er10 (xt x10 h)) (by show ImAll _ = true; exact imAll_iff.mpr fun d hd => by obtain ⟨r, _, rfl⟩ := List.mem_map.mp hd; exact im_fD r) hs2
    have hs3_11 := Dp.im (H' := upd H10 rw_ (.lst (ysr ++ yse))) sp11 (by show ImAll _ = true; exact imAll_iff.mpr fun d hd => by obtain ⟨r, _, rfl⟩ := List.mem_map.mp hd; exact im_pD r) hs3'
    have hrf : H rw_ = none := xa_free xa3 i8 hDr
    generalize upd H10 rw_ (.lst (ysr ++ yse)) = H11 at hr11 er11 xa11 i11 hs1_11 hs2_11 hs3_11
    walk_at "0"
    walk_at "3"
    walk_at "36"
    walk_at "69"
    refine ⟨ty_l er11, ?_⟩
    walk_at "9"
    walk_at "25"
    walk_at "69"
    refine v_fld i11 T.cl_Vocabulary T.na_Vocabulary_predicates k3p ?_
    walk_at "10"
    obtain ⟨b3, ys3', rfl, hT3, hc3⟩ := Dp.tup_inv hs3_11
    have hc3l := hc3.len
    rw [List.length_map] at hc3l
    refine v_extT er11 hT3 (by rw [List.length_append]; omega) ?_
    have hr12 : DpAll K (upd H11 rw_ (.lst (ysr ++ yse ++ ys3'))) (ysr ++ yse ++ ys3') (x.rows.map pD) := by
      rw [← rows_map]
      exact DpAll.im (fun _ _ h => SqT.upd er11 h) imr (DpAll.app hr11 hc3)
    have er12 : (upd H11 rw_ (.lst (ysr ++ yse ++ ys3'))) rw_ = some (.lst (ysr ++ yse ++ ys3')) := upd_same
    have xa12 : Xa a H (upd H11 rw_ (.lst (ysr ++ yse ++ ys3'))) := xa_mut xa11 hrf
    have i12 : (upd H11 rw_ (.lst (ysr ++ yse ++ ys3'))) a = some (.ins T.C_Vocabulary dx F3) := by
      rw [upd_ne (fun h => by rw [h, er11] at i11; cases i11)]
      exact i11
    have hs1_12 := Dp.im (H' := upd H11 rw_ (.lst (ysr ++ yse ++ ys3'))) (fun p xs h => SqT.upd er11 h) (by show ImAll _ = true; exact imStrs _) hs1_11
    have hs2_12 := Dp.im (H' := upd H11 rw_ (.lst (ysr ++ yse ++ ys3'))) (fun p xs h => SqT.upd er11 h) (by show ImAll _ = true; exact imAll_iff.mpr fun d hd => by obtain ⟨r, _, rfl⟩ := List.mem_map.mp hd; exact im_fD r) hs2_11
    have hs3_12 := Dp.im (H' := upd H11 rw_ (.lst (ysr ++ yse ++ ys3'))) (fun p xs h => SqT.upd er11 h) (by show ImAll _ = true; exact imAll_iff.mpr fun d hd => by obtain ⟨r, _, rfl⟩ := List.mem_map.mp hd; exact im_pD r) hs3_11
    generalize upd H11 rw_ (.lst (ysr ++ yse ++ ys3')) = H12 at hr12 er12 xa12 i12 hs1_12 hs2_12 hs3_12
    walk_at "0"
    walk_at "3"
    walk_at "12"
    walk_at "9"
    walk_at "69"
    walk_at "9"
    walk_at "25"
    walk_at "69"
    refine v_fld i12 T.cl_Vocabulary T.na_Vocabulary_sorts k3s ?_
    walk_at "10"
    refine ⟨.ref rw_, _, x.S, x.rows, rfl, .of_lst er12 hr12, hs1_12, ok, fun H13 x13 => ?_⟩
    have hr13 := DpAll.mono x13 hr12
    have er13 := x13 _ _ er12
    have i13 := x13 _ _ i12
    have hs1_13 := Dp.mono x13 hs1_12
    have hs2_13 := Dp.mono x13 hs2_12
    have hs3_13 := Dp.mono x13 hs3_12
    have xa13 : Xa a H H13 := xa_tr xa12 (xa_of x13)
    clear hs1_12 hs2_12 hs3_12 hr12 er12 i12 x13 xa12 hs1_11 hs2_11 hs3_11 hr11 er11 i11 xa11
    have hrl : x.rows.length ≤ 100000 := ok.len
    walk_at "0"
    walk_at "26"
    walk_at "32"
    walk_at "38"
    walk_at "69"
    walk_at "88"
    refine ⟨⟨_, sql er13⟩, b_dic walk_list (fun H' x' => xl x' (sql er13)) hr13 headS (fun _ => .bool true) ?_ ?_ ?_ ?_ gm_name⟩
    · intro d _; rfl
    · rw [List.length_map]; omega
    · intro v d H' hv hd xx R hR
      obtain ⟨r, _, rfl⟩ := List.mem_map.mp hd
      walk_at "6"
      refine ⟨rfl, ?_⟩
      walk_at "8"
      walk_at "69"
      walk_at "7"
      refine d_ix hv (atI_nat (j := 0) rfl) fun w hw => ?_
      cases Dp.str_inv hw
      walk_at "7"
      exact hR _ _ (xrefl _) (.bl true)
    intro D7 kv7 H14 hD7 x14 e14 hl14 hD14
    walk_at "69"
    have i14 := x14 _ _ i13
    refine v_sfld i14 T.cl_Vocabulary T.na_Vocabulary__names (by omega) ?_
    have hs1_15 := dpa i14 (xa_upd (o := .ins T.C_Vocabulary dx (putF "_names" (.ref D7) F3))) (Dp.mono x14 hs1_13)
    have hs2_15 := dpa i14 (xa_upd (o := .ins T.C_Vocabulary dx (putF "_names" (.ref D7) F3))) (Dp.mono x14 hs2_13)
    have hs3_15 := dpa i14 (xa_upd (o := .ins T.C_Vocabulary dx (putF "_names" (.ref D7) F3))) (Dp.mono x14 hs3_13)
    have xa15 : Xa a H (upd H14 a (.ins T.C_Vocabulary dx (putF "_names" (.ref D7) F3))) := xa_tr xa13 (xa_tr (xa_of x14) xa_upd)
    have i15 : (upd H14 a (.ins T.C_Vocabulary dx (putF "_names" (.ref D7) F3))) a = some (.ins T.C_Vocabulary dx (putF "_names" (.ref D7) F3)) := upd_same
    generalize upd H14 a (.ins T.C_Vocabulary dx (putF "_names" (.ref D7) F3)) = H15 at hs1_15 hs2_15 hs3_15 xa15 i15
    have l4 : (putF "_names" (.ref D7) F3).length ≤ 4 := by
      have := putF_len "_names" (.ref D7) F3; omega
    have hk4 : ∀ g : Str, (putF "_names" (.ref D7) F3).lookup g = if g = "_names" then some (.ref D7) else F3.lookup g := fun g => by rw [lookup_putF]
    generalize putF "_names" (.ref D7) F3 = F4 at i15 l4 hk4
    have k4f : F4.lookup ("functions" : Str) = some (.ref b2) := by rw [hk4, if_neg (by decide)]; exact k3f
    have k4p : F4.lookup ("predicates" : Str) = some (.ref b3) := by rw [hk4, if_neg (by decide)]; exact k3p
    clear hs1_13 hs2_13 hs3_13 hr13 er13 i13 xa13 i14 x14 e14 hD14 hl14 hD7
    walk_at "0"
    walk_at "26"
    walk_at "32"
    walk_at "39"
    walk_at "8"
    walk_at "25"
    walk_at "69"
    refine v_fld i15 T.cl_Vocabulary T.na_Vocabulary_functions k4f ?_
    walk_at "25"
    walk_at "69"
    refine v_fld i15 T.cl_Vocabulary T.na_Vocabulary_predicates k4p ?_
    refine d_plus hs2_15 hs3_15 (by rw [List.length_map, List.length_map]; omega) fun v16 H16 x16 hv16 => ?_
    obtain ⟨b16, ys16, rfl, hT16, hc16⟩ := Dp.tup_inv hv16
    walk_at "88"
    refine ⟨⟨_, hT16⟩, b_dic walk_tup (fun H' x' => xt x' hT16) hc16 headS sndD ?_ ?_ ?_ ?_ gm_name⟩
    · intro d hd
      rcases List.mem_append.mp hd with hd | hd
      · obtain ⟨r, _, rfl⟩ := List.mem_map.mp hd
        show ImAll _ = true; exact imStrs _
      · obtain ⟨r, _, rfl⟩ := List.mem_map.mp hd
        show ImAll _ = true; exact imStrs _
    · rw [List.length_append, List.length_map, List.length_map]; omega
    · intro v d H' hv hd xx R hR
      rcases List.mem_append.mp hd with hd | hd
      · obtain ⟨r, _, rfl⟩ := List.mem_map.mp hd
        walk_at "6"
        refine ⟨rfl, ?_⟩
        walk_at "8"
        walk_at "69"
        walk_at "7"
        refine d_ix hv (atI_nat (j := 0) rfl) fun w hw => ?_
        cases Dp.str_inv hw
        walk_at "8"
        walk_at "69"
        walk_at "7"
        refine d_ix hv (atI_nat (j := 1) rfl) fun w hw => ?_
        exact hR _ _ (xrefl _) hw
      · obtain ⟨r, _, rfl⟩ := List.mem_map.mp hd
        walk_at "6"
        refine ⟨rfl, ?_⟩
        walk_at "8"
        walk_at "69"
        walk_at "7"
        refine d_ix hv (atI_nat (j := 0) rfl) fun w hw => ?_
        cases Dp.str_inv hw
        walk_at "8"
        walk_at "69"
        walk_at "7"
        refine d_ix hv (atI_nat (j := 1) rfl) fun w hw => ?_
        exact hR _ _ (xrefl _) hw
    intro dA kA H17 hdA x17 eA hlA hDA
    rw [args_map] at hDA
    walk_at "69"
    have x1617 := xtr x16 x17
    have i17 := x1617 _ _ i15
    refine v_sfld i17 T.cl_Vocabulary T.na_Vocabulary__argument_sorts (by omega) ?_
    have hnA : dA ≠ a := fun h => by rw [h, i17] at eA; cases eA
    have hs1_18 := dpa i17 (xa_upd (o := .ins T.C_Vocabulary dx (putF "_argument_sorts" (.ref dA) F4))) (Dp.mono x1617 hs1_15)
    have hs2_18 := dpa i17 (xa_upd (o := .ins T.C_Vocabulary dx (putF "_argument_sorts" (.ref dA) F4))) (Dp.mono x1617 hs2_15)
    have hs3_18 := dpa i17 (xa_upd (o := .ins T.C_Vocabulary dx (putF "_argument_sorts" (.ref dA) F4))) (Dp.mono x1617 hs3_15)
    have hDA18 := HasD.im (xat i17 (xa_upd (o := .ins T.C_Vocabulary dx (putF "_argument_sorts" (.ref dA) F4)))) hDA
    have eA18 : (upd H17 a (.ins T.C_Vocabulary dx (putF "_argument_sorts" (.ref dA) F4))) dA = some (.dK kA) := by rw [upd_ne hnA]; exact eA
    have xa18 : Xa a H (upd H17 a (.ins T.C_Vocabulary dx (putF "_argument_sorts" (.ref dA) F4))) := xa_tr xa15 (xa_tr (xa_of x1617) xa_upd)
    have i18 : (upd H17 a (.ins T.C_Vocabulary dx (putF "_argument_sorts" (.ref dA) F4))) a = some (.ins T.C_Vocabulary dx (putF "_argument_sorts" (.ref dA) F4)) := upd_same
    generalize upd H17 a (.ins T.C_Vocabulary dx (putF "_argument_sorts" (.ref dA) F4)) = H18 at hs1_18 hs2_18 hs3_18 hDA18 eA18 xa18 i18
    have l5 : (putF "_argument_sorts" (.ref dA) F4).length ≤ 5 := by
      have := putF_len "_argument_sorts" (.ref dA) F4; omega
    have hk5 : ∀ g : Str, (putF "_argument_sorts" (.ref dA) F4).lookup g = if g = "_argument_sorts" then some (.ref dA) else F4.lookup g := fun g => by rw [lookup_putF]
    generalize putF "_argument_sorts" (.ref dA) F4 = F5 at i18 l5 hk5
    have k5f : F5.lookup ("functions" : Str) = some (.ref b2) := by rw [hk5, if_neg (by decide)]; exact k4f
    have k5p : F5.lookup ("predicates" : Str) = some (.ref b3) := by rw [hk5, if_neg (by decide)]; exact k4p
    clear hs1_15 hs2_15 hs3_15 hv16 hT16 hc16 x16 x17 x1617 i17 i15 xa15 eA hDA hdA
    obtain ⟨_, ysp, ep, hTp, hcp⟩ := Dp.tup_inv hs3_18
    cases ep
    walk_at "0"
    walk_at "1"
    walk_at "32"
    walk_at "39"
    walk_at "25"
    walk_at "69"
    refine v_fld i18 T.cl_Vocabulary T.na_Vocabulary_predicates k5p ?_
    walk_at "88"
    refine ⟨⟨_, hTp⟩, b_dic walk_tup (fun H' x' => xt x' hTp) hcp headS (fun _ => .str "truth") ?_ ?_ ?_ ?_ (gm_tup (gsm_cons (gsm_cons gsm_nil)))⟩
    · intro d _; rfl
    · rw [List.length_map]; omega
    · intro v d H' hv hd xx R hR
      obtain ⟨r, _, rfl⟩ := List.mem_map.mp hd
      refine k_gtup hv rfl fun ws hws => ?_
      refine k_gcons hws fun w1 ws1 hw1 hws1 => ?_
      refine k_gcons hws1 fun w2 ws2 hw2 hws2 => ?_
      refine k_gnil hws2 ⟨rfl, ?_⟩
      cases Dp.str_inv hw1
      walk_at "69"
      walk_at "7"
      exact hR _ _ (xrefl _) (.str _)
    intro dS kS0 H19 hdS x19 eS hlS hDS
    rw [List.length_map] at hlS
    have i19 := x19 _ _ i18
    obtain ⟨_, ysf, ef, hTf18, hcf⟩ := Dp.tup_inv hs2_18
    cases ef
    have hTf := xt x19 hTf18
    have hfl := hcf.len
    rw [List.length_map] at hfl
    walk_at "6"
    walk_at "0"
    walk_at "37"
    walk_at "39"
    walk_at "25"
    walk_at "69"
    refine v_fld i19 T.cl_Vocabulary T.na_Vocabulary_functions k5f ?_
    walk_at "88"
    refine ⟨⟨_, hTf⟩, for_tup (xs := ysf) (fun i σ' H' => ∃ y4 y5 y7 kvs, σ' = [some (.ref a), some v1, some (.ref a2), some (.ref a3), y4, y5, some (.ref rw_), y7, some (.ref dS), none, none] ∧ Xt H18 H' ∧ H' dS = some (.dK kvs) ∧ kvs.length ≤ x.P.length + i ∧ HasD K H' kvs (tabF (((x.P.map pD).map fun d => (headS d, PyData.str "truth")) ++ ((x.F.map fD).map fun d => (headS d, trdD d)).take i))) ⟨_, _, _, _, rfl, x19, eS, by omega, by rw [List.take_zero, List.append_nil]; exact hDS⟩ ?_ ?_ ?_⟩
    · rintro i σ' H' hi ⟨y4, y5, y7, kvs, rfl, xx, _⟩
      exact xt xx hTf18
    · rintro i xv σ' H' hx ⟨y4, y5, y7, kvs, rfl, xx, ed, hk, hD⟩
      obtain ⟨d, hdx, hdp⟩ := DpAll.getV (DpAll.mono xx hcf) hx
      rw [List.getElem?_map] at hdx
      cases hr : x.F[i]? with
      | none => rw [hr] at hdx; cases hdx
      | some r =>
        rw [hr] at hdx
        cases hdx
        have hi : i < x.F.length := (List.getElem?_eq_some_iff.mp hr).1
        refine k_gtup hdp rfl fun vs hvs => ?_
        refine k_gcons hvs fun w1 ws1 hw1 hws1 => ?_
        refine k_gcons hws1 fun w2 ws2 hw2 hws2 => ?_
        refine k_gcons hws2 fun w3 ws3 hw3 hws3 => ?_
        refine k_gnil hws3 ?_
        cases Dp.str_inv hw1
        cases Dp.str_inv hw3
        walk_at "29"
        walk_at "69"
        walk_at "69"
        walk_at "69"
        refine v_dput ed (by omega) ?_
        skip
        refine ⟨_, _, _, _, rfl, xmut xx hdS, upd_same, ?_, ?_⟩
        · unfold putK
          split
          · rw [List.length_map]; omega
          · rw [List.length_append, List.length_singleton]; omega
        · have et2 : ((x.F.map fD).map fun d => (headS d, trdD d)).take (i + 1) = ((x.F.map fD).map fun d => (headS d, trdD d)).take i ++ [(r.1, PyData.str r.2.2)] := by rw [List.take_add_one, List.getElem?_map, List.getElem?_map, hr]; rfl
          rw [et2, ← List.append_assoc, tabF_snoc]
          exact HasD.im (fun a zs h => SqT.updD ed h) (hD.put rfl (.str _))
    · rintro σ' H' ⟨y4, y5, y7, kvs, rfl, xx, ed, hk, hD⟩
      rw [List.take_of_length_le (by rw [List.length_map, List.length_map]; omega), sort_map] at hD
      have iF := xx _ _ i18
      have hnS : dS ≠ a := fun h => by rw [h, iF] at ed; cases ed
      walk_at "26"
      walk_at "69"
      walk_at "69"
      refine v_sfld iF T.cl_Vocabulary T.na_Vocabulary__value_sorts (by omega) ?_
      have hkF : ∀ g : Str, (putF "_value_sorts" (.ref dS) F5).lookup g = if g = "_value_sorts" then some (.ref dS) else F5.lookup g := fun g => by rw [lookup_putF]
      refine q _ (xa_tr xa18 (xa_tr (xa_of xx) xa_upd)) ⟨dx, putF "_value_sorts" (.ref dS) F5, .ref b1, dA, dS, kA, kvs, upd_same, ?_, ?_, ?_, ?_, ?_, ?_, ?_, ?_, ?_, ?_⟩
      · rw [hkF, if_neg (by decide), hk5, if_neg (by decide), hk4, if_neg (by decide)]; exact k3s
      · exact dpa iF xa_upd (Dp.mono xx hs1_18)
      · rw [hkF, if_neg (by decide), hk5, if_pos rfl]
      · rw [upd_ne hnA]; exact xx _ _ eA18
      · exact HasD.im (xat iF xa_upd) (hDA18.mono xx)
      · rw [hkF, if_pos rfl]
      · rw [upd_ne hnS]; exact ed
      · exact HasD.im (xat iF xa_upd) hD
      · rw [hkF, if_neg (by decide), hk5, if_neg (by decide), hk4, if_neg (by decide), hk3, if_neg (by decide), if_neg (by decide), if_neg (by decide)]
      · rw [hkF, if_neg (by decide), hk5, if_neg (by decide), hk4, if_neg (by decide), hk3, if_neg (by decide), if_neg (by decide), if_neg (by decide)]



theorem ok__parts_fit (T : Top0 P K mg) : FnOk P w K mg base CX0 4 T.f__parts_fit T.fd__parts_fit ["vocabulary", "term"] (sp__parts_fit T) := by
  refine T.F__parts_fit.ok sc__parts_fit (fun vs H Q E h => ?_) (fun cdv A outer s H vs Q E hr h => ?_)
  · obtain ⟨a, v, x, d, n, s0, rfl, hV, ok, hv, hs, hn, hly, q⟩ := h
    rfl
  · obtain ⟨a, v, x, d, n, s0, rfl, hV, ok, hv, hs, hn, hly, q⟩ := h
    refine ⟨_, (pss_cons (ps_set (i := 2) sc__parts_fit.nd rfl (Or.inl rfl) (pe_lst (pa_cons (pv 1) pa_nil)))
      (pss_cons (ps_while PassesOwn.never (pt_truth (pv 2) (by intro _; rfl)) (pss_cons (ps_set (i := 3) sc__parts_fit.nd rfl (Or.inl rfl) (pe_bm0 PySem.F.plainAttrs_list PySem.F.slot_list_pop PySem.F.type_list_pop mt_pop (pv 2)))
      (pss_one (ps_if (pt_not (pt_val (pe_call (ok_is_variable T) (hr.mono (by first | decide | exact Nat.le_refl _ | omega | (show _ ≤ _ + n; omega))) (by rfl) T.g_is_variable T.F_is_variable.kp T.b_is_variable .nil pass0 (pa_cons (pv 3) pa_nil)))) (pss_one (ps_for PassesOwn.never rfl (pi_zipA (by rfl) T.n_zip (pa_cons (pe_slice (r := rSlU K) sl_any (pv 3) (po_some pe_int) po_none) (pa_cons (pe_meth (pv 0) T.cl_Vocabulary T.m_Vocabulary_arguments (ok_Vocabulary_arguments T) (hr.mono (by first | decide | exact Nat.le_refl _ | omega | (show _ ≤ _ + n; omega))) T.b_Vocabulary_arguments .nil pass0 (pa_cons (pe_ix (r := rIx K) ix_seq (pv 3) pe_int (fun _ _ => rfl)) pa_nil)) pa_nil))) (pg_tup rfl (pgs_cons (pg_name (i := 4) sc__parts_fit.nd rfl (Or.inl rfl)) (pgs_cons (pg_name (i := 5) sc__parts_fit.nd rfl (Or.inl rfl)) pgs_nil))) (pss_cons (ps_if (pt_cmpR (r := rNeU K) (op_neU hr) (pe_call (ok__layer_sort T) (hr.mono (by first | decide | exact Nat.le_refl _ | omega | (show _ ≤ _ + n; omega))) (by rfl) T.g__layer_sort T.F__layer_sort.kp T.b__layer_sort .nil pass0 (pa_cons (pv 0) (pa_cons (pv 4) pa_nil))) (pv 5) (nomark _)) (pss_one (ps_ret pe_bl)) pss_nil)
      (pss_one (ps_expr (pe_bm PySem.F.plainAttrs_list PySem.F.slot_list_append PySem.F.type_list_append mt_append (pv 2) (pa_cons (pv 4) pa_nil))))))) pss_nil))))
      (pss_one (ps_ret pe_bl)))), ?_⟩
    walk_at "0"
    walk_at "1"
    walk_at "34"
    walk_at "9"
    walk_at "69"
    walk_at "10"
    walk_at "82"
    intro l H1 hl0 x1 e1
    walk_at "6"
    walk_at "0"
    refine ⟨fun m σ' H' => ∃ y3 y4 y5 ws es, σ' = [some (.ref a), some v, some (.ref l), y3, y4, y5] ∧ Xt H H' ∧ H' l = some (.lst ws) ∧ DpAll K H' ws es ∧ (∀ e ∈ es, Sm n e ∧ SyF e = true ∧ ∃ s, layerF x e = some s) ∧ es.all (fitF x) = fitF x d ∧ (W1 es = m ∧ m ≤ 6000000), ⟨_, none, none, none, [v], [d], rfl, x1, e1, .cons (Dp.mono x1 hv) .nil, ?_, ?_, rfl, ?_⟩, ?_⟩
    · intro e he
      rw [List.mem_singleton] at he
      subst he
      exact ⟨hs, hn, _, hly⟩
    · rw [List.all_cons, List.all_nil, Bool.and_true]
    · rw [W1_cons, W1_nil]; have := hs.wt; omega
    rintro m σ' H' ⟨y3, y4, y5, ws, es, rfl, xx, el, hes, hok, hall, hm, hmm⟩
    walk_at "69"
    refine ⟨!ws.isEmpty, .inl ⟨ws, sql el, rfl⟩, ?_⟩
    rcases List.eq_nil_or_concat es with rfl | ⟨L, part, hpe⟩
    · have := DpAll.nil_inv hes
      subst this
      walk_at "89"
      walk_at "2"
      walk_at "7"
      rw [List.all_nil] at hall
      rw [hall]
      exact q H' xx
    rw [List.concat_eq_append] at hpe
    subst hpe
    obtain ⟨ws', w, rfl, hL, hw⟩ := DpAll.snoc_inv hes
    rw [show (!(ws' ++ [w]).isEmpty) = true by simp]
    refine iteT ⟨fun σ' H' => ∃ m', m' < m ∧ ∃ y3 y4 y5 ws es, σ' = [some (.ref a), some v, some (.ref l), y3, y4, y5] ∧ Xt H H' ∧ H' l = some (.lst ws) ∧ DpAll K H' ws es ∧ (∀ e ∈ es, Sm n e ∧ SyF e = true ∧ ∃ s, layerF x e = some s) ∧ es.all (fitF x) = fitF x d ∧ (W1 es = m' ∧ m' ≤ 6000000), fun _ _ h => h, ?_⟩
    walk_at "0"
    walk_at "1"
    walk_at "33"
    walk_at "69"
    refine ⟨ty_l el, v_pop el ?_⟩
    have x2 : Xt H (upd H' l (.lst ws')) := xmut xx hl0
    have im1 : ImAll L = true := imAll_iff.mpr fun e he => (hok e (List.mem_append_left _ he)).1.im
    have hL2 : DpAll K (upd H' l (.lst ws')) ws' L := DpAll.im (fun _ _ h => SqT.upd el h) im1 hL
    obtain ⟨hsp, hsy, sp, hlp⟩ := hok part (List.mem_append_right _ (List.mem_singleton_self _))
    have hw2 : Dp K (upd H' l (.lst ws')) w part := Dp.im (fun _ _ h => SqT.upd el h) hsp.im hw
    have hH2l : (upd H' l (.lst ws')) l = some (.lst ws') := upd_same
    generalize upd H' l (.lst ws') = H2 at x2 hL2 hw2 hH2l
    have hV2 := VocAt.mono x2 hV
    obtain ⟨z, ds, rfl, _⟩ := layer_inv hlp
    obtain ⟨hz1, hz2, hcase⟩ := layer_head ok hlp
    rw [List.all_append, List.all_cons, List.all_nil, Bool.and_true] at hall
    rw [W1_app] at hm
    have hwt : W1 [.tuple (.str z :: ds)] = ((PyData.str z).weight + 1 + W1 ds) + 1 + 0 := by rw [W1_cons, w_tup, W1_cons, W1_nil]
    obtain ⟨n', rfl⟩ := hsp.pos
    walk_at "6"
    walk_at "4"
    walk_at "16"
    walk_at "15"
    walk_at "12"
    walk_at "9"
    walk_at "69"
    walk_at "10"
    refine ⟨w, z, ds, rfl, hw2, ⟨hz1, by omega⟩, ?_⟩
    rcases hcase with hc | ⟨hc, p, hp, hlen⟩
    · rw [hc]
      walk_at "88"
      walk_at "89"
      walk_at "5"
      refine ⟨_, ?_, _, _, _, ws', L, rfl, x2, hH2l, hL2, fun e he => hok e (List.mem_append_left _ he), ?_, rfl, ?_⟩
      · omega
      · rw [← hall, fit_var hc, Bool.and_true]
      · omega
    rw [hc]
    rw [fit_tup hc hp] at hall
    walk_at "88"
    walk_at "90"
    walk_at "37"
    walk_at "41"
    walk_at "9"
    walk_at "48"
    walk_at "69"
    walk_at "50"
    walk_at "7"
    walk_at "88"
    walk_at "49"
    refine d_cut hw2 fun w2 H3 x3 hw3 => ?_
    rw [cut_tail] at hw3
    have hV3 := VocAt.mono x3 hV2
    have hwp := Dp.mono x3 hw2
    obtain ⟨dx, fs, sv, dA, dS, kA, kS, g1, g2, g3, g4, g5, g6, g7, g8, g9, g10, g11⟩ := id hV3
    walk_at "9"
    walk_at "30"
    walk_at "69"
    refine ⟨a, dx, fs, rfl, g1, g10, ?_⟩
    walk_at "9"
    walk_at "8"
    walk_at "69"
    walk_at "7"
    refine d_ix hwp (atI_nat (j := 0) rfl) fun wz hwz => ?_
    cases Dp.str_inv hwz
    walk_at "10"
    refine ⟨a, z, x, rfl, hV3, fun u hu => ?_⟩
    rw [tab_args ok, hp] at hu
    walk_at "10"
    obtain ⟨a1, xs1, rfl, hs1, hd1⟩ := Dp.tup_inv hw3
    obtain ⟨a2, xs2, rfl, hs2, hd2⟩ := Dp.tup_inv hu
    have e2 := DpAll.strs_inv hd2
    subst e2
    have hl1 := hd1.len
    refine ⟨a1, a2, xs1, p.1.map V.str, rfl, .inr ⟨hs1, hs2, ?_⟩⟩
    have hl3 := x3 _ _ hH2l
    have hsm : ∀ e ∈ ds, Sm (n' + 1) e := fun e he => (hsp.tup e (List.mem_cons_of_mem _ he)).up (by omega)
    have imds : ImAll ds = true := imAll_iff.mpr fun e he => (hsm e he).im
    refine for_zipT (xs := xs1) (ys := p.1.map V.str) (by rw [List.length_map]; omega) (fun i σ' H' => ∃ y4 y5, σ' = [some (.ref a), some v, some (.ref l), some w, y4, y5] ∧ Xt H H' ∧ SqT K H' a1 xs1 ∧ SqT K H' a2 (p.1.map V.str) ∧ DpAll K H' xs1 ds ∧ H' l = some (.lst (ws' ++ xs1.take i)) ∧ DpAll K H' ws' L ∧ ∀ (j : Nat) (e : PyData) (s : Str), j < i → ds[j]? = some e → p.1[j]? = some s → layerF x e = some s)
      ⟨_, _, rfl, xtr x2 x3, hs1, hs2, hd1, by rw [List.take_zero, List.append_nil]; exact hl3, DpAll.mono x3 hL2, fun _ _ _ h => absurd h (Nat.not_lt_zero _)⟩ ?_ ?_ ?_
    · rintro i σ' H' ⟨y4, y5, rfl, xx', h1, h2, _⟩
      exact ⟨h1, h2⟩
    · rintro i u1 u2 TT σ' H' hu1 hu2 ⟨y4, y5, rfl, xx', h1, h2, hdd, hll, hLL, hj⟩ hTT
      obtain ⟨e, he, hde⟩ := DpAll.getV hdd hu1
      have hem : e ∈ ds := List.mem_of_getElem? he
      rw [List.getElem?_map] at hu2
      cases hps : p.1[i]? with
      | none => rw [hps] at hu2; cases hu2
      | some s =>
        rw [hps] at hu2
        cases hu2
        refine ⟨TT, [u1, .str s], rfl, sqt upd_same, rfl, ⟨u1, [.str s], rfl, ⟨.str s, [], rfl, ⟨rfl, ?_⟩⟩⟩⟩
        have x4 : Xt H' (upd H' TT (.tup [u1, .str s])) := xnew hTT
        generalize upd H' TT (.tup [u1, .str s]) = H4 at x4
        walk_at "0"
        walk_at "4"
        walk_at "14"
        walk_at "8"
        walk_at "12"
        walk_at "9"
        walk_at "69"
        walk_at "9"
        walk_at "69"
        walk_at "10"
        refine ⟨a, u1, x, e, n' + 1, rfl, VocAt.mono (xtr xx' x4) hV, ok, Dp.mono x4 hde, hsm e hem, sy_in hsy hc hem, fun H5 x5 => ?_⟩
        cases hle : layerF x e with
        | none =>
          walk_at "69"
          walk_at "76"
          walk_at "88"
          walk_at "90"
          walk_at "2"
          walk_at "7"
          rw [fitAll_no he hps (by rw [hle]; intro h; cases h), Bool.and_false] at hall
          rw [hall]
          exact q H5 (xtr xx' (xtr x4 x5))
        | some s2 =>
          walk_at "69"
          walk_at "76"
          walk_at "88"
          refine k_ifn (fun h6 => ?_) (fun h6 => ?_)
          · walk_at "2"
            walk_at "7"
            rw [fitAll_no he hps (by rw [hle]; intro h; cases h; exact h6 rfl), Bool.and_false] at hall
            rw [hall]
            exact q H5 (xtr xx' (xtr x4 x5))
          · cases h6
            walk_at "5"
            walk_at "3"
            walk_at "36"
            walk_at "69"
            have hl5 := x5 _ _ (x4 _ _ hll)
            have x45 := xtr x4 x5
            refine ⟨ty_l hl5, ?_⟩
            walk_at "9"
            walk_at "69"
            walk_at "10"
            have hil : i < xs1.length := (List.getElem?_eq_some_iff.mp hu1).1
            have hwl := hL2.len
            have hL9 : L.length ≤ W1 L := len_weight (ds := L)
            have hd9 : ds.length ≤ W1 ds := len_weight (ds := ds)
            refine ⟨l, _, u1, rfl, rfl, hl5, ?_, ?_⟩
            · refine szL2 ?_
              rw [List.length_append, List.length_take]
              omega
            · skip
              refine ⟨_, _, rfl, xmut (xtr xx' x45) hl0, SqT.upd hl5 (xt x45 h1), SqT.upd hl5 (xt x45 h2), DpAll.im (fun _ _ h => SqT.upd hl5 h) imds (DpAll.mono x45 hdd), ?_, DpAll.im (fun _ _ h => SqT.upd hl5 h) im1 (DpAll.mono x45 hLL), ?_⟩
              · rw [upd_same, List.append_assoc, List.take_add_one, hu1]; rfl
              · intro j e' s' hj' h1' h2'
                by_cases hji : j < i
                · exact hj j e' s' hji h1' h2'
                · have : j = i := by omega
                  subst this
                  rw [he] at h1'; rw [hps] at h2'
                  cases h1'; cases h2'
                  exact hle
    · rintro σ' H' ⟨y4, y5, rfl, xx', h1, h2, hdd, hll, hLL, hj⟩
      rw [List.take_of_length_le (Nat.le_refl _)] at hll
      refine ⟨_, ?_, _, _, _, ws' ++ xs1, L ++ ds, rfl, xx', hll, DpAll.app hLL hdd, ?_, ?_, rfl, ?_⟩
      · rw [W1_app]; omega
      · intro e he
        rcases List.mem_append.mp he with he | he
        · exact hok e (List.mem_append_left _ he)
        · obtain ⟨j, hje⟩ := List.getElem?_of_mem he
          have hjl : j < p.1.length := by have := (List.getElem?_eq_some_iff.mp hje).1; omega
          exact ⟨hsm e he, sy_in hsy hc he, _, hj j e _ (by omega) hje (List.getElem?_eq_getElem hjl)⟩
      · rw [List.all_append, ← hall, fitAll_of hlen fun j e s h1 h2 => hj j e s (by have := (List.getElem?_eq_some_iff.mp h1).1; omega) h1 h2]
      · rw [W1_app]; omega



theorem ok_part_at (T : Top0 P K mg) : FnOk P w K mg base (L2.CX P w) 4 T.f_part_at T.fd_part_at ["term", "place"] (sp_part_at T) := by
  refine T.F_part_at.okX sc_part_at (fun vs H Q E h => ?_) (fun cdv A outer s H vs Q E hr h => ?_)
  · obtain ⟨v, u, d, k, W, l, rfl, hv, ht, hW, hu, pok, q1, q2⟩ := h
    rfl
  · obtain ⟨v, u, d, k, W, l, rfl, hv, ht, hW, hu, pok, q1, q2⟩ := h
    refine ⟨_, (pss_cons (ps_set (i := 2) sc_part_at.nd rfl (Or.inl rfl) (pv 0))
      (pss_cons (ps_for (passes_of rfl) rfl (pi_tup (pv 1)) (pg_name (i := 3) sc_part_at.nd rfl (Or.inl rfl)) (pss_one (ps_set (i := 2) sc_part_at.nd rfl (Or.inl rfl) (pe_callS (ok__part T) (hr.mono (by first | decide | exact Nat.le_refl _ | omega | (show _ ≤ _ + n; omega))) (by rfl) T.g__part T.F__part.kp T.b__part (fun σ => passAt (takes_of rfl rfl rfl rfl) σ) (pa_cons (pv 2) (pa_cons (pv 3) (pa_cons (pv 1) pa_nil)))))))
      (pss_one (ps_ret (pv 2))))), ?_⟩
    obtain ⟨a, xs, rfl, hS, hd⟩ := Dp.tup_inv hu
    have hl := hd.len
    rw [List.length_map] at hl
    walk_at "0"
    walk_at "1"
    walk_at "69"
    walk_at "6"
    walk_at "0"
    walk_at "37"
    walk_at "39"
    walk_at "69"
    walk_at "88"
    refine ⟨⟨_, hS⟩, for_tup (xs := xs) (fun i σ' H' => ∃ y w c, σ' = [some v, some (.ref a), some w, y] ∧ H' = H ∧ Dp K H w c ∧ partF d (l.take i) = some c) ⟨_, v, d, rfl, rfl, hv, by rw [List.take_zero, partF]⟩ ?_ ?_ ?_⟩
    · rintro i σ' H' hi' ⟨y, w, c, rfl, rfl, _⟩
      exact hS
    · rintro i x σ' H' hx ⟨y, w, c, rfl, rfl, hw, hc⟩
      obtain ⟨dx, hdx, hdp⟩ := DpAll.getV hd hx
      rw [List.getElem?_map] at hdx
      have hil : i < l.length := by have := (List.getElem?_eq_some_iff.mp hx).1; omega
      have hi := List.getElem?_eq_getElem hil
      rw [hi] at hdx
      cases hdx
      cases Dp.int_inv hdp
      have hpt := part_take (d := d) hi
      rw [hc] at hpt
      walk_at "6"
      walk_at "1"
      show tCons _ _ _ _ _
      walk_at "9"
      walk_at "69"
      walk_at "9"
      walk_at "69"
      walk_at "9"
      walk_at "69"
      walk_at "10"
      refine ⟨w, .ref a, c, l[i], _, W, l, rfl, hw, (ht.part hc).1, hW, hu, pok, fun c2 w2 h2 hw2 => ?_, fun h2 => ?_⟩
      · walk_at "6"
        refine ⟨_, _, c2, rfl, rfl, hw2, ?_⟩
        rw [hpt]; exact h2
      · refine fun dd H2 x2 e2 => q2 (part_take_none (i := i + 1) ?_) dd H2 x2 e2
        rw [hpt]; exact h2
    · rintro σ' H' ⟨y, w, c, rfl, rfl, hw, hc⟩
      rw [List.take_of_length_le (by omega)] at hc
      walk_at "2"
      walk_at "69"
      exact q1 c w hc hw


theorem ok_put_at (T : Top0 P K mg) : FnOk P w K mg base (L2.CX P w) 4 T.f_put_at T.fd_put_at ["term", "place", "new"] (sp_put_at T) := by
  refine T.F_put_at.okX sc_put_at (fun vs H Q E h => ?_) (fun cdv A outer s H vs Q E hr h => ?_)
  · obtain ⟨v, u, y, d, e, k, W, m, W2, l, rfl, hv, ht, hW, hu, pok, hy, he, hW2, q1, q2⟩ := h
    rfl
  · obtain ⟨v, u, y, d, e, k, W, m, W2, l, rfl, hv, ht, hW, hu, pok, hy, he, hW2, q1, q2⟩ := h
    refine ⟨_, (pss_cons (ps_set (i := 3) sc_put_at.nd rfl (Or.inl rfl) (pe_lst pa_nil))
      (pss_cons (ps_set (i := 4) sc_put_at.nd rfl (Or.inl rfl) (pv 0))
      (pss_cons (ps_for (passes_of rfl) rfl (pi_tup (pv 1)) (pg_name (i := 5) sc_put_at.nd rfl (Or.inl rfl)) (pss_cons (ps_expr (pe_bm PySem.F.plainAttrs_list PySem.F.slot_list_append PySem.F.type_list_append mt_append (pv 3) (pa_cons (pv 4) pa_nil)))
      (pss_one (ps_set (i := 4) sc_put_at.nd rfl (Or.inl rfl) (pe_callS (ok__part T) (hr.mono (by first | decide | exact Nat.le_refl _ | omega | (show _ ≤ _ + n; omega))) (by rfl) T.g__part T.F__part.kp T.b__part (fun σ => passAt (takes_of rfl rfl rfl rfl) σ) (pa_cons (pv 4) (pa_cons (pv 5) (pa_cons (pv 1) pa_nil))))))))
      (pss_cons (ps_set (i := 6) sc_put_at.nd rfl (Or.inl rfl) (pv 2))
      (pss_cons (ps_for (passes_of rfl) rfl (pi_revR (by rfl) T.n_reversed (prg_1 (by rfl) T.n_range (pe_callB (r := rLenU K) call_lenU (by rfl) T.n_len PySem.boot_len (pa_cons (pv 1) pa_nil)))) (pg_name (i := 7) sc_put_at.nd rfl (Or.inl rfl)) (pss_cons (ps_set (i := 8) sc_put_at.nd rfl (Or.inl rfl) (pe_op (r := rPlus K) op_plus (pe_ix (r := rIx K) ix_seq (pv 1) (pv 7) (fun _ _ => rfl)) pe_int))
      (pss_one (ps_set (i := 6) sc_put_at.nd rfl (Or.inl rfl) (pe_op (r := rPlus K) op_plus (pe_op (r := rPlus K) op_plus (pe_slice (r := rSlU K) sl_any (pe_ix (r := rIx K) ix_seq (pv 3) (pv 7) (fun _ _ => rfl)) po_none (po_some (pv 8))) (pe_tup (pa_cons (pv 6) pa_nil))) (pe_slice (r := rSlU K) sl_any (pe_ix (r := rIx K) ix_seq (pv 3) (pv 7) (fun _ _ => rfl)) (po_some (pe_op (r := rPlus K) op_plus (pv 8) pe_int)) po_none))))))
      (pss_one (ps_ret (pv 6)))))))), ?_⟩
    obtain ⟨a, xs, rfl, hS, hd⟩ := Dp.tup_inv hu
    have hl := hd.len
    rw [List.length_map] at hl
    have hll := pok.len
    walk_at "0"
    walk_at "1"
    walk_at "34"
    walk_at "10"
    walk_at "82"
    intro A H1 n1 x1 e1
    walk_at "6"
    walk_at "0"
    walk_at "1"
    walk_at "69"
    walk_at "6"
    walk_at "0"
    walk_at "37"
    walk_at "39"
    walk_at "69"
    walk_at "88"
    refine ⟨⟨_, xt x1 hS⟩, for_tup (xs := xs) (fun i σ' H' => ∃ y5 y6 y7 y8 w c ws, σ' = [some v, some (.ref a), some y, some (.ref A), some w, y5, y6, y7, y8] ∧ Xt H H' ∧ H' A = some (.lst ws) ∧ DpAll K H' ws (upF d l i) ∧ Dp K H' w c ∧ partF d (l.take i) = some c) ⟨_, _, _, _, v, d, [], rfl, x1, e1, .nil, Dp.mono x1 hv, by rw [List.take_zero, partF]⟩ ?_ ?_ ?_⟩
    · rintro i σ' H' hi' ⟨y5, y6, y7, y8, w, c, ws, rfl, xx, _⟩
      exact xt xx hS
    · rintro i x σ' H' hx ⟨y5, y6, y7, y8, w, c, ws, rfl, xx, eA, hws, hw, hc⟩
      obtain ⟨dx, hdx, hdp⟩ := DpAll.getV hd hx
      rw [List.getElem?_map] at hdx
      have hil : i < l.length := by have := (List.getElem?_eq_some_iff.mp hx).1; omega
      have hi := List.getElem?_eq_getElem hil
      rw [hi] at hdx
      cases hdx
      cases Dp.int_inv hdp
      have hpt := part_take (d := d) hi
      rw [hc] at hpt
      have htc := (ht.part hc).1
      have hwl := hws.len
      have hul : (upF d l i).length = i := by unfold upF; rw [List.length_map, List.length_range]
      have him : ImAll (upF d l i) = true := imAll_iff.mpr fun f hf => by
        unfold upF at hf
        obtain ⟨j, _, rfl⟩ := List.mem_map.mp hf
        cases hj : partF d (l.take j) with
        | none => rfl
        | some b => exact ((ht.part hj).1.sm (by omega)).im
      walk_at "6"
      walk_at "0"
      walk_at "3"
      walk_at "36"
      walk_at "69"
      refine ⟨ty_l eA, ?_⟩
      walk_at "9"
      walk_at "69"
      walk_at "10"
      refine v_app eA (by omega) ?_
      have xm := xmut (o := .lst (ws ++ [w])) xx n1
      have eA2 : (upd H' A (.lst (ws ++ [w]))) A = some (.lst (ws ++ [w])) := upd_same
      have hw2 : Dp K (upd H' A (.lst (ws ++ [w]))) w c := Dp.im (fun _ _ h => SqT.upd eA h) (htc.sm (by omega)).im hw
      have hws2 : DpAll K (upd H' A (.lst (ws ++ [w]))) (ws ++ [w]) (upF d l (i + 1)) := by
        rw [upF_succ hc]
        exact DpAll.app (DpAll.im (fun _ _ h => SqT.upd eA h) him hws) (.cons hw2 .nil)
      generalize upd H' A (.lst (ws ++ [w])) = H2 at xm eA2 hw2 hws2
      walk_at "1"
      show tCons _ _ _ _ _
      walk_at "9"
      walk_at "69"
      walk_at "9"
      walk_at "69"
      walk_at "9"
      walk_at "69"
      walk_at "10"
      refine ⟨w, .ref a, c, l[i], _, W, l, rfl, hw2, htc, hW, Dp.mono xm hu, pok, fun c2 w2 h2 hw3 => ?_, fun h2 => ?_⟩
      · walk_at "6"
        refine ⟨_, _, _, _, _, c2, _, rfl, xm, eA2, hws2, hw3, ?_⟩
        rw [hpt]; exact h2
      · refine fun dd H3 x3 e3 => q2 (part_take_none (i := i + 1) ?_) dd H3 (xtr xm x3) e3
        rw [hpt]; exact h2
    · rintro σ' H' ⟨y5, y6, y7, y8, w, c, ws, rfl, xx, eA, hws, hw, hc⟩
      have hc' := hc
      rw [List.take_of_length_le (by omega)] at hc
      rw [show xs.length = l.length by omega] at hws hc'
      walk_at "0"
      walk_at "1"
      walk_at "69"
      walk_at "6"
      walk_at "0"
      walk_at "37"
      show tCB _ _ _ _ _
      walk_at "11"
      walk_at "9"
      walk_at "69"
      walk_at "10"
      refine d_len (Dp.mono xx hu) ?_
      rw [List.length_map]
      refine ⟨_, rfl, by decide, by decide, by omega, by omega, ?_⟩
      rw [show (((l.length : Nat) : Int) - 0).toNat = l.length by omega]
      refine for_rangeC (fun i σ' H2 => ∃ y5 y7 y8 u6 c', σ' = [some v, some (.ref a), some y, some (.ref A), some w, y5, some u6, y7, y8] ∧ Xt H' H2 ∧ partF d (l.take (l.length - i)) = some c' ∧ Dp K H2 u6 (putF3 c' (l.drop (l.length - i)) e)) ⟨_, _, _, y, c, rfl, xrefl _, hc', by rw [Nat.sub_zero, List.drop_length, putF3]; exact Dp.mono xx hy⟩ ?_ ?_
      · rintro i σ' H2 hi ⟨y5, y7, y8, u6, c', rfl, x2, hc2, hu6⟩
        obtain ⟨j, hj⟩ : ∃ j, l.length - i = j + 1 := ⟨l.length - i - 1, by omega⟩
        rw [hj] at hc2 hu6
        have hjl : j < l.length := by omega
        have hlj : l[j]? = some l[j] := List.getElem?_eq_getElem hjl
        obtain ⟨b, hb⟩ := part_pre j hc
        obtain ⟨z, ds, rfl, hk, hput⟩ := put_step (e := e) hlj hb hc2
        rw [show (0 + ((l.length : Nat) : Int) - 1) + (i : Int) * (-1) = (j : Int) by omega]
        have htb := (ht.part hb).1
        obtain ⟨z', ds', k', e1', e2', hz1, hzW, hlW, hcase⟩ := htb.inv
        cases e1'
        have hkl : l[j] < ds.length := (List.getElem?_eq_some_iff.mp hk).1
        have xx2 := xtr xx x2
        walk_at "6"
        walk_at "0"
        walk_at "1"
        walk_at "8"
        walk_at "8"
        walk_at "69"
        walk_at "69"
        refine d_ix (Dp.mono xx2 hu) (atI_nat (show (l.map fun (k : Nat) => PyData.int (k : Int))[j]? = some (.int (l[j] : Int)) by rw [List.getElem?_map, hlj]; rfl)) fun w0 hw0 => ?_
        cases Dp.int_inv hw0
        walk_at "7"
        walk_at "56"
        walk_at "6"
        walk_at "1"
        walk_at "8"
        walk_at "8"
        walk_at "48"
        walk_at "8"
        walk_at "69"
        walk_at "69"
        rw [show ((l[j] : Nat) : Int) + 1 = ((l[j] + 1 : Nat) : Int) by omega]
        have hAl : Dp K H2 (.ref A) (.list (upF d l l.length)) := .of_lst (x2 _ _ eA) (DpAll.mono x2 hws)
        refine d_ixl hAl (atI_nat (upF_get hjl hb)) fun w1 hw1 => ?_
        walk_at "49"
        walk_at "50"
        walk_at "69"
        walk_at "88"
        refine d_cut hw1 fun w2 H3 x3 hw2 => ?_
        rw [cutP_to (by rw [List.length_cons]; omega)] at hw2
        walk_at "35"
        walk_at "9"
        walk_at "69"
        walk_at "10"
        walk_at "83"
        intro p4 H4 n4 x4 e4
        have hp4 : Dp K H4 (.ref p4) (.tuple [putF3 c' (l.drop (j + 1)) e]) := .of_tup e4 (DpAll.mono x4 (.cons (Dp.mono x3 hu6) .nil))
        refine d_plus (Dp.mono x4 hw2) hp4 (by rw [List.length_take]; simp only [List.length_cons, List.length_nil]; omega) fun w5 H5 x5 hw5 => ?_
        have x25 := xtr x3 (xtr x4 x5)
        walk_at "48"
        walk_at "8"
        walk_at "69"
        walk_at "69"
        refine d_ixl (Dp.mono x25 hAl) (atI_nat (upF_get hjl hb)) fun w6 hw6 => ?_
        walk_at "50"
        walk_at "8"
        walk_at "69"
        walk_at "7"
        walk_at "56"
        walk_at "88"
        walk_at "49"
        refine d_cut hw6 fun w7 H7 x7 hw7 => ?_
        rw [show ((l[j] + 1 : Nat) : Int) + 1 = ((l[j] + 2 : Nat) : Int) by omega, cutP_fr (by rw [List.length_cons]; omega)] at hw7
        refine d_plus (Dp.mono x7 hw5) hw7 (by rw [List.length_append, List.length_take, List.length_drop]; simp only [List.length_cons, List.length_nil]; omega) fun y9 H9 x9 hy9 => ?_
        rw [set_split hk, ← hput] at hy9
        walk_at "6"
        refine ⟨_, _, _, y9, .tuple (.str z :: ds), rfl, xtr x2 (xtr x25 (xtr x7 x9)), ?_, ?_⟩
        · rw [show l.length - (i + 1) = j by omega]; exact hb
        · rw [show l.length - (i + 1) = j by omega]; exact hy9
      · rintro σ' H2 ⟨y5, y7, y8, u6, c', rfl, x2, hc2, hu6⟩
        rw [Nat.sub_self, List.take_zero, partF] at hc2
        cases hc2
        rw [Nat.sub_self, List.drop_zero] at hu6
        walk_at "2"
        walk_at "69"
        exact q1 c u6 H2 hc (xtr xx x2) hu6


theorem ok_is_term (T : Top0 P K mg) : FnOk P w K mg base CX0 5 T.f_is_term T.fd_is_term ["vocabulary", "value"] (sp_is_term T) := by
  refine T.F_is_term.ok sc_is_term (fun vs H Q E h => ?_) (fun cdv A outer s H vs Q E hr h => ?_)
  · obtain ⟨a, v, x, d, n, rfl, hV, ok, hv, hs, hn, q⟩ := h
    rfl
  · obtain ⟨a, v, x, d, n, rfl, hV, ok, hv, hs, hn, q⟩ := h
    refine ⟨_, (pss_cons (ps_set (i := 2) sc_is_term.nd rfl (Or.inl rfl) (pe_call (ok__layer_sort T) (hr.mono (by first | decide | exact Nat.le_refl _ | omega | (show _ ≤ _ + n; omega))) (by rfl) T.g__layer_sort T.F__layer_sort.kp T.b__layer_sort .nil pass0 (pa_cons (pv 0) (pa_cons (pv 1) pa_nil))))
      (pss_one (ps_ret (pe_and (pe_cmpR op_notN1 (pv 2) pe_non (nomark _)) (pe_and (pe_cmpR (r := rNeU K) (op_neU hr) (pv 2) (pe_glob (v := .str "truth") (by rfl) T.c_TRUTH_SORT ⟨_, rfl⟩) (nomark _)) (pe_one (pe_call (ok__parts_fit T) (hr.mono (by first | decide | exact Nat.le_refl _ | omega | (show _ ≤ _ + n; omega))) (by rfl) T.g__parts_fit T.F__parts_fit.kp T.b__parts_fit .nil pass0 (pa_cons (pv 0) (pa_cons (pv 1) pa_nil))))))))), ?_⟩
    walk_at "0"
    walk_at "1"
    walk_at "12"
    walk_at "9"
    walk_at "69"
    walk_at "9"
    walk_at "69"
    walk_at "10"
    refine ⟨a, v, x, d, n, rfl, hV, ok, hv, hs, hn, fun H1 x1 => ?_⟩
    have ho1 : optV none = V.non := rfl
    have ho2 : ∀ s, optV (some s) = V.str s := fun _ => rfl
    have hq := q H1 x1
    cases e : layerF x d with
    | none =>
      rw [ho1]
      rw [(term_none ok e).1] at hq
      walk_at "6"
      walk_at "2"
      walk_at "19"
      walk_at "8"
      walk_at "69"
      walk_at "7"
      walk_at "64"
      walk_at "88"
      walk_at "89"
      exact hq
    | some s =>
      rw [ho2]
      rw [(term_some ok e).1] at hq
      walk_at "6"
      walk_at "2"
      walk_at "19"
      walk_at "8"
      walk_at "69"
      walk_at "7"
      walk_at "64"
      walk_at "88"
      walk_at "90"
      walk_at "19"
      walk_at "8"
      walk_at "69"
      walk_at "7"
      walk_at "76"
      walk_at "88"
      by_cases hs2 : s = "truth"
      · subst hs2
        rw [show decide (V.str "truth" = V.str "truth") = true from decide_eq_true rfl]
        walk_at "89"
        exact hq
      · rw [show decide (V.str s = V.str "truth") = false from decide_eq_false (fun h => hs2 (by injection h))]
        rw [decide_eq_true (show s ≠ "truth" from hs2), Bool.true_and] at hq
        walk_at "90"
        walk_at "12"
        walk_at "9"
        walk_at "69"
        walk_at "9"
        walk_at "69"
        walk_at "10"
        refine ⟨a, v, x, d, n, s, rfl, VocAt.mono x1 hV, ok, Dp.mono x1 hv, hs, hn, e, fun H2 x2 => ?_⟩
        have hq2 := q H2 (xtr x1 x2)
        rw [(term_some ok e).1, decide_eq_true (show s ≠ "truth" from hs2), Bool.true_and] at hq2
        exact hq2



theorem ok_is_atom (T : Top0 P K mg) : FnOk P w K mg base CX0 5 T.f_is_atom T.fd_is_atom ["vocabulary", "value"] (sp_is_atom T) := by
  refine T.F_is_atom.ok sc_is_atom (fun vs H Q E h => ?_) (fun cdv A outer s H vs Q E hr h => ?_)
  · obtain ⟨a, v, x, d, n, rfl, hV, ok, hv, hs, hn, q⟩ := h
    rfl
  · obtain ⟨a, v, x, d, n, rfl, hV, ok, hv, hs, hn, q⟩ := h
    refine ⟨_, (pss_one (ps_ret (pe_and (pe_cmpR (r := rEqU K) (op_eqU hr) (pe_call (ok__layer_sort T) (hr.mono (by first | decide | exact Nat.le_refl _ | omega | (show _ ≤ _ + n; omega))) (by rfl) T.g__layer_sort T.F__layer_sort.kp T.b__layer_sort .nil pass0 (pa_cons (pv 0) (pa_cons (pv 1) pa_nil))) (pe_glob (v := .str "truth") (by rfl) T.c_TRUTH_SORT ⟨_, rfl⟩) (nomark _)) (pe_one (pe_call (ok__parts_fit T) (hr.mono (by first | decide | exact Nat.le_refl _ | omega | (show _ ≤ _ + n; omega))) (by rfl) T.g__parts_fit T.F__parts_fit.kp T.b__parts_fit .nil pass0 (pa_cons (pv 0) (pa_cons (pv 1) pa_nil))))))), ?_⟩
    walk_at "2"
    walk_at "19"
    walk_at "8"
    walk_at "12"
    walk_at "9"
    walk_at "69"
    walk_at "9"
    walk_at "69"
    walk_at "10"
    refine ⟨a, v, x, d, n, rfl, hV, ok, hv, hs, hn, fun H1 x1 => ?_⟩
    have ho1 : optV none = V.non := rfl
    have ho2 : ∀ s, optV (some s) = V.str s := fun _ => rfl
    have hq := q H1 x1
    cases e : layerF x d with
    | none =>
      rw [ho1]
      rw [(term_none ok e).2] at hq
      walk_at "7"
      walk_at "75"
      walk_at "88"
      walk_at "89"
      exact hq
    | some s =>
      rw [ho2]
      rw [(term_some ok e).2] at hq
      walk_at "7"
      walk_at "75"
      walk_at "88"
      by_cases hs2 : s = "truth"
      · subst hs2
        rw [show decide (V.str "truth" = V.str "truth") = true from decide_eq_true rfl]
        walk_at "90"
        walk_at "12"
        walk_at "9"
        walk_at "69"
        walk_at "9"
        walk_at "69"
        walk_at "10"
        refine ⟨a, v, x, d, n, _, rfl, VocAt.mono x1 hV, ok, Dp.mono x1 hv, hs, hn, e, fun H2 x2 => ?_⟩
        have hq2 := q H2 (xtr x1 x2)
        rw [(term_some ok e).2] at hq2
        exact hq2
      · rw [show decide (V.str s = V.str "truth") = false from decide_eq_false (fun h => hs2 (by injection h))]
        rw [decide_eq_false hs2, Bool.false_and] at hq
        walk_at "89"
        exact hq



theorem ok__law_refused (T : Top0 P K mg) : FnOk P w K mg base CX0 6 T.f__law_refused T.fd__law_refused ["tree", "spot", "fresh"] (sp__law_refused T) := by
  refine T.F__law_refused.ok sc__law_refused (fun vs H Q E h => ?_) (fun cdv A outer s H vs Q E hr h => ?_)
  · obtain ⟨v, u, y, d, ed, k, W, m, W2, l, rfl, hv, ht, hW, hu, pok, hy, he, hW2, hn, q⟩ := h
    rfl
  · obtain ⟨v, u, y, d, ed, k, W, m, W2, l, rfl, hv, ht, hW, hu, pok, hy, he, hW2, hn, q⟩ := h
    refine ⟨_, (pss_cons (ps_set (i := 3) sc__law_refused.nd rfl (Or.inl rfl) (pe_lst pa_nil))
      (pss_cons (ps_try_as (i := 4) rfl rfl sc__law_refused.nd rfl rfl ⟨rfl, by decide, .inl T.g_ClaimError⟩ takes0 (fun W pn xe tk po => (pss_one (ps_expr (pe_callS (ok_part_at T) (hr.mono (by first | decide | exact Nat.le_refl _ | omega | (show _ ≤ _ + n; omega))) (by rfl) T.g_part_at T.F_part_at.kp T.b_part_at (fun σ => passAt tk σ) (pa_cons (pv 0) (pa_cons (pv 1) pa_nil)))))) (fun a oe cls d pn hz hf => (pss_cons (ps_set (i := 5) sc__law_refused.nd rfl (Or.inl rfl) (pe_lst (pa_cons (pe_callB (r := rIsS K a cls d) (call_isS hz hf) (by rfl) T.n_isinstance PyProof.Rows.boot_isinstance (pa_cons (pv 4) (pa_cons (pe_glob (v := .ref T.C_BadName) (by rfl) T.g_BadName rfl) pa_nil))) (pa_cons (pe_callB (r := rIsS K a cls d) (call_isS hz hf) (by rfl) T.n_isinstance PyProof.Rows.boot_isinstance (pa_cons (pv 4) (pa_cons (pe_glob (v := .ref T.C_BadSize) (by rfl) T.g_BadSize rfl) pa_nil))) (pa_cons (pe_callB (r := rIsS K a cls d) (call_isS hz hf) (by rfl) T.n_isinstance PyProof.Rows.boot_isinstance (pa_cons (pv 4) (pa_cons (pe_glob (v := .ref T.C_BadTable) (by rfl) T.g_BadTable rfl) pa_nil))) (pa_cons (pe_callB (r := rIsS K a cls d) (call_isS hz hf) (by rfl) T.n_isinstance PyProof.Rows.boot_isinstance (pa_cons (pv 4) (pa_cons (pe_glob (v := .ref T.C_FilledTwice) (by rfl) T.g_FilledTwice rfl) pa_nil))) pa_nil))))))
      (pss_cons (ps_set (i := 5) sc__law_refused.nd rfl (Or.inl rfl) (pe_op (r := rPlus K) op_plus (pv 5) (pe_lst (pa_cons (pe_callB (r := rIsS K a cls d) (call_isS hz hf) (by rfl) T.n_isinstance PyProof.Rows.boot_isinstance (pa_cons (pv 4) (pa_cons (pe_glob (v := .ref T.C_NoSelection) (by rfl) T.g_NoSelection rfl) pa_nil))) (pa_cons (pe_callB (r := rIsS K a cls d) (call_isS hz hf) (by rfl) T.n_isinstance PyProof.Rows.boot_isinstance (pa_cons (pv 4) (pa_cons (pe_glob (v := .ref T.C_TextError) (by rfl) T.g_TextError rfl) pa_nil))) (pa_cons (pe_not (pe_callB (r := rIsS K a cls d) (call_isS hz hf) (by rfl) T.n_isinstance PyProof.Rows.boot_isinstance (pa_cons (pv 4) (pa_cons (pe_bltn (v := .ty "ValueError") (by rfl) T.n_ValueError (by decide +kernel) rfl) pa_nil)))) pa_nil))))))
      (pss_one (ps_if (PW.pt (pw_and (pt_val (pe_callB (r := rIsS K a cls d) (call_isS hz hf) (by rfl) T.n_isinstance PyProof.Rows.boot_isinstance (pa_cons (pv 4) (pa_cons (pe_glob (v := .ref T.C_BadPlace) (by rfl) T.g_BadPlace rfl) pa_nil)))) (pw_and1 (pt_cmpR (r := rNotInU K) op_notInU pe_bl (pv 5) (by with_unfolding_all rfl))))) (pss_one (ps_expr (show PE _ _ (tBM K "list" rAppend _ _) from pe_bm PySem.F.plainAttrs_list PySem.F.slot_list_append PySem.F.type_list_append mt_append (pv 3) (pa_cons (show PE _ _ (tXs K a cls d _ _) from pe_xs hz hf (pv 4)) pa_nil)))) pss_nil))))))
      (pss_cons (ps_try_as (i := 4) rfl rfl sc__law_refused.nd rfl rfl ⟨rfl, by decide, .inl T.g_ClaimError⟩ takes0 (fun W pn xe tk po => (pss_one (ps_expr (pe_callS (ok_put_at T) (hr.mono (by first | decide | exact Nat.le_refl _ | omega | (show _ ≤ _ + n; omega))) (by rfl) T.g_put_at T.F_put_at.kp T.b_put_at (fun σ => passAt tk σ) (pa_cons (pv 0) (pa_cons (pv 1) (pa_cons (pv 2) pa_nil))))))) (fun a oe cls d pn hz hf => (pss_cons (ps_set (i := 5) sc__law_refused.nd rfl (Or.inl rfl) (pe_lst (pa_cons (pe_callB (r := rIsS K a cls d) (call_isS hz hf) (by rfl) T.n_isinstance PyProof.Rows.boot_isinstance (pa_cons (pv 4) (pa_cons (pe_glob (v := .ref T.C_BadName) (by rfl) T.g_BadName rfl) pa_nil))) (pa_cons (pe_callB (r := rIsS K a cls d) (call_isS hz hf) (by rfl) T.n_isinstance PyProof.Rows.boot_isinstance (pa_cons (pv 4) (pa_cons (pe_glob (v := .ref T.C_BadSize) (by rfl) T.g_BadSize rfl) pa_nil))) (pa_cons (pe_callB (r := rIsS K a cls d) (call_isS hz hf) (by rfl) T.n_isinstance PyProof.Rows.boot_isinstance (pa_cons (pv 4) (pa_cons (pe_glob (v := .ref T.C_BadTable) (by rfl) T.g_BadTable rfl) pa_nil))) (pa_cons (pe_callB (r := rIsS K a cls d) (call_isS hz hf) (by rfl) T.n_isinstance PyProof.Rows.boot_isinstance (pa_cons (pv 4) (pa_cons (pe_glob (v := .ref T.C_FilledTwice) (by rfl) T.g_FilledTwice rfl) pa_nil))) pa_nil))))))
      (pss_cons (ps_set (i := 5) sc__law_refused.nd rfl (Or.inl rfl) (pe_op (r := rPlus K) op_plus (pv 5) (pe_lst (pa_cons (pe_callB (r := rIsS K a cls d) (call_isS hz hf) (by rfl) T.n_isinstance PyProof.Rows.boot_isinstance (pa_cons (pv 4) (pa_cons (pe_glob (v := .ref T.C_NoSelection) (by rfl) T.g_NoSelection rfl) pa_nil))) (pa_cons (pe_callB (r := rIsS K a cls d) (call_isS hz hf) (by rfl) T.n_isinstance PyProof.Rows.boot_isinstance (pa_cons (pv 4) (pa_cons (pe_glob (v := .ref T.C_TextError) (by rfl) T.g_TextError rfl) pa_nil))) (pa_cons (pe_not (pe_callB (r := rIsS K a cls d) (call_isS hz hf) (by rfl) T.n_isinstance PyProof.Rows.boot_isinstance (pa_cons (pv 4) (pa_cons (pe_bltn (v := .ty "ValueError") (by rfl) T.n_ValueError (by decide +kernel) rfl) pa_nil)))) pa_nil))))))
      (pss_one (ps_if (PW.pt (pw_and (pt_val (pe_callB (r := rIsS K a cls d) (call_isS hz hf) (by rfl) T.n_isinstance PyProof.Rows.boot_isinstance (pa_cons (pv 4) (pa_cons (pe_glob (v := .ref T.C_BadPlace) (by rfl) T.g_BadPlace rfl) pa_nil)))) (pw_and1 (pt_cmpR (r := rNotInU K) op_notInU pe_bl (pv 5) (by with_unfolding_all rfl))))) (pss_one (ps_expr (show PE _ _ (tBM K "list" rAppend _ _) from pe_bm PySem.F.plainAttrs_list PySem.F.slot_list_append PySem.F.type_list_append mt_append (pv 3) (pa_cons (show PE _ _ (tXs K a cls d _ _) from pe_xs hz hf (pv 4)) pa_nil)))) pss_nil))))))
      (pss_one (ps_ret (pe_cmpR (r := rEqU K) (op_eqU hr) (pv 3) (pe_lst (pa_cons (pv 1) (pa_cons (pv 1) pa_nil))) (nomark _))))))), ?_⟩
    walk_at "0"
    walk_at "1"
    walk_at "34"
    walk_at "10"
    walk_at "82"
    intro p0 H0 n0 x0 e0
    walk_at "6"
    walk_at "0"
    walk_at "3"
    show tCons _ _ _ _ _
    walk_at "9"
    walk_at "69"
    walk_at "9"
    walk_at "69"
    walk_at "10"
    refine ⟨v, u, d, k, W, l, rfl, Dp.mono x0 hv, ht, hW, Dp.mono x0 hu, pok, (fun c w h _ => by rw [hn] at h; cases h), fun _ dd H' xa e => ?_⟩
    refine ⟨true, exm_bp T, fun _ a ha => ?_, fun h => by cases h⟩
    walk_at "0"
    walk_at "1"
    walk_at "34"
    walk_at "9"
    walk_at "11"
    walk_at "9"
    walk_at "69"
    walk_at "9"
    walk_at "7"
    walk_at "10"
    refine is_at T (i := 0) rfl e ?_
    walk_at "9"
    walk_at "11"
    walk_at "9"
    walk_at "69"
    walk_at "9"
    walk_at "7"
    walk_at "10"
    refine is_at T (i := 4) rfl e ?_
    walk_at "9"
    walk_at "11"
    walk_at "9"
    walk_at "69"
    walk_at "9"
    walk_at "7"
    walk_at "10"
    refine is_at T (i := 3) rfl e ?_
    walk_at "9"
    walk_at "11"
    walk_at "9"
    walk_at "69"
    walk_at "9"
    walk_at "7"
    walk_at "10"
    refine is_at T (i := 6) rfl e ?_
    walk_at "10"
    walk_at "82"
    intro p1 H1 n1 x1 e1
    walk_at "6"
    walk_at "0"
    walk_at "1"
    walk_at "8"
    walk_at "69"
    walk_at "34"
    walk_at "9"
    walk_at "11"
    walk_at "9"
    walk_at "69"
    walk_at "9"
    walk_at "7"
    walk_at "10"
    refine is_at T (i := 7) rfl (x1 _ _ e) ?_
    walk_at "9"
    walk_at "11"
    walk_at "9"
    walk_at "69"
    walk_at "9"
    walk_at "7"
    walk_at "10"
    refine is_te T (x1 _ _ e) ?_
    walk_at "9"
    walk_at "21"
    walk_at "11"
    walk_at "9"
    walk_at "69"
    walk_at "9"
    walk_at "7"
    walk_at "10"
    refine is_ve T (x1 _ _ e) ?_
    walk_at "88"
    walk_at "10"
    walk_at "82"
    intro p2 H2 n2 x2 e2
    refine v_plus_lst (x2 _ _ e1) e2 (szL (Nat.le_of_ble_eq_true rfl)) fun p3 H3 n3 x3 e3 => ?_
    have x13 := xtr x1 (xtr x2 x3)
    walk_at "6"
    walk_at "4"
    walk_at "17"
    walk_at "15"
    walk_at "11"
    walk_at "9"
    walk_at "69"
    walk_at "9"
    walk_at "7"
    walk_at "10"
    refine is_at T (i := 5) rfl (x13 _ _ e) ?_
    walk_at "88"
    walk_at "90"
    walk_at "14"
    walk_at "8"
    walk_at "7"
    walk_at "69"
    refine v_notin_q (.inl (sql e3)) rfl rfl ?_
    walk_at "88"
    walk_at "90"
    walk_at "3"
    walk_at "36"
    walk_at "69"
    have e13 := x13 _ _ e
    have e0' := (xtr xa x13) _ _ e0
    refine ⟨ty_l e0', ?_⟩
    walk_at "9"
    show tVar 4 _ _ _
    walk_at "69"
    refine ⟨rfl, T.C_BadPlace, dd, _, _, rfl, T.E_BadPlace.xf, T.E_BadPlace.no, rfl, e13, rfl, ?_⟩
    walk_at "10"
    refine v_app e0' (by show 0 < _; omega) ?_
    walk_at "0"
    walk_at "3"
    have hx : Xt H (upd H3 p0 (.lst ([] ++ [u]))) := xmut (xtr (xtr x0 xa) x13) n0
    have g0 : (upd H3 p0 (.lst ([] ++ [u]))) p0 = some (.lst [u]) := upd_same
    generalize upd H3 p0 (.lst ([] ++ [u])) = G at hx g0 ⊢
    show tCons _ _ _ _ _
    walk_at "9"
    walk_at "69"
    walk_at "9"
    walk_at "69"
    walk_at "9"
    walk_at "69"
    walk_at "10"
    refine ⟨v, u, y, d, ed, k, W, m, W2, l, rfl, Dp.mono hx hv, ht, hW, Dp.mono hx hu, pok, Dp.mono hx hy, he, hW2, (fun c w H' h _ _ => by rw [hn] at h; cases h), fun _ dd2 H' xb f => ?_⟩
    refine ⟨true, exm_bp T, fun _ a ha => ?_, fun h => by cases h⟩
    walk_at "0"
    walk_at "1"
    walk_at "34"
    walk_at "9"
    walk_at "11"
    walk_at "9"
    walk_at "69"
    walk_at "9"
    walk_at "7"
    walk_at "10"
    refine is_at T (i := 0) rfl f ?_
    walk_at "9"
    walk_at "11"
    walk_at "9"
    walk_at "69"
    walk_at "9"
    walk_at "7"
    walk_at "10"
    refine is_at T (i := 4) rfl f ?_
    walk_at "9"
    walk_at "11"
    walk_at "9"
    walk_at "69"
    walk_at "9"
    walk_at "7"
    walk_at "10"
    refine is_at T (i := 3) rfl f ?_
    walk_at "9"
    walk_at "11"
    walk_at "9"
    walk_at "69"
    walk_at "9"
    walk_at "7"
    walk_at "10"
    refine is_at T (i := 6) rfl f ?_
    walk_at "10"
    walk_at "82"
    intro q1 J1 m1 w1 f1
    walk_at "6"
    walk_at "0"
    walk_at "1"
    walk_at "8"
    walk_at "69"
    walk_at "34"
    walk_at "9"
    walk_at "11"
    walk_at "9"
    walk_at "69"
    walk_at "9"
    walk_at "7"
    walk_at "10"
    refine is_at T (i := 7) rfl (w1 _ _ f) ?_
    walk_at "9"
    walk_at "11"
    walk_at "9"
    walk_at "69"
    walk_at "9"
    walk_at "7"
    walk_at "10"
    refine is_te T (w1 _ _ f) ?_
    walk_at "9"
    walk_at "21"
    walk_at "11"
    walk_at "9"
    walk_at "69"
    walk_at "9"
    walk_at "7"
    walk_at "10"
    refine is_ve T (w1 _ _ f) ?_
    walk_at "88"
    walk_at "10"
    walk_at "82"
    intro q2 J2 m2 w2 f2
    refine v_plus_lst (w2 _ _ f1) f2 (szL (Nat.le_of_ble_eq_true rfl)) fun q3 J3 m3 w3 f3 => ?_
    have w13 := xtr w1 (xtr w2 w3)
    walk_at "6"
    walk_at "4"
    walk_at "17"
    walk_at "15"
    walk_at "11"
    walk_at "9"
    walk_at "69"
    walk_at "9"
    walk_at "7"
    walk_at "10"
    refine is_at T (i := 5) rfl (w13 _ _ f) ?_
    walk_at "88"
    walk_at "90"
    walk_at "14"
    walk_at "8"
    walk_at "7"
    walk_at "69"
    refine v_notin_q (.inl (sql f3)) rfl rfl ?_
    walk_at "88"
    walk_at "90"
    walk_at "3"
    walk_at "36"
    walk_at "69"
    have f13 := w13 _ _ f
    have f0' := (xtr xb w13) _ _ g0
    refine ⟨ty_l f0', ?_⟩
    walk_at "9"
    show tVar 4 _ _ _
    walk_at "69"
    refine ⟨rfl, T.C_BadPlace, dd2, _, _, rfl, T.E_BadPlace.xf, T.E_BadPlace.no, rfl, f13, rfl, ?_⟩
    walk_at "10"
    refine v_app f0' (by show 1 < _; omega) ?_
    walk_at "2"
    walk_at "8"
    walk_at "69"
    walk_at "34"
    walk_at "9"
    walk_at "69"
    walk_at "9"
    walk_at "69"
    walk_at "10"
    walk_at "82"
    have xx := xtr (xtr hx xb) w13
    have hy2 : Xt H (upd J3 p0 (.lst ([u] ++ [u]))) := xmut xx n0
    have hu2 := Dp.mono hy2 hu
    have g1 : (upd J3 p0 (.lst ([u] ++ [u]))) p0 = some (.lst [u, u]) := upd_same
    generalize upd J3 p0 (.lst ([u] ++ [u])) = G2 at hy2 hu2 g1 ⊢
    skip
    intro p7 H7 n7 x7 e7
    have hu7 := Dp.mono x7 hu2
    refine d_eqq (.of_lst (x7 _ _ g1) (.cons hu7 (.cons hu7 .nil))) (.of_lst e7 (.cons hu7 (.cons hu7 .nil))) (two_shaped l) ?_
    exact q H7 (xtr hy2 x7)


theorem ok__law_wrapped (T : Top0 P K mg) : FnOk P w K mg base CX0 10 T.f__law_wrapped T.fd__law_wrapped ["vocabulary", "tree", "sort", "row", "many", "variables"] (sp__law_wrapped T) := by
  refine T.F__law_wrapped.ok sc__law_wrapped (fun vs H Q E h => ?_) (fun cdv A outer s H vs Q E hr h => ?_)
  · obtain ⟨l, r, vr, tv, x, st, d0, n, ds, many, vl, ws, rfl, hL, lok, hst, htv, htm, hn2, hds, hd0, hd1, hm, hvr, hvd, vok, q⟩ := h
    rfl
  · obtain ⟨l, r, vr, tv, x, st, d0, n, ds, many, vl, ws, rfl, hL, lok, hst, htv, htm, hn2, hds, hd0, hd1, hm, hvr, hvd, vok, q⟩ := h
    refine ⟨_, (pss_cons (ps_for PassesOwn.never rfl (pi_range1 (by rfl) T.n_range (pa_cons (pv 4) pa_nil)) (pg_name (i := 6) sc__law_wrapped.nd rfl (Or.inl rfl)) (pss_cons (ps_set (i := 7) sc__law_wrapped.nd rfl (Or.inl rfl) (pe_lst pa_nil))
      (pss_cons (ps_for PassesOwn.never rfl (pi_list (pe_ix (r := rIx K) ix_seq (pv 0) pe_int (fun _ _ => rfl))) (pg_name (i := 8) sc__law_wrapped.nd rfl (Or.inl rfl)) (pss_one (ps_for PassesOwn.never rfl (pi_range1 (by rfl) T.n_range (pa_cons (pe_callB (r := rLenU K) call_lenU (by rfl) T.n_len PySem.boot_len (pa_cons (pe_ix (r := rIx K) ix_seq (pv 8) pe_int (fun _ _ => rfl)) pa_nil)) pa_nil)) (pg_name (i := 9) sc__law_wrapped.nd rfl (Or.inl rfl)) (pss_one (ps_if (pt_cmpR (r := rEqU K) (op_eqU hr) (pe_ix (r := rIx K) ix_seq (pe_ix (r := rIx K) ix_seq (pv 8) pe_int (fun _ _ => rfl)) (pv 9) (fun _ _ => rfl)) (pv 2) (nomark _)) (pss_one (ps_expr (pe_bm PySem.F.plainAttrs_list PySem.F.slot_list_append PySem.F.type_list_append mt_append (pv 7) (pa_cons (pe_lst (pa_cons (pv 8) (pa_cons (pv 9) pa_nil))) pa_nil)))) pss_nil)))))
      (pss_cons (ps_if (pt_cmpR (r := rEqU K) (op_eqU hr) (pe_callB (r := rLenU K) call_lenU (by rfl) T.n_len PySem.boot_len (pa_cons (pv 7) pa_nil)) pe_int (nomark _)) (pss_one (ps_ret (pe_lst (pa_cons (pv 1) (pa_cons (pv 2) pa_nil))))) pss_nil)
      (pss_cons (ps_set (i := 10) sc__law_wrapped.nd rfl (Or.inl rfl) (pe_ix (r := rIx K) ix_seq (pv 7) (pe_op op_mod (pe_callTy call_intU (by rfl) T.n_int PyProof.Rows.boot_int (pa_cons (pe_ix (r := rIx K) ix_seq (pv 3) (pe_op op_mod (pe_callTy call_intU (by rfl) T.n_int PyProof.Rows.boot_int (pa_cons (pe_op op_timesU pe_int (pv 6)) pa_nil)) (pe_callB (r := rLenU K) call_lenU (by rfl) T.n_len PySem.boot_len (pa_cons (pv 3) pa_nil))) (fun _ _ => rfl)) pa_nil)) (pe_callB (r := rLenU K) call_lenU (by rfl) T.n_len PySem.boot_len (pa_cons (pv 7) pa_nil))) (fun _ _ => rfl)))
      (pss_cons (ps_set (i := 11) sc__law_wrapped.nd rfl (Or.inl rfl) (pe_tup (pa_cons (pe_ix (r := rIx K) ix_seq (pe_ix (r := rIx K) ix_seq (pv 10) pe_int (fun _ _ => rfl)) pe_int (fun _ _ => rfl)) pa_nil)))
      (pss_cons (ps_for PassesOwn.never rfl (pi_range1 (by rfl) T.n_range (pa_cons (pe_callB (r := rLenU K) call_lenU (by rfl) T.n_len PySem.boot_len (pa_cons (pe_ix (r := rIx K) ix_seq (pe_ix (r := rIx K) ix_seq (pv 10) pe_int (fun _ _ => rfl)) pe_int (fun _ _ => rfl)) pa_nil)) pa_nil)) (pg_name (i := 9) sc__law_wrapped.nd rfl (Or.inl rfl)) (pss_one (ps_if (pt_cmpR (r := rEqU K) (op_eqU hr) (pv 9) (pe_ix (r := rIx K) ix_seq (pv 10) pe_int (fun _ _ => rfl)) (nomark _)) (pss_one (ps_set (i := 11) sc__law_wrapped.nd rfl (Or.inl rfl) (pe_op (r := rPlus K) op_plus (pv 11) (pe_tup (pa_cons (pv 1) pa_nil))))) (pss_one (ps_set (i := 11) sc__law_wrapped.nd rfl (Or.inl rfl) (pe_op (r := rPlus K) op_plus (pv 11) (pe_tup (pa_cons (pe_ix (r := rIx K) ix_seq (pe_call (ok__law_term T 8) (hr.mono (by first | decide | exact Nat.le_refl _ | omega | (show _ ≤ _ + n; omega))) (by rfl) T.g__law_term T.F__law_term.kp T.b__law_term .nil pass0 (pa_cons (pv 0) (pa_cons (pe_ix (r := rIx K) ix_seq (pe_ix (r := rIx K) ix_seq (pe_ix (r := rIx K) ix_seq (pv 10) pe_int (fun _ _ => rfl)) pe_int (fun _ _ => rfl)) (pv 9) (fun _ _ => rfl)) (pa_cons (pv 3) (pa_cons (pe_op (r := rPlus K) op_plus (pe_op (r := rPlus K) op_plus (pe_op op_timesU pe_int (pv 6)) pe_int) (pv 9)) (pa_cons pe_int (pa_cons (pv 5) pa_nil))))))) pe_int (fun _ _ => rfl)) pa_nil))))))))
      (pss_cons (ps_set (i := 1) sc__law_wrapped.nd rfl (Or.inl rfl) (pv 11))
      (pss_one (ps_set (i := 2) sc__law_wrapped.nd rfl (Or.inl rfl) (pe_ix (r := rIx K) ix_seq (pe_ix (r := rIx K) ix_seq (pv 10) pe_int (fun _ _ => rfl)) pe_int (fun _ _ => rfl))))))))))))
      (pss_one (ps_ret (pe_lst (pa_cons (pv 1) (pa_cons (pv 2) pa_nil)))))), ?_⟩
    obtain ⟨a, b, c, fs, ps, h1, h2, h3, h4, h5, h6⟩ := hL
    have hL : LexAt K H l x := ⟨a, b, c, fs, ps, h1, h2, h3, h4, h5, h6⟩
    have i1 : atI ([.ref a, .ref b, .ref c] : List V) 1 = some (.ref b) := atI_nat (j := 1) rfl
    have hF10 := lok.nF
    have hfl := h4.len
    rw [List.length_map] at hfl
    walk_at "0"
    walk_at "37"
    walk_at "42"
    walk_at "9"
    walk_at "69"
    walk_at "10"
    walk_at "88"
    refine ⟨by omega, by omega, ?_⟩
    refine for_range (lo := 0) (n := many.toNat) (fun k σ' H' => ∃ tv s' d' y6 y7 y8 y9 y10 y11, σ' = [some (.ref l), some tv, some (.str s'), some (.ref r), some (.int many), some (.ref vr), y6, y7, y8, y9, y10, y11] ∧ Xt H H' ∧ Dp K H' tv d' ∧ toldF x d' = some s' ∧ s' ∈ x.S ∧ Bd (3 + k) (210 + 70 * k) d') ⟨tv, st, d0, _, _, _, _, _, _, rfl, xrefl _, htv, htm.td, hst, htm.bd.up (by omega) (Nat.le_trans (wB_le hn2) (by decide))⟩ ?_ ?_
    · rintro k σ' H1 hk ⟨tv1, s1, d1, y6, y7, y8, y9, y10, y11, rfl, x1, htv1, htd1, hs1, hb1⟩
      have e1 := x1 _ _ h1
      have e3 := x1 _ _ h3
      walk_at "6"
      walk_at "0"
      walk_at "1"
      walk_at "34"
      walk_at "10"
      walk_at "82"
      intro D H2 n2 x2 e2
      have hD : H D = none := xfree x1 n2
      have x12 := xtr x1 x2
      have e1' := x2 _ _ e1
      have e3' := x2 _ _ e3
      walk_at "6"
      walk_at "0"
      walk_at "37"
      walk_at "38"
      walk_at "8"
      walk_at "69"
      walk_at "7"
      walk_at "79"
      walk_at "88"
      refine ⟨⟨_, sql e3'⟩, for_list (xs := fs) (fun i σ' H' => ∃ zs y8 y9, σ' = [some (.ref l), some tv1, some (.str s1), some (.ref r), some (.int many), some (.ref vr), some (.int (0 + (k : Int))), some (.ref D), y8, y9, y10, y11] ∧ Xt H1 H' ∧ H' D = some (.lst zs) ∧ zs.length ≤ 3 * i ∧ ∀ z ∈ zs, WayOk K H' x s1 D z) ⟨[], _, _, rfl, x2, e2, Nat.zero_le _, fun z hz => by cases hz⟩ ?_ ?_ ?_⟩
      · rintro i σ' H' hi ⟨zs, y8, y9, rfl, xx, _⟩
        exact xl xx (sql e3)
      · rintro i xv σ' H' hx ⟨zs, y8, y9, rfl, xx, eD, hzl, hz⟩
        obtain ⟨df, hdf, hdp⟩ := DpAll.getV (DpAll.mono (xtr x1 xx) h4) hx
        rw [List.getElem?_map] at hdf
        cases hq : x.F[i]? with
        | none => rw [hq] at hdf; cases hdf
        | some f =>
          rw [hq] at hdf
          cases hdf
          have hf : f ∈ x.F := List.mem_of_getElem? hq
          have hi10 : i < 10 := by have := (List.getElem?_eq_some_iff.mp hq).1; omega
          have h3f := lok.fl f hf
          walk_at "6"
          walk_at "37"
          walk_at "42"
          walk_at "9"
          walk_at "11"
          walk_at "9"
          walk_at "8"
          walk_at "69"
          walk_at "7"
          refine d_ix hdp (atI_nat (j := 1) rfl) fun w1 hw1 => ?_
          walk_at "10"
          refine d_len hw1 ?_
          walk_at "10"
          walk_at "88"
          rw [List.length_map]
          refine ⟨by omega, by omega, ?_⟩
          rw [Int.toNat_natCast]
          refine for_range (lo := 0) (n := f.2.1.length) (fun j σ'' H'' => ∃ zs y9, σ'' = [some (.ref l), some tv1, some (.str s1), some (.ref r), some (.int many), some (.ref vr), some (.int (0 + (k : Int))), some (.ref D), some xv, y9, y10, y11] ∧ Xt H1 H'' ∧ H'' D = some (.lst zs) ∧ zs.length ≤ 3 * i + j ∧ (∀ z ∈ zs, WayOk K H'' x s1 D z) ∧ Dp K H'' xv (fD f)) ⟨zs, _, rfl, xx, eD, by omega, hz, hdp⟩ ?_ ?_
          · rintro j σ'' H3 hj ⟨zs3, y9, rfl, x3, eD3, hzl3, hz3, hdp3⟩
            obtain ⟨s3, hs3⟩ : ∃ s3, f.2.1[j]? = some s3 := ⟨_, List.getElem?_eq_getElem hj⟩
            rw [show ((0 : Int) + (j : Int)) = (j : Int) by omega]
            walk_at "6"
            walk_at "4"
            walk_at "14"
            walk_at "8"
            walk_at "8"
            walk_at "8"
            walk_at "69"
            walk_at "7"
            refine d_ix hdp3 (atI_nat (j := 1) rfl) fun w4 hw4 => ?_
            walk_at "69"
            refine d_ix (d := .str s3) hw4 (atI_nat (by rw [List.getElem?_map, hs3]; rfl)) fun w5 hw5 => ?_
            cases Dp.str_inv hw5
            walk_at "69"
            walk_at "75"
            walk_at "88"
            refine k_if (fun h => ?_) (fun h => ?_)
            · have hss : s3 = s1 := by injection h
              subst hss
              walk_at "3"
              walk_at "36"
              walk_at "69"
              refine ⟨ty_l eD3, ?_⟩
              walk_at "9"
              walk_at "34"
              walk_at "9"
              walk_at "69"
              walk_at "9"
              walk_at "69"
              walk_at "10"
              walk_at "82"
              intro p4 H4 n4 x4 e4
              have eD4 := x4 _ _ eD3
              have hpD : p4 ≠ D := fun e => by rw [e] at n4; rw [n4] at eD3; cases eD3
              walk_at "10"
              refine v_app eD4 (by omega) ?_
              skip
              refine ⟨_, _, rfl, xmut (xtr x3 x4) n2, upd_same, by rw [List.length_append, List.length_singleton]; omega, ?_, Dp.im (fun a zs h => SqT.upd eD4 h) (im_fD f) (Dp.mono x4 hdp3)⟩
              intro z hz'
              rcases List.mem_append.mp hz' with hz' | hz'
              · exact (WayOk.mono x4 (hz3 z hz')).upd eD4
              · rw [List.mem_singleton] at hz'
                subst hz'
                exact WayOk.upd eD4 ⟨p4, xv, j, f, rfl, hpD, e4, Dp.mono x4 hdp3, hf, hs3⟩
            · walk_at "5"
              exact ⟨_, _, rfl, x3, eD3, by omega, hz3, hdp3⟩
          · rintro σ'' H3 ⟨zs3, y9, rfl, x3, eD3, hzl3, hz3, hdp3⟩
            exact ⟨_, _, _, rfl, x3, eD3, by omega, hz3⟩
      · rintro σ' H3 ⟨zs, y8, y9, rfl, x3, eD3, hzl3, hz3⟩
        have x13 := xtr x1 x3
        have hds3 := xl x13 hds
        walk_at "0"
        walk_at "4"
        walk_at "14"
        walk_at "8"
        walk_at "11"
        walk_at "9"
        walk_at "69"
        walk_at "10"
        walk_at "77"
        walk_at "7"
        walk_at "75"
        walk_at "88"
        refine k_if (fun h => ?_) (fun h => ?_)
        · walk_at "2"
          walk_at "34"
          walk_at "9"
          walk_at "69"
          walk_at "9"
          walk_at "69"
          walk_at "10"
          walk_at "82"
          intro p4 H4 n4 x4 e4
          exact q p4 H4 tv1 s1 d1 (xtr x13 x4) e4 (Dp.mono (xtr x3 x4) htv1) htd1 (hb1.up (by omega) (by omega))
        have hzn : 0 < zs.length := by
          rcases Nat.eq_zero_or_pos zs.length with e | e
          · exact absurd (by rw [e]; rfl) h
          · exact e
        obtain ⟨hdl, dg, hdg⟩ := mod_int (ds := ds) (3 * (0 + (k : Int))) hd0
        obtain ⟨cz, hcz⟩ := atI_mod (l := zs) (i := dg) hzn
        obtain ⟨qz, wz, jz, f, rfl, hqD, eq3, hwz, hf, hjz⟩ := hz3 cz (atI_mem hcz)
        have hzi : (0 : Int) < (zs.length : Int) := by omega
        have j0 : atI [wz, V.int (jz : Int)] 0 = some wz := atI_nat (j := 0) rfl
        have j1 : atI [wz, V.int (jz : Int)] 1 = some (.int (jz : Int)) := atI_nat (j := 1) rfl
        have hjf := (List.getElem?_eq_some_iff.mp hjz).1
        have h3f := lok.fl f hf
        walk_at "5"
        walk_at "0"
        walk_at "1"
        walk_at "8"
        walk_at "69"
        walk_at "8"
        walk_at "11"
        walk_at "9"
        walk_at "8"
        walk_at "69"
        walk_at "8"
        walk_at "11"
        walk_at "9"
        walk_at "8"
        walk_at "7"
        walk_at "69"
        walk_at "72"
        walk_at "10"
        walk_at "57"
        walk_at "11"
        walk_at "9"
        walk_at "69"
        walk_at "10"
        walk_at "77"
        walk_at "70"
        walk_at "79"
        walk_at "10"
        walk_at "57"
        walk_at "11"
        walk_at "9"
        walk_at "69"
        walk_at "10"
        walk_at "77"
        walk_at "70"
        walk_at "79"
        walk_at "6"
        walk_at "0"
        walk_at "1"
        walk_at "35"
        walk_at "9"
        walk_at "8"
        walk_at "8"
        walk_at "69"
        walk_at "7"
        walk_at "79"
        walk_at "7"
        refine d_ix hwz (atI_nat (j := 0) rfl) fun w4 hw4 => ?_
        cases Dp.str_inv hw4
        walk_at "10"
        walk_at "83"
        intro p5 H5 n5 x5 e5
        have eq5 := x5 _ _ eq3
        walk_at "6"
        walk_at "0"
        walk_at "37"
        walk_at "42"
        walk_at "9"
        walk_at "11"
        walk_at "9"
        walk_at "8"
        walk_at "8"
        walk_at "69"
        walk_at "7"
        walk_at "79"
        walk_at "7"
        refine d_ix (Dp.mono x5 hwz) (atI_nat (j := 1) rfl) fun w6 hw6 => ?_
        walk_at "10"
        refine d_len hw6 ?_
        walk_at "10"
        walk_at "88"
        rw [List.length_map]
        refine ⟨by omega, by omega, ?_⟩
        rw [Int.toNat_natCast]
        refine for_range (lo := 0) (n := f.2.1.length) (fun j σ'' H'' => ∃ mv es y9, σ'' = [some (.ref l), some tv1, some (.str s1), some (.ref r), some (.int many), some (.ref vr), some (.int (0 + (k : Int))), some (.ref D), y8, y9, some (.ref qz), some mv] ∧ Xt H5 H'' ∧ Dp K H'' mv (.tuple (.str f.1 :: es)) ∧ es.length = j ∧ W1 es ≤ 19 * j + (if jz < j then 210 + 70 * k + 1 else 0) ∧ (∀ e ∈ es, AsD e = true ∧ e.depth ≤ 3 + k) ∧ ∀ (i : Nat) (e : PyData) (s : Str), es[i]? = some e → f.2.1[i]? = some s → toldF x e = some s) ⟨_, [], _, rfl, xrefl _, .of_tup e5 (.cons (.str _) .nil), rfl, (by rw [W1_nil]; exact Nat.zero_le _), (fun e he => by cases he), (fun i e s h => by simp at h)⟩ ?_ ?_
        · rintro j σ'' H6 hj ⟨mv, es, y9', rfl, x6, hmv, hel, hew, hea, hes⟩
          have eq6 := x6 _ _ eq5
          obtain ⟨sj, hsj⟩ : ∃ sj, f.2.1[j]? = some sj := ⟨_, List.getElem?_eq_getElem hj⟩
          have x36 := xtr x5 x6
          rw [show ((0 : Int) + (j : Int)) = (j : Int) by omega]
          have fin : ∀ (e : PyData), toldF x e = some sj → (∀ (i : Nat) (e' : PyData) (s : Str), (es ++ [e])[i]? = some e' → f.2.1[i]? = some s → toldF x e' = some s) := by
            intro e he i e' s h1' h2'
            by_cases hji : i < es.length
            · rw [List.getElem?_append_left hji] at h1'
              exact hes i e' s h1' h2'
            · have hje : i = es.length := by
                have := (List.getElem?_eq_some_iff.mp h1').1
                rw [List.length_append, List.length_singleton] at this; omega
              subst hje
              rw [List.getElem?_append_right (Nat.le_refl _), Nat.sub_self] at h1'
              simp at h1'
              subst h1'
              rw [hel, hsj] at h2'
              cases h2'
              exact he
          walk_at "6"
          walk_at "4"
          walk_at "14"
          walk_at "8"
          walk_at "69"
          walk_at "8"
          walk_at "69"
          walk_at "7"
          walk_at "79"
          walk_at "75"
          walk_at "88"
          refine k_if (fun h => ?_) (fun h => ?_)
          · have hjj : j = jz := by injection h with h; omega
            subst hjj
            have hss : sj = s1 := by rw [hsj] at hjz; cases hjz; rfl
            subst hss
            walk_at "1"
            walk_at "8"
            walk_at "69"
            walk_at "35"
            walk_at "9"
            walk_at "69"
            walk_at "10"
            walk_at "83"
            intro p7 H7 n7 x7 e7
            have hp7 : Dp K H7 (.ref p7) (.tuple [d1]) := .of_tup e7 (DpAll.mono x7 (.cons (Dp.mono (xtr x3 x36) htv1) .nil))
            refine d_plus (Dp.mono x7 hmv) hp7 (by simp only [List.length_cons, List.length_nil]; omega) fun w8 H8 x8 hw8 => ?_
            walk_at "6"
            refine ⟨_, es ++ [d1], _, rfl, xtr x6 (xtr x7 x8), hw8, by rw [List.length_append, List.length_singleton, hel], ?_, ?_, fin d1 htd1⟩
            · rw [W1_app, W1_cons, W1_nil, if_pos (by omega)]
              rw [if_neg (by omega)] at hew
              have := hb1.wt
              omega
            · intro e he
              rcases List.mem_append.mp he with he | he
              · exact hea e he
              · rw [List.mem_singleton] at he; subst he
                exact ⟨hb1.as, hb1.dp⟩
          · have hjj : j ≠ jz := fun e => h (by rw [e])
            walk_at "1"
            walk_at "8"
            walk_at "69"
            walk_at "35"
            walk_at "9"
            walk_at "8"
            walk_at "12"
            walk_at "9"
            walk_at "69"
            walk_at "9"
            walk_at "8"
            walk_at "8"
            walk_at "8"
            walk_at "69"
            walk_at "7"
            walk_at "79"
            walk_at "7"
            refine d_ix (Dp.mono x36 hwz) (atI_nat (j := 1) rfl) fun w7 hw7 => ?_
            walk_at "69"
            refine d_ix (d := .str sj) hw7 (atI_nat (by rw [List.getElem?_map, hsj]; rfl)) fun w8 hw8 => ?_
            cases Dp.str_inv hw8
            walk_at "9"
            walk_at "69"
            walk_at "9"
            walk_at "8"
            walk_at "8"
            walk_at "8"
            walk_at "7"
            walk_at "69"
            walk_at "72"
            walk_at "7"
            walk_at "56"
            walk_at "69"
            walk_at "56"
            walk_at "9"
            walk_at "7"
            walk_at "9"
            walk_at "69"
            walk_at "10"
            have x06 := xtr x13 x36
            refine ⟨l, r, vr, x, sj, ds, _, 0, vl, ws, 0, rfl, LexAt.mono x06 hL, lok, arg_sort lok.ok (F_syms hf) (List.mem_of_getElem? hsj), xl x06 hds, hd0, hd1, by omega, Nat.zero_le _, x06 _ _ hvr, DpAll.mono x06 hvd, vok, fun p9 H9 v9 d9 a9 x9 e9 hd9 tm9 => ?_⟩
            have j9 : atI [v9, V.int a9] 0 = some v9 := atI_nat (j := 0) rfl
            walk_at "7"
            walk_at "79"
            walk_at "10"
            walk_at "83"
            intro p7 H7 n7 x7 e7
            have hp7 : Dp K H7 (.ref p7) (.tuple [d9]) := .of_tup e7 (DpAll.mono x7 (.cons hd9 .nil))
            refine d_plus (Dp.mono (xtr x9 x7) hmv) hp7 (by simp only [List.length_cons, List.length_nil]; omega) fun w8 H8 x8 hw8 => ?_
            walk_at "6"
            refine ⟨_, es ++ [d9], _, rfl, xtr x6 (xtr x9 (xtr x7 x8)), hw8, by rw [List.length_append, List.length_singleton, hel], ?_, ?_, fin d9 tm9.td⟩
            · rw [W1_app, W1_cons, W1_nil]
              have := tm9.bd.wt
              have e18 : wB 0 = 18 := rfl
              by_cases hlt : jz < j
              · rw [if_pos hlt] at hew
                rw [if_pos (by omega)]; omega
              · rw [if_neg hlt] at hew
                rw [if_neg (by omega)]; omega
            · intro e he
              rcases List.mem_append.mp he with he | he
              · exact hea e he
              · rw [List.mem_singleton] at he; subst he
                exact ⟨tm9.bd.as, Nat.le_trans tm9.bd.dp (by omega)⟩
        · rintro σ'' H6 ⟨mv, es, y9', rfl, x6, hmv, hel, hew, hea, hes⟩
          have x36 := xtr x5 x6
          have eq6 := x6 _ _ eq5
          walk_at "0"
          walk_at "1"
          walk_at "69"
          walk_at "6"
          walk_at "1"
          walk_at "8"
          walk_at "8"
          walk_at "69"
          walk_at "7"
          walk_at "79"
          walk_at "7"
          refine d_ix (Dp.mono x36 hwz) (atI_nat (j := 2) rfl) fun w7 hw7 => ?_
          cases Dp.str_inv hw7
          walk_at "6"
          refine ⟨_, _, _, _, _, _, _, _, _, rfl, xtr x13 x36, hmv, told_wrap lok.ok hf hel hes, F_sort lok.ok hf, ?_⟩
          refine (bd_sym lok.ok (F_syms hf) hea hew).up (by omega) ?_
          rw [if_pos (by omega)]; omega
    · rintro σ' H1 ⟨tv1, s1, d1, y6, y7, y8, y9, y10, y11, rfl, x1, htv1, htd1, hs1, hb1⟩
      walk_at "2"
      walk_at "34"
      walk_at "9"
      walk_at "69"
      walk_at "9"
      walk_at "69"
      walk_at "10"
      walk_at "82"
      intro p4 H4 n4 x4 e4
      exact q p4 H4 tv1 s1 d1 (xtr x1 x4) e4 (Dp.mono x4 htv1) htd1 (hb1.up (by omega) (by omega))



theorem ok__law_applied (T : Top0 P K mg) : FnOk P w K mg base CX0 10 T.f__law_applied T.fd__law_applied ["vocabulary", "head", "row", "deep", "variables"] (sp__law_applied T) := by
  refine T.F__law_applied.ok sc__law_applied (fun vs H Q E h => ?_) (fun cdv A outer s H vs Q E hr h => ?_)
  · obtain ⟨l, r, vr, hv, x, f, rest, n, ds, deep, vl, ws, rfl, hL, lok, hf, hh, hds, hd0, hd1, hdeep, hvr, hvd, vok, hn6, q⟩ := h
    rfl
  · obtain ⟨l, r, vr, hv, x, f, rest, n, ds, deep, vl, ws, rfl, hL, lok, hf, hh, hds, hd0, hd1, hdeep, hvr, hvd, vok, hn6, q⟩ := h
    refine ⟨_, (pss_cons (ps_set (i := 5) sc__law_applied.nd rfl (Or.inl rfl) (pe_tup (pa_cons (pe_ix (r := rIx K) ix_seq (pv 1) pe_int (fun _ _ => rfl)) pa_nil)))
      (pss_cons (ps_set (i := 6) sc__law_applied.nd rfl (Or.inl rfl) pe_int)
      (pss_cons (ps_for PassesOwn.never rfl (pi_tup (pe_ix (r := rIx K) ix_seq (pv 1) pe_int (fun _ _ => rfl))) (pg_name (i := 7) sc__law_applied.nd rfl (Or.inl rfl)) (pss_cons (ps_set (i := 8) sc__law_applied.nd rfl (Or.inl rfl) (pe_call (ok__law_term T 8) (hr.mono (by first | decide | exact Nat.le_refl _ | omega | (show _ ≤ _ + n; omega))) (by rfl) T.g__law_term T.F__law_term.kp T.b__law_term .nil pass0 (pa_cons (pv 0) (pa_cons (pv 7) (pa_cons (pv 2) (pa_cons (pv 6) (pa_cons (pv 3) (pa_cons (pv 4) pa_nil))))))))
      (pss_cons (ps_set (i := 5) sc__law_applied.nd rfl (Or.inl rfl) (pe_op (r := rPlus K) op_plus (pv 5) (pe_tup (pa_cons (pe_ix (r := rIx K) ix_seq (pv 8) pe_int (fun _ _ => rfl)) pa_nil))))
      (pss_one (ps_set (i := 6) sc__law_applied.nd rfl (Or.inl rfl) (pe_ix (r := rIx K) ix_seq (pv 8) pe_int (fun _ _ => rfl)))))))
      (pss_one (ps_ret (pv 5)))))), ?_⟩
    walk_at "0"
    walk_at "1"
    walk_at "35"
    walk_at "9"
    walk_at "8"
    walk_at "69"
    walk_at "7"
    refine d_ix hh (atI_nat (j := 0) rfl) fun w0 hw0 => ?_
    cases Dp.str_inv hw0
    walk_at "10"
    walk_at "83"
    intro p4 H4 n4 x4 e4
    have hh4 := Dp.mono x4 hh
    walk_at "6"
    walk_at "0"
    walk_at "1"
    walk_at "7"
    walk_at "6"
    walk_at "0"
    walk_at "37"
    walk_at "39"
    walk_at "8"
    walk_at "69"
    walk_at "7"
    refine d_ix hh4 (atI_nat (j := 1) rfl) fun w1 hw1 => ?_
    obtain ⟨aw, xw, rfl, hSw, hdw⟩ := Dp.tup_inv hw1
    have exw := DpAll.strs_inv hdw
    subst exw
    have h3 : f.2.1.length ≤ 3 := sym_len lok hf
    refine ⟨_, rfl, ⟨_, hSw⟩, for_tup (xs := f.2.1.map V.str) (fun i σ' H' => ∃ a2 mv es y10 y11, σ' = [some (.ref l), some hv, some (.ref r), some (.int deep), some (.ref vr), some mv, some (.int a2), y10, y11] ∧ Xt H4 H' ∧ Dp K H' mv (.tuple (.str f.1 :: es)) ∧ es.length = i ∧ ∀ (j : Nat) (e : PyData) (s : Str), es[j]? = some e → f.2.1[j]? = some s → Tm x n s e) ⟨_, _, [], _, _, rfl, xrefl _, .of_tup e4 (.cons (.str _) .nil), rfl, fun j e s h => by simp at h⟩ ?_ ?_ ?_⟩
    · rintro i σ' H5 hi ⟨a2, mv, es, y10, y11, rfl, x5, _⟩
      exact xt x5 hSw
    · rintro i y σ' H5 hy ⟨a2, mv, es, y10, y11, rfl, x5, hmv, hel, hes⟩
      rw [List.getElem?_map] at hy
      cases hq : f.2.1[i]? with
      | none => rw [hq] at hy; cases hy
      | some sq =>
        rw [hq] at hy
        cases hy
        have hil := (List.getElem?_eq_some_iff.mp hq).1
        have x45 := xtr x4 x5
        walk_at "6"
        walk_at "0"
        walk_at "1"
        walk_at "12"
        walk_at "9"
        walk_at "69"
        walk_at "9"
        walk_at "69"
        walk_at "9"
        walk_at "69"
        walk_at "9"
        walk_at "69"
        walk_at "9"
        walk_at "69"
        walk_at "9"
        walk_at "69"
        walk_at "10"
        refine ⟨l, r, vr, x, sq, ds, a2, deep, vl, ws, n, rfl, LexAt.mono x45 hL, lok, arg_sort lok.ok hf (List.mem_of_getElem? hq), xl x45 hds, hd0, hd1, by omega, by show n ≤ 7; omega, x45 _ _ hvr, DpAll.mono x45 hvd, vok, fun p6 H6 v6 d6 a6 x6 e6 hd6 tm6 => ?_⟩
        have j0 : atI [v6, V.int a6] 0 = some v6 := atI_nat (j := 0) rfl
        have j1 : atI [v6, V.int a6] 1 = some (.int a6) := atI_nat (j := 1) rfl
        walk_at "6"
        walk_at "0"
        walk_at "1"
        walk_at "8"
        walk_at "69"
        walk_at "35"
        walk_at "9"
        walk_at "8"
        walk_at "69"
        walk_at "7"
        walk_at "79"
        walk_at "10"
        walk_at "83"
        intro p7 H7 n7 x7 e7
        have hp7 : Dp K H7 (.ref p7) (.tuple [d6]) := .of_tup e7 (DpAll.mono x7 (.cons hd6 .nil))
        refine d_plus (Dp.mono (xtr x6 x7) hmv) hp7 (by simp only [List.length_cons, List.length_nil]; omega) fun w8 H8 x8 hw8 => ?_
        have e8 := x8 _ _ (x7 _ _ e6)
        walk_at "6"
        walk_at "1"
        walk_at "8"
        walk_at "69"
        walk_at "7"
        walk_at "79"
        walk_at "6"
        refine ⟨_, _, es ++ [d6], _, _, rfl, xtr x5 (xtr x6 (xtr x7 x8)), hw8, by rw [List.length_append, List.length_singleton, hel], fun j e s h1' h2' => ?_⟩
        by_cases hji : j < es.length
        · rw [List.getElem?_append_left hji] at h1'
          exact hes j e s h1' h2'
        · have hje : j = es.length := by
            have := (List.getElem?_eq_some_iff.mp h1').1
            rw [List.length_append, List.length_singleton] at this; omega
          subst hje
          rw [List.getElem?_append_right (Nat.le_refl _), Nat.sub_self] at h1'
          simp at h1'
          subst h1'
          rw [hel, hq] at h2'
          cases h2'
          exact tm6
    · rintro σ' H5 ⟨a2, mv, es, y10, y11, rfl, x5, hmv, hel, hes⟩
      walk_at "2"
      walk_at "69"
      rw [List.length_map] at hel
      exact q H5 mv _ (xtr x4 x5) hmv (tm_mk lok.ok hf hel h3 (by rw [Nat.add_sub_cancel]; exact hes) (.inr (by omega)))



theorem ok__law_large (T : Top0 P K mg) : FnOk P w K mg base CX0 11 T.f__law_large T.fd__law_large ["vocabulary", "digit", "row", "deep", "variables"] (sp__law_large T) := by
  refine T.F__law_large.ok sc__law_large (fun vs H Q E h => ?_) (fun cdv A outer s H vs Q E hr h => ?_)
  · obtain ⟨l, r, vr, x, n, ds, dig, deep, vl, ws, rfl, hL, lok, hne, hds, hd0, hd1, hdeep, hvr, hvd, vok, hn6, q⟩ := h
    rfl
  · obtain ⟨l, r, vr, x, n, ds, dig, deep, vl, ws, rfl, hL, lok, hne, hds, hd0, hd1, hdeep, hvr, hvd, vok, hn6, q⟩ := h
    refine ⟨_, (pss_cons (ps_setLc (i := 5) (own := [("one", 7)]) (g := gName 7) rfl sc__law_large.nd rfl rfl (sw_true rfl rfl rfl (by decide +kernel)) (pi_list (pe_ix (r := rIx K) ix_seq (pv 0) pe_int (fun _ _ => rfl))) (blkOk_by (N := N__law_large) (sc := defScope s__law_large) (by decide +kernel)) (fun _ _ _ _ _ => (pg_name (i := 7) sc__law_large.nd rfl (Or.inl rfl))) (fun _ _ _ _ _ => pts_one (pt_cmpR op_gt (pe_callB (r := rLenU K) call_lenU (by rfl) T.n_len PySem.boot_len (pa_cons (pe_ix (r := rIx K) ix_seq (pv 7) pe_int (fun _ _ => rfl)) pa_nil)) pe_int (nomark _))) (fun _ _ _ _ _ => (pv 7)))
      (Evl.pss_cut (ps_if (pt_cmpR (r := rEqU K) (op_eqU hr) (pe_callB (r := rLenU K) call_lenU (by rfl) T.n_len PySem.boot_len (pa_cons (pv 5) pa_nil)) pe_int (nomark _)) (pss_one (ps_set (i := 5) sc__law_large.nd rfl (Or.inl rfl) (pe_op (r := rPlus K) op_plus (pe_ix (r := rIx K) ix_seq (pv 0) pe_int (fun _ _ => rfl)) (pv 4)))) pss_nil)
      (pss_cons (ps_set (i := 6) sc__law_large.nd rfl (Or.inl rfl) (pe_ix (r := rIx K) ix_seq (pv 5) (pe_op op_mod (pe_callTy call_intU (by rfl) T.n_int PyProof.Rows.boot_int (pa_cons (pv 1) pa_nil)) (pe_callB (r := rLenU K) call_lenU (by rfl) T.n_len PySem.boot_len (pa_cons (pv 5) pa_nil))) (fun _ _ => rfl)))
      (pss_cons (ps_if (pt_cmpR (r := rEqU K) (op_eqU hr) (pe_callB (r := rLenU K) call_lenU (by rfl) T.n_len PySem.boot_len (pa_cons (pv 6) pa_nil)) pe_int (nomark _)) (pss_one (ps_ret (pv 6))) pss_nil)
      (pss_one (ps_ret (pe_call (ok__law_applied T) (hr.mono (by first | decide | exact Nat.le_refl _ | omega | (show _ ≤ _ + n; omega))) (by rfl) T.g__law_applied T.F__law_applied.kp T.b__law_applied .nil pass0 (pa_cons (pv 0) (pa_cons (pv 6) (pa_cons (pv 2) (pa_cons (pe_op op_sub (pv 3) pe_int) (pa_cons (pv 4) pa_nil)))))))))))), ?_⟩
    obtain ⟨a, b, c, fs, ps, h1, h2, h3, h4, h5, h6⟩ := hL
    have hL : LexAt K H l x := ⟨a, b, c, fs, ps, h1, h2, h3, h4, h5, h6⟩
    have i1 : atI ([.ref a, .ref b, .ref c] : List V) 1 = some (.ref b) := atI_nat (j := 1) rfl
    have hv8 := vok.len
    have hF10 := lok.nF
    walk_at "0"
    walk_at "1"
    walk_at "51"
    walk_at "38"
    walk_at "8"
    walk_at "69"
    walk_at "7"
    walk_at "79"
    walk_at "88"
    refine ⟨⟨_, sql h3⟩, b_datF walk_list (fun H' x' => xl x' (sql h3)) h4 argT (fun d => d) (fun d hd => ?_) ?_ ?_ ?_⟩
    · obtain ⟨p, _, rfl⟩ := List.mem_map.mp hd
      exact im_fD p
    · rw [List.length_map]; omega
    · intro v d H' hv hd xx R R0 hR hR0
      obtain ⟨p, hp, rfl⟩ := List.mem_map.mp hd
      rw [argT_fD] at hR hR0
      walk_at "6"
      refine ⟨rfl, ?_⟩
      walk_at "14"
      walk_at "8"
      walk_at "11"
      walk_at "9"
      walk_at "8"
      walk_at "69"
      walk_at "7"
      refine d_ix hv (atI_nat (j := 1) rfl) fun w2 hw2 => ?_
      walk_at "10"
      refine d_len hw2 ?_
      walk_at "7"
      walk_at "55"
      walk_at "88"
      rw [List.length_map]
      refine k_if (fun h' => ?_) (fun h' => ?_)
      · walk_at "69"
        exact hR (decide_eq_true (by omega)) v H' (xrefl _) hv
      · exact hR0 (decide_eq_false (fun e => h' (by omega))) H' (xrefl _)
    intro D1 ys1 H1 n1 x1 e1 hy1
    rw [List.map_id'] at hy1
    have hl1 := hy1.len
    have hf1 := List.length_filter_le argT (x.F.map fD)
    rw [List.length_map] at hf1
    have hfl := h4.len
    have hvl := hvd.len
    rw [List.length_map] at hfl hvl
    walk_at "6"
    refine k_cut (fun σ' H' => ∃ po os ys, σ' = [some (.ref l), some (.int dig), some (.ref r), some (.int deep), some (.ref vr), some (.ref po), none, none] ∧ Xt H H' ∧ H' po = some (.lst ys) ∧ DpAll K H' ys os ∧ os ≠ [] ∧ ∀ o ∈ os, (∃ p ∈ vl, o = varD p) ∨ ∃ r ∈ x.F, o = fD r) ?_ ?_
    · walk_at "4"
      walk_at "14"
      walk_at "8"
      walk_at "11"
      walk_at "9"
      walk_at "69"
      walk_at "10"
      walk_at "77"
      walk_at "7"
      walk_at "75"
      walk_at "88"
      refine k_if (fun h => ?_) (fun h => ?_)
      · have e1' := x1 _ _ h1
        have e3' := x1 _ _ h3
        walk_at "1"
        walk_at "8"
        walk_at "8"
        walk_at "69"
        walk_at "7"
        walk_at "79"
        walk_at "69"
        refine v_plus_lst e3' (x1 _ _ hvr) (szL (by omega)) fun p2 H2 n2 x2 e2 => ?_
        walk_at "6"
        refine ⟨p2, _, _, rfl, xtr x1 x2, e2, DpAll.mono x2 (DpAll.app (DpAll.mono x1 h4) (DpAll.mono x1 hvd)), ?_, ?_⟩
        · intro e
          obtain ⟨s0, hs0⟩ := List.exists_mem_of_ne_nil _ hne
          obtain ⟨p, hp, _⟩ := vok.all s0 hs0
          have := List.map_eq_nil_iff.mp (List.append_eq_nil_iff.mp e).2
          rw [this] at hp; cases hp
        · intro o ho
          rcases List.mem_append.mp ho with ho | ho
          · obtain ⟨p, hp, rfl⟩ := List.mem_map.mp ho; exact .inr ⟨p, hp, rfl⟩
          · obtain ⟨p, hp, rfl⟩ := List.mem_map.mp ho; exact .inl ⟨p, hp, rfl⟩
      · walk_at "5"
        refine ⟨D1, _, _, rfl, x1, e1, hy1, ?_, ?_⟩
        · intro e
          rw [e] at hl1
          exact h (by rw [hl1]; rfl)
        · intro o ho
          obtain ⟨h7, _⟩ := List.mem_filter.mp ho
          obtain ⟨p, hp, rfl⟩ := List.mem_map.mp h7; exact .inr ⟨p, hp, rfl⟩
    rintro σ' H' ⟨po, os, ys, rfl, xx, epo, hos, hone, hopt⟩
    obtain ⟨hyl, cv, o, hcv, hoo, hod⟩ := mod_dat dig hos hone
    have hds' := xl xx hds
    walk_at "0"
    walk_at "1"
    walk_at "8"
    walk_at "69"
    walk_at "8"
    walk_at "11"
    walk_at "9"
    walk_at "69"
    walk_at "10"
    walk_at "57"
    walk_at "11"
    walk_at "9"
    walk_at "69"
    walk_at "10"
    walk_at "77"
    walk_at "70"
    walk_at "79"
    walk_at "6"
    walk_at "0"
    walk_at "4"
    walk_at "14"
    walk_at "8"
    walk_at "11"
    walk_at "9"
    walk_at "69"
    walk_at "10"
    rcases hopt o hoo with ⟨p, hp, rfl⟩ | ⟨f, hf, rfl⟩
    · refine d_len hod ?_
      walk_at "7"
      walk_at "75"
      walk_at "88"
      walk_at "90"
      walk_at "2"
      walk_at "69"
      exact q H' cv _ _ xx hod ((tm_var lok.ok (vok.vs p hp).1 (vok.vs p hp).2).up (Nat.zero_le _))
    refine d_len hod ?_
    walk_at "7"
    walk_at "75"
    walk_at "88"
    walk_at "89"
    walk_at "5"
    walk_at "2"
    walk_at "12"
    walk_at "9"
    walk_at "69"
    walk_at "9"
    walk_at "69"
    walk_at "9"
    walk_at "69"
    walk_at "9"
    walk_at "8"
    walk_at "69"
    walk_at "7"
    walk_at "55"
    walk_at "9"
    walk_at "69"
    walk_at "10"
    refine ⟨l, r, vr, cv, x, f, _, n, ds, deep - 1, vl, ws, rfl, LexAt.mono xx hL, lok, F_syms hf, hod, hds', hd0, hd1, by omega, xx _ _ hvr, DpAll.mono xx hvd, vok, hn6, fun H2 v2 d2 x2 hd2 tm2 => ?_⟩
    exact q H2 v2 _ d2 (xtr xx x2) hd2 tm2



theorem ok__law_chain (T : Top0 P K mg) : FnOk P w K mg base CX0 11 T.f__law_chain T.fd__law_chain ["vocabulary", "digit", "row", "many", "variables"] (sp__law_chain T) := by
  refine T.F__law_chain.ok sc__law_chain (fun vs H Q E h => ?_) (fun cdv A outer s H vs Q E hr h => ?_)
  · obtain ⟨l, r, vr, x, ds, dig, many, vl, ws, rfl, hL, lok, hne, hds, hd7, hd1, hm, hvr, hvd, vok, q⟩ := h
    rfl
  · obtain ⟨l, r, vr, x, ds, dig, many, vl, ws, rfl, hL, lok, hne, hds, hd7, hd1, hm, hvr, hvd, vok, q⟩ := h
    refine ⟨_, (pss_cons (ps_setLc (i := 5) (own := [("one", 8)]) (g := gName 8) rfl sc__law_chain.nd rfl rfl (sw_true rfl rfl rfl (by decide +kernel)) (pi_list (pe_ix (r := rIx K) ix_seq (pv 0) pe_int (fun _ _ => rfl))) (blkOk_by (N := N__law_chain) (sc := defScope s__law_chain) (by decide +kernel)) (fun _ _ _ _ _ => (pg_name (i := 8) sc__law_chain.nd rfl (Or.inl rfl))) (fun _ _ _ _ _ => pts_one (pt_cmpR op_gt (pe_callB (r := rLenU K) call_lenU (by rfl) T.n_len PySem.boot_len (pa_cons (pe_ix (r := rIx K) ix_seq (pv 8) pe_int (fun _ _ => rfl)) pa_nil)) pe_int (nomark _))) (fun _ _ _ _ _ => (pv 8)))
      (pss_cons (ps_set (i := 6) sc__law_chain.nd rfl (Or.inl rfl) (pe_ix (r := rIx K) ix_seq (pe_ix (r := rIx K) ix_seq (pv 0) pe_int (fun _ _ => rfl)) (pe_op op_mod (pe_callTy call_intU (by rfl) T.n_int PyProof.Rows.boot_int (pa_cons (pv 1) pa_nil)) (pe_callB (r := rLenU K) call_lenU (by rfl) T.n_len PySem.boot_len (pa_cons (pe_ix (r := rIx K) ix_seq (pv 0) pe_int (fun _ _ => rfl)) pa_nil))) (fun _ _ => rfl)))
      (Evl.pss_cut (ps_if (pt_cmpR op_gt (pe_callB (r := rLenU K) call_lenU (by rfl) T.n_len PySem.boot_len (pa_cons (pv 5) pa_nil)) pe_int (nomark _)) (pss_one (ps_set (i := 6) sc__law_chain.nd rfl (Or.inl rfl) (pe_ix (r := rIx K) ix_seq (pe_ix (r := rIx K) ix_seq (pe_ix (r := rIx K) ix_seq (pv 5) (pe_op op_mod (pe_callTy call_intU (by rfl) T.n_int PyProof.Rows.boot_int (pa_cons (pv 1) pa_nil)) (pe_callB (r := rLenU K) call_lenU (by rfl) T.n_len PySem.boot_len (pa_cons (pv 5) pa_nil))) (fun _ _ => rfl)) pe_int (fun _ _ => rfl)) pe_int (fun _ _ => rfl)))) pss_nil)
      (pss_cons (ps_set (i := 7) sc__law_chain.nd rfl (Or.inl rfl) (pe_ix (r := rIx K) ix_seq (pe_call (ok__law_term T 8) (hr.mono (by first | decide | exact Nat.le_refl _ | omega | (show _ ≤ _ + n; omega))) (by rfl) T.g__law_term T.F__law_term.kp T.b__law_term .nil pass0 (pa_cons (pv 0) (pa_cons (pv 6) (pa_cons (pv 2) (pa_cons pe_int (pa_cons pe_int (pa_cons (pv 4) pa_nil))))))) pe_int (fun _ _ => rfl)))
      (pss_one (ps_ret (pe_ix (r := rIx K) ix_seq (pe_call (ok__law_wrapped T) (hr.mono (by first | decide | exact Nat.le_refl _ | omega | (show _ ≤ _ + n; omega))) (by rfl) T.g__law_wrapped T.F__law_wrapped.kp T.b__law_wrapped .nil pass0 (pa_cons (pv 0) (pa_cons (pv 7) (pa_cons (pv 6) (pa_cons (pe_slice (r := rSlU K) sl_any (pv 2) (po_some pe_int) po_none) (pa_cons (pv 3) (pa_cons (pv 4) pa_nil))))))) pe_int (fun _ _ => rfl)))))))), ?_⟩
    obtain ⟨a, b, c, fs, ps, h1, h2, h3, h4, h5, h6⟩ := hL
    have hL : LexAt K H l x := ⟨a, b, c, fs, ps, h1, h2, h3, h4, h5, h6⟩
    have i0 : atI ([.ref a, .ref b, .ref c] : List V) 0 = some (.ref a) := atI_nat (j := 0) rfl
    have i1 : atI ([.ref a, .ref b, .ref c] : List V) 1 = some (.ref b) := atI_nat (j := 1) rfl
    have hF10 := lok.nF
    walk_at "0"
    walk_at "1"
    walk_at "51"
    walk_at "38"
    walk_at "8"
    walk_at "69"
    walk_at "7"
    walk_at "79"
    walk_at "88"
    refine ⟨⟨_, sql h3⟩, b_datF walk_list (fun H' x' => xl x' (sql h3)) h4 argT (fun d => d) (fun d hd => ?_) ?_ ?_ ?_⟩
    · obtain ⟨p, _, rfl⟩ := List.mem_map.mp hd
      exact im_fD p
    · rw [List.length_map]; omega
    · intro v d H' hv hd xx R R0 hR hR0
      obtain ⟨p, hp, rfl⟩ := List.mem_map.mp hd
      rw [argT_fD] at hR hR0
      walk_at "6"
      refine ⟨rfl, ?_⟩
      walk_at "14"
      walk_at "8"
      walk_at "11"
      walk_at "9"
      walk_at "8"
      walk_at "69"
      walk_at "7"
      refine d_ix hv (atI_nat (j := 1) rfl) fun w2 hw2 => ?_
      walk_at "10"
      refine d_len hw2 ?_
      walk_at "7"
      walk_at "55"
      walk_at "88"
      rw [List.length_map]
      refine k_if (fun h' => ?_) (fun h' => ?_)
      · walk_at "69"
        exact hR (decide_eq_true (by omega)) v H' (xrefl _) hv
      · exact hR0 (decide_eq_false (fun e => h' (by omega))) H' (xrefl _)
    intro D1 ys1 H1 n1 x1 e1 hy1
    rw [List.map_id'] at hy1
    have hl1 := hy1.len
    have hf1 := List.length_filter_le argT (x.F.map fD)
    rw [List.length_map] at hf1
    have e11 := x1 _ _ h1
    have e12 := x1 _ _ h2
    obtain ⟨hsl, s0, hs0, hsm⟩ := mod_str (S := x.S) dig hne
    walk_at "6"
    walk_at "0"
    walk_at "1"
    walk_at "8"
    walk_at "8"
    walk_at "69"
    walk_at "7"
    walk_at "79"
    walk_at "8"
    walk_at "11"
    walk_at "9"
    walk_at "69"
    walk_at "10"
    walk_at "57"
    walk_at "11"
    walk_at "9"
    walk_at "8"
    walk_at "69"
    walk_at "7"
    walk_at "79"
    walk_at "10"
    walk_at "77"
    walk_at "70"
    walk_at "79"
    walk_at "6"
    refine k_cut (fun σ' H' => ∃ s', σ' = [some (.ref l), some (.int dig), some (.ref r), some (.int many), some (.ref vr), some (.ref D1), some (.str s'), none, none] ∧ s' ∈ x.S ∧ H' = H1) ?_ ?_
    · walk_at "4"
      walk_at "14"
      walk_at "8"
      walk_at "11"
      walk_at "9"
      walk_at "69"
      walk_at "10"
      walk_at "77"
      walk_at "7"
      walk_at "55"
      walk_at "88"
      refine k_if (fun h => ?_) (fun h => ?_)
      · have hone : (x.F.map fD).filter argT ≠ [] := fun e => by
          rw [e] at hl1
          have : (0 : Int) < (ys1.length : Int) := h
          rw [hl1] at this
          simp at this
        obtain ⟨hyl, cv, o, hcv, hoo, hod⟩ := mod_dat dig hy1 hone
        obtain ⟨hm1, hm2⟩ := List.mem_filter.mp hoo
        obtain ⟨f, hf, rfl⟩ := List.mem_map.mp hm1
        rw [argT_fD] at hm2
        obtain ⟨s1, hs1⟩ : ∃ s1, f.2.1[0]? = some s1 := ⟨_, List.getElem?_eq_getElem (of_decide_eq_true hm2)⟩
        walk_at "1"
        walk_at "8"
        walk_at "8"
        walk_at "8"
        walk_at "69"
        walk_at "8"
        walk_at "11"
        walk_at "9"
        walk_at "69"
        walk_at "10"
        walk_at "57"
        walk_at "11"
        walk_at "9"
        walk_at "69"
        walk_at "10"
        walk_at "77"
        walk_at "70"
        walk_at "79"
        walk_at "7"
        refine d_ix hod (atI_nat (j := 1) rfl) fun w2 hw2 => ?_
        walk_at "7"
        refine d_ix (d := .str s1) hw2 (atI_nat (j := 0) (by rw [List.getElem?_map, hs1]; rfl)) fun w3 hw3 => ?_
        cases Dp.str_inv hw3
        walk_at "6"
        walk_at "88"
        exact ⟨arg_sort lok.ok (F_syms hf) (List.mem_of_getElem? hs1), rfl⟩
      · walk_at "5"
        walk_at "88"
        exact ⟨hsm, rfl⟩
    rintro σ' H' ⟨s', rfl, hs', rfl⟩
    have hds1 := xl x1 hds
    walk_at "0"
    walk_at "1"
    walk_at "8"
    walk_at "12"
    walk_at "9"
    walk_at "69"
    walk_at "9"
    walk_at "69"
    walk_at "9"
    walk_at "69"
    walk_at "9"
    walk_at "7"
    walk_at "9"
    walk_at "7"
    walk_at "9"
    walk_at "69"
    walk_at "10"
    refine ⟨l, r, vr, x, s', ds, 0, 1, vl, ws, 1, rfl, LexAt.mono x1 hL, lok, hs', hds1, by omega, hd1, by omega, by decide, x1 _ _ hvr, DpAll.mono x1 hvd, vok, fun p2 H2 v2 d2 a2 x2 e2 hd2 tm2 => ?_⟩
    have j0 : atI [v2, V.int a2] 0 = some v2 := atI_nat (j := 0) rfl
    have x12 := xtr x1 x2
    walk_at "7"
    walk_at "79"
    walk_at "6"
    walk_at "2"
    walk_at "8"
    walk_at "12"
    walk_at "9"
    walk_at "69"
    walk_at "9"
    walk_at "69"
    walk_at "9"
    walk_at "69"
    walk_at "9"
    walk_at "48"
    walk_at "69"
    walk_at "50"
    walk_at "7"
    walk_at "88"
    walk_at "49"
    refine v_sl_l (xl x12 hds) fun p3 H3 n3 x3 e3 => ?_
    rw [show (some (6 : Int)) = some ((6 : Nat) : Int) from rfl, cut_drop (by rw [List.length_map]; omega), ← List.map_drop] at e3
    have x13 := xtr x12 x3
    walk_at "9"
    walk_at "69"
    walk_at "9"
    walk_at "69"
    walk_at "10"
    refine ⟨l, p3, vr, v2, x, s', d2, 1, ds.drop 6, many, vl, ws, rfl, LexAt.mono x13 hL, lok, hs', Dp.mono x3 hd2, tm2, by decide, sql e3, by rw [List.length_drop]; omega, by rw [List.length_drop]; omega, hm, x13 _ _ hvr, DpAll.mono x13 hvd, vok, fun p4 H4 v4 s4 d4 x4 e4 hd4 ht4 hb4 => ?_⟩
    have j4 : atI [v4, V.str s4] 0 = some v4 := atI_nat (j := 0) rfl
    walk_at "7"
    walk_at "79"
    exact q H4 v4 s4 d4 (xtr x13 x4) hd4 ht4 hb4



theorem ok__law_value (T : Top0 P K mg) : FnOk P w K mg base CX0 12 T.f__law_value T.fd__law_value ["vocabulary", "cell", "variables"] (sp__law_value T) := by
  refine T.F__law_value.ok sc__law_value (fun vs H Q E h => ?_) (fun cdv A outer s H vs Q E hr h => ?_)
  · obtain ⟨l, vr, x, cl, vl, ws, rfl, hL, lok, hne, ev, hws, vok, q⟩ := h
    rfl
  · obtain ⟨l, vr, x, cl, vl, ws, rfl, hL, lok, hne, ev, hws, vok, q⟩ := h
    refine ⟨_, (pss_cons (ps_set (i := 3) sc__law_value.nd rfl (Or.inl rfl) (pe_call (ok__law_digits T) (hr.mono (by first | decide | exact Nat.le_refl _ | omega | (show _ ≤ _ + n; omega))) (by rfl) T.g__law_digits T.F__law_digits.kp T.b__law_digits .nil pass0 (pa_cons (pv 1) (pa_cons (pe_op (r := rPlus K) op_plus (pe_lst (pa_cons pe_int (pa_cons pe_int (pa_cons pe_int (pa_cons pe_int pa_nil))))) (pe_lc (own := [("k", 6)]) (g := gName 6) rfl sc__law_value.nd (pi_range1 (by rfl) T.n_range (pa_cons pe_int pa_nil)) (blkOk_by (N := N__law_value) (sc := defScope s__law_value) (by decide +kernel)) (fun _ _ _ _ _ => (pg_name (i := 6) sc__law_value.nd rfl (Or.inl rfl))) (fun _ _ _ _ _ => pts_nil) (fun _ _ _ _ _ => pe_int))) pa_nil))))
      (pss_cons (ps_set (i := 4) sc__law_value.nd rfl (Or.inl rfl) (pe_slice (r := rSlU K) sl_any (pv 3) (po_some pe_int) po_none))
      (pss_cons (ps_set (i := 5) sc__law_value.nd rfl (Or.inl rfl) (pe_ix (r := rIx K) ix_seq (pe_ix (r := rIx K) ix_seq (pv 0) pe_int (fun _ _ => rfl)) (pe_op op_mod (pe_callTy call_intU (by rfl) T.n_int PyProof.Rows.boot_int (pa_cons (pe_ix (r := rIx K) ix_seq (pv 3) pe_int (fun _ _ => rfl)) pa_nil)) (pe_callB (r := rLenU K) call_lenU (by rfl) T.n_len PySem.boot_len (pa_cons (pe_ix (r := rIx K) ix_seq (pv 0) pe_int (fun _ _ => rfl)) pa_nil))) (fun _ _ => rfl)))
      (pss_cons (ps_if (PW.pt (pw_and (pt_cmpR op_lt (pe_ix (r := rIx K) ix_seq (pv 3) pe_int (fun _ _ => rfl)) pe_int (nomark _)) (pw_and1 (pt_cmpR op_gt (pe_callB (r := rLenU K) call_lenU (by rfl) T.n_len PySem.boot_len (pa_cons (pe_ix (r := rIx K) ix_seq (pv 0) pe_int (fun _ _ => rfl)) pa_nil)) pe_int (nomark _))))) (pss_one (ps_ret (pe_call (ok__law_applied T) (hr.mono (by first | decide | exact Nat.le_refl _ | omega | (show _ ≤ _ + n; omega))) (by rfl) T.g__law_applied T.F__law_applied.kp T.b__law_applied .nil pass0 (pa_cons (pv 0) (pa_cons (pe_ix (r := rIx K) ix_seq (pe_ix (r := rIx K) ix_seq (pv 0) pe_int (fun _ _ => rfl)) (pe_op op_mod (pe_callTy call_intU (by rfl) T.n_int PyProof.Rows.boot_int (pa_cons (pe_ix (r := rIx K) ix_seq (pv 3) pe_int (fun _ _ => rfl)) pa_nil)) (pe_callB (r := rLenU K) call_lenU (by rfl) T.n_len PySem.boot_len (pa_cons (pe_ix (r := rIx K) ix_seq (pv 0) pe_int (fun _ _ => rfl)) pa_nil))) (fun _ _ => rfl)) (pa_cons (pv 4) (pa_cons (pe_ix (r := rIx K) ix_seq (pv 3) pe_int (fun _ _ => rfl)) (pa_cons (pv 2) pa_nil)))))))) pss_nil)
      (pss_cons (ps_if (pt_cmpR op_lt (pe_ix (r := rIx K) ix_seq (pv 3) pe_int (fun _ _ => rfl)) pe_int (nomark _)) (pss_one (ps_ret (pe_call (ok__law_large T) (hr.mono (by first | decide | exact Nat.le_refl _ | omega | (show _ ≤ _ + n; omega))) (by rfl) T.g__law_large T.F__law_large.kp T.b__law_large .nil pass0 (pa_cons (pv 0) (pa_cons (pe_ix (r := rIx K) ix_seq (pv 3) pe_int (fun _ _ => rfl)) (pa_cons (pv 4) (pa_cons (pe_op (r := rPlus K) op_plus pe_int (pe_ix (r := rIx K) ix_seq (pv 3) pe_int (fun _ _ => rfl))) (pa_cons (pv 2) pa_nil)))))))) pss_nil)
      (pss_cons (ps_if (pt_cmpR op_lt (pe_ix (r := rIx K) ix_seq (pv 3) pe_int (fun _ _ => rfl)) pe_int (nomark _)) (pss_one (ps_ret (pe_call (ok__law_chain T) (hr.mono (by first | decide | exact Nat.le_refl _ | omega | (show _ ≤ _ + n; omega))) (by rfl) T.g__law_chain T.F__law_chain.kp T.b__law_chain .nil pass0 (pa_cons (pv 0) (pa_cons (pe_ix (r := rIx K) ix_seq (pv 3) pe_int (fun _ _ => rfl)) (pa_cons (pv 4) (pa_cons (pe_op (r := rPlus K) op_plus pe_int (pe_ix (r := rIx K) ix_seq (pv 3) pe_int (fun _ _ => rfl))) (pa_cons (pv 2) pa_nil)))))))) pss_nil)
      (pss_one (ps_ret (pe_ix (r := rIx K) ix_seq (pe_call (ok__law_term T 8) (hr.mono (by first | decide | exact Nat.le_refl _ | omega | (show _ ≤ _ + n; omega))) (by rfl) T.g__law_term T.F__law_term.kp T.b__law_term .nil pass0 (pa_cons (pv 0) (pa_cons (pv 5) (pa_cons (pv 4) (pa_cons pe_int (pa_cons (pe_ix (r := rIx K) ix_seq (pv 3) pe_int (fun _ _ => rfl)) (pa_cons (pv 2) pa_nil))))))) pe_int (fun _ _ => rfl)))))))))), ?_⟩
    obtain ⟨a, b, c, fs, ps, h1, h2, h3, h4, h5, h6⟩ := hL
    have hL : LexAt K H l x := ⟨a, b, c, fs, ps, h1, h2, h3, h4, h5, h6⟩
    have i0 : atI ([.ref a, .ref b, .ref c] : List V) 0 = some (.ref a) := atI_nat (j := 0) rfl
    have i2 : atI ([.ref a, .ref b, .ref c] : List V) 2 = some (.ref c) := atI_nat (j := 2) rfl
    have hS4 := lok.nS
    have hF10 := lok.nF
    have hP10 := lok.nP
    have hfl := h4.len
    have hpl := h6.len
    rw [List.length_map] at hfl hpl
    walk_at "0"
    walk_at "1"
    walk_at "12"
    walk_at "9"
    walk_at "69"
    walk_at "9"
    walk_at "8"
    walk_at "34"
    walk_at "9"
    walk_at "7"
    walk_at "9"
    walk_at "7"
    walk_at "9"
    walk_at "7"
    walk_at "9"
    walk_at "7"
    walk_at "10"
    walk_at "82"
    intro p0 H0 n0 x0 e0
    walk_at "51"
    walk_at "42"
    walk_at "9"
    walk_at "7"
    walk_at "10"
    walk_at "88"
    refine ⟨by decide, by decide, ?_⟩
    refine' b_rng (lo := 0) (n := 44) (fun i y => y = .int 60) ?hn (fun x => ?hw) ?hb ?hk
    case hn => decide
    case hw => rfl
    case hb =>
      intro i H' hi x R hR
      walk_at "7"
      exact hR _ _ (xrefl _) rfl
    case hk =>
      intro D1 ys1 H1 n1 hl1 hp1 x1 e1
      have ey : ys1 = (List.replicate 44 (60 : Int)).map V.int := by
        apply List.ext_getElem?
        intro i
        by_cases hi : i < 44
        · have h := List.getElem?_eq_getElem (l := ys1) (i := i) (by omega)
          rw [hp1 i _ h] at h
          rw [h, List.getElem?_map, List.getElem?_replicate, if_pos hi]; rfl
        · rw [List.getElem?_eq_none_iff.mpr (by omega), List.getElem?_eq_none_iff.mpr (by rw [List.length_map, List.length_replicate]; omega)]
      subst ey
      refine v_plus_lst (x1 _ _ e0) e1 (szL (by decide)) fun p5 H5 n5 x5 e5 => ?_
      walk_at "10"
      refine ⟨cl, p5, [7, 60, 3, 5] ++ List.replicate 44 60, rfl, sql (by simpa using e5), by decide, by decide, fun p2 H2 rs x2 e2 hD => ?_⟩
      have hrl : rs.length = 48 := by rw [hD.1]; decide
      have x02 := xtr x0 (xtr x1 (xtr x5 x2))
      clear e5 x0 x1 x5 x2 n5 e1 n1 hp1 hl1 e0 n0
      walk_at "6"
      walk_at "0"
      walk_at "1"
      walk_at "48"
      walk_at "69"
      walk_at "50"
      walk_at "7"
      walk_at "88"
      walk_at "49"
      refine v_sl_l (sql e2) fun p3 H3 n3 x3 e3 => ?_
      rw [show (some (4 : Int)) = some ((4 : Nat) : Int) from rfl, cut_drop (by rw [List.length_map]; omega), ← List.map_drop] at e3
      have x03 := xtr x02 x3
      have e2v := x3 _ _ e2
      have h1v := x03 _ _ h1
      have h2v := x03 _ _ h2
      have h5v := x03 _ _ h5
      have h6v := DpAll.mono x03 h6
      have hLv := LexAt.mono x03 hL
      have evv := x03 _ _ ev
      have hwsv := DpAll.mono x03 hws
      have hdl : (rs.drop 4).length = 44 := by rw [List.length_drop]; omega
      obtain ⟨d0, a0, l0, u0⟩ := hD.get 0 0 rfl rfl
      obtain ⟨d1, a1, l1, u1⟩ := hD.get 1 1 rfl rfl
      obtain ⟨d2, a2, l2, u2⟩ := hD.get 2 2 rfl rfl
      obtain ⟨d3, a3, l3, u3⟩ := hD.get 3 3 rfl rfl
      obtain ⟨hm0, so, hcv, hso⟩ := mod_str d1 hne
      clear e2 x02 x3 n3 h1 h2 h5 h6 hL ev hws
      walk_at "6"
      walk_at "0"
      walk_at "1"
      walk_at "8"
      walk_at "8"
      walk_at "69"
      walk_at "7"
      walk_at "79"
      walk_at "8"
      walk_at "11"
      walk_at "9"
      walk_at "8"
      walk_at "69"
      walk_at "7"
      walk_at "79"
      walk_at "10"
      walk_at "57"
      walk_at "11"
      walk_at "9"
      walk_at "8"
      walk_at "69"
      walk_at "7"
      walk_at "79"
      walk_at "10"
      walk_at "77"
      walk_at "70"
      walk_at "79"
      walk_at "6"
      walk_at "0"
      walk_at "4"
      walk_at "17"
      walk_at "14"
      walk_at "8"
      walk_at "8"
      walk_at "69"
      walk_at "7"
      walk_at "79"
      walk_at "7"
      walk_at "55"
      walk_at "88"
      refine k_if (fun hd0 => ?_) (fun hd0 => ?_)
      · walk_at "14"
        walk_at "8"
        walk_at "11"
        walk_at "9"
        walk_at "8"
        walk_at "69"
        walk_at "7"
        walk_at "79"
        walk_at "10"
        walk_at "77"
        walk_at "7"
        walk_at "55"
        walk_at "88"
        refine k_if (fun hp => ?_) (fun hp => ?_)
        · have hPne : x.P.map pD ≠ [] := fun e => by
            have := congrArg List.length e
            rw [List.length_map, List.length_nil] at this
            omega
          obtain ⟨hyl, cp, o, hcp, hoo, hod⟩ := mod_dat d1 h6v hPne
          obtain ⟨r0, hr0, rfl⟩ := List.mem_map.mp hoo
          walk_at "2"
          walk_at "12"
          walk_at "9"
          walk_at "69"
          walk_at "9"
          walk_at "8"
          walk_at "8"
          walk_at "69"
          walk_at "7"
          walk_at "79"
          walk_at "8"
          walk_at "11"
          walk_at "9"
          walk_at "8"
          walk_at "69"
          walk_at "7"
          walk_at "79"
          walk_at "10"
          walk_at "57"
          walk_at "11"
          walk_at "9"
          walk_at "8"
          walk_at "69"
          walk_at "7"
          walk_at "79"
          walk_at "10"
          walk_at "77"
          walk_at "70"
          walk_at "79"
          walk_at "9"
          walk_at "69"
          walk_at "9"
          walk_at "8"
          walk_at "69"
          walk_at "7"
          walk_at "79"
          walk_at "9"
          walk_at "69"
          walk_at "10"
          refine ⟨l, p3, vr, cp, x, (r0.1, r0.2, "truth"), [], 2, rs.drop 4, d2, vl, ws, rfl, hLv, lok, P_syms hr0, hod, sql e3, by omega, by omega, by omega, evv, hwsv, vok, by decide, fun H18 v18 d18 x18 hd18 tm18 => ?_⟩
          skip
          exact q H18 v18 _ d18 (xtr x03 x18) hd18 tm18.td (tm18.bd.up (by decide) (by decide))
        · skip
          walk_at "5"
          walk_at "0"
          walk_at "4"
          walk_at "14"
          walk_at "8"
          walk_at "8"
          walk_at "69"
          walk_at "7"
          walk_at "79"
          walk_at "7"
          walk_at "55"
          walk_at "88"
          refine k_if (fun h => ?_) (fun h => ?_)
          · walk_at "2"
            walk_at "12"
            walk_at "9"
            walk_at "69"
            walk_at "9"
            walk_at "8"
            walk_at "69"
            walk_at "7"
            walk_at "79"
            walk_at "9"
            walk_at "69"
            walk_at "9"
            walk_at "8"
            walk_at "7"
            walk_at "8"
            walk_at "69"
            walk_at "7"
            walk_at "79"
            walk_at "56"
            walk_at "9"
            walk_at "69"
            walk_at "10"
            refine ⟨l, p3, vr, x, 3, rs.drop 4, d1, 1 + d2, vl, ws, rfl, hLv, lok, hne, sql e3, by omega, by omega, by omega, evv, hwsv, vok, by decide, fun H18 v18 s18 d18 x18 hd18 tm18 => ?_⟩
            skip
            exact q H18 v18 s18 d18 (xtr x03 x18) hd18 tm18.td (tm18.bd.up (by decide) (by decide))
          walk_at "5"
          walk_at "0"
          walk_at "4"
          walk_at "14"
          walk_at "8"
          walk_at "8"
          walk_at "69"
          walk_at "7"
          walk_at "79"
          walk_at "7"
          walk_at "55"
          walk_at "88"
          refine k_if (fun h => ?_) (fun h => ?_)
          · walk_at "2"
            walk_at "12"
            walk_at "9"
            walk_at "69"
            walk_at "9"
            walk_at "8"
            walk_at "69"
            walk_at "7"
            walk_at "79"
            walk_at "9"
            walk_at "69"
            walk_at "9"
            walk_at "8"
            walk_at "7"
            walk_at "8"
            walk_at "69"
            walk_at "7"
            walk_at "79"
            walk_at "56"
            walk_at "9"
            walk_at "69"
            walk_at "10"
            refine ⟨l, p3, vr, x, rs.drop 4, d1, 1 + d3, vl, ws, rfl, hLv, lok, hne, sql e3, by omega, by omega, by omega, evv, hwsv, vok, fun H18 v18 s18 d18 x18 hd18 td18 bd18 => ?_⟩
            skip
            exact q H18 v18 s18 d18 (xtr x03 x18) hd18 td18 bd18
          walk_at "5"
          walk_at "2"
          walk_at "8"
          walk_at "12"
          walk_at "9"
          walk_at "69"
          walk_at "9"
          walk_at "69"
          walk_at "9"
          walk_at "69"
          walk_at "9"
          walk_at "7"
          walk_at "9"
          walk_at "8"
          walk_at "69"
          walk_at "7"
          walk_at "79"
          walk_at "9"
          walk_at "69"
          walk_at "10"
          refine ⟨l, p3, vr, x, so, rs.drop 4, 0, d2, vl, ws, 2, rfl, hLv, lok, hso, sql e3, by omega, by omega, by omega, by decide, evv, hwsv, vok, fun p18 H18 v18 d18 a18 x18 e18 hd18 tm18 => ?_⟩
          have j18 : atI [v18, V.int a18] 0 = some v18 := atI_nat (j := 0) rfl
          walk_at "7"
          walk_at "79"
          exact q H18 v18 so d18 (xtr x03 x18) hd18 tm18.td (tm18.bd.up (by decide) (by decide))
      · skip
        walk_at "89"
        walk_at "5"
        walk_at "0"
        walk_at "4"
        walk_at "14"
        walk_at "8"
        walk_at "8"
        walk_at "69"
        walk_at "7"
        walk_at "79"
        walk_at "7"
        walk_at "55"
        walk_at "88"
        refine k_if (fun h => ?_) (fun h => ?_)
        · walk_at "2"
          walk_at "12"
          walk_at "9"
          walk_at "69"
          walk_at "9"
          walk_at "8"
          walk_at "69"
          walk_at "7"
          walk_at "79"
          walk_at "9"
          walk_at "69"
          walk_at "9"
          walk_at "8"
          walk_at "7"
          walk_at "8"
          walk_at "69"
          walk_at "7"
          walk_at "79"
          walk_at "56"
          walk_at "9"
          walk_at "69"
          walk_at "10"
          refine ⟨l, p3, vr, x, 3, rs.drop 4, d1, 1 + d2, vl, ws, rfl, hLv, lok, hne, sql e3, by omega, by omega, by omega, evv, hwsv, vok, by decide, fun H18 v18 s18 d18 x18 hd18 tm18 => ?_⟩
          skip
          exact q H18 v18 s18 d18 (xtr x03 x18) hd18 tm18.td (tm18.bd.up (by decide) (by decide))
        walk_at "5"
        walk_at "0"
        walk_at "4"
        walk_at "14"
        walk_at "8"
        walk_at "8"
        walk_at "69"
        walk_at "7"
        walk_at "79"
        walk_at "7"
        walk_at "55"
        walk_at "88"
        refine k_if (fun h => ?_) (fun h => ?_)
        · walk_at "2"
          walk_at "12"
          walk_at "9"
          walk_at "69"
          walk_at "9"
          walk_at "8"
          walk_at "69"
          walk_at "7"
          walk_at "79"
          walk_at "9"
          walk_at "69"
          walk_at "9"
          walk_at "8"
          walk_at "7"
          walk_at "8"
          walk_at "69"
          walk_at "7"
          walk_at "79"
          walk_at "56"
          walk_at "9"
          walk_at "69"
          walk_at "10"
          refine ⟨l, p3, vr, x, rs.drop 4, d1, 1 + d3, vl, ws, rfl, hLv, lok, hne, sql e3, by omega, by omega, by omega, evv, hwsv, vok, fun H18 v18 s18 d18 x18 hd18 td18 bd18 => ?_⟩
          skip
          exact q H18 v18 s18 d18 (xtr x03 x18) hd18 td18 bd18
        walk_at "5"
        walk_at "2"
        walk_at "8"
        walk_at "12"
        walk_at "9"
        walk_at "69"
        walk_at "9"
        walk_at "69"
        walk_at "9"
        walk_at "69"
        walk_at "9"
        walk_at "7"
        walk_at "9"
        walk_at "8"
        walk_at "69"
        walk_at "7"
        walk_at "79"
        walk_at "9"
        walk_at "69"
        walk_at "10"
        refine ⟨l, p3, vr, x, so, rs.drop 4, 0, d2, vl, ws, 2, rfl, hLv, lok, hso, sql e3, by omega, by omega, by omega, by decide, evv, hwsv, vok, fun p18 H18 v18 d18 a18 x18 e18 hd18 tm18 => ?_⟩
        have j18 : atI [v18, V.int a18] 0 = some v18 := atI_nat (j := 0) rfl
        walk_at "7"
        walk_at "79"
        exact q H18 v18 so d18 (xtr x03 x18) hd18 tm18.td (tm18.bd.up (by decide) (by decide))


theorem ok__law_listed (T : Top0 P K mg) : FnOk P w K mg base CX0 120 T.f__law_listed T.fd__law_listed ["tree"] (sp__law_listed T) := by
  refine T.F__law_listed.ok sc__law_listed (fun vs H Q E h => ?_) (fun cdv A outer s H vs Q E hr h => ?_)
  · obtain ⟨v, d, k, W, rfl, hv, ht, hW, hk, q⟩ := h
    rfl
  · obtain ⟨v, d, k, W, rfl, hv, ht, hW, hk, q⟩ := h
    refine ⟨_, (pss_cons (ps_setLc (i := 1) (own := [("one", 4)]) (g := gName 4) rfl sc__law_listed.nd rfl rfl (sw_true rfl rfl rfl (by decide +kernel)) (pi_list (pe_call (ok__law_all_places T 116) (hr.mono (by first | decide | exact Nat.le_refl _ | omega | (show _ ≤ _ + n; omega))) (by rfl) T.g__law_all_places T.F__law_all_places.kp T.b__law_all_places .nil pass0 (pa_cons (pv 0) (pa_cons (pe_tup pa_nil) pa_nil)))) (blkOk_by (N := N__law_listed) (sc := defScope s__law_listed) (by decide +kernel)) (fun _ _ _ _ _ => (pg_name (i := 4) sc__law_listed.nd rfl (Or.inl rfl))) (fun _ _ _ _ _ => pts_one (pt_not (pt_val (pe_call (ok__law_is_variable T) (hr.mono (by first | decide | exact Nat.le_refl _ | omega | (show _ ≤ _ + n; omega))) (by rfl) T.g__law_is_variable T.F__law_is_variable.kp T.b__law_is_variable .nil pass0 (pa_cons (pe_ix (r := rIx K) ix_seq (pv 4) pe_int (fun _ _ => rfl)) pa_nil))))) (fun _ _ _ _ _ => (pv 4)))
      (pss_cons (ps_set (i := 2) sc__law_listed.nd rfl (Or.inl rfl) (pe_call (ok_inner_places T) (hr.mono (by first | decide | exact Nat.le_refl _ | omega | (show _ ≤ _ + n; omega))) (by rfl) T.g_inner_places T.F_inner_places.kp T.b_inner_places .nil pass0 (pa_cons (pv 0) pa_nil)))
      (pss_cons (ps_if (PW.pt (pw_or (pt_not (pt_val (pe_callB (r := rIsi K) call_isi (by rfl) T.n_isinstance PyProof.Rows.boot_isinstance (pa_cons (pv 2) (pa_cons (pe_bltn (v := .ty "tuple") (by rfl) T.n_tuple (by decide +kernel) rfl) pa_nil))))) (pw_or (pt_cmpR (r := rNeU K) (op_neU hr) (pv 2) (pe_callTy (r := rTup K) call_tupU (by rfl) T.n_tuple (by decide +kernel) (pa_cons (pe_lc (own := [("one", 4)]) (g := gName 4) rfl sc__law_listed.nd (pi_list (pv 1)) (blkOk_by (N := N__law_listed) (sc := defScope s__law_listed) (by decide +kernel)) (fun _ _ _ _ _ => (pg_name (i := 4) sc__law_listed.nd rfl (Or.inl rfl))) (fun _ _ _ _ _ => pts_nil) (fun _ _ _ _ _ => (pe_ix (r := rIx K) ix_seq (pv 4) pe_int (fun _ _ => rfl)))) pa_nil)) (nomark _)) (pw_or1 (pt_cmpR (r := rNeU K) (op_neU hr) (pe_callN0 (ok_inner_places T) (hr.mono (by first | decide | exact Nat.le_refl _ | omega | (show _ ≤ _ + n; omega))) (by rfl) T.g_inner_places T.F_inner_places.kp T.kb_inner_places pass0 (pk_cons (pv 0) pk_nil)) (pv 2) (nomark _)))))) (pss_one (ps_ret pe_bl)) pss_nil)
      (pss_cons (ps_set (i := 2) sc__law_listed.nd rfl (Or.inl rfl) (pe_call (ok_variables_of T) (hr.mono (by first | decide | exact Nat.le_refl _ | omega | (show _ ≤ _ + n; omega))) (by rfl) T.g_variables_of T.F_variables_of.kp T.b_variables_of .nil pass0 (pa_cons (pv 0) pa_nil)))
      (pss_cons (ps_if (PW.pt (pw_or (pt_not (pt_val (pe_callB (r := rIsi K) call_isi (by rfl) T.n_isinstance PyProof.Rows.boot_isinstance (pa_cons (pv 2) (pa_cons (pe_bltn (v := .ty "tuple") (by rfl) T.n_tuple (by decide +kernel) rfl) pa_nil))))) (pw_or (pt_cmpR (r := rNeU K) (op_neU hr) (pv 2) (pe_callTy (r := rTup K) call_tupU (by rfl) T.n_tuple (by decide +kernel) (pa_cons (pe_call (ok__law_term_variables T 116) (hr.mono (by first | decide | exact Nat.le_refl _ | omega | (show _ ≤ _ + n; omega))) (by rfl) T.g__law_term_variables T.F__law_term_variables.kp T.b__law_term_variables .nil pass0 (pa_cons (pv 0) (pa_cons (pe_lst pa_nil) pa_nil))) pa_nil)) (nomark _)) (pw_or1 (pt_cmpR (r := rNeU K) (op_neU hr) (pe_callN0 (ok_variables_of T) (hr.mono (by first | decide | exact Nat.le_refl _ | omega | (show _ ≤ _ + n; omega))) (by rfl) T.g_variables_of T.F_variables_of.kp T.kb_variables_of pass0 (pk_cons (pv 0) pk_nil)) (pv 2) (nomark _)))))) (pss_one (ps_ret pe_bl)) pss_nil)
      (pss_cons (ps_set (i := 3) sc__law_listed.nd rfl (Or.inl rfl) (pe_call (ok_size_of T) (hr.mono (by first | decide | exact Nat.le_refl _ | omega | (show _ ≤ _ + n; omega))) (by rfl) T.g_size_of T.F_size_of.kp T.b_size_of .nil pass0 (pa_cons (pv 0) pa_nil)))
      (pss_one (ps_ret (pe_and (pe_callB (r := rIsi K) call_isi (by rfl) T.n_isinstance PyProof.Rows.boot_isinstance (pa_cons (pv 3) (pa_cons (pe_bltn (v := .ty "int") (by rfl) T.n_int (by decide +kernel) rfl) pa_nil))) (pe_and (pe_not (pe_callB (r := rIsi K) call_isi (by rfl) T.n_isinstance PyProof.Rows.boot_isinstance (pa_cons (pv 3) (pa_cons (pe_bltn (v := .ty "bool") (by rfl) T.n_bool (by decide +kernel) rfl) pa_nil)))) (pe_one (pe_cmpR (r := rEqU K) (op_eqU hr) (pv 3) (pe_call (ok__law_symbols T 116) (hr.mono (by first | decide | exact Nat.le_refl _ | omega | (show _ ≤ _ + n; omega))) (by rfl) T.g__law_symbols T.F__law_symbols.kp T.b__law_symbols .nil pass0 (pa_cons (pv 0) pa_nil)) (nomark _))))))))))))), ?_⟩
    have hwt := ht.bd.wt
    have ht' := ht.up (show k ≤ 116 by omega) (Nat.le_refl W)
    walk_at "0"
    walk_at "1"
    walk_at "51"
    walk_at "38"
    walk_at "12"
    walk_at "9"
    walk_at "69"
    walk_at "9"
    walk_at "35"
    walk_at "10"
    walk_at "83"
    intro p0 H0 n0 x0 e0
    walk_at "10"
    refine ⟨v, .ref p0, d, [], W, rfl, Dp.mono x0 hv, ht', hW, .of_tup e0 .nil, by decide, fun p1 H1 xs x1 e1 hxs => ?_⟩
    have x01 := xtr x0 x1
    have hv1 := Dp.mono x01 hv
    have hpl := places_len d []
    have hpt : ∀ q ∈ placesF d [], Tree k W q.2 := fun q hq => by
      obtain ⟨l, _, h⟩ := places_part d [] q hq
      exact (ht.part h).1.up (by omega) (Nat.le_refl _)
    walk_at "88"
    refine ⟨⟨_, sql e1⟩, b_datF walk_list (fun H' x' => xl x' (sql e1)) hxs (fun o => !capD (secD o)) (fun d => d) (fun o ho => ?_) ?_ ?_ ?_⟩
    · obtain ⟨q, hq, rfl⟩ := List.mem_map.mp ho
      exact place_im ((hpt q hq).sm (by omega)).im
    · rw [List.length_map]; omega
    · intro o od H' ho hom xx R R0 hR hR0
      obtain ⟨q, hq, rfl⟩ := List.mem_map.mp hom
      have hR : capD q.2 = false → ∀ y H2, Xt H' H2 → Dp K H2 y (placeD q) → R y H2 := fun h => hR (by show (!capD q.2) = true; rw [h]; rfl)
      have hR0 : capD q.2 = true → ∀ H2, Xt H' H2 → R0 H2 := fun h => hR0 (by show (!capD q.2) = false; rw [h]; rfl)
      walk_at "6"
      refine ⟨rfl, ?_⟩
      walk_at "16"
      walk_at "15"
      walk_at "12"
      walk_at "9"
      walk_at "8"
      walk_at "69"
      walk_at "7"
      refine d_ix ho (atI_nat (j := 1) rfl) fun w hw => ?_
      walk_at "10"
      refine ⟨w, q.2, _, W, rfl, hw, hpt q hq, hW, ?_⟩
      cases hcq : capD q.2 with
      | true =>
        walk_at "88"
        walk_at "89"
        exact hR0 hcq H' (xrefl _)
      | false =>
        walk_at "88"
        walk_at "90"
        walk_at "69"
        exact hR hcq o H' (xrefl _) ho
    intro D1 ys1 H2 n2 x2 e2 hy1
    rw [List.map_id', filter_map_p] at hy1
    have x02 := xtr x01 x2
    walk_at "6"
    walk_at "0"
    walk_at "1"
    walk_at "12"
    walk_at "9"
    walk_at "69"
    walk_at "10"
    refine ⟨v, d, k, W, rfl, Dp.mono x02 hv, ht, hW, by omega, fun H3 w3 x3 hw3 => ?_⟩
    have e2' := x3 _ _ e2
    have hy2 := DpAll.mono x3 hy1
    walk_at "6"
    walk_at "0"
    walk_at "4"
    walk_at "18"
    walk_at "16"
    walk_at "15"
    walk_at "11"
    walk_at "9"
    walk_at "69"
    walk_at "9"
    walk_at "7"
    walk_at "10"
    refine d_isTup hw3 (as_im (paths_as _)) ?_
    walk_at "88"
    walk_at "89"
    walk_at "18"
    walk_at "14"
    walk_at "8"
    walk_at "69"
    walk_at "11"
    walk_at "9"
    walk_at "51"
    walk_at "38"
    walk_at "69"
    walk_at "88"
    refine ⟨⟨_, sql e2'⟩, b_dat walk_list (fun H' x' => xl x' (sql e2')) hy2 fstD (fun o ho => ?_) ?_ ?_ ?_ gm_name⟩
    · obtain ⟨q, hq, rfl⟩ := List.mem_map.mp ho
      exact im_path q.1
    · have := List.length_filter_le (fun q : List Nat × PyData => !capD q.2) (placesF d [])
      rw [List.length_map]; omega
    · intro o od H' ho hom xx R hR
      obtain ⟨q, hq, rfl⟩ := List.mem_map.mp hom
      walk_at "6"
      refine ⟨rfl, ?_⟩
      walk_at "8"
      walk_at "69"
      walk_at "7"
      refine d_ix ho (atI_nat (j := 0) rfl) fun w hw => ?_
      exact hR w H' (xrefl _) hw
    intro D2 ys2 H4 n4 x4 e4 hy4
    rw [fst_map] at hy4
    have hin : ((placesF d []).filter fun q => !capD q.2).map (·.1) = innerF [] d := rfl
    rw [hin] at hy4
    walk_at "10"
    refine d_tupl (.of_lst e4 hy4) fun w5 H5 x5 hw5 => ?_
    have x35 := xtr x4 x5
    refine d_neq (Dp.mono x35 hw3) hw5 (paths_shaped _) ?_
    walk_at "88"
    walk_at "89"
    walk_at "14"
    walk_at "8"
    walk_at "24"
    walk_at "10"
    walk_at "9"
    walk_at "69"
    walk_at "10"
    walk_at "87"
    refine ⟨v, d, k, W, rfl, Dp.mono (xtr x02 (xtr x3 x35)) hv, ht, hW, by omega, fun H6 w6 x6 hw6 => ?_⟩
    walk_at "69"
    refine d_neq hw6 (Dp.mono (xtr x35 x6) hw3) (paths_shaped _) ?_
    have x06 := xtr x02 (xtr x3 (xtr x35 x6))
    clear hw6 hw5 hy4 e4 hy2 e2' hy1 e2 hxs e1 e0 x35 x6 x5 x4 x3 x2 x1 x0 x01 x02
    walk_at "88"
    walk_at "89"
    walk_at "5"
    walk_at "0"
    walk_at "1"
    walk_at "12"
    walk_at "9"
    walk_at "69"
    walk_at "10"
    refine ⟨v, d, k, W, rfl, Dp.mono x06 hv, ht, hW, fun H7 w7 x7 hw7 => ?_⟩
    have hvsh : ∀ p ∈ varsF d, AsD (varD p) = true := varsA_as (fun p hp => by cases hp) fun e he => (ht.mem he).bd.as
    walk_at "6"
    walk_at "0"
    walk_at "4"
    walk_at "18"
    walk_at "16"
    walk_at "15"
    walk_at "11"
    walk_at "9"
    walk_at "69"
    walk_at "9"
    walk_at "7"
    walk_at "10"
    refine d_isTup hw7 (by show ImAll _ = true; exact im_vars _) ?_
    walk_at "88"
    walk_at "89"
    walk_at "18"
    walk_at "14"
    walk_at "8"
    walk_at "69"
    walk_at "11"
    walk_at "9"
    walk_at "12"
    walk_at "9"
    walk_at "69"
    walk_at "9"
    walk_at "34"
    walk_at "10"
    walk_at "82"
    intro p8 H8 n8 x8 e8
    walk_at "10"
    have hsl := subs_len d
    refine ⟨v, p8, [], d, [], W, rfl, Dp.mono (xtr x06 (xtr x7 x8)) hv, ht', hW, e8, .nil, by rw [List.length_nil]; omega, (fun p hp => by cases hp), fun p9 H9 ks9 x9 e9 h9 => ?_⟩
    walk_at "10"
    refine d_tupl (.of_lst e9 h9) fun w10 H10 x10 hw10 => ?_
    have x810 := xtr x8 (xtr x9 x10)
    refine d_neq (Dp.mono x810 hw7) hw10 (vars_shaped hvsh).2 ?_
    walk_at "88"
    walk_at "89"
    walk_at "14"
    walk_at "8"
    walk_at "24"
    walk_at "10"
    walk_at "9"
    walk_at "69"
    walk_at "10"
    walk_at "87"
    refine ⟨v, d, k, W, rfl, Dp.mono (xtr x06 (xtr x7 x810)) hv, ht, hW, fun H11 w11 x11 hw11 => ?_⟩
    walk_at "69"
    refine d_neq hw11 (Dp.mono (xtr x810 x11) hw7) (vars_shaped hvsh).2 ?_
    have x011 := xtr x06 (xtr x7 (xtr x810 x11))
    clear hw11 hw10 h9 e9 e8 hw7
    walk_at "88"
    walk_at "89"
    walk_at "5"
    walk_at "0"
    walk_at "1"
    walk_at "12"
    walk_at "9"
    walk_at "69"
    walk_at "10"
    refine ⟨v, d, k, rfl, Dp.mono x011 hv, ht.sm (by omega), ht.tl, fun H12 x12 => ?_⟩
    walk_at "6"
    walk_at "2"
    walk_at "19"
    walk_at "11"
    walk_at "9"
    walk_at "69"
    walk_at "9"
    walk_at "7"
    walk_at "10"
    walk_at "67"
    walk_at "88"
    walk_at "90"
    walk_at "19"
    walk_at "21"
    walk_at "11"
    walk_at "9"
    walk_at "69"
    walk_at "9"
    walk_at "7"
    walk_at "10"
    walk_at "68"
    walk_at "88"
    walk_at "88"
    walk_at "90"
    walk_at "8"
    walk_at "69"
    walk_at "12"
    walk_at "9"
    walk_at "69"
    walk_at "10"
    refine ⟨v, d, W, rfl, Dp.mono (xtr x011 x12) hv, ht', hW, fun H13 x13 => ?_⟩
    walk_at "75"
    rw [decide_eq_true rfl]
    exact q H13 (xtr x011 (xtr x12 x13))


theorem ok__law_asked (T : Top0 P K mg) : FnOk P w K mg base CX0 122 T.f__law_asked T.fd__law_asked ["vocabulary", "tree", "cell", "variables"] (sp__law_asked T) := by
  refine T.F__law_asked.ok sc__law_asked (fun vs H Q E h => ?_) (fun cdv A outer s H vs Q E hr h => ?_)
  · obtain ⟨l, vr, v, x, d, cl, vl, ws, rfl, hL, lok, hne, hv, ht, htre, ev, hws, vok, q⟩ := h
    rfl
  · obtain ⟨l, vr, v, x, d, cl, vl, ws, rfl, hL, lok, hne, hv, ht, htre, ev, hws, vok, q⟩ := h
    refine ⟨_, (pss_cons (ps_set (i := 4) sc__law_asked.nd rfl (Or.inl rfl) (pe_call (ok__law_digits T) (hr.mono (by first | decide | exact Nat.le_refl _ | omega | (show _ ≤ _ + n; omega))) (by rfl) T.g__law_digits T.F__law_digits.kp T.b__law_digits .nil pass0 (pa_cons (pv 2) (pa_cons (pe_op (r := rPlus K) op_plus (pe_lst (pa_cons pe_int (pa_cons pe_int (pa_cons pe_int (pa_cons pe_int (pa_cons pe_int (pa_cons pe_int (pa_cons pe_int pa_nil)))))))) (pe_lc (own := [("k", 11)]) (g := gName 11) rfl sc__law_asked.nd (pi_range1 (by rfl) T.n_range (pa_cons pe_int pa_nil)) (blkOk_by (N := N__law_asked) (sc := defScope s__law_asked) (by decide +kernel)) (fun _ _ _ _ _ => (pg_name (i := 11) sc__law_asked.nd rfl (Or.inl rfl))) (fun _ _ _ _ _ => pts_nil) (fun _ _ _ _ _ => pe_int))) pa_nil))))
      (pss_cons (ps_set (i := 5) sc__law_asked.nd rfl (Or.inl rfl) (pe_call (ok__law_all_places T 116) (hr.mono (by first | decide | exact Nat.le_refl _ | omega | (show _ ≤ _ + n; omega))) (by rfl) T.g__law_all_places T.F__law_all_places.kp T.b__law_all_places .nil pass0 (pa_cons (pv 1) (pa_cons (pe_tup pa_nil) pa_nil))))
      (pss_cons (ps_set (i := 6) sc__law_asked.nd rfl (Or.inl rfl) (pe_ix (r := rIx K) ix_seq (pv 5) (pe_callB (r := Evl.rMax2) (call_max2 rfl) (by rfl) T.n_max PyProof.Rows.boot_max (pa_cons (pe_op op_mod (pe_callTy call_intU (by rfl) T.n_int PyProof.Rows.boot_int (pa_cons (pe_ix (r := rIx K) ix_seq (pv 4) pe_int (fun _ _ => rfl)) pa_nil)) (pe_callB (r := rLenU K) call_lenU (by rfl) T.n_len PySem.boot_len (pa_cons (pv 5) pa_nil))) (pa_cons (pe_op op_mod (pe_callTy call_intU (by rfl) T.n_int PyProof.Rows.boot_int (pa_cons (pe_ix (r := rIx K) ix_seq (pv 4) pe_int (fun _ _ => rfl)) pa_nil)) (pe_callB (r := rLenU K) call_lenU (by rfl) T.n_len PySem.boot_len (pa_cons (pv 5) pa_nil))) pa_nil))) (fun _ _ => rfl)))
      (pss_cons (ps_set (i := 7) sc__law_asked.nd rfl (Or.inl rfl) (pe_call (ok__law_sort T) (hr.mono (by first | decide | exact Nat.le_refl _ | omega | (show _ ≤ _ + n; omega))) (by rfl) T.g__law_sort T.F__law_sort.kp T.b__law_sort .nil pass0 (pa_cons (pv 0) (pa_cons (pe_ix (r := rIx K) ix_seq (pv 6) pe_int (fun _ _ => rfl)) pa_nil))))
      (Evl.pss_cut (ps_if (PW.pt (pw_and (pt_cmpR (r := rEqU K) (op_eqU hr) (pv 7) pe_str (nomark _)) (pw_and1 (PW.pt (pw_or (pt_cmpR (r := rEqU K) (op_eqU hr) (pe_callB (r := rLenU K) call_lenU (by rfl) T.n_len PySem.boot_len (pa_cons (pe_ix (r := rIx K) ix_seq (pv 0) pe_int (fun _ _ => rfl)) pa_nil)) pe_int (nomark _)) (pw_or1 (pt_cmpR (r := rEqU K) (op_eqU hr) (pe_ix (r := rIx K) ix_seq (pv 4) pe_int (fun _ _ => rfl)) pe_int (nomark _)))))))) (pss_one (ps_set (i := 8) sc__law_asked.nd rfl (Or.inl rfl) (pe_tup (pa_cons pe_str pa_nil)))) (pss_one (ps_if (pt_cmpR (r := rEqU K) (op_eqU hr) (pv 7) pe_str (nomark _)) (pss_one (ps_set (i := 8) sc__law_asked.nd rfl (Or.inl rfl) (pe_call (ok__law_applied T) (hr.mono (by first | decide | exact Nat.le_refl _ | omega | (show _ ≤ _ + n; omega))) (by rfl) T.g__law_applied T.F__law_applied.kp T.b__law_applied .nil pass0 (pa_cons (pv 0) (pa_cons (pe_ix (r := rIx K) ix_seq (pe_ix (r := rIx K) ix_seq (pv 0) pe_int (fun _ _ => rfl)) (pe_op op_mod (pe_callTy call_intU (by rfl) T.n_int PyProof.Rows.boot_int (pa_cons (pe_ix (r := rIx K) ix_seq (pv 4) pe_int (fun _ _ => rfl)) pa_nil)) (pe_callB (r := rLenU K) call_lenU (by rfl) T.n_len PySem.boot_len (pa_cons (pe_ix (r := rIx K) ix_seq (pv 0) pe_int (fun _ _ => rfl)) pa_nil))) (fun _ _ => rfl)) (pa_cons (pe_slice (r := rSlU K) sl_any (pv 4) (po_some pe_int) po_none) (pa_cons pe_int (pa_cons (pv 3) pa_nil)))))))) (pss_one (ps_set (i := 8) sc__law_asked.nd rfl (Or.inl rfl) (pe_ix (r := rIx K) ix_seq (pe_call (ok__law_term T 8) (hr.mono (by first | decide | exact Nat.le_refl _ | omega | (show _ ≤ _ + n; omega))) (by rfl) T.g__law_term T.F__law_term.kp T.b__law_term .nil pass0 (pa_cons (pv 0) (pa_cons (pv 7) (pa_cons (pe_slice (r := rSlU K) sl_any (pv 4) (po_some pe_int) po_none) (pa_cons pe_int (pa_cons (pe_op op_mod (pe_callTy call_intU (by rfl) T.n_int PyProof.Rows.boot_int (pa_cons (pe_ix (r := rIx K) ix_seq (pv 4) pe_int (fun _ _ => rfl)) pa_nil)) pe_int) (pa_cons (pv 3) pa_nil))))))) pe_int (fun _ _ => rfl)))))))
      (pss_cons (ps_set (i := 9) sc__law_asked.nd rfl (Or.inl rfl) (pe_call (ok__law_put T 116) (hr.mono (by first | decide | exact Nat.le_refl _ | omega | (show _ ≤ _ + n; omega))) (by rfl) T.g__law_put T.F__law_put.kp T.b__law_put .nil pass0 (pa_cons (pv 1) (pa_cons (pe_ix (r := rIx K) ix_seq (pv 6) pe_int (fun _ _ => rfl)) (pa_cons (pv 8) pa_nil)))))
      (pss_cons (ps_if (PW.pt (pw_or (pt_cmpR (r := rNeU K) (op_neU hr) (pe_call (ok_part_at T) (hr.mono (by first | decide | exact Nat.le_refl _ | omega | (show _ ≤ _ + n; omega))) (by rfl) T.g_part_at T.F_part_at.kp T.b_part_at .nil passL (pa_cons (pv 1) (pa_cons (pe_ix (r := rIx K) ix_seq (pv 6) pe_int (fun _ _ => rfl)) pa_nil))) (pe_ix (r := rIx K) ix_seq (pv 6) pe_int (fun _ _ => rfl)) (nomark _)) (pw_or (pt_cmpR (r := rNeU K) (op_neU hr) (pe_call (ok_put_at T) (hr.mono (by first | decide | exact Nat.le_refl _ | omega | (show _ ≤ _ + n; omega))) (by rfl) T.g_put_at T.F_put_at.kp T.b_put_at .nil passL (pa_cons (pv 1) (pa_cons (pe_ix (r := rIx K) ix_seq (pv 6) pe_int (fun _ _ => rfl)) (pa_cons (pv 8) pa_nil)))) (pv 9) (nomark _)) (pw_or1 (pt_not (pt_val (pe_call (ok__law_listed T) (hr.mono (by first | decide | exact Nat.le_refl _ | omega | (show _ ≤ _ + n; omega))) (by rfl) T.g__law_listed T.F__law_listed.kp T.b__law_listed .nil pass0 (pa_cons (pv 9) pa_nil)))))))) (pss_one (ps_ret pe_bl)) pss_nil)
      (pss_cons (ps_if (PW.pt (pw_or (pt_cmpR (r := rNeU K) (op_neU hr) (pe_callN0 (ok_part_at T) (hr.mono (by first | decide | exact Nat.le_refl _ | omega | (show _ ≤ _ + n; omega))) (by rfl) T.g_part_at T.F_part_at.kp T.kr_part_at passL (pk_cons (pe_ix (r := rIx K) ix_seq (pv 6) pe_int (fun _ _ => rfl)) (pk_cons (pv 1) pk_nil))) (pe_ix (r := rIx K) ix_seq (pv 6) pe_int (fun _ _ => rfl)) (nomark _)) (pw_or1 (pt_cmpR (r := rNeU K) (op_neU hr) (pe_callN0 (ok_put_at T) (hr.mono (by first | decide | exact Nat.le_refl _ | omega | (show _ ≤ _ + n; omega))) (by rfl) T.g_put_at T.F_put_at.kp T.kr_put_at passL (pk_cons (pv 8) (pk_cons (pe_ix (r := rIx K) ix_seq (pv 6) pe_int (fun _ _ => rfl)) (pk_cons (pv 1) pk_nil)))) (pv 9) (nomark _))))) (pss_one (ps_ret pe_bl)) pss_nil)
      (pss_cons (ps_if (PW.pt (pw_or (pt_cmpR (r := rNeU K) (op_neU hr) (pe_call (ok_part_at T) (hr.mono (by first | decide | exact Nat.le_refl _ | omega | (show _ ≤ _ + n; omega))) (by rfl) T.g_part_at T.F_part_at.kp T.b_part_at .nil passL (pa_cons (pv 9) (pa_cons (pe_ix (r := rIx K) ix_seq (pv 6) pe_int (fun _ _ => rfl)) pa_nil))) (pv 8) (nomark _)) (pw_or (pt_cmpR (r := rNeU K) (op_neU hr) (pe_call (ok_put_at T) (hr.mono (by first | decide | exact Nat.le_refl _ | omega | (show _ ≤ _ + n; omega))) (by rfl) T.g_put_at T.F_put_at.kp T.b_put_at .nil passL (pa_cons (pv 9) (pa_cons (pe_ix (r := rIx K) ix_seq (pv 6) pe_int (fun _ _ => rfl)) (pa_cons (pe_ix (r := rIx K) ix_seq (pv 6) pe_int (fun _ _ => rfl)) pa_nil)))) (pv 1) (nomark _)) (pw_or1 (pt_cmpR (r := rNeU K) (op_neU hr) (pe_call (ok_put_at T) (hr.mono (by first | decide | exact Nat.le_refl _ | omega | (show _ ≤ _ + n; omega))) (by rfl) T.g_put_at T.F_put_at.kp T.b_put_at .nil passL (pa_cons (pv 1) (pa_cons (pe_ix (r := rIx K) ix_seq (pv 6) pe_int (fun _ _ => rfl)) (pa_cons (pe_ix (r := rIx K) ix_seq (pv 6) pe_int (fun _ _ => rfl)) pa_nil)))) (pv 1) (nomark _)))))) (pss_one (ps_ret pe_bl)) pss_nil)
      (pss_cons (ps_set (i := 10) sc__law_asked.nd rfl (Or.inl rfl) pe_int)
      (Evl.pss_cut (ps_if (pt_not (pt_val (pe_call (ok__law_is_variable T) (hr.mono (by first | decide | exact Nat.le_refl _ | omega | (show _ ≤ _ + n; omega))) (by rfl) T.g__law_is_variable T.F__law_is_variable.kp T.b__law_is_variable .nil pass0 (pa_cons (pe_ix (r := rIx K) ix_seq (pv 6) pe_int (fun _ _ => rfl)) pa_nil)))) (pss_one (ps_set (i := 10) sc__law_asked.nd rfl (Or.inl rfl) (pe_op op_sub (pe_callB (r := rLenU K) call_lenU (by rfl) T.n_len PySem.boot_len (pa_cons (pe_ix (r := rIx K) ix_seq (pv 6) pe_int (fun _ _ => rfl)) pa_nil)) pe_int))) pss_nil)
      (pss_cons (ps_set (i := 10) sc__law_asked.nd rfl (Or.inl rfl) (pe_op (r := rPlus K) op_plus (pv 10) (pe_op op_timesU (pe_ix (r := rIx K) ix_seq (pe_lst (pa_cons pe_int (pa_cons pe_int (pa_cons pe_int (pa_cons (pe_op op_pow pe_int pe_int) (pa_cons pe_int pa_nil)))))) (pe_ix (r := rIx K) ix_seq (pv 4) pe_int (fun _ _ => rfl)) (fun _ _ => rfl)) (pe_callTy call_intU (by rfl) T.n_int PyProof.Rows.boot_int (pa_cons (pe_cmpR op_gt (pe_ix (r := rIx K) ix_seq (pv 4) pe_int (fun _ _ => rfl)) pe_int (nomark _)) pa_nil)))))
      (pss_one (ps_ret (pe_call (ok__law_refused T) (hr.mono (by first | decide | exact Nat.le_refl _ | omega | (show _ ≤ _ + n; omega))) (by rfl) T.g__law_refused T.F__law_refused.kp T.b__law_refused .nil pass0 (pa_cons (pv 1) (pa_cons (pe_op (r := rPlus K) op_plus (pe_op (r := rPlus K) op_plus (pe_ix (r := rIx K) ix_seq (pv 6) pe_int (fun _ _ => rfl)) (pe_tup (pa_cons (pv 10) pa_nil))) (pe_ix (r := rIx K) ix_seq (pe_lst (pa_cons (pe_tup pa_nil) (pa_cons (pe_tup (pa_cons pe_int pa_nil)) (pa_cons (pe_tup (pa_cons pe_int (pa_cons pe_int pa_nil))) pa_nil)))) (pe_ix (r := rIx K) ix_seq (pv 4) pe_int (fun _ _ => rfl)) (fun _ _ => rfl))) (pa_cons (pv 8) pa_nil)))))))))))))))))), ?_⟩
    obtain ⟨a, b, c, fs, ps, h1, h2, h3, h4, h5, h6⟩ := hL
    have hL : LexAt K H l x := ⟨a, b, c, fs, ps, h1, h2, h3, h4, h5, h6⟩
    have i2 : atI ([.ref a, .ref b, .ref c] : List V) 2 = some (.ref c) := atI_nat (j := 2) rfl
    have hP10 := lok.nP
    have hpl := h6.len
    rw [List.length_map] at hpl
    walk_at "0"
    walk_at "1"
    walk_at "12"
    walk_at "9"
    walk_at "69"
    walk_at "9"
    walk_at "8"
    walk_at "34"
    walk_at "9"
    walk_at "7"
    walk_at "9"
    walk_at "7"
    walk_at "9"
    walk_at "7"
    walk_at "9"
    walk_at "7"
    walk_at "9"
    walk_at "7"
    walk_at "9"
    walk_at "7"
    walk_at "9"
    walk_at "7"
    walk_at "10"
    walk_at "82"
    intro p0 H0 n0 x0 e0
    walk_at "51"
    walk_at "42"
    walk_at "9"
    walk_at "7"
    walk_at "10"
    walk_at "88"
    refine ⟨by decide, by decide, ?_⟩
    refine' b_rng (lo := 0) (n := 14) (fun i y => y = .int 60) ?hn (fun x => ?hw) ?hb ?hk
    case hn => decide
    case hw => rfl
    case hb =>
      intro i H' hi x R hR
      walk_at "7"
      exact hR _ _ (xrefl _) rfl
    case hk =>
      intro D1 ys1 H1 n1 hl1 hp1 x1 e1
      have ey : ys1 = (List.replicate 14 (60 : Int)).map V.int := by
        apply List.ext_getElem?
        intro i
        by_cases hi : i < 14
        · have h := List.getElem?_eq_getElem (l := ys1) (i := i) (by omega)
          rw [hp1 i _ h] at h
          rw [h, List.getElem?_map, List.getElem?_replicate, if_pos hi]; rfl
        · rw [List.getElem?_eq_none_iff.mpr (by omega), List.getElem?_eq_none_iff.mpr (by rw [List.length_map, List.length_replicate]; omega)]
      subst ey
      refine v_plus_lst (x1 _ _ e0) e1 (szL (by decide)) fun p5 H5 n5 x5 e5 => ?_
      walk_at "10"
      refine ⟨cl, p5, [60, 60, 4, 5, 3, 60, 3] ++ List.replicate 14 60, rfl, sql (by simpa using e5), by decide, by decide, fun p2 H2 rs x2 e2 hD => ?_⟩
      have hrl : rs.length = 21 := by rw [hD.1]; decide
      have x02 := xtr x0 (xtr x1 (xtr x5 x2))
      clear e5 x0 x1 x5 x2 n5 e1 n1 hp1 hl1 e0 n0
      have hL2 := LexAt.mono x02 hL
      have hv2 := Dp.mono x02 hv
      obtain ⟨d0, a0, l0, u0⟩ := hD.get 0 0 rfl rfl
      obtain ⟨d1, a1, l1, u1⟩ := hD.get 1 1 rfl rfl
      obtain ⟨d2, a2, l2, u2⟩ := hD.get 2 2 rfl rfl
      obtain ⟨d3, a3, l3, u3⟩ := hD.get 3 3 rfl rfl
      obtain ⟨d4, a4, l4, u4⟩ := hD.get 4 4 rfl rfl
      obtain ⟨d5, a5, l5, u5⟩ := hD.get 5 5 rfl rfl
      obtain ⟨d6, a6, l6, u6⟩ := hD.get 6 6 rfl rfl
      walk_at "6"
      walk_at "0"
      walk_at "1"
      walk_at "12"
      walk_at "9"
      walk_at "69"
      walk_at "9"
      walk_at "35"
      walk_at "10"
      walk_at "83"
      intro p6 H6 n6 x6 e6
      walk_at "10"
      refine ⟨v, .ref p6, d, [], 5000, rfl, Dp.mono x6 hv2, ht.up (by decide) (Nat.le_refl _), by decide, .of_tup e6 .nil, by decide, fun pp Hq xs xp ep hxs => ?_⟩
      have x07 := xtr x02 (xtr x6 xp)
      have hpl2 := places_len d []
      have hwt := ht.bd.wt
      have hxl := hxs.len
      rw [List.length_map] at hxl
      obtain ⟨pr, hph⟩ := places_head d []
      have hpos : 0 < xs.length := by rw [hxl, hph, List.length_cons]; omega
      have e2p := xp _ _ (x6 _ _ e2)
      clear x6 xp e6 n6 hv2 hL2 e2
      walk_at "6"
      walk_at "0"
      walk_at "1"
      walk_at "8"
      walk_at "69"
      walk_at "11"
      walk_at "9"
      walk_at "8"
      walk_at "11"
      walk_at "9"
      walk_at "8"
      walk_at "69"
      walk_at "7"
      walk_at "79"
      walk_at "10"
      walk_at "57"
      walk_at "11"
      walk_at "9"
      walk_at "69"
      walk_at "10"
      walk_at "77"
      walk_at "70"
      walk_at "9"
      walk_at "8"
      walk_at "11"
      walk_at "9"
      walk_at "8"
      walk_at "69"
      walk_at "7"
      walk_at "79"
      walk_at "10"
      walk_at "57"
      walk_at "11"
      walk_at "9"
      walk_at "69"
      walk_at "10"
      walk_at "77"
      walk_at "70"
      walk_at "10"
      have hm : 0 ≤ (if d5 % (xs.length : Int) > d0 % (xs.length : Int) then d5 % (xs.length : Int) else d0 % (xs.length : Int)) ∧ (if d5 % (xs.length : Int) > d0 % (xs.length : Int) then d5 % (xs.length : Int) else d0 % (xs.length : Int)) < (xs.length : Int) := by
        have q1 := Int.emod_nonneg d0 (show (xs.length : Int) ≠ 0 by omega)
        have q2 := Int.emod_lt_of_pos d0 (show (0 : Int) < (xs.length : Int) by omega)
        have q3 := Int.emod_nonneg d5 (show (xs.length : Int) ≠ 0 by omega)
        have q4 := Int.emod_lt_of_pos d5 (show (0 : Int) < (xs.length : Int) by omega)
        split <;> omega
      refine ⟨_, _, rfl, ?_⟩
      generalize (if d5 % (xs.length : Int) > d0 % (xs.length : Int) then d5 % (xs.length : Int) else d0 % (xs.length : Int)) = mm at hm ⊢
      obtain ⟨hc, hcg, hci⟩ := atI_ok hm.1 hm.2
      obtain ⟨qd, hqd, hdc⟩ := DpAll.getV hxs hci
      rw [List.getElem?_map] at hqd
      cases hq : (placesF d [])[mm.toNat]? with
      | none => rw [hq] at hqd; cases hqd
      | some pq =>
      rw [hq] at hqd
      cases hqd
      obtain ⟨lp, elp, hpart⟩ := places_part d [] pq (List.mem_of_getElem? hq)
      obtain ⟨pl, cp⟩ := pq
      have elp : pl = lp := elp
      subst elp
      have hpart : partF d pl = some cp := hpart
      have htc := ht.part hpart
      have htrc := tre_sub lok.ok htre hpart
      have htc1 : Tree 15 5000 cp := htc.1.up (by omega) (Nat.le_refl _)
      have hpll : pl.length ≤ 14 := by omega
      clear hq hci hxl hph hpos hpl2
      walk_at "79"
      walk_at "6"
      walk_at "0"
      walk_at "1"
      walk_at "12"
      walk_at "9"
      walk_at "69"
      walk_at "9"
      walk_at "8"
      walk_at "69"
      walk_at "7"
      refine d_ix hdc (atI_nat (j := 1) rfl) fun wc hwc => ?_
      walk_at "10"
      refine ⟨l, wc, x, cp, 15, 5000, rfl, LexAt.mono x07 hL, lok, hwc, htc1, by decide, htrc, ?_⟩
      have h1v := x07 _ _ h1
      have h5v := x07 _ _ h5
      have h6v := DpAll.mono x07 h6
      have hLv := LexAt.mono x07 hL
      have evv := x07 _ _ ev
      have hwsv := DpAll.mono x07 hws
      walk_at "6"
      refine k_cut (fun σ' H' => ∃ fw fe, σ' = [some (.ref l), some v, some (.int cl), some (.ref vr), some (.ref p2), some (.ref pp), some hc, some (.str (sortT x cp)), some fw, none, none, none] ∧ Xt Hq H' ∧ Dp K H' fw fe ∧ Tree 5 2000 fe ∧ Tre x fe ∧ sortT x fe = sortT x cp) ?_ ?_
      · have hrd : (rs.drop 7).length = 14 := by rw [List.length_drop]; omega
        walk_at "4"
        walk_at "17"
        walk_at "14"
        walk_at "8"
        walk_at "69"
        walk_at "7"
        walk_at "75"
        walk_at "88"
        refine k_if (fun hs => ?_) (fun hs => ?_)
        · have hst : sortT x cp = "truth" := by injection hs
          have tru : ∀ {H7 : Hp} {p7 : Addr}, Xt Hq H7 → H7 p7 = some (.tup [.str "true"]) → ∃ fw fe, [some (V.ref l), some v, some (.int cl), some (.ref vr), some (.ref p2), some (.ref pp), some hc, some (.str (sortT x cp)), some (.ref p7), none, none, none] = [some (V.ref l), some v, some (.int cl), some (.ref vr), some (.ref p2), some (.ref pp), some hc, some (.str (sortT x cp)), some fw, none, none, none] ∧ Xt Hq H7 ∧ Dp K H7 fw fe ∧ Tree 5 2000 fe ∧ Tre x fe ∧ sortT x fe = sortT x cp := fun {H7 p7} x7 e7 =>
            ⟨_, trueD, rfl, x7, .of_tup e7 (.cons (.str _) .nil), tree_true.up (by decide) (by decide), .inr rfl, by rw [sort_true lok.ok, hst]⟩
          walk_at "18"
          walk_at "14"
          walk_at "8"
          walk_at "11"
          walk_at "9"
          walk_at "8"
          walk_at "69"
          walk_at "7"
          walk_at "79"
          walk_at "10"
          walk_at "77"
          walk_at "7"
          walk_at "75"
          walk_at "88"
          refine k_if (fun hp => ?_) (fun hp => ?_)
          · walk_at "90"
            walk_at "1"
            walk_at "35"
            walk_at "9"
            walk_at "7"
            walk_at "10"
            walk_at "83"
            intro p7 H7 n7 x7 e7
            exact tru x7 e7
          · walk_at "14"
            walk_at "8"
            walk_at "8"
            walk_at "69"
            walk_at "7"
            walk_at "79"
            walk_at "7"
            walk_at "75"
            walk_at "88"
            refine k_if (fun h => ?_) (fun h => ?_)
            · walk_at "1"
              walk_at "35"
              walk_at "9"
              walk_at "7"
              walk_at "10"
              walk_at "83"
              intro p7 H7 n7 x7 e7
              exact tru x7 e7
            · walk_at "4"
              walk_at "14"
              walk_at "8"
              walk_at "69"
              walk_at "7"
              walk_at "75"
              walk_at "88"
              refine k_if (fun _ => ?_) (fun h => absurd hs h)
              have hPne : x.P.map pD ≠ [] := fun e => by
                have := congrArg List.length e
                rw [List.length_map, List.length_nil] at this
                exact hp (by rw [h6v.len, List.length_map, this]; rfl)
              obtain ⟨hyl, cq, o, hcp, hoo, hod⟩ := mod_dat d1 h6v hPne
              obtain ⟨r0, hr0, rfl⟩ := List.mem_map.mp hoo
              walk_at "1"
              walk_at "12"
              walk_at "9"
              walk_at "69"
              walk_at "9"
              walk_at "8"
              walk_at "8"
              walk_at "69"
              walk_at "7"
              walk_at "79"
              walk_at "8"
              walk_at "11"
              walk_at "9"
              walk_at "8"
              walk_at "69"
              walk_at "7"
              walk_at "79"
              walk_at "10"
              walk_at "57"
              walk_at "11"
              walk_at "9"
              walk_at "8"
              walk_at "69"
              walk_at "7"
              walk_at "79"
              walk_at "10"
              walk_at "77"
              walk_at "70"
              walk_at "79"
              walk_at "9"
              walk_at "48"
              walk_at "69"
              walk_at "50"
              walk_at "7"
              walk_at "88"
              walk_at "49"
              refine v_sl_l (sql e2p) fun p3 H3 n3 x3 e3' => ?_
              rw [show (some (7 : Int)) = some ((7 : Nat) : Int) from rfl, cut_drop (by rw [List.length_map]; omega), ← List.map_drop] at e3'
              walk_at "9"
              walk_at "7"
              walk_at "9"
              walk_at "69"
              walk_at "10"
              refine ⟨l, p3, vr, cq, x, (r0.1, r0.2, "truth"), [], 1, rs.drop 7, 1, vl, ws, rfl, LexAt.mono x3 hLv, lok, P_syms hr0, Dp.mono x3 hod, sql e3', by omega, by omega, by omega, x3 _ _ evv, DpAll.mono x3 hwsv, vok, by decide, fun H18 v18 d18 x18 hd18 tm18 => ?_⟩
              walk_at "6"
              exact ⟨v18, d18, rfl, xtr x3 x18, hd18, tree_told lok.ok tm18.td (tm18.bd.up (by decide) (by decide)), .inl ⟨_, tm18.td⟩, by rw [sort_told tm18.td, hst]⟩
        · obtain ⟨hsS, hsT⟩ := tre_sort lok.ok htrc (fun h => hs (by rw [h]))
          walk_at "89"
          walk_at "4"
          walk_at "14"
          walk_at "8"
          walk_at "69"
          walk_at "7"
          walk_at "75"
          walk_at "88"
          refine k_if (fun h => absurd h hs) (fun _ => ?_)
          walk_at "1"
          walk_at "8"
          walk_at "12"
          walk_at "9"
          walk_at "69"
          walk_at "9"
          walk_at "69"
          walk_at "9"
          walk_at "48"
          walk_at "69"
          walk_at "50"
          walk_at "7"
          walk_at "88"
          walk_at "49"
          refine v_sl_l (sql e2p) fun p3 H3 n3 x3 e3' => ?_
          rw [show (some (7 : Int)) = some ((7 : Nat) : Int) from rfl, cut_drop (by rw [List.length_map]; omega), ← List.map_drop] at e3'
          have e2q := x3 _ _ e2p
          walk_at "9"
          walk_at "7"
          walk_at "9"
          walk_at "8"
          walk_at "11"
          walk_at "9"
          walk_at "8"
          walk_at "69"
          walk_at "7"
          walk_at "79"
          walk_at "10"
          walk_at "57"
          walk_at "7"
          walk_at "70"
          walk_at "9"
          walk_at "69"
          walk_at "10"
          refine ⟨l, p3, vr, x, sortT x cp, rs.drop 7, 0, d1 % 3, vl, ws, 2, rfl, LexAt.mono x3 hLv, lok, hsS, sql e3', by omega, by omega, by omega, by decide, x3 _ _ evv, DpAll.mono x3 hwsv, vok, fun p18 H18 v18 d18 a18 x18 e18 hd18 tm18 => ?_⟩
          have j18 : atI [v18, V.int a18] 0 = some v18 := atI_nat (j := 0) rfl
          walk_at "7"
          walk_at "79"
          walk_at "6"
          exact ⟨v18, d18, rfl, xtr x3 x18, hd18, tree_told lok.ok tm18.td (tm18.bd.up (by decide) (by decide)), .inl ⟨_, tm18.td⟩, sort_told tm18.td⟩
      · rintro σ' H7 ⟨fw, fe, rfl, x7, hfw, hft, hftr, hfs⟩
        have hv7 := Dp.mono (xtr x07 x7) hv
        have hd7 := Dp.mono x7 hdc
        have hD := (hft.put ht hpart).up (k' := 20) (W' := 7000) (by omega) (by decide)
        have hDr := tre_put lok.ok htre hpart hftr hfs
        have hDp : partF (putF3 d pl fe) pl = some fe := part_put hpart
        have pok : PlOk pl := pl_ok ht hpart (by decide) (by decide)
        walk_at "0"
        walk_at "1"
        walk_at "12"
        walk_at "9"
        walk_at "69"
        walk_at "9"
        walk_at "8"
        walk_at "69"
        walk_at "7"
        refine d_ix hd7 (atI_nat (j := 0) rfl) fun wl hwl => ?_
        walk_at "9"
        walk_at "69"
        walk_at "10"
        refine ⟨v, wl, fw, d, cp, fe, 15, 5000, 5, 2000, pl, rfl, hv7, ht, by decide, hwl, (by show pl.length ≤ 115; omega), hfw, hft, by decide, hpart, fun w8 H8 x8 hw8 => ?_⟩
        have hv8 := Dp.mono x8 hv7
        have hd8 := Dp.mono x8 hd7
        have hfw8 := Dp.mono x8 hfw
        have X := xtr x07 (xtr x7 x8)
        have Y := xrefl H8
        clear hwl hd7 hv7 hfw
        walk_at "6"
        walk_at "0"
        walk_at "4"
        walk_at "18"
        walk_at "14"
        walk_at "8"
        walk_at "12"
        walk_at "9"
        walk_at "69"
        walk_at "9"
        walk_at "8"
        walk_at "69"
        walk_at "7"
        refine d_ix hd8 (atI_nat (j := 0) rfl) fun wl1 hwl1 => ?_
        walk_at "10"
        refine ⟨v, wl1, d, 15, 5000, pl, rfl, hv8, ht, by decide, hwl1, pok, fun c2 w9 h2 hw9 => ?_, fun h => by rw [hpart] at h; cases h⟩
        rw [hpart] at h2
        cases h2
        walk_at "8"
        walk_at "69"
        walk_at "7"
        refine d_ix hd8 (atI_nat (j := 1) rfl) fun wc1 hwc1 => ?_
        skip
        refine d_neq hw9 hwc1 ((htc1.sm (by decide)).shaped (by decide)) ?_
        walk_at "88"
        walk_at "89"
        walk_at "18"
        walk_at "14"
        walk_at "8"
        walk_at "12"
        walk_at "9"
        walk_at "69"
        walk_at "9"
        walk_at "8"
        walk_at "69"
        walk_at "7"
        refine d_ix hd8 (atI_nat (j := 0) rfl) fun wl1 hwl1 => ?_
        walk_at "9"
        walk_at "69"
        walk_at "10"
        refine ⟨v, wl1, fw, d, fe, 15, 5000, 5, 2000, pl, rfl, hv8, ht, by decide, hwl1, pok, hfw8, hft, by decide, fun c2 w9 H9 h2 x9 hw9 => ?_, fun h => by rw [hpart] at h; cases h⟩
        clear h2
        replace hv8 := Dp.mono x9 hv8
        replace hd8 := Dp.mono x9 hd8
        replace hfw8 := Dp.mono x9 hfw8
        replace hw8 := Dp.mono x9 hw8
        replace X := xtr X x9
        replace Y := xtr Y x9
        walk_at "69"
        refine d_neq hw9 hw8 ((hD.sm (by decide)).shaped (by decide)) ?_
        walk_at "88"
        walk_at "89"
        walk_at "16"
        walk_at "15"
        walk_at "12"
        walk_at "9"
        walk_at "69"
        walk_at "10"
        refine ⟨w8, _, 20, 7000, rfl, hw8, hD, by decide, by decide, fun H9 x9 => ?_⟩
        replace hv8 := Dp.mono x9 hv8
        replace hd8 := Dp.mono x9 hd8
        replace hfw8 := Dp.mono x9 hfw8
        replace hw8 := Dp.mono x9 hw8
        replace X := xtr X x9
        replace Y := xtr Y x9
        walk_at "88"
        walk_at "89"
        walk_at "5"
        walk_at "0"
        walk_at "4"
        walk_at "18"
        walk_at "14"
        walk_at "8"
        walk_at "24"
        walk_at "10"
        walk_at "9"
        walk_at "8"
        walk_at "69"
        walk_at "7"
        refine d_ix hd8 (atI_nat (j := 0) rfl) fun wl1 hwl1 => ?_
        walk_at "9"
        walk_at "69"
        walk_at "10"
        walk_at "87"
        refine ⟨v, wl1, d, 15, 5000, pl, rfl, hv8, ht, by decide, hwl1, pok, fun c2 w9 h2 hw9 => ?_, fun h => by rw [hpart] at h; cases h⟩
        rw [hpart] at h2
        cases h2
        walk_at "8"
        walk_at "69"
        walk_at "7"
        refine d_ix hd8 (atI_nat (j := 1) rfl) fun wc1 hwc1 => ?_
        skip
        refine d_neq hw9 hwc1 ((htc1.sm (by decide)).shaped (by decide)) ?_
        walk_at "88"
        walk_at "89"
        walk_at "14"
        walk_at "8"
        walk_at "24"
        walk_at "10"
        walk_at "9"
        walk_at "69"
        walk_at "9"
        walk_at "8"
        walk_at "69"
        walk_at "7"
        refine d_ix hd8 (atI_nat (j := 0) rfl) fun wl1 hwl1 => ?_
        walk_at "9"
        walk_at "69"
        walk_at "10"
        walk_at "87"
        refine ⟨v, wl1, fw, d, fe, 15, 5000, 5, 2000, pl, rfl, hv8, ht, by decide, hwl1, pok, hfw8, hft, by decide, fun c2 w9 H9 h2 x9 hw9 => ?_, fun h => by rw [hpart] at h; cases h⟩
        clear h2
        replace hv8 := Dp.mono x9 hv8
        replace hd8 := Dp.mono x9 hd8
        replace hfw8 := Dp.mono x9 hfw8
        replace hw8 := Dp.mono x9 hw8
        replace X := xtr X x9
        replace Y := xtr Y x9
        walk_at "69"
        refine d_neq hw9 hw8 ((hD.sm (by decide)).shaped (by decide)) ?_
        walk_at "88"
        walk_at "89"
        walk_at "5"
        walk_at "0"
        walk_at "4"
        walk_at "18"
        walk_at "14"
        walk_at "8"
        walk_at "12"
        walk_at "9"
        walk_at "69"
        walk_at "9"
        walk_at "8"
        walk_at "69"
        walk_at "7"
        refine d_ix hd8 (atI_nat (j := 0) rfl) fun wl1 hwl1 => ?_
        walk_at "10"
        refine ⟨w8, wl1, (putF3 d pl fe), 20, 7000, pl, rfl, hw8, hD, by decide, hwl1, pok, fun c2 w9 h2 hw9 => ?_, fun h => by rw [hDp] at h; cases h⟩
        rw [hDp] at h2
        cases h2
        walk_at "69"
        refine d_neq hw9 hfw8 ((hft.sm (by decide)).shaped (by decide)) ?_
        walk_at "88"
        walk_at "89"
        walk_at "18"
        walk_at "14"
        walk_at "8"
        walk_at "12"
        walk_at "9"
        walk_at "69"
        walk_at "9"
        walk_at "8"
        walk_at "69"
        walk_at "7"
        refine d_ix hd8 (atI_nat (j := 0) rfl) fun wl1 hwl1 => ?_
        walk_at "9"
        walk_at "8"
        walk_at "69"
        walk_at "7"
        refine d_ix hd8 (atI_nat (j := 1) rfl) fun wc1 hwc1 => ?_
        walk_at "10"
        refine ⟨w8, wl1, wc1, (putF3 d pl fe), cp, 20, 7000, 15, 5000, pl, rfl, hw8, hD, by decide, hwl1, pok, hwc1, htc1, by decide, fun c2 w9 H9 h2 x9 hw9 => ?_, fun h => by rw [hDp] at h; cases h⟩
        clear h2
        replace hv8 := Dp.mono x9 hv8
        replace hd8 := Dp.mono x9 hd8
        replace hfw8 := Dp.mono x9 hfw8
        replace hw8 := Dp.mono x9 hw8
        replace X := xtr X x9
        replace Y := xtr Y x9
        rw [put_put hpart, put_part hpart] at hw9
        walk_at "69"
        refine d_neq hw9 hv8 ((ht.sm (by decide)).shaped (by decide)) ?_
        walk_at "88"
        walk_at "89"
        walk_at "14"
        walk_at "8"
        walk_at "12"
        walk_at "9"
        walk_at "69"
        walk_at "9"
        walk_at "8"
        walk_at "69"
        walk_at "7"
        refine d_ix hd8 (atI_nat (j := 0) rfl) fun wl1 hwl1 => ?_
        walk_at "9"
        walk_at "8"
        walk_at "69"
        walk_at "7"
        refine d_ix hd8 (atI_nat (j := 1) rfl) fun wc1 hwc1 => ?_
        walk_at "10"
        refine ⟨v, wl1, wc1, d, cp, 15, 5000, 15, 5000, pl, rfl, hv8, ht, by decide, hwl1, pok, hwc1, htc1, by decide, fun c2 w9 H9 h2 x9 hw9 => ?_, fun h => by rw [hpart] at h; cases h⟩
        clear h2
        replace hv8 := Dp.mono x9 hv8
        replace hd8 := Dp.mono x9 hd8
        replace hfw8 := Dp.mono x9 hfw8
        replace hw8 := Dp.mono x9 hw8
        replace X := xtr X x9
        replace Y := xtr Y x9
        rw [put_part hpart] at hw9
        walk_at "69"
        refine d_neq hw9 hv8 ((ht.sm (by decide)).shaped (by decide)) ?_
        walk_at "88"
        walk_at "89"
        walk_at "5"
        walk_at "0"
        walk_at "1"
        walk_at "7"
        walk_at "6"
        show Evl.tCut _ _ _ _ _
        have e2x : H9 p2 = some (.lst (rs.map V.int)) := (xtr x7 (xtr x8 Y)) _ _ e2p
        refine k_cut (fun σ' H' => ∃ m : Nat, σ' = [some (.ref l), some v, some (.int cl), some (.ref vr), some (.ref p2), some (.ref pp), some hc, some (.str (sortT x cp)), some fw, some w8, some (.int (m : Int)), none] ∧ Xt H9 H' ∧ m ≤ 5000 ∧ ∀ m' r, m ≤ m' → partF cp (m' :: r) = none) ?_ ?_
        · walk_at "4"
          walk_at "16"
          walk_at "15"
          walk_at "12"
          walk_at "9"
          walk_at "8"
          walk_at "69"
          walk_at "7"
          refine d_ix hd8 (atI_nat (j := 1) rfl) fun wc1 hwc1 => ?_
          walk_at "10"
          refine ⟨wc1, cp, 15, 5000, rfl, hwc1, htc1, by decide, ?_⟩
          obtain ⟨z, ds, k', rfl, e15, hz1, hzW, hlW, hcase⟩ := htc1.inv
          rcases hcase with ⟨hcz, s, rfl⟩ | ⟨hcz, hall⟩
          · rw [show capD (.tuple (.str z :: [.str s])) = true from hcz]
            walk_at "88"
            walk_at "89"
            walk_at "5"
            walk_at "88"
            exact ⟨xrefl _, by decide, fun m' r _ => part_no (.inl hcz)⟩
          · rw [show capD (.tuple (.str z :: ds)) = false from hcz]
            walk_at "88"
            walk_at "90"
            walk_at "1"
            walk_at "8"
            walk_at "11"
            walk_at "9"
            walk_at "8"
            walk_at "69"
            walk_at "7"
            refine d_ix hd8 (atI_nat (j := 1) rfl) fun wc1 hwc1 => ?_
            walk_at "10"
            refine d_len hwc1 ?_
            walk_at "7"
            walk_at "55"
            walk_at "6"
            refine ⟨ds.length, ?_, xrefl _, hlW, fun m' r h => part_no (.inr h)⟩
            rw [List.length_cons, show (((ds.length + 1 : Nat) : Int) - 1) = (ds.length : Int) by omega]; rfl
        · rintro σ' H10 ⟨m, rfl, x10, hm5, hno⟩
          walk_at "0"
          walk_at "1"
          walk_at "8"
          walk_at "69"
          walk_at "8"
          walk_at "8"
          walk_at "34"
          walk_at "9"
          walk_at "7"
          walk_at "9"
          walk_at "7"
          walk_at "9"
          walk_at "7"
          walk_at "9"
          walk_at "8"
          walk_at "7"
          walk_at "7"
          walk_at "70"
          walk_at "9"
          walk_at "7"
          walk_at "10"
          walk_at "82"
          intro p11 H11 n11 x11 e11
          obtain ⟨tb, hta, htb⟩ := big_at l3 u3
          have e2y := (xtr x10 x11) _ _ e2x
          walk_at "8"
          walk_at "69"
          walk_at "7"
          walk_at "79"
          walk_at "79"
          walk_at "11"
          walk_at "9"
          walk_at "8"
          walk_at "8"
          walk_at "69"
          walk_at "7"
          walk_at "79"
          walk_at "7"
          walk_at "55"
          walk_at "10"
          refine .inr ⟨_, rfl, ?_⟩
          have hmi : (if decide (0 < d2) = true then 1 else 0) = (0 : Int) ∨ (if decide (0 < d2) = true then 1 else 0) = (1 : Int) := by split <;> simp
          generalize (if decide (0 < d2) = true then (1 : Int) else 0) = mi at hmi ⊢
          refine u_times_int (.inr (by rcases hmi with rfl | rfl <;> exact ⟨by decide, by decide⟩)) ?_
          refine v_plus_int ?_
          obtain ⟨qn, hqn, hqm, hqM⟩ := many_nat (m := m) hmi htb
          rw [hqn]
          have x11' := xtr x10 x11
          walk_at "6"
          walk_at "2"
          walk_at "12"
          walk_at "9"
          walk_at "69"
          walk_at "9"
          walk_at "8"
          walk_at "8"
          walk_at "8"
          walk_at "69"
          walk_at "7"
          refine d_ix (Dp.mono x11' hd8) (atI_nat (j := 0) rfl) fun wz hwz => ?_
          walk_at "35"
          walk_at "9"
          walk_at "69"
          walk_at "10"
          walk_at "83"
          intro p12 H12 n12 x12 e12
          have hp12 : Dp K H12 (.ref p12) (.tuple [.int (qn : Int)]) := .of_tup e12 (.cons (.int _) .nil)
          refine d_plus (Dp.mono x12 hwz) hp12 (by rw [List.length_map]; simp only [List.length_cons, List.length_nil]; omega) fun w13 H13 x13 hw13 => ?_
          rw [path_snoc] at hw13
          have e2z := (xtr x12 x13) _ _ e2y
          walk_at "8"
          walk_at "34"
          walk_at "9"
          walk_at "35"
          walk_at "10"
          walk_at "83"
          intro p14 H14 n14 x14 e14
          walk_at "9"
          walk_at "35"
          walk_at "9"
          walk_at "7"
          walk_at "10"
          walk_at "83"
          intro p15 H15 n15 x15 e15
          walk_at "9"
          walk_at "35"
          walk_at "9"
          walk_at "7"
          walk_at "9"
          walk_at "7"
          walk_at "10"
          walk_at "83"
          intro p16 H16 n16 x16 e16
          walk_at "10"
          walk_at "82"
          intro p17 H17 n17 x17 e17
          have hps : DpAll K H17 [.ref p14, .ref p15, .ref p16] [pathD [], pathD [0], pathD [1, 0]] := .cons (.of_tup (x17 _ _ (x16 _ _ (x15 _ _ e14))) .nil) (.cons (.of_tup (x17 _ _ (x16 _ _ e15)) (.cons (.int _) .nil)) (.cons (.of_tup (x17 _ _ e16) (.cons (.int _) (.cons (.int _) .nil))) .nil))
          have x1417 := xtr x14 (xtr x15 (xtr x16 x17))
          obtain ⟨cw, o, hcw, ho, hod⟩ := pick_dat0 (i := d4) hps l4 (by show d4 < 3; exact u4)
          obtain ⟨ext, rfl, hel, hem⟩ := ext_of ho
          have e2w := x1417 _ _ e2z
          walk_at "8"
          walk_at "69"
          walk_at "7"
          walk_at "79"
          walk_at "79"
          refine d_plus (Dp.mono x1417 hw13) hod (by simp only [List.length_map, List.length_append, List.length_cons, List.length_nil]; omega) fun w18 H18 x18 hw18 => ?_
          rw [path_app] at hw18
          have xz := xtr x11' (xtr (xtr x12 x13) (xtr x1417 x18))
          walk_at "9"
          walk_at "69"
          walk_at "10"
          refine ⟨v, w18, fw, d, fe, 15, 5000, 5, 2000, pl ++ [qn] ++ ext, rfl, Dp.mono xz hv8, ht, by decide, hw18, ?_, Dp.mono xz hfw8, hft, by decide, ?_, fun H19 x19 => ?_⟩
          · refine ⟨by simp only [List.length_append, List.length_cons, List.length_nil]; omega, fun k hk => ?_⟩
            rcases List.mem_append.mp hk with hk | hk
            · rcases List.mem_append.mp hk with hk | hk
              · exact pok.sm k hk
              · rw [List.mem_singleton] at hk
                subst hk
                exact Nat.le_trans hqM (Nat.le_trans (Nat.add_le_add_right hm5 _) (by decide +kernel))
            · exact Nat.le_trans (hem k hk) (by decide)
          · rw [List.append_assoc, part_app, hpart]
            exact hno qn ext hqm
          · exact q H19 (xtr X (xtr xz x19))


theorem ok__law_grown_atom (T : Top0 P K mg) : FnOk P w K mg base CX0 122 T.f__law_grown_atom T.fd__law_grown_atom ["vocabulary", "book", "grown", "sort"] (sp__law_grown_atom T) := by
  refine T.F__law_grown_atom.ok sc__law_grown_atom (fun vs H Q E h => ?_) (fun cdv A outer s H vs Q E hr h => ?_)
  · obtain ⟨l, bk, v, x, d, s, rfl, hL, lok, hV, hv, ht, htd, hsS, q⟩ := h
    rfl
  · obtain ⟨l, bk, v, x, d, s, rfl, hL, lok, hV, hv, ht, htd, hsS, q⟩ := h
    refine ⟨_, (pss_cons (ps_setLc (i := 4) (own := [("one", 8)]) (g := gName 8) rfl sc__law_grown_atom.nd rfl rfl (sw_true rfl rfl rfl (by decide +kernel)) (pi_list (pe_ix (r := rIx K) ix_seq (pv 0) pe_int (fun _ _ => rfl))) (blkOk_by (N := N__law_grown_atom) (sc := defScope s__law_grown_atom) (by decide +kernel)) (fun _ _ _ _ _ => (pg_name (i := 8) sc__law_grown_atom.nd rfl (Or.inl rfl))) (fun _ _ _ _ _ => pts_one (pt_cmpR (r := rInV K) (op_inV hr) (pv 3) (pe_ix (r := rIx K) ix_seq (pv 8) pe_int (fun _ _ => rfl)) (by with_unfolding_all rfl))) (fun _ _ _ _ _ => (pv 8)))
      (pss_cons (ps_if (pt_cmpR (r := rEqU K) (op_eqU hr) (pe_callB (r := rLenU K) call_lenU (by rfl) T.n_len PySem.boot_len (pa_cons (pv 4) pa_nil)) pe_int (nomark _)) (pss_one (ps_ret pe_bl)) pss_nil)
      (pss_cons (ps_set (i := 5) sc__law_grown_atom.nd rfl (Or.inl rfl) (pe_op (r := rPlus K) op_plus (pe_tup (pa_cons (pe_ix (r := rIx K) ix_seq (pe_ix (r := rIx K) ix_seq (pv 4) pe_int (fun _ _ => rfl)) pe_int (fun _ _ => rfl)) pa_nil)) (pe_callTy (r := rTup K) call_tupU (by rfl) T.n_tuple (by decide +kernel) (pa_cons (pe_lc (own := [("one", 8)]) (g := gName 8) rfl sc__law_grown_atom.nd (pi_tup (pe_ix (r := rIx K) ix_seq (pe_ix (r := rIx K) ix_seq (pv 4) pe_int (fun _ _ => rfl)) pe_int (fun _ _ => rfl))) (blkOk_by (N := N__law_grown_atom) (sc := defScope s__law_grown_atom) (by decide +kernel)) (fun _ _ _ _ _ => (pg_name (i := 8) sc__law_grown_atom.nd rfl (Or.inl rfl))) (fun _ _ _ _ _ => pts_nil) (fun _ _ _ _ _ => (pe_tup (pa_cons pe_str (pa_cons (pv 8) pa_nil))))) pa_nil))))
      (pss_cons (ps_set (i := 6) sc__law_grown_atom.nd rfl (Or.inl rfl) (pe_tup (pa_cons (show PE _ _ (tBM K "list" (rIndex K) _ _) from pe_bm PySem.F.plainAttrs_list PySem.F.slot_list_index PySem.F.type_list_index mt_index (pe_callTy (r := rLst K) call_lstU (by rfl) T.n_list (by decide +kernel) (pa_cons (pe_ix (r := rIx K) ix_seq (pe_ix (r := rIx K) ix_seq (pv 4) pe_int (fun _ _ => rfl)) pe_int (fun _ _ => rfl)) pa_nil)) (pa_cons (pv 3) pa_nil)) pa_nil)))
      (pss_cons (ps_set (i := 7) sc__law_grown_atom.nd rfl (Or.inl rfl) (pe_call (ok_put_at T) (hr.mono (by first | decide | exact Nat.le_refl _ | omega | (show _ ≤ _ + n; omega))) (by rfl) T.g_put_at T.F_put_at.kp T.b_put_at .nil passL (pa_cons (pv 5) (pa_cons (pv 6) (pa_cons (pv 2) pa_nil)))))
      (pss_cons (ps_if (PW.pt (pw_or (pt_cmpR (r := rNeB K) (op_neB hr) (pv 7) (pe_call (ok__law_put T 116) (hr.mono (by first | decide | exact Nat.le_refl _ | omega | (show _ ≤ _ + n; omega))) (by rfl) T.g__law_put T.F__law_put.kp T.b__law_put .nil pass0 (pa_cons (pv 5) (pa_cons (pv 6) (pa_cons (pv 2) pa_nil)))) (nomark _)) (pw_or (pt_not (pt_val (pe_call (ok__law_listed T) (hr.mono (by first | decide | exact Nat.le_refl _ | omega | (show _ ≤ _ + n; omega))) (by rfl) T.g__law_listed T.F__law_listed.kp T.b__law_listed .nil pass0 (pa_cons (pv 7) pa_nil)))) (pw_or1 (pt_cmpR (r := rNeB K) (op_neB hr) (pe_call (ok_part_at T) (hr.mono (by first | decide | exact Nat.le_refl _ | omega | (show _ ≤ _ + n; omega))) (by rfl) T.g_part_at T.F_part_at.kp T.b_part_at .nil passL (pa_cons (pv 7) (pa_cons (pv 6) pa_nil))) (pv 2) (nomark _)))))) (pss_one (ps_ret pe_bl)) pss_nil)
      (pss_one (ps_ret (pe_and (pe_cmpR op_isBl (pe_call (ok_is_atom T) (hr.mono (by first | decide | exact Nat.le_refl _ | omega | (show _ ≤ _ + n; omega))) (by rfl) T.g_is_atom T.F_is_atom.kp T.b_is_atom .nil pass0 (pa_cons (pv 1) (pa_cons (pv 7) pa_nil))) pe_bl (nomark _)) (pe_and (pe_cmpR op_isBl (pe_call (ok_is_term T) (hr.mono (by first | decide | exact Nat.le_refl _ | omega | (show _ ≤ _ + n; omega))) (by rfl) T.g_is_term T.F_is_term.kp T.b_is_term .nil pass0 (pa_cons (pv 1) (pa_cons (pv 7) pa_nil))) pe_bl (nomark _)) (pe_one (pe_cmpR (r := rEqU K) (op_eqU hr) (pe_call (ok_sort_of T) (hr.mono (by first | decide | exact Nat.le_refl _ | omega | (show _ ≤ _ + n; omega))) (by rfl) T.g_sort_of T.F_sort_of.kp T.b_sort_of .nil pass0 (pa_cons (pv 1) (pa_cons (pv 7) pa_nil))) pe_str (nomark _))))))))))))), ?_⟩
    obtain ⟨a, b, c, fs, ps, h1, h2, h3, h4, h5, h6⟩ := hL
    have i2 : atI ([.ref a, .ref b, .ref c] : List V) 2 = some (.ref c) := atI_nat (j := 2) rfl
    have hP10 := lok.nP
    have hpl := h6.len
    rw [List.length_map] at hpl
    walk_at "0"
    walk_at "1"
    walk_at "51"
    walk_at "38"
    walk_at "8"
    walk_at "69"
    walk_at "7"
    walk_at "79"
    walk_at "88"
    refine ⟨⟨_, sql h5⟩, b_datF walk_list (fun H' x' => xl x' (sql h5)) h6 (pIn s) (fun d => d) (fun o ho => ?_) ?_ ?_ ?_⟩
    · obtain ⟨r, _, rfl⟩ := List.mem_map.mp ho
      exact im_pD r
    · rw [List.length_map]; omega
    · intro o od H' ho hom xx R R0 hR hR0
      obtain ⟨r, hr0, rfl⟩ := List.mem_map.mp hom
      rw [pIn_pD] at hR hR0
      walk_at "6"
      refine ⟨rfl, ?_⟩
      walk_at "14"
      walk_at "8"
      walk_at "69"
      walk_at "8"
      walk_at "69"
      walk_at "7"
      refine d_ix ho (atI_nat (j := 1) rfl) fun w hw => ?_
      refine w_in hw ?_
      by_cases hm : s ∈ r.2
      · rw [decide_eq_true hm] at hR ⊢
        walk_at "88"
        walk_at "90"
        walk_at "69"
        exact hR rfl o H' (xrefl _) ho
      · rw [decide_eq_false hm] at hR0 ⊢
        walk_at "88"
        walk_at "89"
        exact hR0 rfl H' (xrefl _)
    intro D1 ys1 H1 n1 x1 e1 hy1
    rw [List.map_id'] at hy1
    have hyl := hy1.len
    walk_at "6"
    walk_at "0"
    walk_at "4"
    walk_at "14"
    walk_at "8"
    walk_at "11"
    walk_at "9"
    walk_at "69"
    walk_at "10"
    walk_at "77"
    walk_at "7"
    walk_at "75"
    walk_at "88"
    cases hfl : (x.P.map pD).filter (pIn s) with
    | nil =>
      rw [hfl] at hyl
      refine k_if (fun _ => ?_) (fun h => absurd (by rw [hyl]; rfl) h)
      walk_at "2"
      walk_at "7"
      exact q H1 x1
    | cons o os =>
      have hom : o ∈ (x.P.map pD).filter (pIn s) := by rw [hfl]; exact List.mem_cons_self ..
      rw [hfl] at hy1 hyl
      obtain ⟨hom1, hom2⟩ := List.mem_filter.mp hom
      obtain ⟨r, hr0, rfl⟩ := List.mem_map.mp hom1
      rw [pIn_pD] at hom2
      have hsr : s ∈ r.2 := of_decide_eq_true hom2
      obtain ⟨j, hj, hjm⟩ := first_ix hsr
      obtain ⟨hv0, ys2, rfl, hh0, _⟩ := DpAll.cons_inv hy1
      have hr3 := lok.pl r hr0
      have j0 : atI (hv0 :: ys2) 0 = some hv0 := atI_nat (j := 0) rfl
      refine k_if (fun h => by rw [hyl] at h; cases h) (fun _ => ?_)
      clear hom hom1 hfl h1 h3 h4 h5 h6 i2
      walk_at "5"
      walk_at "0"
      walk_at "1"
      walk_at "8"
      walk_at "35"
      walk_at "9"
      walk_at "8"
      walk_at "8"
      walk_at "69"
      walk_at "7"
      walk_at "79"
      walk_at "7"
      refine d_ix hh0 (atI_nat (j := 0) rfl) fun w hw => ?_
      cases Dp.str_inv hw
      walk_at "10"
      walk_at "83"
      intro p2 H2 n2 x2 e2
      have hh2 := Dp.mono x2 hh0
      have e1' := x2 _ _ e1
      walk_at "11"
      walk_at "9"
      walk_at "51"
      walk_at "39"
      walk_at "8"
      walk_at "8"
      walk_at "69"
      walk_at "7"
      walk_at "79"
      walk_at "7"
      refine d_ix hh2 (atI_nat (j := 1) rfl) fun w1 hw1 => ?_
      obtain ⟨a3, xs3, rfl, hS3, hd3⟩ := Dp.tup_inv hw1
      walk_at "88"
      refine ⟨⟨_, hS3⟩, b_dat walk_tup (fun H' x' => xt x' hS3) hd3 leafF (fun o ho => ?_) ?_ ?_ ?_ gm_name⟩
      · obtain ⟨t, _, rfl⟩ := List.mem_map.mp ho
        rfl
      · rw [List.length_map]; omega
      · intro o od H' ho hom xx R hR
        obtain ⟨t, _, rfl⟩ := List.mem_map.mp hom
        cases Dp.str_inv ho
        walk_at "6"
        refine ⟨rfl, ?_⟩
        walk_at "35"
        walk_at "9"
        walk_at "7"
        walk_at "9"
        walk_at "69"
        walk_at "10"
        walk_at "83"
        intro p4 H4 n4 x4 e4
        exact hR _ H4 x4 (.of_tup e4 (.cons (.str _) (.cons (.str _) .nil)))
      intro D5 ys5 H5 n5 x5 e5 hy5
      walk_at "10"
      refine d_tupl (.of_lst e5 hy5) fun w6 H6 x6 hw6 => ?_
      have e2' : Dp K H6 (.ref p2) (.tuple [.str r.1]) := .of_tup (x6 _ _ (x5 _ _ e2)) (.cons (.str _) .nil)
      refine d_plus e2' hw6 (by simp only [List.length_map, List.length_cons, List.length_nil]; omega) fun w7 H7 x7 hw7 => ?_
      have hw7 : Dp K H7 w7 (smallD r) := by
        have e : [PyData.str r.1] ++ (r.2.map PyData.str).map leafF = .str r.1 :: r.2.map leafD := by rw [List.map_map]; rfl
        rw [e] at hw7; exact hw7
      have x27 := xtr x5 (xtr x6 x7)
      have hh7 := Dp.mono x27 hh2
      have e1b := x27 _ _ e1'
      have X7 := xtr x1 (xtr x2 x27)
      clear e2' hw6 e5 hy5 x5 x6 x7 n5 n2 e2 hh2 hh0 e1 e1' hS3 hd3 hw1
      walk_at "6"
      walk_at "0"
      walk_at "1"
      walk_at "35"
      walk_at "9"
      walk_at "36"
      walk_at "11"
      walk_at "9"
      walk_at "8"
      walk_at "8"
      walk_at "69"
      walk_at "7"
      walk_at "79"
      walk_at "7"
      refine d_ix hh7 (atI_nat (j := 1) rfl) fun w8 hw8 => ?_
      obtain ⟨a9, xs9, rfl, hS9, hd9⟩ := Dp.tup_inv hw8
      have exs := DpAll.strs_inv hd9
      subst exs
      walk_at "10"
      refine ⟨a9, _, rfl, .inr hS9, fun p10 hp10 => ?_⟩
      have x10 : Xt H7 (upd H7 p10 (.lst (r.2.map V.str))) := xnew hp10
      have e10 : (upd H7 p10 (.lst (r.2.map V.str))) p10 = some (.lst (r.2.map V.str)) := upd_same
      generalize upd H7 p10 (.lst (r.2.map V.str)) = H10 at x10 e10 ⊢
      refine ⟨ty_l e10, ?_⟩
      walk_at "9"
      walk_at "69"
      walk_at "10"
      refine ⟨p10, r.2.map V.str, .str s, j, .str s, rfl, rfl, sql e10, rfl, flat_strs r.2, by rw [List.getElem?_map, hj]; rfl, by rw [eqV_str]; exact decide_eq_true rfl, fun m z' hm hz => ?_, ?_⟩
      · rw [List.getElem?_map] at hz
        cases hz2 : r.2[m]? with
        | none => rw [hz2] at hz; cases hz
        | some zz =>
          rw [hz2] at hz
          cases hz
          rw [eqV_str]
          exact decide_eq_false (hjm m zz hm hz2)
      walk_at "10"
      walk_at "83"
      intro p11 H11 n11 x11 e11
      have hp11 : Dp K H11 (.ref p11) (pathD [j]) := .of_tup e11 (.cons (.int _) .nil)
      have hst := small_tm lok hr0
      have hTs : Tree 2 66 (smallD r) := tree_told lok.ok hst.td hst.bd
      have hpt := small_part lok hr0 hj
      have hTD := (ht.put hTs hpt).up (k' := 115) (W' := 60000) (by show max 2 (1 + 114) ≤ 115; decide) (by decide)
      have htD : toldF x (putF3 (smallD r) [j] d) = some "truth" := (told_put hpt (htd.trans (leaf_told lok.ok hsS).symm)).trans hst.td
      have pok := pl_ok hTs hpt (by decide) (by decide)
      have X11 := xtr X7 (xtr x10 x11)
      have hw11 := Dp.mono (xtr x10 x11) hw7
      have hv11 := Dp.mono X11 hv
      walk_at "6"
      walk_at "0"
      walk_at "1"
      walk_at "12"
      walk_at "9"
      walk_at "69"
      walk_at "9"
      walk_at "69"
      walk_at "9"
      walk_at "69"
      walk_at "10"
      refine ⟨w7, .ref p11, v, smallD r, d, 2, 66, 114, 50000, [j], rfl, hw11, hTs, by decide, hp11, pok, hv11, ht, by decide, fun c2 w12 H12 _ x12 hw12 => ?_, fun h => by rw [hpt] at h; cases h⟩
      walk_at "6"
      walk_at "0"
      walk_at "4"
      walk_at "18"
      walk_at "14"
      walk_at "8"
      walk_at "69"
      walk_at "12"
      walk_at "9"
      walk_at "69"
      walk_at "9"
      walk_at "69"
      walk_at "9"
      walk_at "69"
      walk_at "10"
      refine ⟨w7, .ref p11, v, smallD r, leafD s, d, 2, 66, 114, 50000, [j], rfl, Dp.mono x12 hw11, hTs, by decide, Dp.mono x12 hp11, (by show 1 ≤ 115; decide), Dp.mono x12 hv11, ht, by decide, hpt, fun w13 H13 x13 hw13 => ?_⟩
      have hw12' := Dp.mono x13 hw12
      have X13 := xtr X11 (xtr x12 x13)
      have hp13 := Dp.mono (xtr x12 x13) hp11
      skip
      refine d_neqB hw12' hw13 hTD.bd.as (Nat.le_trans hTD.bd.dp (by decide)) ?_
      clear hw13 hw12
      walk_at "88"
      walk_at "89"
      walk_at "18"
      walk_at "16"
      walk_at "15"
      walk_at "12"
      walk_at "9"
      walk_at "69"
      walk_at "10"
      refine ⟨w12, _, 115, 60000, rfl, hw12', hTD, by decide, by decide, fun H14 x14 => ?_⟩
      walk_at "88"
      walk_at "89"
      walk_at "14"
      walk_at "8"
      walk_at "12"
      walk_at "9"
      walk_at "69"
      walk_at "9"
      walk_at "69"
      walk_at "10"
      refine ⟨w12, .ref p11, _, 115, 60000, [j], rfl, Dp.mono x14 hw12', hTD, by decide, Dp.mono x14 hp13, pok, fun c2 w15 h2 hw15 => ?_, fun h => by rw [part_put hpt] at h; cases h⟩
      rw [part_put hpt] at h2
      cases h2
      have X14 := xtr X13 x14
      have hw14 := Dp.mono x14 hw12'
      walk_at "69"
      refine d_neqB hw15 (Dp.mono X14 hv) ht.bd.as (Nat.le_trans ht.bd.dp (by decide)) ?_
      have hV14 := VocAt.mono X14 hV
      have hsm := hTD.sm (show 60000 ≤ 5000000 by decide)
      have ha1 : atomF x (putF3 (smallD r) [j] d) = true := by unfold atomF; rw [htD]; exact decide_eq_true rfl
      have ha2 : termF x (putF3 (smallD r) [j] d) = false := by unfold termF; rw [htD]; exact decide_eq_false (fun h => h rfl)
      walk_at "88"
      walk_at "89"
      walk_at "5"
      walk_at "2"
      walk_at "19"
      walk_at "8"
      walk_at "12"
      walk_at "9"
      walk_at "69"
      walk_at "9"
      walk_at "69"
      walk_at "10"
      refine ⟨bk, w12, x, _, 115, rfl, hV14, lok.ok, hw14, hsm, hTD.sy, fun H15 x15 => ?_⟩
      rw [ha1]
      walk_at "7"
      refine ⟨_, _, rfl, rfl, ?_⟩
      walk_at "88"
      walk_at "90"
      walk_at "19"
      walk_at "8"
      walk_at "12"
      walk_at "9"
      walk_at "69"
      walk_at "9"
      walk_at "69"
      walk_at "10"
      refine ⟨bk, w12, x, _, 115, rfl, VocAt.mono x15 hV14, lok.ok, Dp.mono x15 hw14, hsm, hTD.sy, fun H16 x16 => ?_⟩
      rw [ha2]
      walk_at "7"
      refine ⟨_, _, rfl, rfl, ?_⟩
      walk_at "88"
      walk_at "90"
      walk_at "8"
      walk_at "12"
      walk_at "9"
      walk_at "69"
      walk_at "9"
      walk_at "69"
      walk_at "10"
      refine ⟨bk, w12, x, _, 115, "truth", rfl, VocAt.mono (xtr x15 x16) hV14, lok.ok, Dp.mono (xtr x15 x16) hw14, hsm, by decide, .inl htD, fun H17 x17 => ?_⟩
      walk_at "7"
      walk_at "75"
      rw [decide_eq_true rfl]
      exact q H17 (xtr X14 (xtr x15 (xtr x16 x17)))


theorem ok__law_grown (T : Top0 P K mg) : FnOk P w K mg base CX0 124 T.f__law_grown T.fd__law_grown ["vocabulary", "book", "tree", "row"] (sp__law_grown T) := by
  refine T.F__law_grown.ok sc__law_grown (fun vs H Q E h => ?_) (fun cdv A outer s H vs Q E hr h => ?_)
  · obtain ⟨l, bk, r, v, x, d, ds, rfl, hL, lok, hV, hv, ht, htre, hds, hD, q⟩ := h
    rfl
  · obtain ⟨l, bk, r, v, x, d, ds, rfl, hL, lok, hV, hv, ht, htre, hds, hD, q⟩ := h
    refine ⟨_, (pss_cons (ps_set (i := 4) sc__law_grown.nd rfl (Or.inr rfl) (pe_call (ok__law_sort T) (hr.mono (by first | decide | exact Nat.le_refl _ | omega | (show _ ≤ _ + n; omega))) (by rfl) T.g__law_sort T.F__law_sort.kp T.b__law_sort .nil pass0 (pa_cons (pv 0) (pa_cons (pv 2) pa_nil))))
      (pss_cons (ps_setLc (i := 5) (own := [("one", 10)]) (g := gName 10) rfl sc__law_grown.nd rfl rfl (sw_true rfl rfl rfl (by decide +kernel)) (pi_list (pe_call (ok__law_all_places T 116) (hr.mono (by first | decide | exact Nat.le_refl _ | omega | (show _ ≤ _ + n; omega))) (by rfl) T.g__law_all_places T.F__law_all_places.kp T.b__law_all_places .nil pass0 (pa_cons (pv 2) (pa_cons (pe_tup pa_nil) pa_nil)))) (blkOk_by (N := N__law_grown) (sc := defScope s__law_grown) (by decide +kernel)) (fun _ _ _ _ _ => (pg_name (i := 10) sc__law_grown.nd rfl (Or.inl rfl))) (fun _ _ _ _ _ => pts_one (PW.pt (pw_and (pt_cmpR (r := rNeU K) (op_neU hr) (pe_ix (r := rIx K) ix_seq (pv 10) pe_int (fun _ _ => rfl)) (pe_tup pa_nil) (nomark _)) (pw_and1 (pt_cmpR (r := rEqU K) (op_eqU hr) (pe_call (ok__law_sort T) (hr.mono (by first | decide | exact Nat.le_refl _ | omega | (show _ ≤ _ + n; omega))) (by rfl) T.g__law_sort T.F__law_sort.kp T.b__law_sort .nil pass0 (pa_cons (pv 0) (pa_cons (pe_ix (r := rIx K) ix_seq (pv 10) pe_int (fun _ _ => rfl)) pa_nil))) (pv 4) (nomark _)))))) (fun _ _ _ _ _ => (pe_ix (r := rIx K) ix_seq (pv 10) pe_int (fun _ _ => rfl))))
      (pss_cons (ps_if (pt_cmpR (r := rEqU K) (op_eqU hr) (pe_callB (r := rLenU K) call_lenU (by rfl) T.n_len PySem.boot_len (pa_cons (pv 5) pa_nil)) pe_int (nomark _)) (pss_one (ps_ret pe_bl)) pss_nil)
      (pss_cons (ps_set (i := 6) sc__law_grown.nd rfl (Or.inl rfl) (pe_tup pa_nil))
      (pss_cons (ps_set (i := 7) sc__law_grown.nd rfl (Or.inl rfl) (pv 2))
      (pss_cons (ps_set (i := 8) sc__law_grown.nd rfl (Or.inl rfl) (pv 2))
      (pss_cons (ps_for PassesOwn.never rfl (pi_range1 (by rfl) T.n_range (pa_cons (pe_op (r := rPlus K) op_plus pe_int (pe_ix (r := rIx K) ix_seq (pv 3) pe_int (fun _ _ => rfl))) pa_nil)) (pg_name (i := 9) sc__law_grown.nd rfl (Or.inl rfl)) (pss_cons (ps_set (i := 6) sc__law_grown.nd rfl (Or.inl rfl) (pe_op (r := rPlus K) op_plus (pv 6) (pe_ix (r := rIx K) ix_seq (pv 5) (pe_op op_mod (pe_callTy call_intU (by rfl) T.n_int PyProof.Rows.boot_int (pa_cons (pe_ix (r := rIx K) ix_seq (pv 3) (pv 9) (fun _ _ => rfl)) pa_nil)) (pe_callB (r := rLenU K) call_lenU (by rfl) T.n_len PySem.boot_len (pa_cons (pv 5) pa_nil))) (fun _ _ => rfl))))
      (pss_cons (ps_set (i := 7) sc__law_grown.nd rfl (Or.inl rfl) (pe_call (ok__law_put T 116) (hr.mono (by first | decide | exact Nat.le_refl _ | omega | (show _ ≤ _ + n; omega))) (by rfl) T.g__law_put T.F__law_put.kp T.b__law_put .nil pass0 (pa_cons (pv 7) (pa_cons (pv 6) (pa_cons (pv 2) pa_nil)))))
      (pss_one (ps_set (i := 8) sc__law_grown.nd rfl (Or.inl rfl) (pe_call (ok_put_at T) (hr.mono (by first | decide | exact Nat.le_refl _ | omega | (show _ ≤ _ + n; omega))) (by rfl) T.g_put_at T.F_put_at.kp T.b_put_at .nil passL (pa_cons (pv 8) (pa_cons (pv 6) (pa_cons (pv 2) pa_nil)))))))))
      (pss_cons (ps_if (PW.pt (pw_or (pt_cmpR (r := rNeB K) (op_neB hr) (pv 8) (pv 7) (nomark _)) (pw_or (pt_not (pt_val (pe_call (ok__law_listed T) (hr.mono (by first | decide | exact Nat.le_refl _ | omega | (show _ ≤ _ + n; omega))) (by rfl) T.g__law_listed T.F__law_listed.kp T.b__law_listed .nil pass0 (pa_cons (pv 8) pa_nil)))) (pw_or1 (pt_cmpR (r := rNeB K) (op_neB hr) (pe_call (ok_part_at T) (hr.mono (by first | decide | exact Nat.le_refl _ | omega | (show _ ≤ _ + n; omega))) (by rfl) T.g_part_at T.F_part_at.kp T.b_part_at .nil passL (pa_cons (pv 8) (pa_cons (pv 6) pa_nil))) (pv 2) (nomark _)))))) (pss_one (ps_ret pe_bl)) pss_nil)
      (pss_cons (ps_if (PW.pt (pw_or (pt_cmpR op_notBl (pe_call (ok_is_term T) (hr.mono (by first | decide | exact Nat.le_refl _ | omega | (show _ ≤ _ + n; omega))) (by rfl) T.g_is_term T.F_is_term.kp T.b_is_term .nil pass0 (pa_cons (pv 1) (pa_cons (pv 8) pa_nil))) pe_bl (nomark _)) (pw_or (pt_cmpR op_notBl (pe_call (ok_is_atom T) (hr.mono (by first | decide | exact Nat.le_refl _ | omega | (show _ ≤ _ + n; omega))) (by rfl) T.g_is_atom T.F_is_atom.kp T.b_is_atom .nil pass0 (pa_cons (pv 1) (pa_cons (pv 8) pa_nil))) pe_bl (nomark _)) (pw_or1 (pt_cmpR (r := rNeU K) (op_neU hr) (pe_call (ok_sort_of T) (hr.mono (by first | decide | exact Nat.le_refl _ | omega | (show _ ≤ _ + n; omega))) (by rfl) T.g_sort_of T.F_sort_of.kp T.b_sort_of .nil pass0 (pa_cons (pv 1) (pa_cons (pv 8) pa_nil))) (pv 4) (nomark _)))))) (pss_one (ps_ret pe_bl)) pss_nil)
      (pss_one (ps_ret (pe_and (pe_call (ok__law_refused T) (hr.mono (by first | decide | exact Nat.le_refl _ | omega | (show _ ≤ _ + n; omega))) (by rfl) T.g__law_refused T.F__law_refused.kp T.b__law_refused .nil pass0 (pa_cons (pv 8) (pa_cons (pe_op (r := rPlus K) op_plus (pv 6) (pe_tup (pa_cons (pe_op op_sub (pe_callB (r := rLenU K) call_lenU (by rfl) T.n_len PySem.boot_len (pa_cons (pv 2) pa_nil)) pe_int) pa_nil))) (pa_cons (pv 2) pa_nil)))) (pe_one (pe_call (ok__law_grown_atom T) (hr.mono (by first | decide | exact Nat.le_refl _ | omega | (show _ ≤ _ + n; omega))) (by rfl) T.g__law_grown_atom T.F__law_grown_atom.kp T.b__law_grown_atom .nil pass0 (pa_cons (pv 0) (pa_cons (pv 1) (pa_cons (pv 8) (pa_cons (pv 4) pa_nil)))))))))))))))))), ?_⟩
    obtain ⟨d7, a7, l7, u7⟩ := hD.get 7 7 rfl rfl
    have hdl : ds.length = 8 := by rw [hD.1]; decide
    walk_at "0"
    walk_at "1"
    walk_at "12"
    walk_at "9"
    walk_at "69"
    walk_at "9"
    walk_at "69"
    walk_at "10"
    refine ⟨l, v, x, d, 15, 5000, rfl, hL, lok, hv, ht, by decide, htre, ?_⟩
    walk_at "6"
    walk_at "0"
    walk_at "1"
    walk_at "51"
    walk_at "38"
    walk_at "12"
    walk_at "9"
    walk_at "69"
    walk_at "9"
    walk_at "35"
    walk_at "10"
    walk_at "83"
    intro p0 H0 n0 x0 e0
    walk_at "10"
    refine ⟨v, .ref p0, d, [], 5000, rfl, Dp.mono x0 hv, ht.up (by decide) (Nat.le_refl _), by decide, .of_tup e0 .nil, by decide, fun p1 H1 xs x1 e1 hxs => ?_⟩
    have X1 := xtr x0 x1
    have hpl := places_len d []
    have hwt := ht.bd.wt
    have hpt : ∀ q ∈ placesF d [], partF d q.1 = some q.2 := fun q hq => by
      obtain ⟨l, e, h⟩ := places_part d [] q hq
      rw [e]; exact h
    clear e0 n0 x0 x1
    walk_at "88"
    refine ⟨⟨_, sql e1⟩, b_datF walk_list (fun H' x' => xl x' (sql e1)) hxs (grP x (sortT x d)) fstD (fun o ho => ?_) ?_ ?_ ?_⟩
    · obtain ⟨q, hq, rfl⟩ := List.mem_map.mp ho
      exact im_path q.1
    · rw [List.length_map]; omega
    · intro o od H' ho hom xx R R0 hR hR0
      obtain ⟨q, hq, rfl⟩ := List.mem_map.mp hom
      rw [grP_at] at hR hR0
      have hq2 := hpt q hq
      walk_at "6"
      refine ⟨rfl, ?_⟩
      walk_at "17"
      walk_at "14"
      walk_at "8"
      walk_at "8"
      walk_at "69"
      walk_at "7"
      refine d_ix ho (atI_nat (j := 0) rfl) fun w hw => ?_
      walk_at "35"
      walk_at "10"
      walk_at "83"
      intro p4 H4 n4 x4 e4
      have hp4 : Dp K H4 (.ref p4) (pathD []) := .of_tup e4 .nil
      refine d_ne (Dp.mono x4 hw) hp4 (path_shaped _) (path_shaped _) ?_
      rw [eqv_path]
      by_cases hnil : q.1 = []
      · rw [decide_eq_true hnil] at hR0 ⊢
        walk_at "88"
        walk_at "89"
        walk_at "89"
        exact hR0 rfl H4 x4
      · rw [decide_eq_false hnil] at hR0 hR ⊢
        walk_at "88"
        walk_at "90"
        walk_at "14"
        walk_at "8"
        walk_at "12"
        walk_at "9"
        walk_at "69"
        walk_at "9"
        walk_at "8"
        walk_at "69"
        walk_at "7"
        refine d_ix (Dp.mono x4 ho) (atI_nat (j := 1) rfl) fun w5 hw5 => ?_
        walk_at "10"
        refine ⟨l, w5, x, q.2, 15, 5000, rfl, LexAt.mono (xtr X1 (xtr xx x4)) hL, lok, hw5, (ht.part hq2).1.up (by omega) (Nat.le_refl _), by decide, tre_sub lok.ok htre hq2, ?_⟩
        walk_at "69"
        walk_at "75"
        walk_at "88"
        refine k_if (fun h => ?_) (fun h => ?_)
        · have hs : sortT x q.2 = sortT x d := by injection h
          rw [decide_eq_true hs] at hR
          walk_at "8"
          walk_at "69"
          walk_at "7"
          refine d_ix (Dp.mono x4 ho) (atI_nat (j := 0) rfl) fun w6 hw6 => ?_
          exact hR rfl w6 H4 x4 hw6
        · have hs : ¬ sortT x q.2 = sortT x d := fun e => h (by rw [e])
          rw [decide_eq_false hs] at hR0
          exact hR0 rfl H4 x4
    intro D2 ys2 H2 n2 x2 e2 hy2
    have hyl := hy2.len
    generalize hPL : (((placesF d []).map placeD).filter (grP x (sortT x d))).map fstD = PL at hy2 hyl
    have hmem : ∀ o ∈ PL, ∃ q : List Nat × PyData, o = pathD q.1 ∧ q.1 ≠ [] ∧ sortT x q.2 = sortT x d ∧ partF d q.1 = some q.2 := fun o ho => by
      rw [← hPL] at ho
      obtain ⟨q, hq, h1, h2, h3⟩ := gr_mem ho
      exact ⟨q, h1, h2, h3, hpt q hq⟩
    clear hPL hxs e1 hpt hpl
    have X2 := xtr X1 x2
    walk_at "6"
    walk_at "0"
    walk_at "4"
    walk_at "14"
    walk_at "8"
    walk_at "11"
    walk_at "9"
    walk_at "69"
    walk_at "10"
    walk_at "77"
    walk_at "7"
    walk_at "75"
    walk_at "88"
    cases PL with
    | nil =>
      refine k_if (fun _ => ?_) (fun h => absurd (by rw [hyl]; rfl) h)
      walk_at "2"
      walk_at "7"
      exact q H2 X2
    | cons o0 os =>
      obtain ⟨q0, _, hq0n, hq0s, hq0p⟩ := hmem o0 (List.mem_cons_self ..)
      obtain ⟨hsS, htd⟩ : sortT x d ∈ x.S ∧ toldF x d = some (sortT x d) := by
        rcases tre_part lok.ok htre hq0p with ⟨h, _⟩ | ⟨_, t, h1, h2⟩
        · exact absurd h hq0n
        · rw [sort_told h2] at hq0s
          rw [← hq0s]
          exact ⟨h1, told_of lok.ok hq0s.symm h1⟩
      have hto : ∀ q : List Nat × PyData, sortT x q.2 = sortT x d → partF d q.1 = some q.2 → toldF x q.2 = some (sortT x d) := fun q h _ => told_of lok.ok h hsS
      refine k_if (fun h => by rw [hyl] at h; cases h) (fun _ => ?_)
      have hr2 := xl X2 hds
      walk_at "5"
      walk_at "0"
      walk_at "1"
      walk_at "35"
      walk_at "10"
      walk_at "83"
      intro p3 H3 n3 x3 e3
      have X3 := xtr X2 x3
      have hr3 := xl x3 hr2
      walk_at "6"
      walk_at "0"
      walk_at "1"
      walk_at "69"
      walk_at "6"
      walk_at "0"
      walk_at "1"
      walk_at "69"
      walk_at "6"
      walk_at "0"
      walk_at "37"
      walk_at "42"
      walk_at "9"
      walk_at "8"
      walk_at "7"
      walk_at "8"
      walk_at "69"
      walk_at "7"
      walk_at "79"
      walk_at "56"
      walk_at "10"
      walk_at "88"
      have hN : (2 + d7).toNat ≤ 7 := by omega
      refine ⟨by omega, by omega, ?_⟩
      refine for_range (lo := 0) (n := (2 + d7).toNat) (fun k σ' H' => ∃ sv dv tv y9 y10 sp g, σ' = [some (.ref l), some (.ref bk), some v, some (.ref r), some (.str (sortT x d)), some (.ref D2), some sv, some dv, some tv, y9, y10] ∧ Xt H3 H' ∧ Dp K H' sv (pathD sp) ∧ Dp K H' dv g ∧ Dp K H' tv g ∧ Grow x d (sortT x d) k sp g) ⟨.ref p3, v, v, _, _, [], d, rfl, xrefl _, .of_tup e3 .nil, Dp.mono X3 hv, Dp.mono X3 hv, Grow.zero htd ht⟩ ?_ ?_
      · rintro k σ' H4 hk ⟨sv, dv, tv, y9, y10, sp, g, rfl, x4, hsv, hdv, htv, hg⟩
        rw [show ((0 : Int) + (k : Int)) = (k : Int) by omega]
        have hr4 := xl x4 hr3
        obtain ⟨dk, ak, _⟩ := atI_int (ns := ds) (i := (k : Int)) (by omega) (by omega)
        have e2v := (xtr x3 x4) _ _ e2
        obtain ⟨hyp, cw, o, hcw, hom, hod⟩ := mod_dat dk (DpAll.mono (xtr x3 x4) hy2) (List.cons_ne_nil _ _)
        obtain ⟨qk, rfl, hqn, hqs, hqp⟩ := hmem o hom
        obtain ⟨hpt, hg2⟩ := hg.step htd ht hqp (hto qk hqs hqp)
        have hgl := hg2.len
        have pok := pl_ok hg.tr hpt (by omega) (by omega)
        walk_at "6"
        walk_at "0"
        walk_at "1"
        walk_at "8"
        walk_at "69"
        walk_at "8"
        walk_at "69"
        walk_at "8"
        walk_at "11"
        walk_at "9"
        walk_at "8"
        walk_at "69"
        walk_at "69"
        walk_at "79"
        walk_at "10"
        walk_at "57"
        walk_at "11"
        walk_at "9"
        walk_at "69"
        walk_at "10"
        walk_at "77"
        walk_at "70"
        walk_at "79"
        refine d_plus hsv hod (by have h1 := (hg.tr.part hpt).2; rw [List.length_append] at h1; simp only [List.length_map]; omega) fun w5 H5 x5 hw5 => ?_
        rw [path_app] at hw5
        have X5 := xtr X3 (xtr x4 x5)
        walk_at "6"
        walk_at "0"
        walk_at "1"
        walk_at "12"
        walk_at "9"
        walk_at "69"
        walk_at "9"
        walk_at "69"
        walk_at "9"
        walk_at "69"
        walk_at "10"
        refine ⟨dv, w5, v, g, _, d, _, _, 15, 5000, sp ++ qk.1, rfl, Dp.mono x5 hdv, hg.tr, by omega, hw5, (by show (sp ++ qk.1).length ≤ 115; omega), Dp.mono X5 hv, ht, by decide, hpt, fun w6 H6 x6 hw6 => ?_⟩
        walk_at "6"
        walk_at "1"
        walk_at "12"
        walk_at "9"
        walk_at "69"
        walk_at "9"
        walk_at "69"
        walk_at "9"
        walk_at "69"
        walk_at "10"
        refine ⟨tv, w5, v, g, d, _, _, 15, 5000, sp ++ qk.1, rfl, Dp.mono (xtr x5 x6) htv, hg.tr, by omega, Dp.mono x6 hw5, pok, Dp.mono (xtr X5 x6) hv, ht, by decide, fun c2 w7 H7 _ x7 hw7 => ?_, fun h => by rw [hpt] at h; cases h⟩
        walk_at "6"
        exact ⟨w5, w6, w7, _, _, sp ++ qk.1, _, rfl, xtr x4 (xtr x5 (xtr x6 x7)), Dp.mono (xtr x6 x7) hw5, Dp.mono x7 hw6, hw7, hg2⟩
      · rintro σ' H4 ⟨sv, dv, tv, y9, y10, sp, g, rfl, x4, hsv, hdv, htv, hg⟩
        have X4 := xtr X3 x4
        have hT := hg.tr.up (k' := 113) (W' := 40000) (by omega) (by omega)
        have pok := pl_ok hg.tr hg.pt (by omega) (by omega)
        clear hmem hto hy2 hyl e2 e3 hr2 hr3
        walk_at "0"
        walk_at "4"
        walk_at "18"
        walk_at "14"
        walk_at "8"
        walk_at "69"
        walk_at "69"
        refine d_neqB htv hdv hT.bd.as (Nat.le_trans hT.bd.dp (by decide)) ?_
        walk_at "88"
        walk_at "89"
        walk_at "18"
        walk_at "16"
        walk_at "15"
        walk_at "12"
        walk_at "9"
        walk_at "69"
        walk_at "10"
        refine ⟨tv, g, 113, 40000, rfl, htv, hT, by decide, by decide, fun H5 x5 => ?_⟩
        walk_at "88"
        walk_at "89"
        walk_at "14"
        walk_at "8"
        walk_at "12"
        walk_at "9"
        walk_at "69"
        walk_at "9"
        walk_at "69"
        walk_at "10"
        refine ⟨tv, sv, g, 113, 40000, sp, rfl, Dp.mono x5 htv, hT, by decide, Dp.mono x5 hsv, pok, fun c2 w6 h2 hw6 => ?_, fun h => by rw [hg.pt] at h; cases h⟩
        rw [hg.pt] at h2
        cases h2
        have X5 := xtr X4 x5
        walk_at "69"
        refine d_neqB hw6 (Dp.mono X5 hv) ht.bd.as (Nat.le_trans ht.bd.dp (by decide)) ?_
        have hV5 := VocAt.mono X5 hV
        have htv5 := Dp.mono x5 htv
        have hsv5 := Dp.mono x5 hsv
        have hsm := hT.sm (show 40000 ≤ 5000000 by decide)
        have hst := sort_ne lok.ok hsS
        have ha1 : termF x g = true := by unfold termF; rw [hg.td]; exact decide_eq_true hst
        have ha2 : atomF x g = false := by unfold atomF; rw [hg.td]; exact decide_eq_false (fun h => hst (Option.some.inj h))
        walk_at "88"
        walk_at "89"
        walk_at "5"
        walk_at "0"
        walk_at "4"
        walk_at "18"
        walk_at "14"
        walk_at "8"
        walk_at "12"
        walk_at "9"
        walk_at "69"
        walk_at "9"
        walk_at "69"
        walk_at "10"
        refine ⟨bk, tv, x, _, 113, rfl, hV5, lok.ok, htv5, hsm, hT.sy, fun H6 x6 => ?_⟩
        rw [ha1]
        walk_at "7"
        refine ⟨_, _, rfl, rfl, ?_⟩
        walk_at "88"
        walk_at "89"
        walk_at "18"
        walk_at "14"
        walk_at "8"
        walk_at "12"
        walk_at "9"
        walk_at "69"
        walk_at "9"
        walk_at "69"
        walk_at "10"
        refine ⟨bk, tv, x, _, 113, rfl, VocAt.mono x6 hV5, lok.ok, Dp.mono x6 htv5, hsm, hT.sy, fun H7 x7 => ?_⟩
        rw [ha2]
        walk_at "7"
        refine ⟨_, _, rfl, rfl, ?_⟩
        have X57 := xtr x6 x7
        walk_at "88"
        walk_at "89"
        walk_at "14"
        walk_at "8"
        walk_at "12"
        walk_at "9"
        walk_at "69"
        walk_at "9"
        walk_at "69"
        walk_at "10"
        refine ⟨bk, tv, x, _, 113, sortT x d, rfl, VocAt.mono X57 hV5, lok.ok, Dp.mono X57 htv5, hsm, by decide, .inl hg.td, fun H8 x8 => ?_⟩
        have X58 := xtr X57 x8
        have X8 := xtr X5 X58
        walk_at "69"
        walk_at "76"
        walk_at "88"
        refine k_ifn (fun h => absurd rfl h) (fun _ => ?_)
        obtain ⟨z, dsz, k', ed, e15, hz1, hzW, hlW, hcase⟩ := ht.inv
        have hv8 := Dp.mono X8 hv
        have hlen : ∀ {Q : VK}, Q (.int ((dsz.length + 1 : Nat) : Int)) H8 → rLenU K [v] H8 Q := fun {Q} h => by
          rw [ed] at hv8
          refine d_len hv8 ?_
          rw [List.length_cons]; exact h
        have htv8 := Dp.mono X58 htv5
        have hsv8 := Dp.mono X58 hsv5
        have hV8 := VocAt.mono X58 hV5
        have hno : partF g (sp ++ [dsz.length]) = none := by
          rw [part_app, hg.pt]
          show partF d [dsz.length] = none
          rw [ed]
          exact part_no (.inr (Nat.le_refl _))
        walk_at "5"
        walk_at "2"
        walk_at "19"
        walk_at "12"
        walk_at "9"
        walk_at "69"
        walk_at "9"
        walk_at "8"
        walk_at "69"
        walk_at "35"
        walk_at "9"
        walk_at "8"
        walk_at "11"
        walk_at "9"
        walk_at "69"
        walk_at "10"
        refine hlen ?_
        walk_at "7"
        walk_at "55"
        walk_at "10"
        walk_at "83"
        intro p9 H9 n9 x9 e9
        rw [show (((dsz.length + 1 : Nat) : Int) - 1) = (dsz.length : Int) by omega] at e9
        have hp9 : Dp K H9 (.ref p9) (.tuple [.int (dsz.length : Int)]) := .of_tup e9 (.cons (.int _) .nil)
        have hpol := pok.len
        refine d_plus (Dp.mono x9 hsv8) hp9 (by simp only [List.length_map, List.length_cons, List.length_nil]; omega) fun w10 H10 x10 hw10 => ?_
        rw [path_snoc] at hw10
        have x910 := xtr x9 x10
        have hgl := hg.len
        walk_at "9"
        walk_at "69"
        walk_at "10"
        refine ⟨tv, w10, v, g, d, 113, 40000, 15, 5000, sp ++ [dsz.length], rfl, Dp.mono x910 htv8, hT, by decide, hw10, ?_, Dp.mono x910 hv8, ht, by decide, hno, fun H11 x11 => ?_⟩
        · refine ⟨by rw [List.length_append, List.length_singleton]; omega, fun k hk => ?_⟩
          rcases List.mem_append.mp hk with hk | hk
          · exact pok.sm k hk
          · rw [List.mem_singleton] at hk
            subst hk
            exact Nat.le_trans hlW (by decide)
        have x811 := xtr x910 x11
        walk_at "88"
        walk_at "90"
        walk_at "12"
        walk_at "9"
        walk_at "69"
        walk_at "9"
        walk_at "69"
        walk_at "9"
        walk_at "69"
        walk_at "9"
        walk_at "69"
        walk_at "10"
        refine ⟨l, bk, tv, x, g, sortT x d, rfl, LexAt.mono (xtr X8 x811) hL, lok, VocAt.mono x811 hV8, Dp.mono x811 htv8, hT.up (by decide) (by decide), hg.td, hsS, fun H12 x12 => ?_⟩
        exact q H12 (xtr X8 (xtr x811 x12))


theorem ok_law (T : Top0 P K mg) : FnOk P w K mg base CX0 130 T.f_law T.fd_law ["script"] (sp_lawK K) := by
  refine T.F_law.ok sc_law (fun vs H Q E h => ?_) (fun cdv A outer s H vs Q E hr h => ?_)
  · obtain ⟨l, ns, rfl, hS, hnl, q⟩ := h
    rfl
  · obtain ⟨l, ns, rfl, hS, hnl, q⟩ := h
    refine ⟨_, (pss_cons (ps_set (i := 1) sc_law.nd rfl (Or.inr rfl) (pe_call (ok__law_drawn_vocabulary T) (hr.mono (by first | decide | exact Nat.le_refl _ | omega | (show _ ≤ _ + n; omega))) (by rfl) T.g__law_drawn_vocabulary T.F__law_drawn_vocabulary.kp T.b__law_drawn_vocabulary .nil pass0 (pa_cons (pe_call (ok__law_cell T) (hr.mono (by first | decide | exact Nat.le_refl _ | omega | (show _ ≤ _ + n; omega))) (by rfl) T.g__law_cell T.F__law_cell.kp T.b__law_cell .nil pass0 (pa_cons (pv 0) (pa_cons pe_int pa_nil))) (pa_cons (pe_call (ok__law_cell T) (hr.mono (by first | decide | exact Nat.le_refl _ | omega | (show _ ≤ _ + n; omega))) (by rfl) T.g__law_cell T.F__law_cell.kp T.b__law_cell .nil pass0 (pa_cons (pv 0) (pa_cons pe_int pa_nil))) (pa_cons (pe_call (ok__law_cell T) (hr.mono (by first | decide | exact Nat.le_refl _ | omega | (show _ ≤ _ + n; omega))) (by rfl) T.g__law_cell T.F__law_cell.kp T.b__law_cell .nil pass0 (pa_cons (pv 0) (pa_cons pe_int pa_nil))) pa_nil)))))
      (pss_cons (ps_set (i := 2) sc_law.nd rfl (Or.inl rfl) (pe_call (ok__law_digits T) (hr.mono (by first | decide | exact Nat.le_refl _ | omega | (show _ ≤ _ + n; omega))) (by rfl) T.g__law_digits T.F__law_digits.kp T.b__law_digits .nil pass0 (pa_cons (pe_call (ok__law_cell T) (hr.mono (by first | decide | exact Nat.le_refl _ | omega | (show _ ≤ _ + n; omega))) (by rfl) T.g__law_cell T.F__law_cell.kp T.b__law_cell .nil pass0 (pa_cons (pv 0) (pa_cons pe_int pa_nil))) (pa_cons (pe_op (r := rPlus K) op_plus (pe_op (r := rPlus K) op_plus (pe_lst (pa_cons pe_int (pa_cons pe_int (pa_cons pe_int (pa_cons pe_int pa_nil))))) (pe_lst (pa_cons pe_int (pa_cons pe_int (pa_cons pe_int (pa_cons pe_int (pa_cons pe_int pa_nil))))))) (pe_op op_timesU (pe_lst (pa_cons pe_int pa_nil)) pe_int)) pa_nil))))
      (pss_cons (ps_set (i := 3) sc_law.nd rfl (Or.inl rfl) (pe_call (ok__law_variable_names T) (hr.mono (by first | decide | exact Nat.le_refl _ | omega | (show _ ≤ _ + n; omega))) (by rfl) T.g__law_variable_names T.F__law_variable_names.kp T.b__law_variable_names .nil pass0 (pa_cons (pe_slice (r := rSlU K) sl_any (pv 2) (po_some pe_int) po_none) (pa_cons pe_int pa_nil))))
      (pss_cons (ps_set (i := 4) sc_law.nd rfl (Or.inr rfl) (pe_lst pa_nil))
      (pss_cons (ps_for PassesOwn.never rfl (pi_list (pe_ix (r := rIx K) ix_seq (pv 1) pe_int (fun _ _ => rfl))) (pg_name (i := 5) sc_law.nd rfl (Or.inl rfl)) (pss_one (ps_set (i := 4) sc_law.nd rfl (Or.inr rfl) (pe_op (r := rPlus K) op_plus (pv 4) (pe_lst (pa_cons (pe_tup (pa_cons (pe_ix (r := rIx K) ix_seq (pv 3) pe_int (fun _ _ => rfl)) (pa_cons (pv 5) pa_nil))) (pa_cons (pe_tup (pa_cons (pe_ix (r := rIx K) ix_seq (pv 3) pe_int (fun _ _ => rfl)) (pa_cons (pv 5) pa_nil))) pa_nil)))))))
      (pss_cons (ps_setLc (i := 7) (own := [("k", 6)]) (g := gName 6) rfl sc_law.nd rfl rfl (sw_true rfl rfl rfl (by decide +kernel)) (pi_range1 (by rfl) T.n_range (pa_cons (pe_op (r := rPlus K) op_plus pe_int (pe_ix (r := rIx K) ix_seq (pv 2) pe_int (fun _ _ => rfl))) pa_nil)) (blkOk_by (N := N_law) (sc := defScope s_law) (by decide +kernel)) (fun _ _ _ _ _ => (pg_name (i := 6) sc_law.nd rfl (Or.inl rfl))) (fun _ _ _ _ _ => pts_nil) (fun _ _ _ _ _ => (pe_call (ok__law_value T) (hr.mono (by first | decide | exact Nat.le_refl _ | omega | (show _ ≤ _ + n; omega))) (by rfl) T.g__law_value T.F__law_value.kp T.b__law_value .nil pass0 (pa_cons (pv 1) (pa_cons (pe_call (ok__law_cell T) (hr.mono (by first | decide | exact Nat.le_refl _ | omega | (show _ ≤ _ + n; omega))) (by rfl) T.g__law_cell T.F__law_cell.kp T.b__law_cell .nil pass0 (pa_cons (pv 0) (pa_cons (pe_op (r := rPlus K) op_plus pe_int (pv 6)) pa_nil))) (pa_cons (pv 4) pa_nil))))))
      (pss_cons (ps_expr (pe_bm PySem.F.plainAttrs_list PySem.F.slot_list_append PySem.F.type_list_append mt_append (pv 7) (pa_cons (pe_tup (pa_cons pe_str pa_nil)) pa_nil)))
      (pss_cons (ps_for PassesOwn.never rfl (pi_list (pe_op (r := rPlus K) op_plus (pv 7) (pe_slice (r := rSlU K) sl_any (pv 7) po_none (po_some pe_int)))) (pg_name (i := 8) sc_law.nd rfl (Or.inl rfl)) (pss_one (ps_if (pt_not (pt_val (pe_call (ok__law_listed T) (hr.mono (by first | decide | exact Nat.le_refl _ | omega | (show _ ≤ _ + n; omega))) (by rfl) T.g__law_listed T.F__law_listed.kp T.b__law_listed .nil pass0 (pa_cons (pv 8) pa_nil)))) (pss_one (ps_ret pe_bl)) pss_nil)))
      (pss_cons (ps_set (i := 9) sc_law.nd rfl (Or.inl rfl) (pe_make T.mk_Vocabulary (ok_Vocabulary___init__ T) (hr.mono (by first | decide | exact Nat.le_refl _ | omega | (show _ ≤ _ + n; omega))) (by rfl) T.g_Vocabulary T.b_Vocabulary___init__ .nil pass0 (pa_cons (pe_ix (r := rIx K) ix_seq (pv 1) pe_int (fun _ _ => rfl)) (pa_cons (pe_ix (r := rIx K) ix_seq (pv 1) pe_int (fun _ _ => rfl)) (pa_cons (pe_ix (r := rIx K) ix_seq (pv 1) pe_int (fun _ _ => rfl)) pa_nil)))))
      (pss_cons (ps_for PassesOwn.never rfl (pi_range1 (by rfl) T.n_range (pa_cons (pe_callB (r := rLenU K) call_lenU (by rfl) T.n_len PySem.boot_len (pa_cons (pv 7) pa_nil)) pa_nil)) (pg_name (i := 6) sc_law.nd rfl (Or.inl rfl)) (pss_one (ps_if (pt_not (pt_val (pe_call (ok__law_grown T) (hr.mono (by first | decide | exact Nat.le_refl _ | omega | (show _ ≤ _ + n; omega))) (by rfl) T.g__law_grown T.F__law_grown.kp T.b__law_grown .nil pass0 (pa_cons (pv 1) (pa_cons (pv 9) (pa_cons (pe_ix (r := rIx K) ix_seq (pv 7) (pv 6) (fun _ _ => rfl)) (pa_cons (pe_call (ok__law_digits T) (hr.mono (by first | decide | exact Nat.le_refl _ | omega | (show _ ≤ _ + n; omega))) (by rfl) T.g__law_digits T.F__law_digits.kp T.b__law_digits .nil pass0 (pa_cons (pe_call (ok__law_cell T) (hr.mono (by first | decide | exact Nat.le_refl _ | omega | (show _ ≤ _ + n; omega))) (by rfl) T.g__law_cell T.F__law_cell.kp T.b__law_cell .nil pass0 (pa_cons (pv 0) (pa_cons (pe_op (r := rPlus K) op_plus pe_int (pv 6)) pa_nil))) (pa_cons (pe_lst (pa_cons pe_int (pa_cons pe_int (pa_cons pe_int (pa_cons pe_int (pa_cons pe_int (pa_cons pe_int (pa_cons pe_int (pa_cons pe_int pa_nil))))))))) pa_nil))) pa_nil))))))) (pss_one (ps_ret pe_bl)) pss_nil)))
      (pss_cons (ps_for PassesOwn.never rfl (pi_range1 (by rfl) T.n_range (pa_cons (pe_op (r := rPlus K) op_plus pe_int (pe_ix (r := rIx K) ix_seq (pv 2) pe_int (fun _ _ => rfl))) pa_nil)) (pg_name (i := 6) sc_law.nd rfl (Or.inl rfl)) (pss_one (ps_if (pt_not (pt_val (pe_call (ok__law_asked T) (hr.mono (by first | decide | exact Nat.le_refl _ | omega | (show _ ≤ _ + n; omega))) (by rfl) T.g__law_asked T.F__law_asked.kp T.b__law_asked .nil pass0 (pa_cons (pv 1) (pa_cons (pe_ix (r := rIx K) ix_seq (pv 7) (pe_op op_mod (pe_callTy call_intU (by rfl) T.n_int PyProof.Rows.boot_int (pa_cons (pv 6) pa_nil)) (pe_callB (r := rLenU K) call_lenU (by rfl) T.n_len PySem.boot_len (pa_cons (pv 7) pa_nil))) (fun _ _ => rfl)) (pa_cons (pe_call (ok__law_cell T) (hr.mono (by first | decide | exact Nat.le_refl _ | omega | (show _ ≤ _ + n; omega))) (by rfl) T.g__law_cell T.F__law_cell.kp T.b__law_cell .nil pass0 (pa_cons (pv 0) (pa_cons (pe_op (r := rPlus K) op_plus pe_int (pv 6)) pa_nil))) (pa_cons (pv 4) pa_nil))))))) (pss_one (ps_ret pe_bl)) pss_nil)))
      (pss_one (ps_ret pe_bl))))))))))))), ?_⟩
    walk_at "0"
    walk_at "1"
    walk_at "12"
    walk_at "9"
    walk_at "12"
    walk_at "9"
    walk_at "69"
    walk_at "9"
    walk_at "7"
    walk_at "10"
    refine ⟨l, ns, 1, rfl, hS, hnl, by decide, fun v1 => ?_⟩
    walk_at "9"
    walk_at "12"
    walk_at "9"
    walk_at "69"
    walk_at "9"
    walk_at "7"
    walk_at "10"
    refine ⟨l, ns, 2, rfl, hS, hnl, by decide, fun v2 => ?_⟩
    walk_at "9"
    walk_at "12"
    walk_at "9"
    walk_at "69"
    walk_at "9"
    walk_at "7"
    walk_at "10"
    refine ⟨l, ns, 3, rfl, hS, hnl, by decide, fun v3 => ?_⟩
    walk_at "10"
    refine ⟨v1, v2, v3, rfl, fun p1 H1 x x1 hL1 lok hne => ?_⟩
    walk_at "6"
    walk_at "0"
    walk_at "1"
    walk_at "12"
    walk_at "9"
    walk_at "12"
    walk_at "9"
    walk_at "69"
    walk_at "9"
    walk_at "7"
    walk_at "10"
    refine ⟨l, ns, 0, rfl, xl x1 hS, hnl, by decide, fun v0 => ?_⟩
    walk_at "9"
    walk_at "8"
    walk_at "8"
    walk_at "34"
    walk_at "9"
    walk_at "7"
    walk_at "9"
    walk_at "7"
    walk_at "9"
    walk_at "7"
    walk_at "9"
    walk_at "7"
    walk_at "10"
    walk_at "82"
    intro p3 H3 n3 x3 e3
    walk_at "34"
    walk_at "9"
    walk_at "7"
    walk_at "9"
    walk_at "7"
    walk_at "9"
    walk_at "7"
    walk_at "9"
    walk_at "7"
    walk_at "9"
    walk_at "7"
    walk_at "10"
    walk_at "82"
    intro p4 H4 n4 x4 e4
    refine v_plus_lst (x4 _ _ e3) e4 (szL (by decide)) fun p5 H5 n5 x5 e5 => ?_
    walk_at "8"
    walk_at "34"
    walk_at "9"
    walk_at "7"
    walk_at "10"
    walk_at "82"
    intro p8 H8 n8 x8 e8
    walk_at "7"
    refine u_rep (ss := [36]) e8 (by decide) (by decide) (by decide) fun p9 H9 x9n x9 e9 => ?_
    refine v_plus_lst (x9 _ _ (x8 _ _ e5)) e9 (szL (by decide)) fun p10 H10 n10 x10 e10 => ?_
    walk_at "10"
    refine ⟨v0, p10, headL, rfl, sql e10, by decide, by decide, fun p11 H11 rs x11 e11 hD => ?_⟩
    have hrl : rs.length = 15 := by rw [hD.1]; decide
    have x011 := xtr x1 (xtr x3 (xtr x4 (xtr x5 (xtr x8 (xtr x9 (xtr x10 x11))))))
    have hL11 := LexAt.mono (xtr x3 (xtr x4 (xtr x5 (xtr x8 (xtr x9 (xtr x10 x11)))))) hL1
    clear e10 e9 e8 e5 e4 e3 x3 x4 x5 x8 x9 x10 x11 n3 n4 n5 n8 x9n n10 hL1 x1
    walk_at "6"
    walk_at "0"
    walk_at "1"
    walk_at "12"
    walk_at "9"
    walk_at "48"
    walk_at "69"
    walk_at "50"
    walk_at "7"
    walk_at "88"
    walk_at "49"
    refine v_sl_l (sql e11) fun p12 H12 n12 x12 e12 => ?_
    rw [show (some (4 : Int)) = some ((4 : Nat) : Int) from rfl, cut_drop (by rw [List.length_map]; omega), ← List.map_drop] at e12
    walk_at "9"
    walk_at "7"
    walk_at "10"
    refine ⟨p12, rs.drop 4, 2, rfl, sql e12, DigOk.drop hD 4, by decide, fun p13 H13 nms x13 e13 hnml hnv => ?_⟩
    obtain ⟨na, nb, rfl⟩ : ∃ na nb, nms = [na, nb] := by
      match nms, hnml with
      | [a, b], _ => exact ⟨a, b, rfl⟩
    have hna := hnv na (by simp)
    have hnb := hnv nb (by simp)
    have x1113 := xtr x12 x13
    have e11s := x1113 _ _ e11
    have x013 := xtr x011 x1113
    have hL13 := LexAt.mono x1113 hL11
    clear x1113 e12 n12 e11 x12 x13 x011 hnv hnml hL11
    walk_at "6"
    walk_at "0"
    walk_at "1"
    walk_at "34"
    walk_at "10"
    walk_at "82"
    intro p14 H14 n14 x14 e14
    have x014 := xtr x013 x14
    have e11t := x14 _ _ e11s
    have e13t := x14 _ _ e13
    have hLt := LexAt.mono x14 hL13
    obtain ⟨a, b, c, fs, ps, h1, h2, h3, h4, h5, h6⟩ := id hLt
    have i0 : atI ([.ref a, .ref b, .ref c] : List V) 0 = some (.ref a) := atI_nat (j := 0) rfl
    have i1 : atI ([.ref a, .ref b, .ref c] : List V) 1 = some (.ref b) := atI_nat (j := 1) rfl
    have i2 : atI ([.ref a, .ref b, .ref c] : List V) 2 = some (.ref c) := atI_nat (j := 2) rfl
    have hS4 := lok.nS
    clear x013 x14 n14 e11s e13 hL13
    walk_at "6"
    walk_at "0"
    walk_at "37"
    walk_at "38"
    walk_at "8"
    walk_at "69"
    walk_at "7"
    walk_at "79"
    walk_at "88"
    refine ⟨⟨_, sql h2⟩, for_list (xs := x.S.map V.str) (fun i σ' H' => ∃ pv ws y5, σ' = [some (.ref l), some (.ref p1), some (.ref p11), some (.ref p13), some (.ref pv), y5, none, none, none, none] ∧ Xt H14 H' ∧ H' pv = some (.lst ws) ∧ DpAll K H' ws ((varsL na nb (x.S.take i)).map varD)) ⟨p14, [], _, rfl, xrefl _, e14, by rw [List.take_zero]; exact .nil⟩ ?_ ?_ ?_⟩
    · rintro i σ' H' hi ⟨pv, ws, y8, rfl, xx, _⟩
      exact xl xx (sql h2)
    · rintro i y σ' H' hy ⟨pv, ws, y8, rfl, xx, ev, hws⟩
      rw [List.getElem?_map] at hy
      cases hq : x.S[i]? with
      | none => rw [hq] at hy; cases hy
      | some sq =>
        rw [hq] at hy
        cases hy
        have e13' := xx _ _ e13t
        have j0 : atI ([na, nb].map V.str) 0 = some (.str na) := atI_nat (j := 0) rfl
        have j1 : atI ([na, nb].map V.str) 1 = some (.str nb) := atI_nat (j := 1) rfl
        walk_at "6"
        walk_at "1"
        walk_at "8"
        walk_at "69"
        walk_at "34"
        walk_at "9"
        walk_at "35"
        walk_at "9"
        walk_at "8"
        walk_at "69"
        walk_at "7"
        walk_at "79"
        walk_at "9"
        walk_at "69"
        walk_at "10"
        walk_at "83"
        intro p3 H3 n3 x3 e3
        have e13'' := x3 _ _ e13'
        walk_at "9"
        walk_at "35"
        walk_at "9"
        walk_at "8"
        walk_at "69"
        walk_at "7"
        walk_at "79"
        walk_at "9"
        walk_at "69"
        walk_at "10"
        walk_at "83"
        intro p4 H4 n4 x4 e4
        walk_at "10"
        walk_at "82"
        intro p5 H5 n5 x5 e5
        have hil := (List.getElem?_eq_some_iff.mp hq).1
        have hwl := hws.len
        rw [List.length_map, varsL_len, List.length_take] at hwl
        have x35 := xtr x3 (xtr x4 x5)
        refine v_plus_lst (x35 _ _ ev) e5 (szL (by simp only [List.length_cons, List.length_nil]; omega)) fun p6 H6 n6 x6 e6 => ?_
        walk_at "6"
        refine ⟨p6, _, _, rfl, xtr xx (xtr x35 x6), e6, ?_⟩
        rw [varsL_take hq, List.map_append]
        refine DpAll.mono x6 (DpAll.app (DpAll.mono x35 hws) ?_)
        exact .cons (.of_tup (x5 _ _ (x4 _ _ e3)) (.cons (.str _) (.cons (.str _) .nil))) (.cons (.of_tup (x5 _ _ e4) (.cons (.str _) (.cons (.str _) .nil))) .nil)
    rintro σ' H15 ⟨pv, ws, y8, rfl, x15, ev, hws⟩
    rw [List.length_map, List.take_length] at hws
    have vok : VarsOk x (varsL na nb x.S) := varsL_ok hna hnb hS4
    obtain ⟨d0, a0, l0, u0⟩ := hD.get 0 0 rfl rfl
    obtain ⟨d3, a3, l3, u3⟩ := hD.get 3 3 rfl rfl
    have X15 := xtr x014 x15
    have hL15 := LexAt.mono x15 hLt
    have e11v := x15 _ _ e11t
    clear h1 h2 h3 h4 h5 h6 hLt e11t e13t x014 x15 e14
    walk_at "0"
    walk_at "1"
    walk_at "51"
    walk_at "42"
    walk_at "9"
    walk_at "8"
    walk_at "7"
    walk_at "8"
    walk_at "69"
    walk_at "7"
    walk_at "79"
    walk_at "56"
    walk_at "10"
    walk_at "88"
    refine ⟨by omega, by omega, ?_⟩
    refine' b_rngD (lo := 0) (n := (1 + d0).toNat) (ValOk x) (fun d h => h.im) ?hn (fun x => ?hw) ?hb ?hk
    case hn => omega
    case hw => rfl
    case hb =>
      intro i H' hi xx R hR
      rw [show ((0 : Int) + (i : Int)) = (i : Int) by omega]
      walk_at "12"
      walk_at "9"
      walk_at "69"
      walk_at "9"
      walk_at "12"
      walk_at "9"
      walk_at "69"
      walk_at "9"
      walk_at "8"
      walk_at "7"
      walk_at "69"
      walk_at "56"
      walk_at "10"
      refine ⟨l, ns, 4 + (i : Int), rfl, xl (xtr X15 xx) hS, hnl, by omega, fun cv => ?_⟩
      walk_at "9"
      walk_at "69"
      walk_at "10"
      refine ⟨p1, pv, x, cv, _, ws, rfl, LexAt.mono xx hL15, lok, hne, xx _ _ ev, DpAll.mono xx hws, vok, fun H4 y s d x4 hd td bd => ?_⟩
      exact hR y d H4 x4 hd ⟨.inl ⟨s, td⟩, tree_told lok.ok td bd⟩
    case hk =>
      intro pt ts tds H16 nt x16 et hts htl htv
      have e11w := x16 _ _ e11v
      walk_at "6"
      walk_at "0"
      walk_at "3"
      walk_at "36"
      walk_at "69"
      refine ⟨ty_l et, ?_⟩
      walk_at "9"
      walk_at "35"
      walk_at "9"
      walk_at "7"
      walk_at "10"
      walk_at "83"
      intro p17 H17 n17 x17 e17
      have et17 := x17 _ _ et
      have htsl := hts.len
      walk_at "10"
      refine v_app et17 (by omega) ?_
      have X17 : Xt H15 (upd H17 pt (.lst (ts ++ [V.ref p17]))) := xmut (xtr x16 x17) nt
      have eG : (upd H17 pt (.lst (ts ++ [V.ref p17]))) pt = some (.lst (ts ++ [V.ref p17])) := upd_same
      have hT : DpAll K (upd H17 pt (.lst (ts ++ [V.ref p17]))) (ts ++ [V.ref p17]) (tds ++ [trueD]) :=
        DpAll.app (DpAll.im (fun _ _ h => SqT.upd et17 h) (imAll_iff.mpr fun c hc => (htv c hc).im) (DpAll.mono x17 hts)) (.cons (Dp.im (fun _ _ h => SqT.upd et17 h) (by decide) (.of_tup e17 (.cons (.str _) .nil))) .nil)
      have hvals : ∀ d ∈ tds ++ [trueD], ValOk x d := fun d hd => by
        rcases List.mem_append.mp hd with hd | hd
        · exact htv d hd
        · rw [List.mem_singleton] at hd
          subst hd
          exact ⟨.inr rfl, tree_true.up (by decide) (by decide)⟩
      have hTl : (tds ++ [trueD]).length = (1 + d0).toNat + 1 := by rw [List.length_append, List.length_singleton, htl]
      generalize upd H17 pt (.lst (ts ++ [V.ref p17])) = G at X17 eG hT ⊢
      generalize ts ++ [V.ref p17] = us at eG hT
      generalize tds ++ [trueD] = uds at hT hvals hTl
      have hul := hT.len
      have XG := xtr X15 X17
      have hLG := LexAt.mono X17 hL15
      have evG := X17 _ _ ev
      have hwsG := DpAll.mono X17 hws
      have e11G := X17 _ _ e11v
      clear e17 n17 et17 et hts htl htv nt x16 x17 hL15 ev hws e11w e11v X15 X17 htsl
      walk_at "0"
      walk_at "37"
      walk_at "38"
      walk_at "8"
      walk_at "69"
      walk_at "48"
      walk_at "69"
      walk_at "49"
      walk_at "50"
      walk_at "7"
      walk_at "88"
      refine v_sl_l (sql eG) fun p18 H18 n18 x18 e18 => ?_
      rw [show (some (1 : Int)) = some ((1 : Nat) : Int) from rfl, cut_take (by omega)] at e18
      refine v_plus_lst (x18 _ _ eG) e18 (szL (by rw [List.length_take]; omega)) fun p19 H19 n19 x19 e19 => ?_
      have X19 := xtr x18 x19
      have hT19 : DpAll K H19 (us ++ us.take 1) (uds ++ uds.take 1) := DpAll.mono X19 (DpAll.app hT (DpAll.take 1 hT))
      have hvals2 : ∀ d ∈ uds ++ uds.take 1, ValOk x d := fun d hd => by
        rcases List.mem_append.mp hd with hd | hd
        · exact hvals d hd
        · exact hvals d (List.mem_of_mem_take hd)
      clear e18 x18 x19 n18 n19
      walk_at "88"
      refine ⟨⟨_, sql e19⟩, for_list (xs := us ++ us.take 1) (fun i σ' H' => ∃ yt, σ' = [some (.ref l), some (.ref p1), some (.ref p11), some (.ref p13), some (.ref pv), y8, none, some (.ref pt), yt, none] ∧ Xt H19 H') ⟨_, rfl, xrefl _⟩ ?_ ?_ ?_⟩
      · rintro i σ' H' hi ⟨yt, rfl, xx⟩
        exact xl xx (sql e19)
      · rintro i u σ' H' hu ⟨yt, rfl, xx⟩
        obtain ⟨d, hd, hdp⟩ := DpAll.getV hT19 hu
        have hval := hvals2 d (List.mem_of_getElem? hd)
        walk_at "6"
        walk_at "4"
        walk_at "16"
        walk_at "15"
        walk_at "12"
        walk_at "9"
        walk_at "69"
        walk_at "10"
        refine ⟨u, d, 15, 5000, rfl, Dp.mono xx hdp, hval.2, by decide, by decide, fun H4 x4 => ?_⟩
        walk_at "88"
        walk_at "89"
        walk_at "5"
        walk_at "88"
        exact xtr xx x4
      rintro σ' H20 ⟨y8', rfl, x20⟩
      have X20 := xtr X19 x20
      have hL20 := LexAt.mono X20 hLG
      obtain ⟨a, b, c, fs, ps, h1, h2, h3, h4, h5, h6⟩ := id hL20
      have i0 : atI ([.ref a, .ref b, .ref c] : List V) 0 = some (.ref a) := atI_nat (j := 0) rfl
      have i1 : atI ([.ref a, .ref b, .ref c] : List V) 1 = some (.ref b) := atI_nat (j := 1) rfl
      have i2 : atI ([.ref a, .ref b, .ref c] : List V) 2 = some (.ref c) := atI_nat (j := 2) rfl
      clear hT19 hvals2 e19
      walk_at "0"
      walk_at "1"
      walk_at "31"
      walk_at "9"
      walk_at "8"
      walk_at "69"
      walk_at "7"
      walk_at "79"
      walk_at "9"
      walk_at "8"
      walk_at "69"
      walk_at "7"
      walk_at "79"
      walk_at "9"
      walk_at "8"
      walk_at "69"
      walk_at "7"
      walk_at "79"
      walk_at "10"
      intro xv dx hxv hdx hnx
      have xn : Xt H20 (upd (upd H20 dx (.own xv)) xv (.ins T.C_Vocabulary dx [])) := fun b o e => by
        rw [upd_ne (ne_of_none e hxv), upd_ne (ne_of_none e hdx)]
        exact e
      refine ⟨xv, dx, .ref a, .ref b, .ref c, x, rfl, upd_same, .of_lst (xn _ _ h2) (DpAll.strs _), .of_lst (xn _ _ h3) (DpAll.mono xn h4), .of_lst (xn _ _ h5) (DpAll.mono xn h6), lok.ok, fun H6 pres hV6 => ⟨rfl, ?_⟩⟩
      have x6 : Xt H20 H6 := fun b o e => pres b o (ne_of_none e hxv) (xn b o e)
      have X6 := xtr X20 x6
      have XH := xtr XG X6
      have hL6 := LexAt.mono X6 hLG
      have hT6 := DpAll.mono X6 hT
      have et6 := X6 _ _ eG
      have ev6 := X6 _ _ evG
      have hws6 := DpAll.mono X6 hwsG
      have e116 := X6 _ _ e11G
      clear h1 h2 h3 h4 h5 h6 i0 i1 i2 xn pres x6 X6 hxv hdx hnx hL20 X20 x20 X19 hLG hT eG evG hwsG e11G XG
      walk_at "6"
      walk_at "0"
      walk_at "37"
      walk_at "42"
      walk_at "9"
      walk_at "11"
      walk_at "9"
      walk_at "69"
      walk_at "10"
      walk_at "77"
      walk_at "10"
      walk_at "88"
      refine ⟨by omega, by omega, ?_⟩
      refine for_range (lo := 0) (n := us.length) (fun i σ' H' => ∃ y6, σ' = [some (.ref l), some (.ref p1), some (.ref p11), some (.ref p13), some (.ref pv), y8, y6, some (.ref pt), y8', some (.ref xv)] ∧ Xt H6 H') ⟨_, rfl, xrefl _⟩ ?_ ?_
      · rintro k σ' H' hk ⟨y6, rfl, xx⟩
        rw [show ((0 : Int) + (k : Int)) = (k : Int) by omega]
        have et7 := xx _ _ et6
        obtain ⟨cv, cd, hcv, hcm, hcd⟩ := pick_dat0 (i := (k : Int)) (DpAll.mono xx hT6) (by omega) (by omega)
        have hval := hvals cd hcm
        walk_at "6"
        walk_at "4"
        walk_at "16"
        walk_at "15"
        walk_at "12"
        walk_at "9"
        walk_at "69"
        walk_at "9"
        walk_at "69"
        walk_at "9"
        walk_at "8"
        walk_at "69"
        walk_at "69"
        walk_at "79"
        walk_at "9"
        walk_at "12"
        walk_at "9"
        walk_at "12"
        walk_at "9"
        walk_at "69"
        walk_at "9"
        walk_at "8"
        walk_at "7"
        walk_at "69"
        walk_at "56"
        walk_at "10"
        refine ⟨l, ns, 20 + (k : Int), rfl, xl (xtr XH xx) hS, hnl, by omega, fun dv => ?_⟩
        walk_at "9"
        walk_at "34"
        walk_at "9"
        walk_at "7"
        walk_at "9"
        walk_at "7"
        walk_at "9"
        walk_at "7"
        walk_at "9"
        walk_at "7"
        walk_at "9"
        walk_at "7"
        walk_at "9"
        walk_at "7"
        walk_at "9"
        walk_at "7"
        walk_at "9"
        walk_at "7"
        walk_at "10"
        walk_at "82"
        intro p22 H22 n22 x22 e22
        walk_at "10"
        refine ⟨dv, p22, [60, 60, 60, 60, 60, 60, 60, 6], rfl, sql e22, by decide, by decide, fun p23 H23 rs2 x23 e23 hD2 => ?_⟩
        have x223 := xtr x22 x23
        walk_at "10"
        refine ⟨p1, xv, p23, cv, x, cd, rs2, rfl, LexAt.mono (xtr xx x223) hL6, lok, VocAt.mono (xtr xx x223) hV6, Dp.mono x223 hcd, hval.2, hval.1, sql e23, hD2, fun H24 x24 => ?_⟩
        walk_at "88"
        walk_at "89"
        walk_at "5"
        walk_at "88"
        exact xtr xx (xtr x223 x24)
      rintro σ' H21 ⟨y6, rfl, x21⟩
      have e1121 := x21 _ _ e116
      walk_at "0"
      walk_at "37"
      walk_at "42"
      walk_at "9"
      walk_at "8"
      walk_at "7"
      walk_at "8"
      walk_at "69"
      walk_at "7"
      walk_at "79"
      walk_at "56"
      walk_at "10"
      walk_at "88"
      refine ⟨by omega, by omega, ?_⟩
      refine for_range (lo := 0) (n := (4 + d3).toNat) (fun i σ' H' => ∃ y6, σ' = [some (.ref l), some (.ref p1), some (.ref p11), some (.ref p13), some (.ref pv), y8, y6, some (.ref pt), y8', some (.ref xv)] ∧ Xt H21 H') ⟨_, rfl, xrefl _⟩ ?_ ?_
      · rintro k σ' H' hk ⟨y6, rfl, xx⟩
        rw [show ((0 : Int) + (k : Int)) = (k : Int) by omega]
        have xx6 := xtr x21 xx
        have et7 := xx6 _ _ et6
        have hne2 : uds ≠ [] := fun e => by rw [e, List.length_nil] at hTl; omega
        obtain ⟨hyp, cv, cd, hcv, hcm, hcd⟩ := mod_dat (k : Int) (DpAll.mono xx6 hT6) hne2
        have hval := hvals cd hcm
        walk_at "6"
        walk_at "4"
        walk_at "16"
        walk_at "15"
        walk_at "12"
        walk_at "9"
        walk_at "69"
        walk_at "9"
        walk_at "8"
        walk_at "69"
        walk_at "8"
        walk_at "11"
        walk_at "9"
        walk_at "69"
        walk_at "10"
        walk_at "57"
        walk_at "11"
        walk_at "9"
        walk_at "69"
        walk_at "10"
        walk_at "77"
        walk_at "70"
        walk_at "79"
        walk_at "9"
        walk_at "12"
        walk_at "9"
        walk_at "69"
        walk_at "9"
        walk_at "8"
        walk_at "7"
        walk_at "69"
        walk_at "56"
        walk_at "10"
        refine ⟨l, ns, 7 + (k : Int), rfl, xl (xtr XH xx6) hS, hnl, by omega, fun dv => ?_⟩
        walk_at "9"
        walk_at "69"
        walk_at "10"
        refine ⟨p1, pv, cv, x, cd, dv, _, ws, rfl, LexAt.mono xx6 hL6, lok, hne, hcd, hval.2, hval.1, xx6 _ _ ev6, DpAll.mono xx6 hws6, vok, fun H24 x24 => ?_⟩
        walk_at "88"
        walk_at "89"
        walk_at "5"
        walk_at "88"
        exact xtr xx x24
      rintro σ' H25 ⟨y6', rfl, x25⟩
      walk_at "2"
      walk_at "7"
      exact q H25


end
end K03
namespace K03
open PySem PySem.Spec PyProof.Rows L2 NdefX CW RZ
open PySem.W (fnX)
theorem all_mk {l : PySem.W.OpenLaw} {w : World} {K : PySem.W.Frag} {h : Heap} {mg : Str → Option Value} {fa C_Vocabulary C_ClaimError C_TextError C_BadName C_NameTaken C_NoSort C_BadTable C_BadSize C_FilledTwice C_NoSelection : Addr} (X : K.In h) (G : h.Ns mainGlobals mg) (hfa : mg "law" = some (.ref fa))
    (nsup : PySem.W.nsIn K mainGlobals "super" = some none)
    (aE_ClaimError : PySem.W.nsIn K mainGlobals "ClaimError" = some (some (.ref C_ClaimError)))
    (aE_TextError : PySem.W.nsIn K mainGlobals "TextError" = some (some (.ref C_TextError)))
    (aE_BadName : PySem.W.nsIn K mainGlobals "BadName" = some (some (.ref C_BadName)))
    (aE_NameTaken : PySem.W.nsIn K mainGlobals "NameTaken" = some (some (.ref C_NameTaken)))
    (aE_NoSort : PySem.W.nsIn K mainGlobals "NoSort" = some (some (.ref C_NoSort)))
    (aE_BadTable : PySem.W.nsIn K mainGlobals "BadTable" = some (some (.ref C_BadTable)))
    (aE_BadSize : PySem.W.nsIn K mainGlobals "BadSize" = some (some (.ref C_BadSize)))
    (aE_FilledTwice : PySem.W.nsIn K mainGlobals "FilledTwice" = some (some (.ref C_FilledTwice)))
    (aE_NoSelection : PySem.W.nsIn K mainGlobals "NoSelection" = some (some (.ref C_NoSelection)))
    (E_BadPlace : ErrT l.prog K mg "BadPlace" s_BadPlace___init__ "BadPlace.__init__" "place" "place")
    (kit : kitN K ["BadName", "NameTaken", "NoSort", "BadTable", "BadSize", "BadPlace", "FilledTwice", "NoSelection"] = true)
    (exm : exmN K ["BadName", "NameTaken", "NoSort", "BadPlace"] = true)
    (insv : insB K (addrOf K "Vocabulary") = true)
    (insa : PySem.W.nsIn K mainGlobals "Vocabulary" = some (some (.ref C_Vocabulary)))
    (aC_Vocabulary : PySem.W.nsIn K mainGlobals "Vocabulary" = some (some (.ref C_Vocabulary))) (pg_Vocabulary : PySem.W.plainGet K C_Vocabulary Str.empty = true) (hd_Vocabulary : PySem.W.hasDictIn K C_Vocabulary = true) (po_Vocabulary : PySem.W.plainOver K C_Vocabulary = true) (sa_Vocabulary : PySem.W.findIn K (.ref C_Vocabulary) "__setattr__" = some (some (.builtin "object.__setattr__"))) (mk_Vocabulary : PySem.W.makesIn K C_Vocabulary = true) (kc_Vocabulary : PySem.W.keepIn K (.ref C_Vocabulary) = true)
    (na_Vocabulary_sorts : PySem.W.findIn K (.ref C_Vocabulary) "sorts" = some none)
    (na_Vocabulary_functions : PySem.W.findIn K (.ref C_Vocabulary) "functions" = some none)
    (na_Vocabulary_predicates : PySem.W.findIn K (.ref C_Vocabulary) "predicates" = some none)
    (na_Vocabulary__names : PySem.W.findIn K (.ref C_Vocabulary) "_names" = some none)
    (na_Vocabulary__argument_sorts : PySem.W.findIn K (.ref C_Vocabulary) "_argument_sorts" = some none)
    (na_Vocabulary__value_sorts : PySem.W.findIn K (.ref C_Vocabulary) "_value_sorts" = some none)
    {od0 an0 : Option Addr} {sl0 : Array (Option Value)} {oc0 kV0 dc0 pm0 cd0 ct0 : Value} {f0 : Addr}
    (a0 : PySem.W.nsIn K mainGlobals "is_name" = some (some (.ref f0)))
    (l0 : K.lookup f0 = some ⟨oc0, od0, .func (PySem.W.fnOf "is_name" "is_name" (defArgs s_is_name) (defBody s_is_name) (defScope s_is_name) .none kV0 dc0 pm0 an0 cd0 ct0), sl0⟩) (c0 : PySem.W.codeIn K cd0 "is_name" = true) (k0 : PySem.W.keepIn K (.ref f0) = true)
    {od1 an1 : Option Addr} {sl1 : Array (Option Value)} {oc1 kV1 dc1 pm1 cd1 ct1 : Value} {f1 : Addr}
    (a1 : PySem.W.nsIn K mainGlobals "is_variable_name" = some (some (.ref f1)))
    (l1 : K.lookup f1 = some ⟨oc1, od1, .func (PySem.W.fnOf "is_variable_name" "is_variable_name" (defArgs s_is_variable_name) (defBody s_is_variable_name) (defScope s_is_variable_name) .none kV1 dc1 pm1 an1 cd1 ct1), sl1⟩) (c1 : PySem.W.codeIn K cd1 "is_variable_name" = true) (k1 : PySem.W.keepIn K (.ref f1) = true)
    {od2 an2 : Option Addr} {sl2 : Array (Option Value)} {oc2 kV2 dc2 pm2 cd2 ct2 : Value} {f2 : Addr}
    (a2 : PySem.W.nsIn K mainGlobals "_has_form" = some (some (.ref f2)))
    (l2 : K.lookup f2 = some ⟨oc2, od2, .func (PySem.W.fnOf "_has_form" "_has_form" (defArgs s__has_form) (defBody s__has_form) (defScope s__has_form) .none kV2 dc2 pm2 an2 cd2 ct2), sl2⟩) (c2 : PySem.W.codeIn K cd2 "_has_form" = true) (k2 : PySem.W.keepIn K (.ref f2) = true)
    {od3 an3 : Option Addr} {sl3 : Array (Option Value)} {oc3 kV3 dc3 pm3 cd3 ct3 : Value} {f3 : Addr}
    (a3 : PySem.W.findIn K (.ref C_Vocabulary) "__init__" = some (some (.ref f3))) (i3 : PySem.W.isFn K (.ref f3) = true)
    (l3 : K.lookup f3 = some ⟨oc3, od3, .func (PySem.W.fnOf "__init__" "Vocabulary.__init__" (defArgs s_Vocabulary___init__) (defBody s_Vocabulary___init__) (defScope s_Vocabulary___init__) .none kV3 dc3 pm3 an3 cd3 ct3), sl3⟩) (c3 : PySem.W.codeIn K cd3 "Vocabulary.__init__" = true) (k3 : PySem.W.keepIn K (.ref f3) = true)
    {od4 an4 : Option Addr} {sl4 : Array (Option Value)} {oc4 kV4 dc4 pm4 cd4 ct4 : Value} {f4 : Addr}
    (a4 : PySem.W.findIn K (.ref C_Vocabulary) "arguments" = some (some (.ref f4))) (i4 : PySem.W.isFn K (.ref f4) = true)
    (l4 : K.lookup f4 = some ⟨oc4, od4, .func (PySem.W.fnOf "arguments" "Vocabulary.arguments" (defArgs s_Vocabulary_arguments) (defBody s_Vocabulary_arguments) (defScope s_Vocabulary_arguments) .none kV4 dc4 pm4 an4 cd4 ct4), sl4⟩) (c4 : PySem.W.codeIn K cd4 "Vocabulary.arguments" = true) (k4 : PySem.W.keepIn K (.ref f4) = true)
    {od5 an5 : Option Addr} {sl5 : Array (Option Value)} {oc5 kV5 dc5 pm5 cd5 ct5 : Value} {f5 : Addr}
    (a5 : PySem.W.findIn K (.ref C_Vocabulary) "value_sort" = some (some (.ref f5))) (i5 : PySem.W.isFn K (.ref f5) = true)
    (l5 : K.lookup f5 = some ⟨oc5, od5, .func (PySem.W.fnOf "value_sort" "Vocabulary.value_sort" (defArgs s_Vocabulary_value_sort) (defBody s_Vocabulary_value_sort) (defScope s_Vocabulary_value_sort) .none kV5 dc5 pm5 an5 cd5 ct5), sl5⟩) (c5 : PySem.W.codeIn K cd5 "Vocabulary.value_sort" = true) (k5 : PySem.W.keepIn K (.ref f5) = true)
    {od6 an6 : Option Addr} {sl6 : Array (Option Value)} {oc6 kV6 dc6 pm6 cd6 ct6 : Value} {f6 : Addr}
    (a6 : PySem.W.nsIn K mainGlobals "_check_rows" = some (some (.ref f6)))
    (l6 : K.lookup f6 = some ⟨oc6, od6, .func (PySem.W.fnOf "_check_rows" "_check_rows" (defArgs s__check_rows) (defBody s__check_rows) (defScope s__check_rows) .none kV6 dc6 pm6 an6 cd6 ct6), sl6⟩) (c6 : PySem.W.codeIn K cd6 "_check_rows" = true) (k6 : PySem.W.keepIn K (.ref f6) = true)
    {od7 an7 : Option Addr} {sl7 : Array (Option Value)} {oc7 kV7 dc7 pm7 cd7 ct7 : Value} {f7 : Addr}
    (a7 : PySem.W.nsIn K mainGlobals "is_variable" = some (some (.ref f7)))
    (l7 : K.lookup f7 = some ⟨oc7, od7, .func (PySem.W.fnOf "is_variable" "is_variable" (defArgs s_is_variable) (defBody s_is_variable) (defScope s_is_variable) .none kV7 dc7 pm7 an7 cd7 ct7), sl7⟩) (c7 : PySem.W.codeIn K cd7 "is_variable" = true) (k7 : PySem.W.keepIn K (.ref f7) = true)
    {od8 an8 : Option Addr} {sl8 : Array (Option Value)} {oc8 kV8 dc8 pm8 cd8 ct8 : Value} {f8 : Addr}
    (a8 : PySem.W.nsIn K mainGlobals "is_term" = some (some (.ref f8)))
    (l8 : K.lookup f8 = some ⟨oc8, od8, .func (PySem.W.fnOf "is_term" "is_term" (defArgs s_is_term) (defBody s_is_term) (defScope s_is_term) .none kV8 dc8 pm8 an8 cd8 ct8), sl8⟩) (c8 : PySem.W.codeIn K cd8 "is_term" = true) (k8 : PySem.W.keepIn K (.ref f8) = true)
    {od9 an9 : Option Addr} {sl9 : Array (Option Value)} {oc9 kV9 dc9 pm9 cd9 ct9 : Value} {f9 : Addr}
    (a9 : PySem.W.nsIn K mainGlobals "is_atom" = some (some (.ref f9)))
    (l9 : K.lookup f9 = some ⟨oc9, od9, .func (PySem.W.fnOf "is_atom" "is_atom" (defArgs s_is_atom) (defBody s_is_atom) (defScope s_is_atom) .none kV9 dc9 pm9 an9 cd9 ct9), sl9⟩) (c9 : PySem.W.codeIn K cd9 "is_atom" = true) (k9 : PySem.W.keepIn K (.ref f9) = true)
    {od10 an10 : Option Addr} {sl10 : Array (Option Value)} {oc10 kV10 dc10 pm10 cd10 ct10 : Value} {f10 : Addr}
    (a10 : PySem.W.nsIn K mainGlobals "_layer_sort" = some (some (.ref f10)))
    (l10 : K.lookup f10 = some ⟨oc10, od10, .func (PySem.W.fnOf "_layer_sort" "_layer_sort" (defArgs s__layer_sort) (defBody s__layer_sort) (defScope s__layer_sort) .none kV10 dc10 pm10 an10 cd10 ct10), sl10⟩) (c10 : PySem.W.codeIn K cd10 "_layer_sort" = true) (k10 : PySem.W.keepIn K (.ref f10) = true)
    {od11 an11 : Option Addr} {sl11 : Array (Option Value)} {oc11 kV11 dc11 pm11 cd11 ct11 : Value} {f11 : Addr}
    (a11 : PySem.W.nsIn K mainGlobals "_parts_fit" = some (some (.ref f11)))
    (l11 : K.lookup f11 = some ⟨oc11, od11, .func (PySem.W.fnOf "_parts_fit" "_parts_fit" (defArgs s__parts_fit) (defBody s__parts_fit) (defScope s__parts_fit) .none kV11 dc11 pm11 an11 cd11 ct11), sl11⟩) (c11 : PySem.W.codeIn K cd11 "_parts_fit" = true) (k11 : PySem.W.keepIn K (.ref f11) = true)
    {od12 an12 : Option Addr} {sl12 : Array (Option Value)} {oc12 kV12 dc12 pm12 cd12 ct12 : Value} {f12 : Addr}
    (a12 : PySem.W.nsIn K mainGlobals "sort_of" = some (some (.ref f12)))
    (l12 : K.lookup f12 = some ⟨oc12, od12, .func (PySem.W.fnOf "sort_of" "sort_of" (defArgs s_sort_of) (defBody s_sort_of) (defScope s_sort_of) .none kV12 dc12 pm12 an12 cd12 ct12), sl12⟩) (c12 : PySem.W.codeIn K cd12 "sort_of" = true) (k12 : PySem.W.keepIn K (.ref f12) = true)
    {od13 an13 : Option Addr} {sl13 : Array (Option Value)} {oc13 kV13 dc13 pm13 cd13 ct13 : Value} {f13 : Addr}
    (a13 : PySem.W.nsIn K mainGlobals "subterms" = some (some (.ref f13)))
    (l13 : K.lookup f13 = some ⟨oc13, od13, .func (PySem.W.fnOf "subterms" "subterms" (defArgs s_subterms) (defBody s_subterms) (defScope s_subterms) .none kV13 dc13 pm13 an13 cd13 ct13), sl13⟩) (c13 : PySem.W.codeIn K cd13 "subterms" = true) (k13 : PySem.W.keepIn K (.ref f13) = true)
    {od14 an14 : Option Addr} {sl14 : Array (Option Value)} {oc14 kV14 dc14 pm14 cd14 ct14 : Value} {f14 : Addr}
    (a14 : PySem.W.nsIn K mainGlobals "variables_of" = some (some (.ref f14)))
    (l14 : K.lookup f14 = some ⟨oc14, od14, .func (PySem.W.fnOf "variables_of" "variables_of" (defArgs s_variables_of) (defBody s_variables_of) (defScope s_variables_of) .none kV14 dc14 pm14 an14 cd14 ct14), sl14⟩) (c14 : PySem.W.codeIn K cd14 "variables_of" = true) (k14 : PySem.W.keepIn K (.ref f14) = true)
    {od15 an15 : Option Addr} {sl15 : Array (Option Value)} {oc15 kV15 dc15 pm15 cd15 ct15 : Value} {f15 : Addr}
    (a15 : PySem.W.nsIn K mainGlobals "size_of" = some (some (.ref f15)))
    (l15 : K.lookup f15 = some ⟨oc15, od15, .func (PySem.W.fnOf "size_of" "size_of" (defArgs s_size_of) (defBody s_size_of) (defScope s_size_of) .none kV15 dc15 pm15 an15 cd15 ct15), sl15⟩) (c15 : PySem.W.codeIn K cd15 "size_of" = true) (k15 : PySem.W.keepIn K (.ref f15) = true)
    {od16 an16 : Option Addr} {sl16 : Array (Option Value)} {oc16 kV16 dc16 pm16 cd16 ct16 : Value} {f16 : Addr}
    (a16 : PySem.W.nsIn K mainGlobals "part_at" = some (some (.ref f16)))
    (l16 : K.lookup f16 = some ⟨oc16, od16, .func (PySem.W.fnOf "part_at" "part_at" (defArgs s_part_at) (defBody s_part_at) (defScope s_part_at) .none kV16 dc16 pm16 an16 cd16 ct16), sl16⟩) (c16 : PySem.W.codeIn K cd16 "part_at" = true) (k16 : PySem.W.keepIn K (.ref f16) = true)
    {od17 an17 : Option Addr} {sl17 : Array (Option Value)} {oc17 kV17 dc17 pm17 cd17 ct17 : Value} {f17 : Addr}
    (a17 : PySem.W.nsIn K mainGlobals "put_at" = some (some (.ref f17)))
    (l17 : K.lookup f17 = some ⟨oc17, od17, .func (PySem.W.fnOf "put_at" "put_at" (defArgs s_put_at) (defBody s_put_at) (defScope s_put_at) .none kV17 dc17 pm17 an17 cd17 ct17), sl17⟩) (c17 : PySem.W.codeIn K cd17 "put_at" = true) (k17 : PySem.W.keepIn K (.ref f17) = true)
    {od18 an18 : Option Addr} {sl18 : Array (Option Value)} {oc18 kV18 dc18 pm18 cd18 ct18 : Value} {f18 : Addr}
    (a18 : PySem.W.nsIn K mainGlobals "_part" = some (some (.ref f18)))
    (l18 : K.lookup f18 = some ⟨oc18, od18, .func (PySem.W.fnOf "_part" "_part" (defArgs s__part) (defBody s__part) (defScope s__part) .none kV18 dc18 pm18 an18 cd18 ct18), sl18⟩) (c18 : PySem.W.codeIn K cd18 "_part" = true) (k18 : PySem.W.keepIn K (.ref f18) = true)
    {od19 an19 : Option Addr} {sl19 : Array (Option Value)} {oc19 kV19 dc19 pm19 cd19 ct19 : Value} {f19 : Addr}
    (a19 : PySem.W.nsIn K mainGlobals "inner_places" = some (some (.ref f19)))
    (l19 : K.lookup f19 = some ⟨oc19, od19, .func (PySem.W.fnOf "inner_places" "inner_places" (defArgs s_inner_places) (defBody s_inner_places) (defScope s_inner_places) .none kV19 dc19 pm19 an19 cd19 ct19), sl19⟩) (c19 : PySem.W.codeIn K cd19 "inner_places" = true) (k19 : PySem.W.keepIn K (.ref f19) = true)
    {od20 an20 : Option Addr} {sl20 : Array (Option Value)} {oc20 kV20 dc20 pm20 cd20 ct20 : Value} {f20 : Addr}
    (a20 : PySem.W.nsIn K mainGlobals "_law_cell" = some (some (.ref f20)))
    (l20 : K.lookup f20 = some ⟨oc20, od20, .func (PySem.W.fnOf "_law_cell" "_law_cell" (defArgs s__law_cell) (defBody s__law_cell) (defScope s__law_cell) .none kV20 dc20 pm20 an20 cd20 ct20), sl20⟩) (c20 : PySem.W.codeIn K cd20 "_law_cell" = true) (k20 : PySem.W.keepIn K (.ref f20) = true)
    {od21 an21 : Option Addr} {sl21 : Array (Option Value)} {oc21 kV21 dc21 pm21 cd21 ct21 : Value} {f21 : Addr}
    (a21 : PySem.W.nsIn K mainGlobals "_law_digits" = some (some (.ref f21)))
    (l21 : K.lookup f21 = some ⟨oc21, od21, .func (PySem.W.fnOf "_law_digits" "_law_digits" (defArgs s__law_digits) (defBody s__law_digits) (defScope s__law_digits) .none kV21 dc21 pm21 an21 cd21 ct21), sl21⟩) (c21 : PySem.W.codeIn K cd21 "_law_digits" = true) (k21 : PySem.W.keepIn K (.ref f21) = true)
    {od22 an22 : Option Addr} {sl22 : Array (Option Value)} {oc22 kV22 dc22 pm22 cd22 ct22 : Value} {f22 : Addr}
    (a22 : PySem.W.nsIn K mainGlobals "_law_words" = some (some (.ref f22)))
    (l22 : K.lookup f22 = some ⟨oc22, od22, .func (PySem.W.fnOf "_law_words" "_law_words" (defArgs s__law_words) (defBody s__law_words) (defScope s__law_words) .none kV22 dc22 pm22 an22 cd22 ct22), sl22⟩) (c22 : PySem.W.codeIn K cd22 "_law_words" = true) (k22 : PySem.W.keepIn K (.ref f22) = true)
    {od23 an23 : Option Addr} {sl23 : Array (Option Value)} {oc23 kV23 dc23 pm23 cd23 ct23 : Value} {f23 : Addr}
    (a23 : PySem.W.nsIn K mainGlobals "_law_names" = some (some (.ref f23)))
    (l23 : K.lookup f23 = some ⟨oc23, od23, .func (PySem.W.fnOf "_law_names" "_law_names" (defArgs s__law_names) (defBody s__law_names) (defScope s__law_names) .none kV23 dc23 pm23 an23 cd23 ct23), sl23⟩) (c23 : PySem.W.codeIn K cd23 "_law_names" = true) (k23 : PySem.W.keepIn K (.ref f23) = true)
    {od24 an24 : Option Addr} {sl24 : Array (Option Value)} {oc24 kV24 dc24 pm24 cd24 ct24 : Value} {f24 : Addr}
    (a24 : PySem.W.nsIn K mainGlobals "_law_variable_names" = some (some (.ref f24)))
    (l24 : K.lookup f24 = some ⟨oc24, od24, .func (PySem.W.fnOf "_law_variable_names" "_law_variable_names" (defArgs s__law_variable_names) (defBody s__law_variable_names) (defScope s__law_variable_names) .none kV24 dc24 pm24 an24 cd24 ct24), sl24⟩) (c24 : PySem.W.codeIn K cd24 "_law_variable_names" = true) (k24 : PySem.W.keepIn K (.ref f24) = true)
    {od25 an25 : Option Addr} {sl25 : Array (Option Value)} {oc25 kV25 dc25 pm25 cd25 ct25 : Value} {f25 : Addr}
    (a25 : PySem.W.nsIn K mainGlobals "_law_drawn_vocabulary" = some (some (.ref f25)))
    (l25 : K.lookup f25 = some ⟨oc25, od25, .func (PySem.W.fnOf "_law_drawn_vocabulary" "_law_drawn_vocabulary" (defArgs s__law_drawn_vocabulary) (defBody s__law_drawn_vocabulary) (defScope s__law_drawn_vocabulary) .none kV25 dc25 pm25 an25 cd25 ct25), sl25⟩) (c25 : PySem.W.codeIn K cd25 "_law_drawn_vocabulary" = true) (k25 : PySem.W.keepIn K (.ref f25) = true)
    {od26 an26 : Option Addr} {sl26 : Array (Option Value)} {oc26 kV26 dc26 pm26 cd26 ct26 : Value} {f26 : Addr}
    (a26 : PySem.W.nsIn K mainGlobals "_law_term" = some (some (.ref f26)))
    (l26 : K.lookup f26 = some ⟨oc26, od26, .func (PySem.W.fnOf "_law_term" "_law_term" (defArgs s__law_term) (defBody s__law_term) (defScope s__law_term) .none kV26 dc26 pm26 an26 cd26 ct26), sl26⟩) (c26 : PySem.W.codeIn K cd26 "_law_term" = true) (k26 : PySem.W.keepIn K (.ref f26) = true)
    {od27 an27 : Option Addr} {sl27 : Array (Option Value)} {oc27 kV27 dc27 pm27 cd27 ct27 : Value} {f27 : Addr}
    (a27 : PySem.W.nsIn K mainGlobals "_law_wrapped" = some (some (.ref f27)))
    (l27 : K.lookup f27 = some ⟨oc27, od27, .func (PySem.W.fnOf "_law_wrapped" "_law_wrapped" (defArgs s__law_wrapped) (defBody s__law_wrapped) (defScope s__law_wrapped) .none kV27 dc27 pm27 an27 cd27 ct27), sl27⟩) (c27 : PySem.W.codeIn K cd27 "_law_wrapped" = true) (k27 : PySem.W.keepIn K (.ref f27) = true)
    {od28 an28 : Option Addr} {sl28 : Array (Option Value)} {oc28 kV28 dc28 pm28 cd28 ct28 : Value} {f28 : Addr}
    (a28 : PySem.W.nsIn K mainGlobals "_law_is_variable" = some (some (.ref f28)))
    (l28 : K.lookup f28 = some ⟨oc28, od28, .func (PySem.W.fnOf "_law_is_variable" "_law_is_variable" (defArgs s__law_is_variable) (defBody s__law_is_variable) (defScope s__law_is_variable) .none kV28 dc28 pm28 an28 cd28 ct28), sl28⟩) (c28 : PySem.W.codeIn K cd28 "_law_is_variable" = true) (k28 : PySem.W.keepIn K (.ref f28) = true)
    {od29 an29 : Option Addr} {sl29 : Array (Option Value)} {oc29 kV29 dc29 pm29 cd29 ct29 : Value} {f29 : Addr}
    (a29 : PySem.W.nsIn K mainGlobals "_law_symbols" = some (some (.ref f29)))
    (l29 : K.lookup f29 = some ⟨oc29, od29, .func (PySem.W.fnOf "_law_symbols" "_law_symbols" (defArgs s__law_symbols) (defBody s__law_symbols) (defScope s__law_symbols) .none kV29 dc29 pm29 an29 cd29 ct29), sl29⟩) (c29 : PySem.W.codeIn K cd29 "_law_symbols" = true) (k29 : PySem.W.keepIn K (.ref f29) = true)
    {od30 an30 : Option Addr} {sl30 : Array (Option Value)} {oc30 kV30 dc30 pm30 cd30 ct30 : Value} {f30 : Addr}
    (a30 : PySem.W.nsIn K mainGlobals "_law_term_variables" = some (some (.ref f30)))
    (l30 : K.lookup f30 = some ⟨oc30, od30, .func (PySem.W.fnOf "_law_term_variables" "_law_term_variables" (defArgs s__law_term_variables) (defBody s__law_term_variables) (defScope s__law_term_variables) .none kV30 dc30 pm30 an30 cd30 ct30), sl30⟩) (c30 : PySem.W.codeIn K cd30 "_law_term_variables" = true) (k30 : PySem.W.keepIn K (.ref f30) = true)
    {od31 an31 : Option Addr} {sl31 : Array (Option Value)} {oc31 kV31 dc31 pm31 cd31 ct31 : Value} {f31 : Addr}
    (a31 : PySem.W.nsIn K mainGlobals "_law_all_places" = some (some (.ref f31)))
    (l31 : K.lookup f31 = some ⟨oc31, od31, .func (PySem.W.fnOf "_law_all_places" "_law_all_places" (defArgs s__law_all_places) (defBody s__law_all_places) (defScope s__law_all_places) .none kV31 dc31 pm31 an31 cd31 ct31), sl31⟩) (c31 : PySem.W.codeIn K cd31 "_law_all_places" = true) (k31 : PySem.W.keepIn K (.ref f31) = true)
    {od32 an32 : Option Addr} {sl32 : Array (Option Value)} {oc32 kV32 dc32 pm32 cd32 ct32 : Value} {f32 : Addr}
    (a32 : PySem.W.nsIn K mainGlobals "_law_put" = some (some (.ref f32)))
    (l32 : K.lookup f32 = some ⟨oc32, od32, .func (PySem.W.fnOf "_law_put" "_law_put" (defArgs s__law_put) (defBody s__law_put) (defScope s__law_put) .none kV32 dc32 pm32 an32 cd32 ct32), sl32⟩) (c32 : PySem.W.codeIn K cd32 "_law_put" = true) (k32 : PySem.W.keepIn K (.ref f32) = true)
    {od33 an33 : Option Addr} {sl33 : Array (Option Value)} {oc33 kV33 dc33 pm33 cd33 ct33 : Value} {f33 : Addr}
    (a33 : PySem.W.nsIn K mainGlobals "_law_applied" = some (some (.ref f33)))
    (l33 : K.lookup f33 = some ⟨oc33, od33, .func (PySem.W.fnOf "_law_applied" "_law_applied" (defArgs s__law_applied) (defBody s__law_applied) (defScope s__law_applied) .none kV33 dc33 pm33 an33 cd33 ct33), sl33⟩) (c33 : PySem.W.codeIn K cd33 "_law_applied" = true) (k33 : PySem.W.keepIn K (.ref f33) = true)
    {od34 an34 : Option Addr} {sl34 : Array (Option Value)} {oc34 kV34 dc34 pm34 cd34 ct34 : Value} {f34 : Addr}
    (a34 : PySem.W.nsIn K mainGlobals "_law_large" = some (some (.ref f34)))
    (l34 : K.lookup f34 = some ⟨oc34, od34, .func (PySem.W.fnOf "_law_large" "_law_large" (defArgs s__law_large) (defBody s__law_large) (defScope s__law_large) .none kV34 dc34 pm34 an34 cd34 ct34), sl34⟩) (c34 : PySem.W.codeIn K cd34 "_law_large" = true) (k34 : PySem.W.keepIn K (.ref f34) = true)
    {od35 an35 : Option Addr} {sl35 : Array (Option Value)} {oc35 kV35 dc35 pm35 cd35 ct35 : Value} {f35 : Addr}
    (a35 : PySem.W.nsIn K mainGlobals "_law_chain" = some (some (.ref f35)))
    (l35 : K.lookup f35 = some ⟨oc35, od35, .func (PySem.W.fnOf "_law_chain" "_law_chain" (defArgs s__law_chain) (defBody s__law_chain) (defScope s__law_chain) .none kV35 dc35 pm35 an35 cd35 ct35), sl35⟩) (c35 : PySem.W.codeIn K cd35 "_law_chain" = true) (k35 : PySem.W.keepIn K (.ref f35) = true)
    {od36 an36 : Option Addr} {sl36 : Array (Option Value)} {oc36 kV36 dc36 pm36 cd36 ct36 : Value} {f36 : Addr}
    (a36 : PySem.W.nsIn K mainGlobals "_law_value" = some (some (.ref f36)))
    (l36 : K.lookup f36 = some ⟨oc36, od36, .func (PySem.W.fnOf "_law_value" "_law_value" (defArgs s__law_value) (defBody s__law_value) (defScope s__law_value) .none kV36 dc36 pm36 an36 cd36 ct36), sl36⟩) (c36 : PySem.W.codeIn K cd36 "_law_value" = true) (k36 : PySem.W.keepIn K (.ref f36) = true)
    {od37 an37 : Option Addr} {sl37 : Array (Option Value)} {oc37 kV37 dc37 pm37 cd37 ct37 : Value} {f37 : Addr}
    (a37 : PySem.W.nsIn K mainGlobals "_law_sort" = some (some (.ref f37)))
    (l37 : K.lookup f37 = some ⟨oc37, od37, .func (PySem.W.fnOf "_law_sort" "_law_sort" (defArgs s__law_sort) (defBody s__law_sort) (defScope s__law_sort) .none kV37 dc37 pm37 an37 cd37 ct37), sl37⟩) (c37 : PySem.W.codeIn K cd37 "_law_sort" = true) (k37 : PySem.W.keepIn K (.ref f37) = true)
    {od38 an38 : Option Addr} {sl38 : Array (Option Value)} {oc38 kV38 dc38 pm38 cd38 ct38 : Value} {f38 : Addr}
    (a38 : PySem.W.nsIn K mainGlobals "_law_refused" = some (some (.ref f38)))
    (l38 : K.lookup f38 = some ⟨oc38, od38, .func (PySem.W.fnOf "_law_refused" "_law_refused" (defArgs s__law_refused) (defBody s__law_refused) (defScope s__law_refused) .none kV38 dc38 pm38 an38 cd38 ct38), sl38⟩) (c38 : PySem.W.codeIn K cd38 "_law_refused" = true) (k38 : PySem.W.keepIn K (.ref f38) = true)
    {od39 an39 : Option Addr} {sl39 : Array (Option Value)} {oc39 kV39 dc39 pm39 cd39 ct39 : Value} {f39 : Addr}
    (a39 : PySem.W.nsIn K mainGlobals "_law_listed" = some (some (.ref f39)))
    (l39 : K.lookup f39 = some ⟨oc39, od39, .func (PySem.W.fnOf "_law_listed" "_law_listed" (defArgs s__law_listed) (defBody s__law_listed) (defScope s__law_listed) .none kV39 dc39 pm39 an39 cd39 ct39), sl39⟩) (c39 : PySem.W.codeIn K cd39 "_law_listed" = true) (k39 : PySem.W.keepIn K (.ref f39) = true)
    {od40 an40 : Option Addr} {sl40 : Array (Option Value)} {oc40 kV40 dc40 pm40 cd40 ct40 : Value} {f40 : Addr}
    (a40 : PySem.W.nsIn K mainGlobals "_law_asked" = some (some (.ref f40)))
    (l40 : K.lookup f40 = some ⟨oc40, od40, .func (PySem.W.fnOf "_law_asked" "_law_asked" (defArgs s__law_asked) (defBody s__law_asked) (defScope s__law_asked) .none kV40 dc40 pm40 an40 cd40 ct40), sl40⟩) (c40 : PySem.W.codeIn K cd40 "_law_asked" = true) (k40 : PySem.W.keepIn K (.ref f40) = true)
    {od41 an41 : Option Addr} {sl41 : Array (Option Value)} {oc41 kV41 dc41 pm41 cd41 ct41 : Value} {f41 : Addr}
    (a41 : PySem.W.nsIn K mainGlobals "_law_grown_atom" = some (some (.ref f41)))
    (l41 : K.lookup f41 = some ⟨oc41, od41, .func (PySem.W.fnOf "_law_grown_atom" "_law_grown_atom" (defArgs s__law_grown_atom) (defBody s__law_grown_atom) (defScope s__law_grown_atom) .none kV41 dc41 pm41 an41 cd41 ct41), sl41⟩) (c41 : PySem.W.codeIn K cd41 "_law_grown_atom" = true) (k41 : PySem.W.keepIn K (.ref f41) = true)
    {od42 an42 : Option Addr} {sl42 : Array (Option Value)} {oc42 kV42 dc42 pm42 cd42 ct42 : Value} {f42 : Addr}
    (a42 : PySem.W.nsIn K mainGlobals "_law_grown" = some (some (.ref f42)))
    (l42 : K.lookup f42 = some ⟨oc42, od42, .func (PySem.W.fnOf "_law_grown" "_law_grown" (defArgs s__law_grown) (defBody s__law_grown) (defScope s__law_grown) .none kV42 dc42 pm42 an42 cd42 ct42), sl42⟩) (c42 : PySem.W.codeIn K cd42 "_law_grown" = true) (k42 : PySem.W.keepIn K (.ref f42) = true)
    {od43 an43 : Option Addr} {sl43 : Array (Option Value)} {oc43 kV43 dc43 pm43 cd43 ct43 : Value} {f43 : Addr}
    (a43 : PySem.W.nsIn K mainGlobals "law" = some (some (.ref f43)))
    (l43 : K.lookup f43 = some ⟨oc43, od43, .func (PySem.W.fnOf "law" "law" (defArgs s_law) (defBody s_law) (defScope s_law) .none kV43 dc43 pm43 an43 cd43 ct43), sl43⟩) (c43 : PySem.W.codeIn K cd43 "law" = true) (k43 : PySem.W.keepIn K (.ref f43) = true)
    {a_WORDS : Addr} {oc_WORDS : Value} {od_WORDS : Option Addr} {it_WORDS : Array Value} {n_WORDS : Nat} {sl_WORDS : Array (Option Value)} (z_WORDS : PySem.W.nsIn K mainGlobals "WORDS" = some (some (.ref a_WORDS))) (l_WORDS : K.lookup a_WORDS = some ⟨oc_WORDS, od_WORDS, .seq it_WORDS n_WORDS, sl_WORDS⟩) (v1_WORDS : oc_WORDS = .type "tuple") (v2_WORDS : it_WORDS.size ≤ sizeLine) (v3_WORDS : it_WORDS.toList.map absV = ([.str "all", .str "some", .str "not", .str "and", .str "or", .str "implies", .str "iff", .str "true", .str "false", .str "truth", .str "sort", .str "function", .str "axiom"] : List V).map some)
    {t_CAPITALS : Tok} (z_CAPITALS : PySem.W.nsIn K mainGlobals "CAPITALS" = some (some (.str "ABCDEFGHIJKLMNOPQRSTUVWXYZ" t_CAPITALS)))
    {t_SMALL_SIGNS : Tok} (z_SMALL_SIGNS : PySem.W.nsIn K mainGlobals "SMALL_SIGNS" = some (some (.str "abcdefghijklmnopqrstuvwxyz0123456789" t_SMALL_SIGNS)))
    {t_DIGITS : Tok} (z_DIGITS : PySem.W.nsIn K mainGlobals "DIGITS" = some (some (.str "0123456789" t_DIGITS)))
    {t_LONGEST : Tok} (z_LONGEST : PySem.W.nsIn K mainGlobals "LONGEST" = some (some (.int 8 t_LONGEST)))
    {t_TRUTH_SORT : Tok} (z_TRUTH_SORT : PySem.W.nsIn K mainGlobals "TRUTH_SORT" = some (some (.str "truth" t_TRUTH_SORT)))
    {a_TRUTH : Addr} {oc_TRUTH : Value} {od_TRUTH : Option Addr} {it_TRUTH : Array Value} {n_TRUTH : Nat} {sl_TRUTH : Array (Option Value)} (z_TRUTH : PySem.W.nsIn K mainGlobals "TRUTH" = some (some (.ref a_TRUTH))) (l_TRUTH : K.lookup a_TRUTH = some ⟨oc_TRUTH, od_TRUTH, .seq it_TRUTH n_TRUTH, sl_TRUTH⟩) (v1_TRUTH : oc_TRUTH = .type "tuple") (v2_TRUTH : it_TRUTH.size ≤ sizeLine) (v3_TRUTH : it_TRUTH.toList.map absV = ([.str "true"] : List V).map some)
    (n_ValueError : PySem.W.nsIn K mainGlobals "ValueError" = some none)
    (n_all : PySem.W.nsIn K mainGlobals "all" = some none)
    (n_bool : PySem.W.nsIn K mainGlobals "bool" = some none)
    (n_int : PySem.W.nsIn K mainGlobals "int" = some none)
    (n_isinstance : PySem.W.nsIn K mainGlobals "isinstance" = some none)
    (n_len : PySem.W.nsIn K mainGlobals "len" = some none)
    (n_list : PySem.W.nsIn K mainGlobals "list" = some none)
    (n_max : PySem.W.nsIn K mainGlobals "max" = some none)
    (n_range : PySem.W.nsIn K mainGlobals "range" = some none)
    (n_reversed : PySem.W.nsIn K mainGlobals "reversed" = some none)
    (n_str : PySem.W.nsIn K mainGlobals "str" = some none)
    (n_sum : PySem.W.nsIn K mainGlobals "sum" = some none)
    (n_tuple : PySem.W.nsIn K mainGlobals "tuple" = some none)
    (n_zip : PySem.W.nsIn K mainGlobals "zip" = some none)
    : ∃ fd : FuncData, (∀ (s : Shared) (v : Value), BindsTo s fd ⟨[v], []⟩ [("script", v)]) ∧ ∀ base : Heap, K.In base → base.Ns mainGlobals mg → FnOk l.prog w K mg base CX0 130 fa fd ["script"] (sp_lawK K) := by
  have e := hfa.symm.trans (PySem.W.mg_of X G a43)
  cases e
  have F0 := fun_mk (st := s_is_name) l0 c0 k0
  have F1 := fun_mk (st := s_is_variable_name) l1 c1 k1
  have F2 := fun_mk (st := s__has_form) l2 c2 k2
  have F3 := fun_mk (st := s_Vocabulary___init__) l3 c3 k3
  have F4 := fun_mk (st := s_Vocabulary_arguments) l4 c4 k4
  have F5 := fun_mk (st := s_Vocabulary_value_sort) l5 c5 k5
  have F6 := fun_mk (st := s__check_rows) l6 c6 k6
  have F7 := fun_mk (st := s_is_variable) l7 c7 k7
  have F8 := fun_mk (st := s_is_term) l8 c8 k8
  have F9 := fun_mk (st := s_is_atom) l9 c9 k9
  have F10 := fun_mk (st := s__layer_sort) l10 c10 k10
  have F11 := fun_mk (st := s__parts_fit) l11 c11 k11
  have F12 := fun_mk (st := s_sort_of) l12 c12 k12
  have F13 := fun_mk (st := s_subterms) l13 c13 k13
  have F14 := fun_mk (st := s_variables_of) l14 c14 k14
  have F15 := fun_mk (st := s_size_of) l15 c15 k15
  have F16 := fun_mk (st := s_part_at) l16 c16 k16
  have F17 := fun_mk (st := s_put_at) l17 c17 k17
  have F18 := fun_mk (st := s__part) l18 c18 k18
  have F19 := fun_mk (st := s_inner_places) l19 c19 k19
  have F20 := fun_mk (st := s__law_cell) l20 c20 k20
  have F21 := fun_mk (st := s__law_digits) l21 c21 k21
  have F22 := fun_mk (st := s__law_words) l22 c22 k22
  have F23 := fun_mk (st := s__law_names) l23 c23 k23
  have F24 := fun_mk (st := s__law_variable_names) l24 c24 k24
  have F25 := fun_mk (st := s__law_drawn_vocabulary) l25 c25 k25
  have F26 := fun_mk (st := s__law_term) l26 c26 k26
  have F27 := fun_mk (st := s__law_wrapped) l27 c27 k27
  have F28 := fun_mk (st := s__law_is_variable) l28 c28 k28
  have F29 := fun_mk (st := s__law_symbols) l29 c29 k29
  have F30 := fun_mk (st := s__law_term_variables) l30 c30 k30
  have F31 := fun_mk (st := s__law_all_places) l31 c31 k31
  have F32 := fun_mk (st := s__law_put) l32 c32 k32
  have F33 := fun_mk (st := s__law_applied) l33 c33 k33
  have F34 := fun_mk (st := s__law_large) l34 c34 k34
  have F35 := fun_mk (st := s__law_chain) l35 c35 k35
  have F36 := fun_mk (st := s__law_value) l36 c36 k36
  have F37 := fun_mk (st := s__law_sort) l37 c37 k37
  have F38 := fun_mk (st := s__law_refused) l38 c38 k38
  have F39 := fun_mk (st := s__law_listed) l39 c39 k39
  have F40 := fun_mk (st := s__law_asked) l40 c40 k40
  have F41 := fun_mk (st := s__law_grown_atom) l41 c41 k41
  have F42 := fun_mk (st := s__law_grown) l42 c42 k42
  have F43 := fun_mk (st := s_law) l43 c43 k43
  let T : Top0 l.prog K mg := { C_Vocabulary := C_Vocabulary, cl_Vocabulary := ⟨pg_Vocabulary, hd_Vocabulary, po_Vocabulary, sa_Vocabulary⟩, g_Vocabulary := PySem.W.mg_of X G aC_Vocabulary, na_Vocabulary_sorts := na_Vocabulary_sorts, na_Vocabulary_functions := na_Vocabulary_functions, na_Vocabulary_predicates := na_Vocabulary_predicates, na_Vocabulary__names := na_Vocabulary__names, na_Vocabulary__argument_sorts := na_Vocabulary__argument_sorts, na_Vocabulary__value_sorts := na_Vocabulary__value_sorts, mk_Vocabulary := ⟨mk_Vocabulary, a3, i3, kc_Vocabulary⟩, C_ClaimError := C_ClaimError, a_ClaimError := aE_ClaimError, g_ClaimError := PySem.W.mg_of X G aE_ClaimError, C_TextError := C_TextError, a_TextError := aE_TextError, g_TextError := PySem.W.mg_of X G aE_TextError, C_BadName := C_BadName, a_BadName := aE_BadName, g_BadName := PySem.W.mg_of X G aE_BadName, C_NameTaken := C_NameTaken, a_NameTaken := aE_NameTaken, g_NameTaken := PySem.W.mg_of X G aE_NameTaken, C_NoSort := C_NoSort, a_NoSort := aE_NoSort, g_NoSort := PySem.W.mg_of X G aE_NoSort, C_BadTable := C_BadTable, a_BadTable := aE_BadTable, g_BadTable := PySem.W.mg_of X G aE_BadTable, C_BadSize := C_BadSize, a_BadSize := aE_BadSize, g_BadSize := PySem.W.mg_of X G aE_BadSize, C_FilledTwice := C_FilledTwice, a_FilledTwice := aE_FilledTwice, g_FilledTwice := PySem.W.mg_of X G aE_FilledTwice, C_NoSelection := C_NoSelection, a_NoSelection := aE_NoSelection, g_NoSelection := PySem.W.mg_of X G aE_NoSelection, E_BadPlace := E_BadPlace, kit := kit, exm := exm, insv := insv, insa := insa, n_super := PySem.W.mg_none_of X G nsup, f_is_name := f0, fd_is_name := _, F_is_name := F0, b_is_name := F0.binds (ps := ["value"]) (fun _ _ _ _ _ _ us hl => match us, hl with | [_], _ => rfl), g_is_name := PySem.W.mg_of X G a0, f_is_variable_name := f1, fd_is_variable_name := _, F_is_variable_name := F1, b_is_variable_name := F1.binds (ps := ["value"]) (fun _ _ _ _ _ _ us hl => match us, hl with | [_], _ => rfl), g_is_variable_name := PySem.W.mg_of X G a1, f__has_form := f2, fd__has_form := _, F__has_form := F2, b__has_form := F2.binds (ps := ["value"]) (fun _ _ _ _ _ _ us hl => match us, hl with | [_], _ => rfl), g__has_form := PySem.W.mg_of X G a2, f_Vocabulary___init__ := f3, fd_Vocabulary___init__ := _, F_Vocabulary___init__ := F3, b_Vocabulary___init__ := F3.binds (ps := ["self", "sorts", "functions", "predicates"]) (fun _ _ _ _ _ _ us hl => match us, hl with | [_, _, _, _], _ => rfl), f_Vocabulary_arguments := f4, fd_Vocabulary_arguments := _, F_Vocabulary_arguments := F4, b_Vocabulary_arguments := F4.binds (ps := ["self", "name"]) (fun _ _ _ _ _ _ us hl => match us, hl with | [_, _], _ => rfl), m_Vocabulary_arguments := ⟨a4, i4, k4⟩, f_Vocabulary_value_sort := f5, fd_Vocabulary_value_sort := _, F_Vocabulary_value_sort := F5, b_Vocabulary_value_sort := F5.binds (ps := ["self", "name"]) (fun _ _ _ _ _ _ us hl => match us, hl with | [_, _], _ => rfl), m_Vocabulary_value_sort := ⟨a5, i5, k5⟩, f__check_rows := f6, fd__check_rows := _, F__check_rows := F6, b__check_rows := F6.binds (ps := ["rows", "sorts"]) (fun _ _ _ _ _ _ us hl => match us, hl with | [_, _], _ => rfl), g__check_rows := PySem.W.mg_of X G a6, f_is_variable := f7, fd_is_variable := _, F_is_variable := F7, b_is_variable := F7.binds (ps := ["term"]) (fun _ _ _ _ _ _ us hl => match us, hl with | [_], _ => rfl), g_is_variable := PySem.W.mg_of X G a7, f_is_term := f8, fd_is_term := _, F_is_term := F8, b_is_term := F8.binds (ps := ["vocabulary", "value"]) (fun _ _ _ _ _ _ us hl => match us, hl with | [_, _], _ => rfl), g_is_term := PySem.W.mg_of X G a8, f_is_atom := f9, fd_is_atom := _, F_is_atom := F9, b_is_atom := F9.binds (ps := ["vocabulary", "value"]) (fun _ _ _ _ _ _ us hl => match us, hl with | [_, _], _ => rfl), g_is_atom := PySem.W.mg_of X G a9, f__layer_sort := f10, fd__layer_sort := _, F__layer_sort := F10, b__layer_sort := F10.binds (ps := ["vocabulary", "value"]) (fun _ _ _ _ _ _ us hl => match us, hl with | [_, _], _ => rfl), g__layer_sort := PySem.W.mg_of X G a10, f__parts_fit := f11, fd__parts_fit := _, F__parts_fit := F11, b__parts_fit := F11.binds (ps := ["vocabulary", "term"]) (fun _ _ _ _ _ _ us hl => match us, hl with | [_, _], _ => rfl), g__parts_fit := PySem.W.mg_of X G a11, f_sort_of := f12, fd_sort_of := _, F_sort_of := F12, b_sort_of := F12.binds (ps := ["vocabulary", "term"]) (fun _ _ _ _ _ _ us hl => match us, hl with | [_, _], _ => rfl), g_sort_of := PySem.W.mg_of X G a12, f_subterms := f13, fd_subterms := _, F_subterms := F13, b_subterms := F13.binds (ps := ["term"]) (fun _ _ _ _ _ _ us hl => match us, hl with | [_], _ => rfl), g_subterms := PySem.W.mg_of X G a13, f_variables_of := f14, fd_variables_of := _, F_variables_of := F14, b_variables_of := F14.binds (ps := ["term"]) (fun _ _ _ _ _ _ us hl => match us, hl with | [_], _ => rfl), g_variables_of := PySem.W.mg_of X G a14, f_size_of := f15, fd_size_of := _, F_size_of := F15, b_size_of := F15.binds (ps := ["term"]) (fun _ _ _ _ _ _ us hl => match us, hl with | [_], _ => rfl), g_size_of := PySem.W.mg_of X G a15, f_part_at := f16, fd_part_at := _, F_part_at := F16, b_part_at := F16.binds (ps := ["term", "place"]) (fun _ _ _ _ _ _ us hl => match us, hl with | [_, _], _ => rfl), g_part_at := PySem.W.mg_of X G a16, f_put_at := f17, fd_put_at := _, F_put_at := F17, b_put_at := F17.binds (ps := ["term", "place", "new"]) (fun _ _ _ _ _ _ us hl => match us, hl with | [_, _, _], _ => rfl), g_put_at := PySem.W.mg_of X G a17, f__part := f18, fd__part := _, F__part := F18, b__part := F18.binds (ps := ["term", "number", "place"]) (fun _ _ _ _ _ _ us hl => match us, hl with | [_, _, _], _ => rfl), g__part := PySem.W.mg_of X G a18, f_inner_places := f19, fd_inner_places := _, F_inner_places := F19, b_inner_places := F19.binds (ps := ["term"]) (fun _ _ _ _ _ _ us hl => match us, hl with | [_], _ => rfl), g_inner_places := PySem.W.mg_of X G a19, f__law_cell := f20, fd__law_cell := _, F__law_cell := F20, b__law_cell := F20.binds (ps := ["script", "k"]) (fun _ _ _ _ _ _ us hl => match us, hl with | [_, _], _ => rfl), g__law_cell := PySem.W.mg_of X G a20, f__law_digits := f21, fd__law_digits := _, F__law_digits := F21, b__law_digits := F21.binds (ps := ["cell", "sizes"]) (fun _ _ _ _ _ _ us hl => match us, hl with | [_, _], _ => rfl), g__law_digits := PySem.W.mg_of X G a21, f__law_words := f22, fd__law_words := _, F__law_words := F22, b__law_words := F22.binds (ps := []) (fun _ _ _ _ _ _ us hl => match us, hl with | [], _ => rfl), g__law_words := PySem.W.mg_of X G a22, f__law_names := f23, fd__law_names := _, F__law_names := F23, b__law_names := F23.binds (ps := ["row", "many"]) (fun _ _ _ _ _ _ us hl => match us, hl with | [_, _], _ => rfl), g__law_names := PySem.W.mg_of X G a23, f__law_variable_names := f24, fd__law_variable_names := _, F__law_variable_names := F24, b__law_variable_names := F24.binds (ps := ["row", "many"]) (fun _ _ _ _ _ _ us hl => match us, hl with | [_, _], _ => rfl), g__law_variable_names := PySem.W.mg_of X G a24, f__law_drawn_vocabulary := f25, fd__law_drawn_vocabulary := _, F__law_drawn_vocabulary := F25, b__law_drawn_vocabulary := F25.binds (ps := ["first", "second", "third"]) (fun _ _ _ _ _ _ us hl => match us, hl with | [_, _, _], _ => rfl), g__law_drawn_vocabulary := PySem.W.mg_of X G a25, f__law_term := f26, fd__law_term := _, F__law_term := F26, b__law_term := F26.binds (ps := ["vocabulary", "sort", "row", "at", "deep", "variables"]) (fun _ _ _ _ _ _ us hl => match us, hl with | [_, _, _, _, _, _], _ => rfl), g__law_term := PySem.W.mg_of X G a26, f__law_wrapped := f27, fd__law_wrapped := _, F__law_wrapped := F27, b__law_wrapped := F27.binds (ps := ["vocabulary", "tree", "sort", "row", "many", "variables"]) (fun _ _ _ _ _ _ us hl => match us, hl with | [_, _, _, _, _, _], _ => rfl), g__law_wrapped := PySem.W.mg_of X G a27, f__law_is_variable := f28, fd__law_is_variable := _, F__law_is_variable := F28, b__law_is_variable := F28.binds (ps := ["tree"]) (fun _ _ _ _ _ _ us hl => match us, hl with | [_], _ => rfl), g__law_is_variable := PySem.W.mg_of X G a28, f__law_symbols := f29, fd__law_symbols := _, F__law_symbols := F29, b__law_symbols := F29.binds (ps := ["tree"]) (fun _ _ _ _ _ _ us hl => match us, hl with | [_], _ => rfl), g__law_symbols := PySem.W.mg_of X G a29, f__law_term_variables := f30, fd__law_term_variables := _, F__law_term_variables := F30, b__law_term_variables := F30.binds (ps := ["tree", "known"]) (fun _ _ _ _ _ _ us hl => match us, hl with | [_, _], _ => rfl), g__law_term_variables := PySem.W.mg_of X G a30, f__law_all_places := f31, fd__law_all_places := _, F__law_all_places := F31, b__law_all_places := F31.binds (ps := ["tree", "spot"]) (fun _ _ _ _ _ _ us hl => match us, hl with | [_, _], _ => rfl), g__law_all_places := PySem.W.mg_of X G a31, f__law_put := f32, fd__law_put := _, F__law_put := F32, b__law_put := F32.binds (ps := ["tree", "spot", "fresh"]) (fun _ _ _ _ _ _ us hl => match us, hl with | [_, _, _], _ => rfl), g__law_put := PySem.W.mg_of X G a32, f__law_applied := f33, fd__law_applied := _, F__law_applied := F33, b__law_applied := F33.binds (ps := ["vocabulary", "head", "row", "deep", "variables"]) (fun _ _ _ _ _ _ us hl => match us, hl with | [_, _, _, _, _], _ => rfl), g__law_applied := PySem.W.mg_of X G a33, f__law_large := f34, fd__law_large := _, F__law_large := F34, b__law_large := F34.binds (ps := ["vocabulary", "digit", "row", "deep", "variables"]) (fun _ _ _ _ _ _ us hl => match us, hl with | [_, _, _, _, _], _ => rfl), g__law_large := PySem.W.mg_of X G a34, f__law_chain := f35, fd__law_chain := _, F__law_chain := F35, b__law_chain := F35.binds (ps := ["vocabulary", "digit", "row", "many", "variables"]) (fun _ _ _ _ _ _ us hl => match us, hl with | [_, _, _, _, _], _ => rfl), g__law_chain := PySem.W.mg_of X G a35, f__law_value := f36, fd__law_value := _, F__law_value := F36, b__law_value := F36.binds (ps := ["vocabulary", "cell", "variables"]) (fun _ _ _ _ _ _ us hl => match us, hl with | [_, _, _], _ => rfl), g__law_value := PySem.W.mg_of X G a36, f__law_sort := f37, fd__law_sort := _, F__law_sort := F37, b__law_sort := F37.binds (ps := ["vocabulary", "tree"]) (fun _ _ _ _ _ _ us hl => match us, hl with | [_, _], _ => rfl), g__law_sort := PySem.W.mg_of X G a37, f__law_refused := f38, fd__law_refused := _, F__law_refused := F38, b__law_refused := F38.binds (ps := ["tree", "spot", "fresh"]) (fun _ _ _ _ _ _ us hl => match us, hl with | [_, _, _], _ => rfl), g__law_refused := PySem.W.mg_of X G a38, f__law_listed := f39, fd__law_listed := _, F__law_listed := F39, b__law_listed := F39.binds (ps := ["tree"]) (fun _ _ _ _ _ _ us hl => match us, hl with | [_], _ => rfl), g__law_listed := PySem.W.mg_of X G a39, f__law_asked := f40, fd__law_asked := _, F__law_asked := F40, b__law_asked := F40.binds (ps := ["vocabulary", "tree", "cell", "variables"]) (fun _ _ _ _ _ _ us hl => match us, hl with | [_, _, _, _], _ => rfl), g__law_asked := PySem.W.mg_of X G a40, f__law_grown_atom := f41, fd__law_grown_atom := _, F__law_grown_atom := F41, b__law_grown_atom := F41.binds (ps := ["vocabulary", "book", "grown", "sort"]) (fun _ _ _ _ _ _ us hl => match us, hl with | [_, _, _, _], _ => rfl), g__law_grown_atom := PySem.W.mg_of X G a41, f__law_grown := f42, fd__law_grown := _, F__law_grown := F42, b__law_grown := F42.binds (ps := ["vocabulary", "book", "tree", "row"]) (fun _ _ _ _ _ _ us hl => match us, hl with | [_, _, _, _], _ => rfl), g__law_grown := PySem.W.mg_of X G a42, f_law := fa, fd_law := _, F_law := F43, b_law := F43.binds (ps := ["script"]) (fun _ _ _ _ _ _ us hl => match us, hl with | [_], _ => rfl), g_law := PySem.W.mg_of X G a43, kb_inner_places := fun_kbn F19 (fun _ _ _ _ _ _ ws hl => match ws, hl with | [_], _ => rfl), kb_variables_of := fun_kbn F14 (fun _ _ _ _ _ _ ws hl => match ws, hl with | [_], _ => rfl), kr_part_at := fun_kbr F16 (fun _ _ _ _ _ _ _ _ => rfl), kr_put_at := fun_kbg F17 rel_appr (fun _ _ _ _ _ _ us ws h0 h1 => match us, h0, ws, h1 with | [], _, [_, _, _], _ => rfl), n_ValueError := PySem.W.mg_none_of X G n_ValueError, n_all := PySem.W.mg_none_of X G n_all, n_bool := PySem.W.mg_none_of X G n_bool, n_int := PySem.W.mg_none_of X G n_int, n_isinstance := PySem.W.mg_none_of X G n_isinstance, n_len := PySem.W.mg_none_of X G n_len, n_list := PySem.W.mg_none_of X G n_list, n_max := PySem.W.mg_none_of X G n_max, n_range := PySem.W.mg_none_of X G n_range, n_reversed := PySem.W.mg_none_of X G n_reversed, n_str := PySem.W.mg_none_of X G n_str, n_sum := PySem.W.mg_none_of X G n_sum, n_tuple := PySem.W.mg_none_of X G n_tuple, n_zip := PySem.W.mg_none_of X G n_zip, a_WORDS := a_WORDS, c_WORDS := PySem.W.mg_of X G z_WORDS, q_WORDS := fun H => sqt_K l_WORDS v1_WORDS v2_WORDS v3_WORDS H, t_CAPITALS := t_CAPITALS, c_CAPITALS := PySem.W.mg_of X G z_CAPITALS, t_SMALL_SIGNS := t_SMALL_SIGNS, c_SMALL_SIGNS := PySem.W.mg_of X G z_SMALL_SIGNS, t_DIGITS := t_DIGITS, c_DIGITS := PySem.W.mg_of X G z_DIGITS, t_LONGEST := t_LONGEST, c_LONGEST := PySem.W.mg_of X G z_LONGEST, t_TRUTH_SORT := t_TRUTH_SORT, c_TRUTH_SORT := PySem.W.mg_of X G z_TRUTH_SORT, a_TRUTH := a_TRUTH, c_TRUTH := PySem.W.mg_of X G z_TRUTH, q_TRUTH := fun H => sqt_K l_TRUTH v1_TRUTH v2_TRUTH v3_TRUTH H }
  exact ⟨_, fun s v => .of_eq rfl, fun base _ _ => ok_law T⟩
end K03

open PySem PySem.W PyProof.Rows
set_option hygiene false in
local macro_rules | `(tactic| walk_at "mk_err") => `(tactic| (refine' CW.errT_mk kX kG kB ?e1 ?e2 ?e3 ?e4 ?e5 ?e6 ?e7 ?e8 ?e9 ?f1 ?f2 ?f3 ?f4 ?f5 ?f6 ?f7 ?f8 ?f9 ?g1 ?g2 ?g3 ?r1 ?r2 ?r3 ?r4 ⟨_, rfl, rfl⟩ (fun us hl => match us, hl with | [_, _], _ => rfl); (case e1 => as_aux_lemma => k_is); (case e2 => as_aux_lemma => k_is); (case e3 => as_aux_lemma => k_is); (case e4 => as_aux_lemma => k_is); (case e5 => as_aux_lemma => k_is); (case e6 => as_aux_lemma => k_is); (case e7 => as_aux_lemma => k_is); (case e8 => as_aux_lemma => k_is); (case e9 => as_aux_lemma => k_is); (case f1 => as_aux_lemma => k_is); (case f2 => as_aux_lemma => k_is); (case f3 => as_aux_lemma => k_is); (case f4 => as_aux_lemma => k_is); (case f5 => as_aux_lemma => k_is); (case f6 => as_aux_lemma => k_is); (case f7 => as_aux_lemma => k_is); (case f8 => as_aux_lemma => k_is); (case f9 => as_aux_lemma => k_is); (case g1 => as_aux_lemma => k_is); (case g2 => as_aux_lemma => k_is); (case g3 => as_aux_lemma => k_is); (case r1 => rfl); (case r2 => rfl); (case r3 => kernel_rfl); (case r4 => kernel_rfl)))
set_option maxRecDepth 100000 in
set_option maxHeartbeats 0 in
theorem PySem.Challenge.cw_claimworlds_k03_places_of_terms_holds : PySem.Challenge.rw_claimworlds_k03_places_of_terms.Holds := by
  w_on; o_law; k_headL; (case hw => w_witness2)
  k_fill
  refine L2.walk_of (l := PySem.Challenge.rw_claimworlds_k03_places_of_terms) (n := 63) (k := 130) (x := "script") (CX := fun _ => L2.CX0) (sp := fun w => K03.sp_lawK _) rfl (by decide) rfl ⟨rfl, by decide, by decide⟩ (fun w h Y => PySem.W.kIn_of Y) ?F (fun _ _ a ns hl _ hS => ⟨a, ns, rfl, hS, hl, fun _ => rfl⟩) (fun _ _ _ _ _ h => h)
  case F =>
    intro w mg fa h KX G hmg
    have kB : CW.ErrAll (PySem.Challenge.rw_claimworlds_k03_places_of_terms).prog _ mg := CW.errAll_mk KX (by k_is) (by k_is) (by k_is) rfl
    have kX := KX
    have kG := G
    refine' K03.all_mk (l := PySem.Challenge.rw_claimworlds_k03_places_of_terms) KX G hmg ?nsup ?aE_ClaimError ?aE_TextError ?aE_BadName ?aE_NameTaken ?aE_NoSort ?aE_BadTable ?aE_BadSize ?aE_FilledTwice ?aE_NoSelection ?E_BadPlace ?kit ?exm ?insv ?insa ?aC_Vocabulary ?pg_Vocabulary ?hd_Vocabulary ?po_Vocabulary ?sa_Vocabulary ?mk_Vocabulary ?kc_Vocabulary ?na_Vocabulary_sorts ?na_Vocabulary_functions ?na_Vocabulary_predicates ?na_Vocabulary__names ?na_Vocabulary__argument_sorts ?na_Vocabulary__value_sorts ?a0 ?l0 ?c0 ?k0 ?a1 ?l1 ?c1 ?k1 ?a2 ?l2 ?c2 ?k2 ?a3 ?i3 ?l3 ?c3 ?k3 ?a4 ?i4 ?l4 ?c4 ?k4 ?a5 ?i5 ?l5 ?c5 ?k5 ?a6 ?l6 ?c6 ?k6 ?a7 ?l7 ?c7 ?k7 ?a8 ?l8 ?c8 ?k8 ?a9 ?l9 ?c9 ?k9 ?a10 ?l10 ?c10 ?k10 ?a11 ?l11 ?c11 ?k11 ?a12 ?l12 ?c12 ?k12 ?a13 ?l13 ?c13 ?k13 ?a14 ?l14 ?c14 ?k14 ?a15 ?l15 ?c15 ?k15 ?a16 ?l16 ?c16 ?k16 ?a17 ?l17 ?c17 ?k17 ?a18 ?l18 ?c18 ?k18 ?a19 ?l19 ?c19 ?k19 ?a20 ?l20 ?c20 ?k20 ?a21 ?l21 ?c21 ?k21 ?a22 ?l22 ?c22 ?k22 ?a23 ?l23 ?c23 ?k23 ?a24 ?l24 ?c24 ?k24 ?a25 ?l25 ?c25 ?k25 ?a26 ?l26 ?c26 ?k26 ?a27 ?l27 ?c27 ?k27 ?a28 ?l28 ?c28 ?k28 ?a29 ?l29 ?c29 ?k29 ?a30 ?l30 ?c30 ?k30 ?a31 ?l31 ?c31 ?k31 ?a32 ?l32 ?c32 ?k32 ?a33 ?l33 ?c33 ?k33 ?a34 ?l34 ?c34 ?k34 ?a35 ?l35 ?c35 ?k35 ?a36 ?l36 ?c36 ?k36 ?a37 ?l37 ?c37 ?k37 ?a38 ?l38 ?c38 ?k38 ?a39 ?l39 ?c39 ?k39 ?a40 ?l40 ?c40 ?k40 ?a41 ?l41 ?c41 ?k41 ?a42 ?l42 ?c42 ?k42 ?a43 ?l43 ?c43 ?k43 ?z_WORDS ?l_WORDS ?v1_WORDS ?v2_WORDS ?v3_WORDS ?z_CAPITALS ?z_SMALL_SIGNS ?z_DIGITS ?z_LONGEST ?z_TRUTH_SORT ?z_TRUTH ?l_TRUTH ?v1_TRUTH ?v2_TRUTH ?v3_TRUTH ?n_ValueError ?n_all ?n_bool ?n_int ?n_isinstance ?n_len ?n_list ?n_max ?n_range ?n_reversed ?n_str ?n_sum ?n_tuple ?n_zip
    (case nsup => as_aux_lemma => k_is)
    (case aE_ClaimError => as_aux_lemma => k_is)
    (case aE_TextError => as_aux_lemma => k_is)
    (case aE_BadName => as_aux_lemma => k_is)
    (case aE_NameTaken => as_aux_lemma => k_is)
    (case aE_NoSort => as_aux_lemma => k_is)
    (case aE_BadTable => as_aux_lemma => k_is)
    (case aE_BadSize => as_aux_lemma => k_is)
    (case aE_FilledTwice => as_aux_lemma => k_is)
    (case aE_NoSelection => as_aux_lemma => k_is)
    (case insa => as_aux_lemma => k_is)
    (case aC_Vocabulary => as_aux_lemma => k_is)
    (case pg_Vocabulary => as_aux_lemma => k_is)
    (case hd_Vocabulary => as_aux_lemma => k_is)
    (case po_Vocabulary => as_aux_lemma => k_is)
    (case sa_Vocabulary => as_aux_lemma => k_is)
    (case mk_Vocabulary => as_aux_lemma => k_is)
    (case kc_Vocabulary => as_aux_lemma => k_is)
    (case na_Vocabulary_sorts => as_aux_lemma => k_is)
    (case na_Vocabulary_functions => as_aux_lemma => k_is)
    (case na_Vocabulary_predicates => as_aux_lemma => k_is)
    (case na_Vocabulary__names => as_aux_lemma => k_is)
    (case na_Vocabulary__argument_sorts => as_aux_lemma => k_is)
    (case na_Vocabulary__value_sorts => as_aux_lemma => k_is)
    (case a0 => as_aux_lemma => k_is)
    (case l0 => as_aux_lemma => k_is)
    (case c0 => as_aux_lemma => k_is)
    (case k0 => as_aux_lemma => k_is)
    (case a1 => as_aux_lemma => k_is)
    (case l1 => as_aux_lemma => k_is)
    (case c1 => as_aux_lemma => k_is)
    (case k1 => as_aux_lemma => k_is)
    (case a2 => as_aux_lemma => k_is)
    (case l2 => as_aux_lemma => k_is)
    (case c2 => as_aux_lemma => k_is)
    (case k2 => as_aux_lemma => k_is)
    (case a3 => as_aux_lemma => k_is)
    (case i3 => as_aux_lemma => k_is)
    (case l3 => as_aux_lemma => k_is)
    (case c3 => as_aux_lemma => k_is)
    (case k3 => as_aux_lemma => k_is)
    (case a4 => as_aux_lemma => k_is)
    (case i4 => as_aux_lemma => k_is)
    (case l4 => as_aux_lemma => k_is)
    (case c4 => as_aux_lemma => k_is)
    (case k4 => as_aux_lemma => k_is)
    (case a5 => as_aux_lemma => k_is)
    (case i5 => as_aux_lemma => k_is)
    (case l5 => as_aux_lemma => k_is)
    (case c5 => as_aux_lemma => k_is)
    (case k5 => as_aux_lemma => k_is)
    (case a6 => as_aux_lemma => k_is)
    (case l6 => as_aux_lemma => k_is)
    (case c6 => as_aux_lemma => k_is)
    (case k6 => as_aux_lemma => k_is)
    (case a7 => as_aux_lemma => k_is)
    (case l7 => as_aux_lemma => k_is)
    (case c7 => as_aux_lemma => k_is)
    (case k7 => as_aux_lemma => k_is)
    (case a8 => as_aux_lemma => k_is)
    (case l8 => as_aux_lemma => k_is)
    (case c8 => as_aux_lemma => k_is)
    (case k8 => as_aux_lemma => k_is)
    (case a9 => as_aux_lemma => k_is)
    (case l9 => as_aux_lemma => k_is)
    (case c9 => as_aux_lemma => k_is)
    (case k9 => as_aux_lemma => k_is)
    (case a10 => as_aux_lemma => k_is)
    (case l10 => as_aux_lemma => k_is)
    (case c10 => as_aux_lemma => k_is)
    (case k10 => as_aux_lemma => k_is)
    (case a11 => as_aux_lemma => k_is)
    (case l11 => as_aux_lemma => k_is)
    (case c11 => as_aux_lemma => k_is)
    (case k11 => as_aux_lemma => k_is)
    (case a12 => as_aux_lemma => k_is)
    (case l12 => as_aux_lemma => k_is)
    (case c12 => as_aux_lemma => k_is)
    (case k12 => as_aux_lemma => k_is)
    (case a13 => as_aux_lemma => k_is)
    (case l13 => as_aux_lemma => k_is)
    (case c13 => as_aux_lemma => k_is)
    (case k13 => as_aux_lemma => k_is)
    (case a14 => as_aux_lemma => k_is)
    (case l14 => as_aux_lemma => k_is)
    (case c14 => as_aux_lemma => k_is)
    (case k14 => as_aux_lemma => k_is)
    (case a15 => as_aux_lemma => k_is)
    (case l15 => as_aux_lemma => k_is)
    (case c15 => as_aux_lemma => k_is)
    (case k15 => as_aux_lemma => k_is)
    (case a16 => as_aux_lemma => k_is)
    (case l16 => as_aux_lemma => k_is)
    (case c16 => as_aux_lemma => k_is)
    (case k16 => as_aux_lemma => k_is)
    (case a17 => as_aux_lemma => k_is)
    (case l17 => as_aux_lemma => k_is)
    (case c17 => as_aux_lemma => k_is)
    (case k17 => as_aux_lemma => k_is)
    (case a18 => as_aux_lemma => k_is)
    (case l18 => as_aux_lemma => k_is)
    (case c18 => as_aux_lemma => k_is)
    (case k18 => as_aux_lemma => k_is)
    (case a19 => as_aux_lemma => k_is)
    (case l19 => as_aux_lemma => k_is)
    (case c19 => as_aux_lemma => k_is)
    (case k19 => as_aux_lemma => k_is)
    (case a20 => as_aux_lemma => k_is)
    (case l20 => as_aux_lemma => k_is)
    (case c20 => as_aux_lemma => k_is)
    (case k20 => as_aux_lemma => k_is)
    (case a21 => as_aux_lemma => k_is)
    (case l21 => as_aux_lemma => k_is)
    (case c21 => as_aux_lemma => k_is)
    (case k21 => as_aux_lemma => k_is)
    (case a22 => as_aux_lemma => k_is)
    (case l22 => as_aux_lemma => k_is)
    (case c22 => as_aux_lemma => k_is)
    (case k22 => as_aux_lemma => k_is)
    (case a23 => as_aux_lemma => k_is)
    (case l23 => as_aux_lemma => k_is)
    (case c23 => as_aux_lemma => k_is)
    (case k23 => as_aux_lemma => k_is)
    (case a24 => as_aux_lemma => k_is)
    (case l24 => as_aux_lemma => k_is)
    (case c24 => as_aux_lemma => k_is)
    (case k24 => as_aux_lemma => k_is)
    (case a25 => as_aux_lemma => k_is)
    (case l25 => as_aux_lemma => k_is)
    (case c25 => as_aux_lemma => k_is)
    (case k25 => as_aux_lemma => k_is)
    (case a26 => as_aux_lemma => k_is)
    (case l26 => as_aux_lemma => k_is)
    (case c26 => as_aux_lemma => k_is)
    (case k26 => as_aux_lemma => k_is)
    (case a27 => as_aux_lemma => k_is)
    (case l27 => as_aux_lemma => k_is)
    (case c27 => as_aux_lemma => k_is)
    (case k27 => as_aux_lemma => k_is)
    (case a28 => as_aux_lemma => k_is)
    (case l28 => as_aux_lemma => k_is)
    (case c28 => as_aux_lemma => k_is)
    (case k28 => as_aux_lemma => k_is)
    (case a29 => as_aux_lemma => k_is)
    (case l29 => as_aux_lemma => k_is)
    (case c29 => as_aux_lemma => k_is)
    (case k29 => as_aux_lemma => k_is)
    (case a30 => as_aux_lemma => k_is)
    (case l30 => as_aux_lemma => k_is)
    (case c30 => as_aux_lemma => k_is)
    (case k30 => as_aux_lemma => k_is)
    (case a31 => as_aux_lemma => k_is)
    (case l31 => as_aux_lemma => k_is)
    (case c31 => as_aux_lemma => k_is)
    (case k31 => as_aux_lemma => k_is)
    (case a32 => as_aux_lemma => k_is)
    (case l32 => as_aux_lemma => k_is)
    (case c32 => as_aux_lemma => k_is)
    (case k32 => as_aux_lemma => k_is)
    (case a33 => as_aux_lemma => k_is)
    (case l33 => as_aux_lemma => k_is)
    (case c33 => as_aux_lemma => k_is)
    (case k33 => as_aux_lemma => k_is)
    (case a34 => as_aux_lemma => k_is)
    (case l34 => as_aux_lemma => k_is)
    (case c34 => as_aux_lemma => k_is)
    (case k34 => as_aux_lemma => k_is)
    (case a35 => as_aux_lemma => k_is)
    (case l35 => as_aux_lemma => k_is)
    (case c35 => as_aux_lemma => k_is)
    (case k35 => as_aux_lemma => k_is)
    (case a36 => as_aux_lemma => k_is)
    (case l36 => as_aux_lemma => k_is)
    (case c36 => as_aux_lemma => k_is)
    (case k36 => as_aux_lemma => k_is)
    (case a37 => as_aux_lemma => k_is)
    (case l37 => as_aux_lemma => k_is)
    (case c37 => as_aux_lemma => k_is)
    (case k37 => as_aux_lemma => k_is)
    (case a38 => as_aux_lemma => k_is)
    (case l38 => as_aux_lemma => k_is)
    (case c38 => as_aux_lemma => k_is)
    (case k38 => as_aux_lemma => k_is)
    (case a39 => as_aux_lemma => k_is)
    (case l39 => as_aux_lemma => k_is)
    (case c39 => as_aux_lemma => k_is)
    (case k39 => as_aux_lemma => k_is)
    (case a40 => as_aux_lemma => k_is)
    (case l40 => as_aux_lemma => k_is)
    (case c40 => as_aux_lemma => k_is)
    (case k40 => as_aux_lemma => k_is)
    (case a41 => as_aux_lemma => k_is)
    (case l41 => as_aux_lemma => k_is)
    (case c41 => as_aux_lemma => k_is)
    (case k41 => as_aux_lemma => k_is)
    (case a42 => as_aux_lemma => k_is)
    (case l42 => as_aux_lemma => k_is)
    (case c42 => as_aux_lemma => k_is)
    (case k42 => as_aux_lemma => k_is)
    (case a43 => as_aux_lemma => k_is)
    (case l43 => as_aux_lemma => k_is)
    (case c43 => as_aux_lemma => k_is)
    (case k43 => as_aux_lemma => k_is)
    (case z_WORDS => as_aux_lemma => k_is)
    (case l_WORDS => as_aux_lemma => k_is)
    (case z_CAPITALS => as_aux_lemma => k_is)
    (case z_SMALL_SIGNS => as_aux_lemma => k_is)
    (case z_DIGITS => as_aux_lemma => k_is)
    (case z_LONGEST => as_aux_lemma => k_is)
    (case z_TRUTH_SORT => as_aux_lemma => k_is)
    (case z_TRUTH => as_aux_lemma => k_is)
    (case l_TRUTH => as_aux_lemma => k_is)
    (case n_ValueError => as_aux_lemma => k_is)
    (case n_all => as_aux_lemma => k_is)
    (case n_bool => as_aux_lemma => k_is)
    (case n_int => as_aux_lemma => k_is)
    (case n_isinstance => as_aux_lemma => k_is)
    (case n_len => as_aux_lemma => k_is)
    (case n_list => as_aux_lemma => k_is)
    (case n_max => as_aux_lemma => k_is)
    (case n_range => as_aux_lemma => k_is)
    (case n_reversed => as_aux_lemma => k_is)
    (case n_str => as_aux_lemma => k_is)
    (case n_sum => as_aux_lemma => k_is)
    (case n_tuple => as_aux_lemma => k_is)
    (case n_zip => as_aux_lemma => k_is)
    (case E_BadPlace => walk_at "mk_err")
    (case kit => kernel_rfl)
    (case exm => kernel_rfl)
    (case insv => kernel_rfl)
    (case v1_WORDS => rfl)
    (case v2_WORDS => decide)
    (case v3_WORDS => rfl)
    (case v1_TRUTH => rfl)
    (case v2_TRUTH => decide)
    (case v3_TRUTH => rfl)

