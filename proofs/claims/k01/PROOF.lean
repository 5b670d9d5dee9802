import PyProof.Rows.All
import Wide.All
import OpenK.AllK
import Wide.FinOn
import KE.KStateDown
import Lean
import HandS.ForMost
import HandS.More
import HandS.Defaults
import HandS.Wide
import HandS.WideBits
import HandS.IsInst
import HandS.Flow
import HandS.Head0
import HandS.Head1
import HandS.Head2
import HandS.HeadEnd
import HandS.HeadHook1
import HandS.HeadHook2
import PySem.Challenge.RW_landweave_k01_knots
set_option Elab.async false
set_option linter.all false
set_option maxRecDepth 100000
set_option maxHeartbeats 4000000
/-! Words of my own over the hand layer: defs by name, readings rule by rule. -/
namespace Lw
open PySem PySem.Spec PyProof.Rows L2

/-! ### a def of the top by its name -/
structure Df (P : Program) (w : World) (K : PySem.W.Frag) (mg : Str → Option Value) (base : Heap) (x : Str) (ps : List Str) (k : Nat) (sp : Sp) : Prop where
  ex : ∃ (f : Addr) (fd : FuncData), mg x = some (.ref f) ∧ PySem.W.keepIn K (.ref f) = true ∧ Binds K fd ps [] ∧ FnOk P w K mg base CX0 k f fd ps sp
section
variable {X : Cx} {k : Nat} {ps ks : List Str} {sp : Sp} {x : Str} {p pos : Pos} {e : Expr} {es : List Expr} {kws : List Keyword} {t tk : TA} {g : List Value → List Value → List Value} {gV : List V → List V → List V}
theorem pe_df (D : Df X.prog X.w X.K X.mg X.base x ps k sp) (hr : Room k X.A) (ha : PA X (e :: es) t) (hg : Gl X x := by rfl) (hdb : (x == ("__debug__" : Str)) = false := by decide)
    (he : starEach (e :: es) X.env = (false, eval e X.env) :: starEach es X.env := by rfl) (hpl : (backTo pos (starEach es X.env)).any (·.1) = false := by rfl) :
    PE X (.Call (.Name x p) (e :: es) [] pos) (tCall sp [] E0 t) := by
  obtain ⟨f, fd, hm, hk, hb, F⟩ := D.ex
  exact pe_call F hr hg hm hk hb .nil pass0 ha hdb he hpl
theorem pe_df0 (D : Df X.prog X.w X.K X.mg X.base x ps k sp) (hr : Room k X.A) (hg : Gl X x := by rfl) (hdb : (x == ("__debug__" : Str)) = false := by decide) :
    PE X (.Call (.Name x p) [] [] pos) (tCall sp [] E0 tNil) := by
  obtain ⟨f, fd, hm, hk, hb, F⟩ := D.ex
  exact pe_call0 F hr hg hm hk hb .nil pass0 hdb
/-- f(k = v, ..) -/
theorem pe_callK0 {CX : CXT} {f : Addr} {fd : FuncData} {E : XK} (F : FnOk X.prog X.w X.K X.mg X.base CX k f fd ps sp) (hr : Room k X.A) (hg : Gl X x) (hm : X.mg x = some (.ref f)) (hk : PySem.W.keepIn X.K (.ref f) = true) (hb : KBinds X.K fd ps ks g gV) (hx : Passes CX X E)
    (hkw : PK X kws tk) (hall : (backToKw pos (keywordEach kws X.env)).all (·.1.isSome) = true := by rfl) (hks : (backToKw pos (keywordEach kws X.env)).filterMap (·.1) = ks := by rfl)
    (hdb : (x == ("__debug__" : Str)) = false := by decide)
    (hpl : ((backTo pos (starEach [] X.env)).any (·.1) || (backToKw pos (keywordEach kws X.env)).any (·.1.isNone)) = false := by rfl) :
    PE X (.Call (.Name x p) [] kws pos) (tCallK sp gV E tNil tk) := by
  refine ⟨fun pins s σ H Q I h => ?_⟩
  refine wpAny_Call_Name_kw (ld_glob I hg hm ?_ hdb)
  refine PySem.W.callWith_KW0 (h₀ := X.base) I.ok.mod.kin hk hall ?_ hpl
  refine thn (hkw.run pos pins s σ H _ I h) fun ws s2 ⟨zs, H2, I2, rz, q2⟩ => ⟨I2.kIn, ?_⟩
  rw [hks]
  exact run_fnk (us := []) (vs := []) F hr hb hx I2 .nil rz q2
/-- the same def by keywords -/
structure DfK (P : Program) (w : World) (K : PySem.W.Frag) (mg : Str → Option Value) (base : Heap) (x : Str) (ps ks : List Str) (gV : List V → List V → List V) (k : Nat) (sp : Sp) : Prop where
  ex : ∃ (f : Addr) (fd : FuncData) (g : List Value → List Value → List Value), mg x = some (.ref f) ∧ PySem.W.keepIn K (.ref f) = true ∧ KBinds K fd ps ks g gV ∧ FnOk P w K mg base CX0 k f fd ps sp
theorem pe_dfK0 (D : DfK X.prog X.w X.K X.mg X.base x ps ks gV k sp) (hr : Room k X.A) (hkw : PK X kws tk) (hg : Gl X x := by rfl)
    (hall : (backToKw pos (keywordEach kws X.env)).all (·.1.isSome) = true := by rfl) (hks : (backToKw pos (keywordEach kws X.env)).filterMap (·.1) = ks := by rfl)
    (hdb : (x == ("__debug__" : Str)) = false := by decide)
    (hpl : ((backTo pos (starEach [] X.env)).any (·.1) || (backToKw pos (keywordEach kws X.env)).any (·.1.isNone)) = false := by rfl) :
    PE X (.Call (.Name x p) [] kws pos) (tCallK sp gV E0 tNil tk) := by
  obtain ⟨f, fd, g, hm, hk, hb, F⟩ := D.ex
  exact pe_callK0 F hr hg hm hk hb pass0 hkw hall hks hdb hpl
theorem vals_rev : ∀ {zs : List V} {ws : List Value}, Vals zs ws → Vals zs.reverse ws.reverse
  | _, _, .nil => .nil
  | _, _, .cons r t => by
    rw [List.reverse_cons, List.reverse_cons]
    exact Vals.append (vals_rev t) (.cons r .nil)
/-- by keywords alone, in another order -/
def onlyK {α : Type} (g : List α → List α) : List α → List α → List α
  | [], ws => g ws
  | _ :: _, _ => []
theorem kb_of {K : PySem.W.Frag} {x qual : Str} {params : Arguments} {body : List Stmt} {scope : Scope} {kws : List (Str × V)} {f : Addr} {fd : FuncData} {ps ks : List Str} (g : {α : Type} → List α → List α) (F : FunD K x qual params body scope [] kws f fd) (hp : 0 < ps.length)
    (hl : ∀ ws : List Value, (g ws).length = ps.length → ws.length = ps.length) (hr : ∀ {zs : List V} {ws : List Value}, Vals zs ws → Vals (g zs) (g ws))
    (h : ∀ (kV doc pm : Value) (an : Option Addr) (cdv ct : Value) (ws : List Value), ws.length = ps.length → bindArgs (PySem.W.fnOf x qual params body scope .none kV doc pm an cdv ct) ⟨[], ks.zip ws⟩ = pure (ps.zip (g ws))) :
    KBinds K fd ps ks (onlyK g) (onlyK g) := by
  obtain ⟨oc, od, dV, kV, doc, pm, an, cdv, ct, osl, rfl, lk, hcd, hD, hK⟩ := F.ex
  rcases hD with ⟨_, rfl⟩ | ⟨e, _⟩
  · refine ⟨fun s us ws X e => ?_, fun {vs us zs ws} r1 r2 => ?_⟩
    · cases us with
      | nil => exact BindsTo.of_eq (h kV doc pm an cdv ct ws (hl ws e))
      | cons u us =>
        have z : (0 : Nat) = ps.length := e
        omega
    · cases r1 with
      | nil => exact hr r2
      | cons _ _ => exact .nil
  · exact absurd rfl e
/-! ### ** of a great base -/
def CPowW (i j : Int) : Prop := 0 ≤ j ∧ (Builtin.Int.intBits i : Int) * j ≤ 2 ^ 27
theorem op_powW : OpR X (binaryOp .Pow) (rI CPowW fun i j => .int (i ^ j.toNat)) := opI fun _ _ _ _ _ _ _ hc q => pow_int hc.1 hc.2 q
end

/-! ### readings -/
section
variable {σ σ' : L2.St} {H : Hp} {Q : VK} {v x y z : V} {ta tb tc te : TE} {r r' : R2} {i j : Int} {n : Nat} {D : Ends} {t u : TS} {c : TT} {K : PySem.W.Frag} {p : Addr} {xs : List V}
theorem g_var {m : Nat} (h : σ[m]? = some (some v)) (q : Q v H) : tVar m σ H Q := ⟨v, h, q⟩
theorem g_c (q : Q v H) : tC v σ H Q := q
theorem g_op (q : ta σ H fun x H1 => tb σ H1 fun y H2 => r x y H2 Q) : tOp r ta tb σ H Q := q
theorem g_un {r : V → Hp → VK → Prop} (q : ta σ H fun x H1 => r x H1 Q) : tUn r ta σ H Q := q
theorem g_U {g : Int → V} (q : Q (g i) H) : rU g (.int i) H Q := ⟨i, rfl, q⟩
theorem g_I0 {g : Int → Int → V} (q : Q (g i j) H) : rI0 g (.int i) (.int j) H Q := ⟨i, j, rfl, rfl, q⟩
theorem g_I {C : Int → Int → Prop} {g : Int → Int → V} (c : C i j) (q : Q (g i j) H) : rI C g (.int i) (.int j) H Q := ⟨i, j, rfl, rfl, c, q⟩
theorem g_eq (h : scal x y = true) (q : Q (.bl (decide (x = y))) H) : rEq x y H Q := ⟨h, q⟩
theorem g_ne (h : scal x y = true) (q : Q (.bl (!decide (x = y))) H) : rNe x y H Q := ⟨h, q⟩
theorem g_test {te : TE} {Q : Bool → Hp → Prop} (q : te σ H fun x H' => ∃ k, x = .bl k ∧ Q k H') : tTest te σ H Q := q
theorem g_B {te : TE} {Q : Bool → Hp → Prop} (q : te σ H fun x H' => ∃ k, x = .bl k ∧ Q k H') : tB te σ H Q := q
theorem g_bl {b : Bool} {P : Bool → Prop} (q : P b) : ∃ k, V.bl b = .bl k ∧ P k := ⟨b, rfl, q⟩
theorem g_and {t u : TT} {Q : Bool → Hp → Prop} (q : t σ H fun c H1 => if c = true then u σ H1 Q else Q false H1) : tAnd t u σ H Q := q
theorem g_or {t u : TT} {Q : Bool → Hp → Prop} (q : t σ H fun c H1 => if c = true then Q true H1 else u σ H1 Q) : tOr t u σ H Q := q
theorem g_not {t : TT} {Q : Bool → Hp → Prop} (q : t σ H fun c H1 => Q (!c) H1) : tNot t σ H Q := q
theorem g_andV (q : ta σ H fun x H1 => ∃ c, x = .bl c ∧ if c = true then tb σ H1 Q else Q (.bl false) H1) : tAndV ta tb σ H Q := q
theorem g_orV (q : ta σ H fun x H1 => ∃ c, x = .bl c ∧ if c = true then Q (.bl true) H1 else tb σ H1 Q) : tOrV ta tb σ H Q := q
theorem g_notV (q : ta σ H fun x H1 => ∃ c, x = .bl c ∧ Q (.bl (!c)) H1) : tNotV ta σ H Q := q
theorem g_if {t : TT} (q : t σ H fun c H1 => if c = true then ta σ H1 Q else tb σ H1 Q) : tIf t ta tb σ H Q := q
theorem g_chain (q : ta σ H fun x H1 => tb σ H1 fun y H2 => r x y H2 fun z H3 => ∃ k, z = .bl k ∧ (if k = true then tc σ H3 fun w' H4 => r' y w' H4 Q else Q (.bl false) H3)) : tChain r r' ta tb tc σ H Q := q
theorem g_seq (q : t { D with nx := u D } σ H) : tSeq t u D σ H := q
theorem g_next (q : D.nx σ H) : tNext D σ H := q
theorem g_asg {g : TG} (q : te σ H fun x H1 => g x σ H1 D.nx) : tAsg te g D σ H := q
theorem g_name {m : Nat} {Q : L2.St → Hp → Prop} (q : Q (σ.set m (some v)) H) : gName m v σ H Q := q
theorem g_sub {s : TSet} {Q : L2.St → Hp → Prop} (q : ta σ H fun o H1 => tb σ H1 fun i H2 => s o i v H2 fun H3 => Q σ H3) : gSub ta tb s v σ H Q := q
theorem g_setL {Q : Hp → Prop} {m : Nat} (h : H p = some (.lst xs)) (hj : ixN xs.length i = some m) (q : Q (upd H p (.lst (xs.set m v)))) : rSetL (.ref p) (.int i) v H Q := ⟨p, xs, i, m, rfl, rfl, h, hj, q⟩
theorem g_drop (q : te σ H fun _ H1 => D.nx σ H1) : tDrop te D σ H := q
theorem g_ret (q : te σ H D.rt) : tRet te D σ H := q
theorem g_retN (q : D.rt .non H) : tRetN D σ H := q
theorem g_ifS (q : c σ H fun b H1 => if b = true then t D σ H1 else u D σ H1) : tIfS c t u D σ H := q
theorem g_nil {Q : List V → Hp → Prop} (q : Q [] H) : tNil σ H Q := q
theorem g_cons {ts : TA} {Q : List V → Hp → Prop} (q : ta σ H fun x H1 => ts σ H1 fun xs H2 => Q (x :: xs) H2) : tCons ta ts σ H Q := q
theorem g_tup {ts : TA} (q : ts σ H fun xs H1 => xs.length ≤ sizeLine ∧ ∀ p, H1 p = none → Q (.ref p) (upd H1 p (.tup xs))) : tTup ts σ H Q := q
theorem g_lst {ts : TA} (q : ts σ H fun xs H1 => xs.length ≤ sizeLine ∧ ∀ p, H1 p = none → Q (.ref p) (upd H1 p (.lst xs))) : tLst ts σ H Q := q
theorem g_CB {f : List V → Hp → VK → Prop} {ts : TA} (q : ts σ H fun vs H1 => f vs H1 Q) : tCB f ts σ H Q := q
theorem g_call {sp : Sp} {E : XK} {ts : TA} (q : ts σ H fun vs H1 => sp vs H1 Q E) : tCall sp [] E ts σ H Q := by
  unfold tCall
  simp only [List.append_nil]
  exact q
theorem g_callK {sp : Sp} {E : XK} {gV : List V → List V → List V} {ts tk : TA} (q : ts σ H fun vs H1 => tk σ H1 fun zs H2 => sp (gV vs zs) H2 Q E) : tCallK sp gV E ts tk σ H Q := q
theorem g_bits (h : ta σ H fun x H1 => ∃ i, x = .int i ∧ Q (.int (Builtin.Int.intBits i : Nat)) H1) : tBits ta σ H Q := h
theorem g_int {P : Int → Prop} (q : P i) : ∃ j, V.int i = .int j ∧ P j := ⟨i, rfl, q⟩
theorem g_for {wi : TI} {g : TG} {tb : TS} (q : wi σ H fun J H1 => ∃ W : Nat → Nat → L2.St → Hp → Prop, (∃ m, W 0 m σ H1) ∧ ∀ i m σ H, W i m σ H →
      (J.stop i H ∧ D.nx σ H) ∨ (J.go i H ∧ ∃ N : L2.St → Hp → Prop, (∀ σ' H', N σ' H' → ∃ m', m' < m ∧ W (i + 1) m' σ' H') ∧ ∀ x H', J.yld i H x H' → g x σ H' fun σ2 H2 => tb { D with nx := N, ct := N, bk := D.nx } σ2 H2)) : tFor wi g tb D σ H := q
theorem g_rng1 {ts : TA} {R : It → Hp → Prop} (q : ts σ H fun vs H1 => ∃ j : Int, vs = [.int j] ∧ -(2 ^ 62) ≤ j ∧ j < 2 ^ 62 ∧ R (Itr 0 j.toNat) H1) : iRng1 ts σ H R := q
theorem g_ixL (h : SqL K H p xs) (ha : atI xs i = some v) (q : Q v H) : rIxL K (.ref p) (.int i) H Q := ⟨p, xs, i, v, rfl, rfl, h, ha, q⟩
theorem g_ixT (h : SqT K H p xs) (ha : atI xs i = some v) (q : Q v H) : rIxT K (.ref p) (.int i) H Q := ⟨p, xs, i, v, rfl, rfl, h, ha, q⟩
/-- a test that the facts leave open -/
theorem g_ite {c A B : Prop} [Decidable c] (h1 : c → A) (h2 : ¬ c → B) : if decide c = true then A else B := by
  by_cases h : c
  · rw [decide_eq_true h]; exact iteT (h1 h)
  · rw [decide_eq_false h]; exact iteF (h2 h)
theorem g_iteN {c A B : Prop} [Decidable c] (h1 : ¬ c → A) (h2 : c → B) : if (!decide c) = true then A else B := by
  by_cases h : c
  · rw [decide_eq_true h]; exact iteF (h2 h)
  · rw [decide_eq_false h]; exact iteT (h1 h)
theorem iteNT {A B : Prop} (h : B) : if (!true) = true then A else B := iteF h
theorem iteNF {A B : Prop} (h : A) : if (!false) = true then A else B := iteT h
theorem iteS {c A B : Prop} [Decidable c] (hc : c) (h : A) : if decide c = true then A else B := by
  rw [decide_eq_true hc]
  exact iteT h
theorem iteNo {c A B : Prop} [Decidable c] (hc : ¬ c) (h : B) : if decide c = true then A else B := by
  rw [decide_eq_false hc]
  exact iteF h
theorem g_max2 {i j : Int} {P : Int → Prop} (q : P (if j > i then j else i)) : ∃ i' j' : Int, [V.int i, V.int j] = [V.int i', V.int j'] ∧ P (if j' > i' then j' else i') := ⟨i, j, rfl, q⟩
end
theorem upd_self {H : Hp} {p : Addr} {o : HO} (h : H p = some o) : upd H p o = H := by
  funext b
  unfold upd
  by_cases e : b = p
  · rw [if_pos e, e, h]
  · rw [if_neg e]
/-- all but p is kept -/
def Keep (p : Addr) (H H' : Hp) : Prop := ∀ b u, b ≠ p → H b = some u → H' b = some u
theorem Keep.refl {p : Addr} {H : Hp} : Keep p H H := fun _ _ _ h => h
theorem Keep.trans {p : Addr} {H H1 H2 : Hp} (a : Keep p H H1) (b : Keep p H1 H2) : Keep p H H2 := fun c u n h => b c u n (a c u n h)
theorem Keep.put {p : Addr} {H H' : Hp} {o : HO} (a : Keep p H H') : Keep p H (upd H' p o) := fun c u n h => by
  rw [upd_ne n]
  exact a c u n h
theorem Keep.new {p x : Addr} {H H' : Hp} {o : HO} (a : Keep p H H') (hx : H' x = none) : Keep p H (upd H' x o) := fun c u n h => by
  rw [upd_ne (ne_of_none (a c u n h) hx)]
  exact a c u n h
theorem Keep.seq {K : PySem.W.Frag} {p a : Addr} {H H' : Hp} {xs : List V} (k : Keep p H H') (n : a ≠ p) (h : SqL K H a xs) : SqL K H' a xs := by
  rcases h with (h | ⟨o, h⟩) | h
  · exact .inl (.inl (k _ _ n h))
  · exact .inl (.inr ⟨o, k _ _ n h⟩)
  · exact .inr h
theorem Keep.seqN {K : PySem.W.Frag} {p a : Addr} {H H' : Hp} {xs : List V} (k : Keep p H H') (n : H p = none) (h : SqL K H a xs) : SqL K H' a xs := by
  rcases h with (h | ⟨o, h⟩) | h
  · exact .inl (.inl (k _ _ (ne_of_none h n) h))
  · exact .inl (.inr ⟨o, k _ _ (ne_of_none h n) h⟩)
  · exact .inr h
/-! ### numbers -/
theorem bits_le {n : Int} (h0 : 0 ≤ n) (h : n ≤ 1000000000000000000000000000000) : Builtin.Int.intBits n ≤ 100 := by
  have e : (2 : Nat) ^ 100 = 1267650600228229401496703205376 := by decide
  have hb : n.natAbs < 2 ^ 100 := by omega
  have l := PySem.Flt.log2_lt_of (by decide) hb
  unfold Builtin.Int.intBits
  split <;> omega
theorem div_ok {i n : Int} (h0 : 0 < n) (h : n ≤ 1000000000000000000000000000000) : CDivW i n := by
  have e : (2 : Nat) ^ 100 = 1267650600228229401496703205376 := by decide
  exact wide_div h0 (b := 100) (by omega) (by decide) (by decide)
theorem pow_ok {i j : Int} (h : decide (0 ≤ j ∧ (Builtin.Int.intBits i : Int) * j ≤ 2 ^ 27) = true) : CPowW i j := (show _ ∧ _ from of_decide_eq_true h)
end Lw

namespace K1
open PySem PySem.Spec PyProof.Rows L2 Lw
local macro_rules | `(tactic| walk_at "lw one") => `(tactic| first
  | with_reducible refine' g_seq ?_
  | with_reducible refine' g_asg ?_
  | with_reducible refine' g_name ?_
  | with_reducible refine' g_ret ?_
  | with_reducible refine' g_retN ?_
  | with_reducible refine' g_next ?_
  | with_reducible refine' g_drop ?_
  | with_reducible refine' g_ifS ?_
  | with_reducible refine' g_op ?_
  | with_reducible refine' g_c ?_
  | ((with_reducible refine' g_var ?hv ?_); case hv => exact rfl)
  | with_reducible refine' g_I0 ?_
  | ((with_reducible refine' g_I ?_ ?_); first | (show CMul _ _; first | exact Or.inl ⟨by omega, by omega⟩ | exact Or.inr ⟨by omega, by omega⟩) | (show CDiv _ _; exact ⟨by omega, by omega⟩) | (show CDivW _ _; exact div_ok (by omega) (by omega)) | (show CPowW _ _; exact pow_ok (by decide +kernel)) | (show CPow _ _; exact ⟨by decide, by decide, by decide⟩) | (show (0 : Int) < _; first | omega | decide +kernel) | (show (0 : Int) ≤ _; omega))
  | with_reducible refine' g_test ?_
  | with_reducible refine' g_B ?_
  | with_reducible refine' g_and ?_
  | with_reducible refine' g_or ?_
  | with_reducible refine' g_not ?_
  | with_reducible refine' g_andV ?_
  | with_reducible refine' g_orV ?_
  | with_reducible refine' g_notV ?_
  | with_reducible refine' g_if ?_
  | with_reducible refine' g_chain ?_
  | with_reducible refine' g_un ?_
  | with_reducible refine' g_U ?_
  | with_reducible refine' g_nil ?_
  | with_reducible refine' g_cons ?_
  | with_reducible refine' g_tup ?_
  | with_reducible refine' g_lst ?_
  | with_reducible refine' g_CB ?_
  | with_reducible refine' g_call ?_
  | with_reducible refine' g_callK ?_
  | with_reducible refine' g_bits ?_
  | with_reducible refine' g_sub ?_
  | with_reducible refine' g_for ?_
  | with_reducible refine' g_rng1 ?_
  | ((with_reducible refine' g_eq ?_ ?_); exact rfl)
  | ((with_reducible refine' g_ne ?_ ?_); exact rfl)
  | with_reducible refine' g_bl ?_
  | with_reducible refine' g_int ?_
  | (with_reducible refine' iteNT ?_)
  | (with_reducible refine' iteNF ?_)
  | (with_reducible refine' iteT ?_)
  | (with_reducible refine' iteF ?_))
local macro_rules | `(tactic| walk_at "lw go") => `(tactic| repeat walk_at "lw one")
def top (i : Nat) : Stmt := PySem.Challenge.pw_landweave_k01_knots.main.body.getD i (.Pass ⟨0, 0, 0, 0⟩)
abbrev FnP (K : PySem.W.Frag) (x : Str) (st : Stmt) (f : Addr) (fd : FuncData) : Prop := FunD K x x (defArgs st) (defBody st) (defScope st) [] [] f fd
structure Bi (mg : Str → Option Value) : Prop where
  len : mg "len" = none
  max : mg "max" = none
  range : mg "range" = none
  isinstance : mg "isinstance" = none
  int : mg "int" = none
  bool : mg "bool" = none
/-! ### the mathematics -/
def kA (seed salt : Int) : Int := (seed + 48271 * salt + 7) % 2147483647
def kB (a i : Int) : Int := (a * a + 69621 * i + 1) % 2147483629
def kC (b j : Int) : Int := (b * b + 16807 * j + 1) % 2147483587
def kD (c : Int) : Int := (c * c + c) % 2147483579 % 65536
def knotL (seed salt i j : Int) : Int := kD (kC (kB (kA seed salt) i) j)
def spKnot : Sp := fun vs H Q _ => ∃ a b c d : Int, vs = [.int a, .int b, .int c, .int d] ∧ Q (.int (knotL a b c d)) H
section
variable {P : Program} {w : World} {K : PySem.W.Frag} {mg : Str → Option Value} {base : Heap} {f : Addr} {fd : FuncData}

abbrev N_knot : List Str := ["seed", "salt", "i", "j", "first", "second", "third"]
abbrev s_knot : Stmt := top 1
theorem sc_knot : FnScope N_knot ["seed", "salt", "i", "j"] (defScope s_knot) := ⟨rfl, rfl, rfl, by decide +kernel, rfl, by decide +kernel, by decide +kernel⟩

theorem ok_knot (F : FnP K "knot" s_knot f fd) : FnOk P w K mg base CX0 1 f fd ["seed", "salt", "i", "j"] spKnot := by
  refine F.ok sc_knot (fun vs H Q E h => ?_) (fun cdv A outer s H vs Q E hr h => ⟨_, PSs.nox
(pss_cons (ps_set (i := 4) sc_knot.nd rfl (Or.inl rfl) (pe_op op_mod (pe_op op_add (pe_op op_add (pv 0) (pe_op op_mul pe_int (pv 1))) pe_int) pe_int))
  (pss_cons (ps_set (i := 5) sc_knot.nd rfl (Or.inl rfl) (pe_op op_mod (pe_op op_add (pe_op op_add (pe_op op_mul (pv 4) (pv 4)) (pe_op op_mul pe_int (pv 2))) pe_int) pe_int))
  (pss_cons (ps_set (i := 6) sc_knot.nd rfl (Or.inl rfl) (pe_op op_mod (pe_op op_add (pe_op op_add (pe_op op_mul (pv 5) (pv 5)) (pe_op op_mul pe_int (pv 3))) pe_int) pe_int))
  (pss_one (ps_ret (pe_op op_mod (pe_op op_mod (pe_op op_add (pe_op op_mul (pv 6) (pv 6)) (pv 6)) pe_int) pe_int)))))), ?_⟩)
  · obtain ⟨a, b, c, d, rfl, _⟩ := h
    rfl
  · obtain ⟨a, b, c, d, rfl, q⟩ := h
    walk_at "lw go"
    exact q
abbrev N_law_knot : List Str := ["_law_grain_here", "_law_salted", "_law_left", "_law_right", "_law_one", "_law_two", "_law_three"]
abbrev s_law_knot : Stmt := top 8
theorem sc_law_knot : FnScope N_law_knot ["_law_grain_here", "_law_salted", "_law_left", "_law_right"] (defScope s_law_knot) := ⟨rfl, rfl, rfl, by decide +kernel, rfl, by decide +kernel, by decide +kernel⟩

theorem ok_law_knot (F : FnP K "_law_knot" s_law_knot f fd) : FnOk P w K mg base CX0 1 f fd ["_law_grain_here", "_law_salted", "_law_left", "_law_right"] spKnot := by
  refine F.ok sc_law_knot (fun vs H Q E h => ?_) (fun cdv A outer s H vs Q E hr h => ⟨_, PSs.nox
(pss_cons (ps_set (i := 4) sc_law_knot.nd rfl (Or.inl rfl) (pe_op op_mod (pe_op op_add (pe_op op_add (pv 0) (pe_op op_mul pe_int (pv 1))) pe_int) pe_int))
  (pss_cons (ps_set (i := 5) sc_law_knot.nd rfl (Or.inl rfl) (pe_op op_mod (pe_op op_add (pe_op op_add (pe_op op_mul (pv 4) (pv 4)) (pe_op op_mul pe_int (pv 2))) pe_int) pe_int))
  (pss_cons (ps_set (i := 6) sc_law_knot.nd rfl (Or.inl rfl) (pe_op op_mod (pe_op op_add (pe_op op_add (pe_op op_mul (pv 5) (pv 5)) (pe_op op_mul pe_int (pv 3))) pe_int) pe_int))
  (pss_one (ps_ret (pe_op op_mod (pe_op op_mod (pe_op op_add (pe_op op_mul (pv 6) (pv 6)) (pv 6)) pe_int) pe_int)))))), ?_⟩)
  · obtain ⟨a, b, c, d, rfl, _⟩ := h
    rfl
  · obtain ⟨a, b, c, d, rfl, q⟩ := h
    walk_at "lw go"
    exact q
/-! ### a cell of the script, drawn numbers -/
def spAt (K : PySem.W.Frag) : Sp := fun vs H Q _ => ∃ (a : Addr) (ns : List Int) (k : Int), vs = [.ref a, .int k] ∧ SqL K H a (ns.map V.int) ∧ 0 ≤ k ∧ ∀ n : Int, Q (.int n) H
abbrev N_law_at : List Str := ["_law_script", "_law_k"]
abbrev s_law_at : Stmt := top 3
theorem sc_law_at : FnScope N_law_at ["_law_script", "_law_k"] (defScope s_law_at) := ⟨rfl, rfl, rfl, by decide +kernel, rfl, by decide +kernel, by decide +kernel⟩

theorem ok_law_at (F : FnP K "_law_at" s_law_at f fd) (T : Bi mg) : FnOk P w K mg base CX0 1 f fd ["_law_script", "_law_k"] (spAt K) := by
  refine F.ok sc_law_at (fun vs H Q E h => ?_) (fun cdv A outer s H vs Q E hr h => ⟨_, PSs.nox
(pss_cons (ps_if (pt_cmpR op_lt (pv 1) (pe_callB call_len_seq (by rfl) T.len (by decide +kernel) (pa_cons (pv 0) pa_nil)) (nomark _))
  (pss_one (ps_ret (pe_ix ix_list (pv 0) (pv 1) (fun _ _ => rfl))))
  pss_nil)
  (pss_one (ps_ret pe_int))), ?_⟩)
  · obtain ⟨a, ns, k, rfl, _⟩ := h
    rfl
  · obtain ⟨a, ns, k, rfl, hS, hk, q⟩ := h
    walk_at "lw go"
    refine ⟨_, _, rfl, .inl hS, ?_⟩
    walk_at "lw go"
    refine g_ite (fun h => ?_) (fun h => ?_)
    · walk_at "lw go"
      rw [List.length_map] at h
      obtain ⟨m, rfl⟩ : ∃ m : Nat, k = (m : Int) := ⟨k.toNat, by omega⟩
      refine g_ixL hS (v := .int (ns[m]'(by omega))) (atI_nat ?_) (q _)
      rw [List.getElem?_map, List.getElem?_eq_getElem (by omega)]
      rfl
    · walk_at "lw go"
      exact q 0
def spMixed : Sp := fun vs H Q _ => ∃ (a k : Int), vs = [.int a, .int k] ∧ 0 ≤ k ∧ k < 2 ^ 64 ∧ ∀ n : Int, Q (.int n) H
abbrev N_law_mixed : List Str := ["_law_cell", "_law_k", "_law_number"]
abbrev s_law_mixed : Stmt := top 4
theorem sc_law_mixed : FnScope N_law_mixed ["_law_cell", "_law_k"] (defScope s_law_mixed) := ⟨rfl, rfl, rfl, by decide +kernel, rfl, by decide +kernel, by decide +kernel⟩

theorem ok_law_mixed (F : FnP K "_law_mixed" s_law_mixed f fd) : FnOk P w K mg base CX0 1 f fd ["_law_cell", "_law_k"] spMixed := by
  refine F.ok sc_law_mixed (fun vs H Q E h => ?_) (fun cdv A outer s H vs Q E hr h => ⟨_, PSs.nox
(pss_cons (ps_set (i := 2) sc_law_mixed.nd rfl (Or.inl rfl) (pe_op op_mod (pe_op op_add (pe_op op_add (pe_op op_add (pe_op op_mul (pv 0) pe_int) (pe_op op_mul (pe_op op_mul pe_int (pv 1)) (pv 1))) (pv 1)) pe_int) pe_int))
  (pss_cons (ps_set (i := 2) sc_law_mixed.nd rfl (Or.inl rfl) (pe_op op_mod (pe_op op_add (pe_op op_mul (pv 2) (pv 2)) pe_int) pe_int))
  (pss_one (ps_ret (pe_op op_mod (pe_op op_mul (pv 2) pe_int) pe_int))))), ?_⟩)
  · obtain ⟨a, k, rfl, _⟩ := h
    rfl
  · obtain ⟨a, k, rfl, h0, h1, q⟩ := h
    walk_at "lw go"
    exact q _
/-- a purse: two numbers and a count of at most m -/
structure Purse (m : Int) (o : HO) : Prop where
  ex : ∃ a b c : Int, o = .lst [.int a, .int b, .int c] ∧ 0 ≤ c ∧ c ≤ m
theorem Purse.mono {m m' : Int} {o : HO} (h : Purse m o) (l : m ≤ m') : Purse m' o := by
  obtain ⟨a, b, c, e, c0, c1⟩ := h.ex
  exact ⟨a, b, c, e, c0, by omega⟩
def spPurse (K : PySem.W.Frag) : Sp := fun vs H Q _ => ∃ (a : Addr) (ns : List Int) (k : Int), vs = [.ref a, .int k] ∧ SqL K H a (ns.map V.int) ∧ 0 ≤ k ∧ k ≤ 64 ∧ ∀ p o, H p = none → Purse 64000 o → Q (.ref p) (upd H p o)
abbrev N_law_purse : List Str := ["_law_script", "_law_at_here", "_law_cell"]
abbrev s_law_purse : Stmt := top 5
theorem sc_law_purse : FnScope N_law_purse ["_law_script", "_law_at_here"] (defScope s_law_purse) := ⟨rfl, rfl, rfl, by decide +kernel, rfl, by decide +kernel, by decide +kernel⟩

theorem ok_law_purse (F : FnP K "_law_purse" s_law_purse f fd) (T : Bi mg) (D_law_at : Df P w K mg base "_law_at" ["_law_script", "_law_k"] 1 (spAt K)) : FnOk P w K mg base CX0 2 f fd ["_law_script", "_law_at_here"] (spPurse K) := by
  refine F.ok sc_law_purse (fun vs H Q E h => ?_) (fun cdv A outer s H vs Q E hr h => ?_)
  · obtain ⟨a, ns, k, rfl, _⟩ := h
    rfl
  refine ⟨_, PSs.nox
(pss_cons (ps_set (i := 2) sc_law_purse.nd rfl (Or.inl rfl) (pe_df D_law_at (hr.mono (by decide)) (pa_cons (pv 0) (pa_cons (pv 1) pa_nil))))
  (pss_one (ps_ret (pe_lst (pa_cons (pe_op op_mod (pe_callB (call_max2 rfl) (by rfl) T.max (by decide +kernel) (pa_cons (pe_op op_sub (pv 2) (pe_op op_pow pe_int pe_int)) (pa_cons pe_int pa_nil))) (pe_op op_powW (pe_op op_pow pe_int pe_int) pe_int)) (pa_cons (pe_op op_mod (pv 2) pe_int) (pa_cons (pe_op op_mul pe_int (pv 1)) pa_nil))))))), ?_⟩
  · obtain ⟨a, ns, k, rfl, hS, hk, hk2, q⟩ := h
    walk_at "lw go"
    refine ⟨a, ns, k, rfl, hS, hk, fun n => ?_⟩
    walk_at "lw go"
    refine ⟨_, _, rfl, ?_⟩
    walk_at "lw go"
    refine ⟨by show 3 ≤ sizeLine; decide, fun p hp => q p _ hp ⟨_, _, _, rfl, by omega, by omega⟩⟩
def spDraw : Sp := fun vs H Q _ => ∃ (p : Addr) (n m : Int) (o : HO), vs = [.ref p, .int n] ∧ H p = some o ∧ Purse m o ∧ m ≤ 1000000000000000 ∧ 0 < n ∧ n ≤ 1000000000000000000000000000000 ∧
  ∀ (d : Int) (o' : HO), 0 ≤ d → d < n → Purse (m + 4) o' → Q (.int d) (upd H p o')
abbrev N_law_draw : List Str := ["_law_purse_here", "_law_out_of", "_law_drawn", "_law_number", "_law_k"]
abbrev s_law_draw : Stmt := top 6
theorem sc_law_draw : FnScope N_law_draw ["_law_purse_here", "_law_out_of"] (defScope s_law_draw) := ⟨rfl, rfl, rfl, by decide +kernel, rfl, by decide +kernel, by decide +kernel⟩

theorem ok_law_draw (F : FnP K "_law_draw" s_law_draw f fd) (T : Bi mg) (D_law_mixed : Df P w K mg base "_law_mixed" ["_law_cell", "_law_k"] 1 spMixed) : FnOk P w K mg base CX0 2 f fd ["_law_purse_here", "_law_out_of"] spDraw := by
  refine F.ok sc_law_draw (fun vs H Q E h => ?_) (fun cdv A outer s H vs Q E hr h => ?_)
  · obtain ⟨p, n, m, o, rfl, _⟩ := h
    rfl
  refine ⟨_, PSs.nox
(pss_cons (ps_if (pt_cmpR op_gt (pe_ix ix_list (pv 0) pe_int (fun _ _ => rfl)) pe_int (nomark _))
  (pss_cons (ps_set (i := 2) sc_law_draw.nd rfl (Or.inl rfl) (pe_op op_mod (pe_ix ix_list (pv 0) pe_int (fun _ _ => rfl)) (pv 1)))
  (pss_cons (ps_asg (pe_op op_fdivW (pe_ix ix_list (pv 0) pe_int (fun _ _ => rfl)) (pv 1)) (pg_sub (pv 0) pe_int set_list))
  (pss_one (ps_ret (pv 2)))))
  pss_nil)
  (pss_cons (ps_set (i := 3) sc_law_draw.nd rfl (Or.inl rfl) pe_int)
  (pss_cons (ps_for PassesOwn.never rfl (pi_range1 (by rfl) T.range (pa_cons (pe_op op_add pe_int (pe_op op_fdiv (pe_bits (pv 1)) pe_int)) pa_nil)) (pg_name (i := 4) sc_law_draw.nd rfl (Or.inl rfl))
  (pss_cons (ps_asg (pe_op op_add (pe_ix ix_list (pv 0) pe_int (fun _ _ => rfl)) pe_int) (pg_sub (pv 0) pe_int set_list))
  (pss_one (ps_set (i := 3) sc_law_draw.nd rfl (Or.inl rfl) (pe_op op_add (pe_op op_mul (pv 3) pe_int) (pe_df D_law_mixed (hr.mono (by decide)) (pa_cons (pe_ix ix_list (pv 0) pe_int (fun _ _ => rfl)) (pa_cons (pe_ix ix_list (pv 0) pe_int (fun _ _ => rfl)) pa_nil))))))))
  (pss_one (ps_ret (pe_op op_mod (pv 3) (pv 1))))))), ?_⟩
  · obtain ⟨p, n, m, o, rfl, hp, ⟨a, b, c, rfl, c0, c1⟩, hm, hn, hn2, q⟩ := h
    walk_at "lw go"
    refine g_ixL (SqL.of hp) (v := .int a) rfl ?_
    walk_at "lw go"
    refine g_ite (fun h => ?_) (fun h => ?_)
    · walk_at "lw go"
      refine g_ixL (SqL.of hp) (v := .int a) rfl ?_
      walk_at "lw go"
      refine g_ixL (SqL.of hp) (v := .int a) rfl ?_
      walk_at "lw go"
      refine g_setL (m := 0) hp (by rfl) ?_
      walk_at "lw go"
      exact q _ _ (Int.emod_nonneg _ (by omega)) (Int.emod_lt_of_pos _ hn) ⟨_, _, _, rfl, c0, by omega⟩
    · have hb := bits_le (n := n) (by omega) hn2
      walk_at "lw go"
      refine ⟨_, rfl, by omega, by omega, for_range (fun i σ H' => ∃ (num c' : Int) (v4 : Option V), σ = [some (.ref p), some (.int n), none, some (.int num), v4] ∧ H' p = some (.lst [.int a, .int b, .int c']) ∧ 0 ≤ c' ∧ c' ≤ c + i ∧ (∀ x, upd H' p x = upd H p x) ∧ upd H p (.lst [.int a, .int b, .int c']) = H')
        ⟨0, c, none, rfl, hp, c0, by omega, fun _ => rfl, upd_self hp⟩ ?_ ?_⟩
      · rintro i σ H' hi ⟨num, c', v4, rfl, hp', d0, d1, hu, he⟩
        walk_at "lw go"
        refine g_ixL (SqL.of hp') (v := .int c') rfl ?_
        walk_at "lw go"
        refine g_setL (m := 2) hp' (by rfl) ?_
        walk_at "lw go"
        refine g_ixL (SqL.of upd_same) (v := .int b) rfl ?_
        walk_at "lw go"
        refine g_ixL (SqL.of upd_same) (v := .int (c' + 1)) rfl ?_
        walk_at "lw go"
        refine ⟨b, c' + 1, rfl, by omega, by omega, fun x => ?_⟩
        walk_at "lw go"
        refine ⟨_, c' + 1, _, rfl, upd_same, by omega, by omega, fun x => ?_, ?_⟩
        · rw [upd_upd]; exact hu x
        · exact (hu _).symm
      · rintro σ H' ⟨num, c', v4, rfl, hp', d0, d1, hu, he⟩
        walk_at "lw go"
        rw [← he]
        exact q _ _ (Int.emod_nonneg _ (by omega)) (Int.emod_lt_of_pos _ hn) ⟨_, _, _, rfl, d0, by omega⟩

def spWhole : Sp := fun vs H Q _ => ∃ n : Int, vs = [.int n] ∧ Q (.bl true) H
abbrev N_law_whole : List Str := ["_law_found"]
abbrev s_law_whole : Stmt := top 7
theorem sc_law_whole : FnScope N_law_whole ["_law_found"] (defScope s_law_whole) := ⟨rfl, rfl, rfl, by decide +kernel, rfl, by decide +kernel, by decide +kernel⟩

theorem ok_law_whole (F : FnP K "_law_whole" s_law_whole f fd) (T : Bi mg) : FnOk P w K mg base CX0 1 f fd ["_law_found"] spWhole := by
  refine F.ok sc_law_whole (fun vs H Q E h => ?_) (fun cdv A outer s H vs Q E hr h => ⟨_, PSs.nox
(pss_one (ps_ret (pe_and (pe_callB call_isi (by rfl) T.isinstance (by decide +kernel) (pa_cons (pv 0) (pa_cons (pe_bltn (v := .ty "int") (by rfl) T.int boot_int rfl) pa_nil))) (pe_one (pe_not (pe_callB call_isi (by rfl) T.isinstance (by decide +kernel) (pa_cons (pv 0) (pa_cons (pe_bltn (v := .ty "bool") (by rfl) T.bool boot_bool rfl) pa_nil)))))))), ?_⟩)
  · obtain ⟨n, rfl, _⟩ := h
    rfl
  · obtain ⟨n, rfl, q⟩ := h
    walk_at "lw go"
    refine ⟨_, _, _, _, true, rfl, .ty "int", .base (.int _), kit_ty (by decide +kernel), ?_⟩
    walk_at "lw go"
    refine ⟨_, _, _, _, false, rfl, .ty "bool", .base (.int _), kit_ty (by decide +kernel), ?_⟩
    walk_at "lw go"
    exact q
/-- a def that draws a number from lo to hi from the purse, by at most n draws -/
def spNum (lo hi : Int) : Sp := fun vs H Q _ => ∃ (p : Addr) (m : Int) (o : HO), vs = [.ref p] ∧ H p = some o ∧ Purse m o ∧ m ≤ 100000000000000 ∧
  ∀ (g : Int) (o' : HO) (H' : Hp), lo ≤ g → g ≤ hi → Keep p H H' → H' p = some o' → Purse (m + 12) o' → Q (.int g) H'
abbrev N_law_grain : List Str := ["_law_purse_here"]
abbrev s_law_grain : Stmt := top 9
theorem sc_law_grain : FnScope N_law_grain ["_law_purse_here"] (defScope s_law_grain) := ⟨rfl, rfl, rfl, by decide +kernel, rfl, by decide +kernel, by decide +kernel⟩

theorem ok_law_grain (F : FnP K "_law_grain" s_law_grain f fd) (D_law_draw : Df P w K mg base "_law_draw" ["_law_purse_here", "_law_out_of"] 2 spDraw) : FnOk P w K mg base CX0 3 f fd ["_law_purse_here"] (spNum 0 1000000000) := by
  refine F.ok sc_law_grain (fun vs H Q E h => ?_) (fun cdv A outer s H vs Q E hr h => ?_)
  · obtain ⟨p, m, o, rfl, _⟩ := h
    rfl
  refine ⟨_, PSs.nox
(pss_one (ps_ret (pe_ix ix_list (pe_lst (pa_cons pe_int (pa_cons pe_int (pa_cons (pe_op op_pow pe_int pe_int) (pa_cons (pe_df D_law_draw (hr.mono (by decide)) (pa_cons (pv 0) (pa_cons (pe_op op_pow pe_int pe_int) pa_nil))) pa_nil))))) (pe_df D_law_draw (hr.mono (by decide)) (pa_cons (pv 0) (pa_cons pe_int pa_nil))) (fun _ _ => rfl)))), ?_⟩
  · obtain ⟨p, m, o, rfl, hp, hP, hm, q⟩ := h
    walk_at "lw go"
    refine ⟨p, _, m, o, rfl, hp, hP, by omega, by decide +kernel, by decide +kernel, fun d o1 d0 d1 hP1 => ?_⟩
    walk_at "lw go"
    refine ⟨by show 4 ≤ sizeLine; decide, fun l hl => ?_⟩
    walk_at "lw go"
    have npl : p ≠ l := ne_of_none upd_same hl
    refine ⟨p, 4, _, o1, rfl, by rw [upd_ne npl, upd_same], hP1, by omega, by decide, by decide, fun e o2 e0 e1 hP2 => ?_⟩
    have d2 : d ≤ 1000000000 := by
      have z : (10 : Int) ^ Int.toNat 9 = 1000000000 := by decide +kernel
      omega
    have fin : ∀ g : Int, 0 ≤ g → g ≤ 1000000000 → Q (.int g) (upd (upd (upd H p o1) l (.lst [.int 0, .int 1, .int (10 ^ Int.toNat 9), .int d])) p o2) := fun g g0 g1 =>
      q g o2 _ g0 g1 ((Keep.refl.put.new hl).put) upd_same ⟨by obtain ⟨a, b, c, z⟩ := hP2.ex; exact ⟨a, b, c, z.1, z.2.1, by omega⟩⟩
    have at_ : (upd (upd (upd H p o1) l (.lst [.int 0, .int 1, .int (10 ^ Int.toNat 9), .int d])) p o2) l = some (.lst [.int 0, .int 1, .int (10 ^ Int.toNat 9), .int d]) := by
      rw [upd_ne npl.symm, upd_same]
    rcases (show e = 0 ∨ e = 1 ∨ e = 2 ∨ e = 3 by omega) with rfl | rfl | rfl | rfl
    · exact g_ixL (SqL.of at_) (v := .int 0) rfl (fin 0 (by omega) (by omega))
    · exact g_ixL (SqL.of at_) (v := .int 1) rfl (fin 1 (by omega) (by omega))
    · exact g_ixL (SqL.of at_) (v := .int (10 ^ Int.toNat 9)) rfl (fin _ (by decide +kernel) (by decide +kernel))
    · exact g_ixL (SqL.of at_) (v := .int d) rfl (fin d d0 d2)
abbrev N_law_far : List Str := ["_law_purse_here", "_law_most"]
abbrev s_law_far : Stmt := top 10
theorem sc_law_far : FnScope N_law_far ["_law_purse_here"] (defScope s_law_far) := ⟨rfl, rfl, rfl, by decide +kernel, rfl, by decide +kernel, by decide +kernel⟩

theorem ok_law_far (F : FnP K "_law_far" s_law_far f fd) (D_law_draw : Df P w K mg base "_law_draw" ["_law_purse_here", "_law_out_of"] 2 spDraw) : FnOk P w K mg base CX0 3 f fd ["_law_purse_here"] (spNum (-100000000) 100000000) := by
  refine F.ok sc_law_far (fun vs H Q E h => ?_) (fun cdv A outer s H vs Q E hr h => ?_)
  · obtain ⟨p, m, o, rfl, _⟩ := h
    rfl
  refine ⟨_, PSs.nox
(pss_cons (ps_set (i := 1) sc_law_far.nd rfl (Or.inl rfl) (pe_ix ix_list (pe_lst (pa_cons pe_int (pa_cons pe_int (pa_cons pe_int (pa_cons pe_int pa_nil))))) (pe_df D_law_draw (hr.mono (by decide)) (pa_cons (pv 0) (pa_cons pe_int pa_nil))) (fun _ _ => rfl)))
  (pss_one (ps_ret (pe_op op_mul (pe_df D_law_draw (hr.mono (by decide)) (pa_cons (pv 0) (pa_cons (pv 1) pa_nil))) (pe_op op_sub pe_int (pe_op op_mul pe_int (pe_df D_law_draw (hr.mono (by decide)) (pa_cons (pv 0) (pa_cons pe_int pa_nil))))))))), ?_⟩
  · obtain ⟨p, m, o, rfl, hp, hP, hm, q⟩ := h
    walk_at "lw go"
    refine ⟨by show 4 ≤ sizeLine; decide, fun l hl => ?_⟩
    walk_at "lw go"
    have npl : p ≠ l := ne_of_none hp hl
    refine ⟨p, 4, _, o, rfl, by rw [upd_ne npl, hp], hP, by omega, by decide, by decide, fun e o2 e0 e1 hP2 => ?_⟩
    have at_ : (upd (upd H l (.lst [.int 1, .int 10, .int 1000, .int 100000000])) p o2) l = some (.lst [.int 1, .int 10, .int 1000, .int 100000000]) := by
      rw [upd_ne npl.symm, upd_same]
    obtain ⟨n, n0, n1, hn⟩ : ∃ n : Int, 0 < n ∧ n ≤ 100000000 ∧ atI [V.int 1, .int 10, .int 1000, .int 100000000] e = some (.int n) := by
      rcases (show e = 0 ∨ e = 1 ∨ e = 2 ∨ e = 3 by omega) with rfl | rfl | rfl | rfl
      · exact ⟨1, by decide, by decide, rfl⟩
      · exact ⟨10, by decide, by decide, rfl⟩
      · exact ⟨1000, by decide, by decide, rfl⟩
      · exact ⟨100000000, by decide, by decide, rfl⟩
    refine g_ixL (SqL.of at_) hn ?_
    walk_at "lw go"
    refine ⟨p, n, _, o2, rfl, upd_same, hP2, by omega, n0, by omega, fun d o3 d0 d1 hP3 => ?_⟩
    walk_at "lw go"
    refine ⟨p, 2, _, o3, rfl, upd_same, hP3, by omega, by decide, by decide, fun g o4 g0 g1 hP4 => ?_⟩
    walk_at "lw go"
    refine q _ o4 _ ?_ ?_ (((Keep.refl.new hl).put).put).put upd_same ⟨by obtain ⟨a, b, c, z⟩ := hP4.ex; exact ⟨a, b, c, z.1, z.2.1, by omega⟩⟩
    · rcases (show g = 0 ∨ g = 1 by omega) with rfl | rfl <;> omega
    · rcases (show g = 0 ∨ g = 1 by omega) with rfl | rfl <;> omega

theorem bl_of {b : Bool} {Q : VK} {H : Hp} (h : b = true) (q : Q (.bl true) H) : Q (.bl b) H := by
  rw [h]
  exact q
theorem knot_in (a b c d : Int) : 0 ≤ knotL a b c d ∧ knotL a b c d < 65536 := by
  unfold knotL kD
  omega
def spLaw (K : PySem.W.Frag) : Sp := fun vs H Q _ => ∃ (a : Addr) (ns : List Int), vs = [.ref a] ∧ SqL K H a (ns.map V.int) ∧ ∀ H', Q (.bl true) H'
abbrev N_law : List Str := ["_law_script", "_law_cell", "_law_purse_here", "_law_grain_here", "_law_salted", "_law_turn", "_law_first", "_law_second", "_law_found"]
abbrev s_law : Stmt := top 11
theorem sc_law : FnScope N_law ["_law_script"] (defScope s_law) := ⟨rfl, rfl, rfl, by decide +kernel, rfl, by decide +kernel, by decide +kernel⟩

theorem ok_law (F : FnP K "law" s_law f fd) (T : Bi mg) (D_law_purse : Df P w K mg base "_law_purse" ["_law_script", "_law_at_here"] 2 (spPurse K)) (D_law_grain : Df P w K mg base "_law_grain" ["_law_purse_here"] 3 (spNum 0 1000000000))
    (D_law_far : Df P w K mg base "_law_far" ["_law_purse_here"] 3 (spNum (-100000000) 100000000)) (D_knot : Df P w K mg base "knot" ["seed", "salt", "i", "j"] 1 spKnot)
    (DK_knot : DfK P w K mg base "knot" ["seed", "salt", "i", "j"] ["j", "i", "salt", "seed"] (onlyK List.reverse) 1 spKnot)
    (D_law_knot : Df P w K mg base "_law_knot" ["_law_grain_here", "_law_salted", "_law_left", "_law_right"] 1 spKnot) (D_law_whole : Df P w K mg base "_law_whole" ["_law_found"] 1 spWhole) : FnOk P w K mg base CX0 4 f fd ["_law_script"] (spLaw K) := by
  refine F.ok sc_law (fun vs H Q E h => ?_) (fun cdv A outer s H vs Q E hr h => ?_)
  · obtain ⟨a, ns, rfl, _⟩ := h
    rfl
  refine ⟨_, PSs.nox
(pss_cons (ps_for PassesOwn.never rfl (pi_range1 (by rfl) T.range (pa_cons pe_int pa_nil)) (pg_name (i := 1) sc_law.nd rfl (Or.inl rfl))
  (pss_cons (ps_set (i := 2) sc_law.nd rfl (Or.inl rfl) (pe_df D_law_purse (hr.mono (by decide)) (pa_cons (pv 0) (pa_cons (pv 1) pa_nil))))
  (pss_cons (ps_set (i := 3) sc_law.nd rfl (Or.inl rfl) (pe_df D_law_grain (hr.mono (by decide)) (pa_cons (pv 2) pa_nil)))
  (pss_cons (ps_set (i := 4) sc_law.nd rfl (Or.inl rfl) (pe_df D_law_grain (hr.mono (by decide)) (pa_cons (pv 2) pa_nil)))
  (pss_one (ps_for PassesOwn.never rfl (pi_range1 (by rfl) T.range (pa_cons pe_int pa_nil)) (pg_name (i := 5) sc_law.nd rfl (Or.inl rfl))
  (pss_cons (ps_set (i := 6) sc_law.nd rfl (Or.inl rfl) (pe_df D_law_far (hr.mono (by decide)) (pa_cons (pv 2) pa_nil)))
  (pss_cons (ps_set (i := 7) sc_law.nd rfl (Or.inl rfl) (pe_df D_law_far (hr.mono (by decide)) (pa_cons (pv 2) pa_nil)))
  (pss_cons (ps_set (i := 8) sc_law.nd rfl (Or.inl rfl) (pe_df D_knot (hr.mono (by decide)) (pa_cons (pv 3) (pa_cons (pv 4) (pa_cons (pv 6) (pa_cons (pv 7) pa_nil))))))
  (pss_cons (ps_if (PW.pt (pw_or (pt_not (pt_val (pe_df D_law_whole (hr.mono (by decide)) (pa_cons (pv 8) pa_nil)))) (pw_or (pt_cmpR op_ne (pv 8) (pe_df D_law_knot (hr.mono (by decide)) (pa_cons (pv 3) (pa_cons (pv 4) (pa_cons (pv 6) (pa_cons (pv 7) pa_nil))))) (nomark _)) (pw_or1 (pt_not (pt_chain op_le op_lt pe_int (pv 8) pe_int))))))
  (pss_one (ps_ret pe_bl))
  pss_nil)
  (pss_one (ps_if (PW.pt (pw_or (pt_cmpR op_ne (pe_dfK0 DK_knot (hr.mono (by decide)) (pk_cons (pv 7) (pk_cons (pv 6) (pk_cons (pv 4) (pk_cons (pv 3) pk_nil))))) (pv 8) (nomark _)) (pw_or1 (pt_cmpR op_ne (pe_df D_knot (hr.mono (by decide)) (pa_cons (pv 3) (pa_cons (pv 4) (pa_cons (pv 6) (pa_cons (pv 7) pa_nil))))) (pv 8) (nomark _)))))
  (pss_one (ps_ret pe_bl))
  pss_nil))))))))))))
  (pss_one (ps_ret (pe_and (pe_cmpR op_eq (pe_df D_knot (hr.mono (by decide)) (pa_cons pe_int (pa_cons pe_int (pa_cons pe_int (pa_cons pe_int pa_nil))))) (pe_df D_law_knot (hr.mono (by decide)) (pa_cons pe_int (pa_cons pe_int (pa_cons pe_int (pa_cons pe_int pa_nil))))) (nomark _)) (pe_one (pe_cmpR op_lt (pe_df D_knot (hr.mono (by decide)) (pa_cons (pe_op op_pow pe_int pe_int) (pa_cons (pe_op op_pow pe_int pe_int) (pa_cons pe_int (pa_cons (pe_un un_neg pe_int) pa_nil))))) pe_int (nomark _))))))), ?_⟩
  · obtain ⟨a, ns, rfl, hS, q⟩ := h
    walk_at "lw go"
    refine ⟨_, rfl, by decide, by decide, for_range (n := 12) (fun i σ H' => ∃ v1 v2 v3 v4 v5 v6 v7 v8 : Option V, σ = [some (.ref a), v1, v2, v3, v4, v5, v6, v7, v8] ∧ SqL K H' a (ns.map V.int))
      ⟨none, none, none, none, none, none, none, none, rfl, hS⟩ ?_ ?_⟩
    · rintro i σ H1 hi ⟨v1, v2, v3, v4, v5, v6, v7, v8, rfl, hS1⟩
      walk_at "lw go"
      refine ⟨a, ns, _, rfl, hS1, by omega, by omega, fun p o hp hP => ?_⟩
      walk_at "lw go"
      have k0 : Keep p H1 (upd H1 p o) := Keep.refl.put
      refine ⟨p, _, o, rfl, upd_same, hP, by decide, fun g o1 H2 g0 g1 k1 hp1 hP1 => ?_⟩
      walk_at "lw go"
      refine ⟨p, _, o1, rfl, hp1, hP1, by decide, fun sl o2 H3 s0 s1 k2 hp2 hP2 => ?_⟩
      walk_at "lw go"
      refine ⟨_, rfl, by decide, by decide, for_range (n := 4) (fun i' σ H' => ∃ v5 v6 v7 v8 : Option V, ∃ o', σ = [some (.ref a), some (.int (0 + i)), some (.ref p), some (.int g), some (.int sl), v5, v6, v7, v8] ∧ Keep p H1 H' ∧ H' p = some o' ∧ Purse (64024 + 24 * i') o')
        ⟨v5, v6, v7, v8, o2, rfl, (k0.trans k1).trans k2, hp2, hP2.mono (by omega)⟩ ?_ ?_⟩
      · rintro i' σ H4 hi' ⟨v5, v6, v7, v8, o4, rfl, k4, hp4, hP4⟩
        walk_at "lw go"
        refine ⟨p, _, o4, rfl, hp4, hP4, by omega, fun x o5 H5 x0 x1 k5 hp5 hP5 => ?_⟩
        walk_at "lw go"
        refine ⟨p, _, o5, rfl, hp5, hP5, by omega, fun z o6 H6 z0 z1 k6 hp6 hP6 => ?_⟩
        walk_at "lw go"
        refine ⟨_, _, _, _, rfl, ?_⟩
        walk_at "lw go"
        refine ⟨_, rfl, ?_⟩
        walk_at "lw go"
        refine ⟨_, _, _, _, rfl, ?_⟩
        walk_at "lw go"
        refine iteNS rfl ?_
        walk_at "lw go"
        have kb := knot_in g sl x z
        refine iteS kb.1 ?_
        walk_at "lw go"
        refine iteNS kb.2 ?_
        walk_at "lw go"
        refine ⟨_, _, _, _, rfl, ?_⟩
        walk_at "lw go"
        refine iteNS rfl ?_
        walk_at "lw go"
        refine ⟨_, _, _, _, rfl, ?_⟩
        walk_at "lw go"
        refine iteNS rfl ?_
        walk_at "lw go"
        exact ⟨_, _, _, _, o6, rfl, (k4.trans k5).trans k6, hp6, hP6.mono (by omega)⟩
      · rintro σ H4 ⟨v5, v6, v7, v8, o4, rfl, k4, hp4, hP4⟩
        exact ⟨_, _, _, _, _, _, _, _, rfl, k4.seqN hp hS1⟩
    · rintro σ H1 ⟨v1, v2, v3, v4, v5, v6, v7, v8, rfl, hS1⟩
      walk_at "lw go"
      refine ⟨_, _, _, _, rfl, ?_⟩
      walk_at "lw go"
      refine ⟨_, _, _, _, rfl, ?_⟩
      walk_at "lw go"
      refine iteS rfl ?_
      walk_at "lw go"
      refine ⟨_, _, _, _, rfl, ?_⟩
      walk_at "lw go"
      refine bl_of (show decide _ = true from decide_eq_true (knot_in _ _ _ _).2) (q H1)
end
/-! ### the head: facts by names, the run -/
def dd_knot : He.DefD := ⟨("knot", none), "knot", "knot", defArgs s_knot, defBody s_knot, defScope s_knot, [], []⟩
def dd_law_at : He.DefD := ⟨("_law_at", none), "_law_at", "_law_at", defArgs s_law_at, defBody s_law_at, defScope s_law_at, [], []⟩
def dd_law_mixed : He.DefD := ⟨("_law_mixed", none), "_law_mixed", "_law_mixed", defArgs s_law_mixed, defBody s_law_mixed, defScope s_law_mixed, [], []⟩
def dd_law_purse : He.DefD := ⟨("_law_purse", none), "_law_purse", "_law_purse", defArgs s_law_purse, defBody s_law_purse, defScope s_law_purse, [], []⟩
def dd_law_draw : He.DefD := ⟨("_law_draw", none), "_law_draw", "_law_draw", defArgs s_law_draw, defBody s_law_draw, defScope s_law_draw, [], []⟩
def dd_law_whole : He.DefD := ⟨("_law_whole", none), "_law_whole", "_law_whole", defArgs s_law_whole, defBody s_law_whole, defScope s_law_whole, [], []⟩
def dd_law_knot : He.DefD := ⟨("_law_knot", none), "_law_knot", "_law_knot", defArgs s_law_knot, defBody s_law_knot, defScope s_law_knot, [], []⟩
def dd_law_grain : He.DefD := ⟨("_law_grain", none), "_law_grain", "_law_grain", defArgs s_law_grain, defBody s_law_grain, defScope s_law_grain, [], []⟩
def dd_law_far : He.DefD := ⟨("_law_far", none), "_law_far", "_law_far", defArgs s_law_far, defBody s_law_far, defScope s_law_far, [], []⟩
def dd_law : He.DefD := ⟨("law", none), "law", "law", defArgs s_law, defBody s_law, defScope s_law, [], []⟩
def fn : List He.DefD := [dd_knot, dd_law_at, dd_law_mixed, dd_law_purse, dd_law_draw, dd_law_whole, dd_law_knot, dd_law_grain, dd_law_far, dd_law]
def fa : List He.Fa := [.glo "knot", .glo "_law_at", .glo "_law_mixed", .glo "_law_purse", .glo "_law_draw", .glo "_law_whole", .glo "_law_knot", .glo "_law_grain", .glo "_law_far", .glo "law", .free "len", .free "max", .free "range", .free "isinstance", .free "int", .free "bool"]
def loose : List Str := ["knot", "_law_at", "_law_mixed", "_law_purse", "_law_draw", "_law_whole", "_law_knot", "_law_grain", "_law_far"]
abbrev R : PySem.W.OpenRow := PySem.W.OpenLaw.row PySem.Challenge.rw_landweave_k01_knots
abbrev hk : PySem.W.Hook := He.hookD 4 fa fn
def ob (s : PySem.W.SharedT) : He.AlD := He.obsDG 4 fa fn (HandSHeadRun.getT s)
theorem ob_eq (s : PySem.W.SharedT) : ob s = hk.obs s.abs := He.obsDG_eq (HandSHeadRun.getT_eq s)
theorem run (w : World) : HandSHeadRun.RunEq R (PySem.W.view R.prog [11]) hk ob 800 loose w := by
  intro os
  kernel_rfl
theorem facts {P : Program} {w : World} {K : PySem.W.Frag} {h : Heap} {mg : Str → Option Value} {f : Addr} (X : K.In h) (G : h.Ns mainGlobals mg) (hfa : mg ("law" : Str) = some (.ref f)) (c : He.SaysD fa fn K) :
    ∃ fd : FuncData, (∀ (s : Shared) (v : Value), BindsTo s fd ⟨[v], []⟩ [("_law_script", v)]) ∧ ∀ base : Heap, K.In base → base.Ns mainGlobals mg → FnOk P w K mg base CX0 4 f fd ["_law_script"] (spLaw K) := by
  obtain ⟨fd_knot, F_knot⟩ := c.def_ 0 (d := dd_knot) rfl
  have g_knot := He.glo_ok X G (c.fact 0 (f := .glo "knot") rfl)
  obtain ⟨fd_law_at, F_law_at⟩ := c.def_ 1 (d := dd_law_at) rfl
  have g_law_at := He.glo_ok X G (c.fact 1 (f := .glo "_law_at") rfl)
  obtain ⟨fd_law_mixed, F_law_mixed⟩ := c.def_ 2 (d := dd_law_mixed) rfl
  have g_law_mixed := He.glo_ok X G (c.fact 2 (f := .glo "_law_mixed") rfl)
  obtain ⟨fd_law_purse, F_law_purse⟩ := c.def_ 3 (d := dd_law_purse) rfl
  have g_law_purse := He.glo_ok X G (c.fact 3 (f := .glo "_law_purse") rfl)
  obtain ⟨fd_law_draw, F_law_draw⟩ := c.def_ 4 (d := dd_law_draw) rfl
  have g_law_draw := He.glo_ok X G (c.fact 4 (f := .glo "_law_draw") rfl)
  obtain ⟨fd_law_whole, F_law_whole⟩ := c.def_ 5 (d := dd_law_whole) rfl
  have g_law_whole := He.glo_ok X G (c.fact 5 (f := .glo "_law_whole") rfl)
  obtain ⟨fd_law_knot, F_law_knot⟩ := c.def_ 6 (d := dd_law_knot) rfl
  have g_law_knot := He.glo_ok X G (c.fact 6 (f := .glo "_law_knot") rfl)
  obtain ⟨fd_law_grain, F_law_grain⟩ := c.def_ 7 (d := dd_law_grain) rfl
  have g_law_grain := He.glo_ok X G (c.fact 7 (f := .glo "_law_grain") rfl)
  obtain ⟨fd_law_far, F_law_far⟩ := c.def_ 8 (d := dd_law_far) rfl
  have g_law_far := He.glo_ok X G (c.fact 8 (f := .glo "_law_far") rfl)
  obtain ⟨fd_law, F_law⟩ := c.def_ 9 (d := dd_law) rfl
  have g_law := He.glo_ok X G (c.fact 9 (f := .glo "law") rfl)
  have T : Bi mg := ⟨He.free_ok X G (c.fact 10 (f := .free "len") rfl), He.free_ok X G (c.fact 11 (f := .free "max") rfl), He.free_ok X G (c.fact 12 (f := .free "range") rfl), He.free_ok X G (c.fact 13 (f := .free "isinstance") rfl), He.free_ok X G (c.fact 14 (f := .free "int") rfl), He.free_ok X G (c.fact 15 (f := .free "bool") rfl)⟩
  have e := hfa.symm.trans g_law
  cases e
  refine ⟨fd_law, fun s v => FunD.bindsA (ps := ["_law_script"]) F_law (fun _ _ _ _ _ _ us hl => match us, hl with | [_], _ => rfl) s [v] rfl, fun base _ _ => ?_⟩
  have D_law_at : Df P w K mg base "_law_at" _ 1 _ := ⟨_, _, g_law_at, F_law_at.kp, F_law_at.bindsN fun _ _ _ _ _ _ us hl => match us, hl with | [_, _], _ => rfl, ok_law_at F_law_at T⟩
  have D_law_mixed : Df P w K mg base "_law_mixed" _ 1 _ := ⟨_, _, g_law_mixed, F_law_mixed.kp, F_law_mixed.bindsN fun _ _ _ _ _ _ us hl => match us, hl with | [_, _], _ => rfl, ok_law_mixed F_law_mixed⟩
  have D_knot : Df P w K mg base "knot" _ 1 _ := ⟨_, _, g_knot, F_knot.kp, F_knot.bindsN fun _ _ _ _ _ _ us hl => match us, hl with | [_, _, _, _], _ => rfl, ok_knot F_knot⟩
  have D_law_knot : Df P w K mg base "_law_knot" _ 1 _ := ⟨_, _, g_law_knot, F_law_knot.kp, F_law_knot.bindsN fun _ _ _ _ _ _ us hl => match us, hl with | [_, _, _, _], _ => rfl, ok_law_knot F_law_knot⟩
  have D_law_whole : Df P w K mg base "_law_whole" _ 1 _ := ⟨_, _, g_law_whole, F_law_whole.kp, F_law_whole.bindsN fun _ _ _ _ _ _ us hl => match us, hl with | [_], _ => rfl, ok_law_whole F_law_whole T⟩
  have D_law_purse : Df P w K mg base "_law_purse" _ 2 _ := ⟨_, _, g_law_purse, F_law_purse.kp, F_law_purse.bindsN fun _ _ _ _ _ _ us hl => match us, hl with | [_, _], _ => rfl, ok_law_purse F_law_purse T D_law_at⟩
  have D_law_draw : Df P w K mg base "_law_draw" _ 2 _ := ⟨_, _, g_law_draw, F_law_draw.kp, F_law_draw.bindsN fun _ _ _ _ _ _ us hl => match us, hl with | [_, _], _ => rfl, ok_law_draw F_law_draw T D_law_mixed⟩
  have D_law_grain : Df P w K mg base "_law_grain" _ 3 _ := ⟨_, _, g_law_grain, F_law_grain.kp, F_law_grain.bindsN fun _ _ _ _ _ _ us hl => match us, hl with | [_], _ => rfl, ok_law_grain F_law_grain D_law_draw⟩
  have D_law_far : Df P w K mg base "_law_far" _ 3 _ := ⟨_, _, g_law_far, F_law_far.kp, F_law_far.bindsN fun _ _ _ _ _ _ us hl => match us, hl with | [_], _ => rfl, ok_law_far F_law_far D_law_draw⟩
  have DK_knot : DfK P w K mg base "knot" ["seed", "salt", "i", "j"] ["j", "i", "salt", "seed"] (onlyK List.reverse) 1 spKnot := ⟨_, _, _, g_knot, F_knot.kp, kb_of List.reverse F_knot (by decide) (fun ws h => by rw [List.length_reverse] at h; exact h)
    (fun r => vals_rev r) (fun _ _ _ _ _ _ ws hl => match ws, hl with | [_, _, _, _], _ => rfl), ok_knot F_knot⟩
  exact ok_law F_law T D_law_purse D_law_grain D_law_far D_knot DK_knot D_law_knot D_law_whole
end K1
open PySem PySem.W PySem.Calls PyProof.Rows
theorem PySem.Challenge.cw_landweave_k01_knots_holds : PySem.Challenge.rw_landweave_k01_knots.Holds := by
  w_on; o_law
  refine HandSHeadRun.head_any (r := OpenLaw.row PySem.Challenge.rw_landweave_k01_knots) (q := view (OpenLaw.row PySem.Challenge.rw_landweave_k01_knots).prog [11]) (H := K1.hk) (ob := K1.ob) (M := 800) (loose := K1.loose) (d := HandSHeadRun.topDef (OpenLaw.row PySem.Challenge.rw_landweave_k01_knots).prog 11) (kwd := []) K1.ob_eq
    (by kernel_rfl) (fun s => by kernel_rfl) K1.run (by kernel_rfl) (by kernel_rfl) (by kernel_rfl) (by rfl) (by first | assumption | decide +kernel) (by decide +kernel) ⟨rfl, rfl, rfl, rfl, rfl, by decide +kernel⟩ ?hw ?hc
  case hw => w_witness2
  case hc =>
    refine L2.walk_ofE (l := PySem.Challenge.rw_landweave_k01_knots) (n := 63) (k := 4) (x := "_law_script") (CX := L2.CX0) rfl (by decide) (by kernel_rfl) ⟨rfl, by decide, by decide⟩ ?F (fun _ _ _ _ z => z)
    intro w mg fa h Y G hmg0
    obtain ⟨K, KX, c⟩ := Y
    have hmg : mg ("law" : PySem.Str) = some (.ref fa) := by
      have e : (HandSHeadRun.topDef (OpenLaw.row PySem.Challenge.rw_landweave_k01_knots).prog 11).name = ("law" : PySem.Str) := by kernel_rfl
      rw [← e]
      exact hmg0
    obtain ⟨fd, hb, hF⟩ := K1.facts (P := (PySem.Challenge.rw_landweave_k01_knots).prog) (w := w) KX G hmg c
    exact ⟨K, fd, K1.spLaw K, KX, hb, fun H a ns hl _ hS => ⟨a, ns, rfl, hS, fun _ => rfl⟩, hF⟩

