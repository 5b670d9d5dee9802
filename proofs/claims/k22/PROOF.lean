import PyProof.Rows.All
import Wide.All
import OpenK.AllK
import Wide.FinOn
import KE.KStateDown
import Lean
import HandS.ForMost
import HandS.More
import HandS.Defaults
import HandS.Wide
import HandS.WideBits
import HandS.IsInst
import HandS.Flow
import HandS.Head0
import HandS.Head1
import HandS.Head2
import HandS.HeadEnd
import HandS.HeadHook1
import HandS.HeadHook2
import HandS.TupMul
import HandS.HeadHook4
import HandS.StrMore
import HandS.TupLen
import HandS.Conv
import HandS.Style
import HandS.Star
import HandS.Deep
import HandS.TryOnly
import PySem.Challenge.RW_landweave_k22_whole_fields
import PyProof.DictUpdate
import PyProof.DictDisplay
import PyProof.DictTable
import PyProof.EvalArms
import HandS.Dict
import PyProof.DictMoreH
import PyProof.WalkInts
import HandS.List
set_option Elab.async false
set_option linter.all false
set_option maxRecDepth 100000
set_option maxHeartbeats 4000000
/-! Words of my own over the hand layer: defs by name, readings rule by rule. -/
namespace Lw
open PySem PySem.Spec PyProof.Rows L2

/-! ### a def of the top by its name -/
structure Df (P : Program) (w : World) (K : PySem.W.Frag) (mg : Str → Option Value) (base : Heap) (x : Str) (ps : List Str) (k : Nat) (sp : Sp) : Prop where
  ex : ∃ (f : Addr) (fd : FuncData), mg x = some (.ref f) ∧ PySem.W.keepIn K (.ref f) = true ∧ Binds K fd ps [] ∧ FnOk P w K mg base CX0 k f fd ps sp
section
variable {X : Cx} {k : Nat} {ps ks : List Str} {sp : Sp} {x : Str} {p pos : Pos} {e : Expr} {es : List Expr} {kws : List Keyword} {t tk : TA} {g : List Value → List Value → List Value} {gV : List V → List V → List V}
theorem pe_df (D : Df X.prog X.w X.K X.mg X.base x ps k sp) (hr : Room k X.A) (ha : PA X (e :: es) t) (hg : Gl X x := by rfl) (hdb : (x == ("__debug__" : Str)) = false := by decide)
    (he : starEach (e :: es) X.env = (false, eval e X.env) :: starEach es X.env := by rfl) (hpl : (backTo pos (starEach es X.env)).any (·.1) = false := by rfl) :
    PE X (.Call (.Name x p) (e :: es) [] pos) (tCall sp [] E0 t) := by
  obtain ⟨f, fd, hm, hk, hb, F⟩ := D.ex
  exact pe_call F hr hg hm hk hb .nil pass0 ha hdb he hpl
theorem pe_df0 (D : Df X.prog X.w X.K X.mg X.base x ps k sp) (hr : Room k X.A) (hg : Gl X x := by rfl) (hdb : (x == ("__debug__" : Str)) = false := by decide) :
    PE X (.Call (.Name x p) [] [] pos) (tCall sp [] E0 tNil) := by
  obtain ⟨f, fd, hm, hk, hb, F⟩ := D.ex
  exact pe_call0 F hr hg hm hk hb .nil pass0 hdb
/-- f(k = v, ..) -/
theorem pe_callK0 {CX : CXT} {f : Addr} {fd : FuncData} {E : XK} (F : FnOk X.prog X.w X.K X.mg X.base CX k f fd ps sp) (hr : Room k X.A) (hg : Gl X x) (hm : X.mg x = some (.ref f)) (hk : PySem.W.keepIn X.K (.ref f) = true) (hb : KBinds X.K fd ps ks g gV) (hx : Passes CX X E)
    (hkw : PK X kws tk) (hall : (backToKw pos (keywordEach kws X.env)).all (·.1.isSome) = true := by rfl) (hks : (backToKw pos (keywordEach kws X.env)).filterMap (·.1) = ks := by rfl)
    (hdb : (x == ("__debug__" : Str)) = false := by decide)
    (hpl : ((backTo pos (starEach [] X.env)).any (·.1) || (backToKw pos (keywordEach kws X.env)).any (·.1.isNone)) = false := by rfl) :
    PE X (.Call (.Name x p) [] kws pos) (tCallK sp gV E tNil tk) := by
  refine ⟨fun pins s σ H Q I h => ?_⟩
  refine wpAny_Call_Name_kw (ld_glob I hg hm ?_ hdb)
  refine PySem.W.callWith_KW0 (h₀ := X.base) I.ok.mod.kin hk hall ?_ hpl
  refine thn (hkw.run pos pins s σ H _ I h) fun ws s2 ⟨zs, H2, I2, rz, q2⟩ => ⟨I2.kIn, ?_⟩
  rw [hks]
  exact run_fnk (us := []) (vs := []) F hr hb hx I2 .nil rz q2
/-- the same def by keywords -/
structure DfK (P : Program) (w : World) (K : PySem.W.Frag) (mg : Str → Option Value) (base : Heap) (x : Str) (ps ks : List Str) (gV : List V → List V → List V) (k : Nat) (sp : Sp) : Prop where
  ex : ∃ (f : Addr) (fd : FuncData) (g : List Value → List Value → List Value), mg x = some (.ref f) ∧ PySem.W.keepIn K (.ref f) = true ∧ KBinds K fd ps ks g gV ∧ FnOk P w K mg base CX0 k f fd ps sp
theorem pe_dfK0 (D : DfK X.prog X.w X.K X.mg X.base x ps ks gV k sp) (hr : Room k X.A) (hkw : PK X kws tk) (hg : Gl X x := by rfl)
    (hall : (backToKw pos (keywordEach kws X.env)).all (·.1.isSome) = true := by rfl) (hks : (backToKw pos (keywordEach kws X.env)).filterMap (·.1) = ks := by rfl)
    (hdb : (x == ("__debug__" : Str)) = false := by decide)
    (hpl : ((backTo pos (starEach [] X.env)).any (·.1) || (backToKw pos (keywordEach kws X.env)).any (·.1.isNone)) = false := by rfl) :
    PE X (.Call (.Name x p) [] kws pos) (tCallK sp gV E0 tNil tk) := by
  obtain ⟨f, fd, g, hm, hk, hb, F⟩ := D.ex
  exact pe_callK0 F hr hg hm hk hb pass0 hkw hall hks hdb hpl
theorem vals_rev : ∀ {zs : List V} {ws : List Value}, Vals zs ws → Vals zs.reverse ws.reverse
  | _, _, .nil => .nil
  | _, _, .cons r t => by
    rw [List.reverse_cons, List.reverse_cons]
    exact Vals.append (vals_rev t) (.cons r .nil)
/-- by keywords alone, in another order -/
def onlyK {α : Type} (g : List α → List α) : List α → List α → List α
  | [], ws => g ws
  | _ :: _, _ => []
theorem kb_of {K : PySem.W.Frag} {x qual : Str} {params : Arguments} {body : List Stmt} {scope : Scope} {kws : List (Str × V)} {f : Addr} {fd : FuncData} {ps ks : List Str} (g : {α : Type} → List α → List α) (F : FunD K x qual params body scope [] kws f fd) (hp : 0 < ps.length)
    (hl : ∀ ws : List Value, (g ws).length = ps.length → ws.length = ps.length) (hr : ∀ {zs : List V} {ws : List Value}, Vals zs ws → Vals (g zs) (g ws))
    (h : ∀ (kV doc pm : Value) (an : Option Addr) (cdv ct : Value) (ws : List Value), ws.length = ps.length → bindArgs (PySem.W.fnOf x qual params body scope .none kV doc pm an cdv ct) ⟨[], ks.zip ws⟩ = pure (ps.zip (g ws))) :
    KBinds K fd ps ks (onlyK g) (onlyK g) := by
  obtain ⟨oc, od, dV, kV, doc, pm, an, cdv, ct, osl, rfl, lk, hcd, hD, hK⟩ := F.ex
  rcases hD with ⟨_, rfl⟩ | ⟨e, _⟩
  · refine ⟨fun s us ws X e => ?_, fun {vs us zs ws} r1 r2 => ?_⟩
    · cases us with
      | nil => exact BindsTo.of_eq (h kV doc pm an cdv ct ws (hl ws e))
      | cons u us =>
        have z : (0 : Nat) = ps.length := e
        omega
    · cases r1 with
      | nil => exact hr r2
      | cons _ _ => exact .nil
  · exact absurd rfl e
/-! ### ** of a great base -/
def CPowW (i j : Int) : Prop := 0 ≤ j ∧ (Builtin.Int.intBits i : Int) * j ≤ 2 ^ 27
theorem op_powW : OpR X (binaryOp .Pow) (rI CPowW fun i j => .int (i ^ j.toNat)) := opI fun _ _ _ _ _ _ _ hc q => pow_int hc.1 hc.2 q
end

/-! ### rules whose reading names the written part itself (for the blocks of comprehensions) -/
section
variable {X : Cx} {K : PySem.W.Frag}
theorem ix_tupK (h : X.K = K := by rfl) : IxR X (rIxT K) := by subst h; exact ix_tup
theorem ix_listK (h : X.K = K := by rfl) : IxR X (rIxL K) := by subst h; exact ix_list
theorem sl_tupK (h : X.K = K := by rfl) : SlR X (rSlT K) := by subst h; exact sl_tup
theorem sl_listK (h : X.K = K := by rfl) : SlR X (rSlL K) := by subst h; exact sl_list
theorem call_lenK (h : X.K = K := by rfl) : CallR X (.builtin "len") (fun xs H Q => ∃ p ys, xs = [.ref p] ∧ (SqL K H p ys ∨ SqT K H p ys) ∧ Q (.int ys.length) H) := by subst h; exact call_len_seq
theorem call_isiK2 (h : X.K = K := by rfl) : CallR X (.builtin "isinstance") (rIsi K) := by subst h; exact call_isi
theorem op_inK (h : X.K = K := by rfl) : OpR X (compareOp .In) (rIn K false) := by subst h; exact op_in_seq
end
/-! ### readings -/
section
variable {σ σ' : L2.St} {H : Hp} {Q : VK} {v x y z : V} {ta tb tc te : TE} {r r' : R2} {i j : Int} {n : Nat} {D : Ends} {t u : TS} {c : TT} {K : PySem.W.Frag} {p : Addr} {xs : List V}
theorem g_var {m : Nat} (h : σ[m]? = some (some v)) (q : Q v H) : tVar m σ H Q := ⟨v, h, q⟩
theorem g_c (q : Q v H) : tC v σ H Q := q
theorem g_op (q : ta σ H fun x H1 => tb σ H1 fun y H2 => r x y H2 Q) : tOp r ta tb σ H Q := q
theorem g_un {r : V → Hp → VK → Prop} (q : ta σ H fun x H1 => r x H1 Q) : tUn r ta σ H Q := q
theorem g_U {g : Int → V} (q : Q (g i) H) : rU g (.int i) H Q := ⟨i, rfl, q⟩
theorem g_I0 {g : Int → Int → V} (q : Q (g i j) H) : rI0 g (.int i) (.int j) H Q := ⟨i, j, rfl, rfl, q⟩
theorem g_I {C : Int → Int → Prop} {g : Int → Int → V} (c : C i j) (q : Q (g i j) H) : rI C g (.int i) (.int j) H Q := ⟨i, j, rfl, rfl, c, q⟩
theorem g_eq (h : scal x y = true) (q : Q (.bl (decide (x = y))) H) : rEq x y H Q := ⟨h, q⟩
theorem g_ne (h : scal x y = true) (q : Q (.bl (!decide (x = y))) H) : rNe x y H Q := ⟨h, q⟩
theorem g_test {te : TE} {Q : Bool → Hp → Prop} (q : te σ H fun x H' => ∃ k, x = .bl k ∧ Q k H') : tTest te σ H Q := q
theorem g_B {te : TE} {Q : Bool → Hp → Prop} (q : te σ H fun x H' => ∃ k, x = .bl k ∧ Q k H') : tB te σ H Q := q
theorem g_bl {b : Bool} {P : Bool → Prop} (q : P b) : ∃ k, V.bl b = .bl k ∧ P k := ⟨b, rfl, q⟩
theorem g_and {t u : TT} {Q : Bool → Hp → Prop} (q : t σ H fun c H1 => if c = true then u σ H1 Q else Q false H1) : tAnd t u σ H Q := q
theorem g_or {t u : TT} {Q : Bool → Hp → Prop} (q : t σ H fun c H1 => if c = true then Q true H1 else u σ H1 Q) : tOr t u σ H Q := q
theorem g_not {t : TT} {Q : Bool → Hp → Prop} (q : t σ H fun c H1 => Q (!c) H1) : tNot t σ H Q := q
theorem g_andV (q : ta σ H fun x H1 => ∃ c, x = .bl c ∧ if c = true then tb σ H1 Q else Q (.bl false) H1) : tAndV ta tb σ H Q := q
theorem g_orV (q : ta σ H fun x H1 => ∃ c, x = .bl c ∧ if c = true then Q (.bl true) H1 else tb σ H1 Q) : tOrV ta tb σ H Q := q
theorem g_notV (q : ta σ H fun x H1 => ∃ c, x = .bl c ∧ Q (.bl (!c)) H1) : tNotV ta σ H Q := q
theorem g_if {t : TT} (q : t σ H fun c H1 => if c = true then ta σ H1 Q else tb σ H1 Q) : tIf t ta tb σ H Q := q
theorem g_chain (q : ta σ H fun x H1 => tb σ H1 fun y H2 => r x y H2 fun z H3 => ∃ k, z = .bl k ∧ (if k = true then tc σ H3 fun w' H4 => r' y w' H4 Q else Q (.bl false) H3)) : tChain r r' ta tb tc σ H Q := q
theorem g_seq (q : t { D with nx := u D } σ H) : tSeq t u D σ H := q
theorem g_next (q : D.nx σ H) : tNext D σ H := q
theorem g_asg {g : TG} (q : te σ H fun x H1 => g x σ H1 D.nx) : tAsg te g D σ H := q
theorem g_name {m : Nat} {Q : L2.St → Hp → Prop} (q : Q (σ.set m (some v)) H) : gName m v σ H Q := q
theorem g_nameN {m : Nat} {σ2 : L2.St} {Q : L2.St → Hp → Prop} (e : σ.set m (some v) = σ2) (q : Q σ2 H) : gName m v σ H Q := by
  subst e
  exact q
theorem g_cast {t : TS} {σ2 : L2.St} (e : σ = σ2) (q : t D σ2 H) : t D σ H := e ▸ q
theorem g_sub {s : TSet} {Q : L2.St → Hp → Prop} (q : ta σ H fun o H1 => tb σ H1 fun i H2 => s o i v H2 fun H3 => Q σ H3) : gSub ta tb s v σ H Q := q
theorem g_setL {Q : Hp → Prop} {m : Nat} (h : H p = some (.lst xs)) (hj : ixN xs.length i = some m) (q : Q (upd H p (.lst (xs.set m v)))) : rSetL (.ref p) (.int i) v H Q := ⟨p, xs, i, m, rfl, rfl, h, hj, q⟩
theorem g_par {i j : Nat} {ta : TA} (q : ta σ H fun vs H1 => ∃ v w, vs = [v, w] ∧ D.nx ((σ.set i (some v)).set j (some w)) H1) : tPar i j ta D σ H := q
theorem g_drop (q : te σ H fun _ H1 => D.nx σ H1) : tDrop te D σ H := q
theorem g_ret (q : te σ H D.rt) : tRet te D σ H := q
theorem g_retN (q : D.rt .non H) : tRetN D σ H := q
theorem g_ifS (q : c σ H fun b H1 => if b = true then t D σ H1 else u D σ H1) : tIfS c t u D σ H := q
theorem g_nil {Q : List V → Hp → Prop} (q : Q [] H) : tNil σ H Q := q
theorem g_cons {ts : TA} {Q : List V → Hp → Prop} (q : ta σ H fun x H1 => ts σ H1 fun xs H2 => Q (x :: xs) H2) : tCons ta ts σ H Q := q
theorem g_tup {ts : TA} (q : ts σ H fun xs H1 => xs.length ≤ sizeLine ∧ ∀ p, H1 p = none → Q (.ref p) (upd H1 p (.tup xs))) : tTup ts σ H Q := q
theorem g_lst {ts : TA} (q : ts σ H fun xs H1 => xs.length ≤ sizeLine ∧ ∀ p, H1 p = none → Q (.ref p) (upd H1 p (.lst xs))) : tLst ts σ H Q := q
theorem g_CB {f : List V → Hp → VK → Prop} {ts : TA} (q : ts σ H fun vs H1 => f vs H1 Q) : tCB f ts σ H Q := q
theorem g_call {sp : Sp} {E : XK} {ts : TA} (q : ts σ H fun vs H1 => sp vs H1 Q E) : tCall sp [] E ts σ H Q := by
  unfold tCall
  simp only [List.append_nil]
  exact q
theorem g_callK {sp : Sp} {E : XK} {gV : List V → List V → List V} {ts tk : TA} (q : ts σ H fun vs H1 => tk σ H1 fun zs H2 => sp (gV vs zs) H2 Q E) : tCallK sp gV E ts tk σ H Q := q
theorem g_bits (h : ta σ H fun x H1 => ∃ i, x = .int i ∧ Q (.int (Builtin.Int.intBits i : Nat)) H1) : tBits ta σ H Q := h
theorem g_int {P : Int → Prop} (q : P i) : ∃ j, V.int i = .int j ∧ P j := ⟨i, rfl, q⟩
theorem g_for {wi : TI} {g : TG} {tb : TS} (q : wi σ H fun J H1 => ∃ W : Nat → Nat → L2.St → Hp → Prop, (∃ m, W 0 m σ H1) ∧ ∀ i m σ H, W i m σ H →
      (J.stop i H ∧ D.nx σ H) ∨ (J.go i H ∧ ∃ N : L2.St → Hp → Prop, (∀ σ' H', N σ' H' → ∃ m', m' < m ∧ W (i + 1) m' σ' H') ∧ ∀ x H', J.yld i H x H' → g x σ H' fun σ2 H2 => tb { D with nx := N, ct := N, bk := D.nx } σ2 H2)) : tFor wi g tb D σ H := q
theorem g_rng1 {ts : TA} {R : It → Hp → Prop} (q : ts σ H fun vs H1 => ∃ j : Int, vs = [.int j] ∧ -(2 ^ 62) ≤ j ∧ j < 2 ^ 62 ∧ R (Itr 0 j.toNat) H1) : iRng1 ts σ H R := q
theorem g_ixL (h : SqL K H p xs) (ha : atI xs i = some v) (q : Q v H) : rIxL K (.ref p) (.int i) H Q := ⟨p, xs, i, v, rfl, rfl, h, ha, q⟩
theorem g_ixT (h : SqT K H p xs) (ha : atI xs i = some v) (q : Q v H) : rIxT K (.ref p) (.int i) H Q := ⟨p, xs, i, v, rfl, rfl, h, ha, q⟩
/-- a test that the facts leave open -/
theorem g_ite {c A B : Prop} [Decidable c] (h1 : c → A) (h2 : ¬ c → B) : if decide c = true then A else B := by
  by_cases h : c
  · rw [decide_eq_true h]; exact iteT (h1 h)
  · rw [decide_eq_false h]; exact iteF (h2 h)
theorem g_iteN {c A B : Prop} [Decidable c] (h1 : ¬ c → A) (h2 : c → B) : if (!decide c) = true then A else B := by
  by_cases h : c
  · rw [decide_eq_true h]; exact iteF (h2 h)
  · rw [decide_eq_false h]; exact iteT (h1 h)
theorem iteNT {A B : Prop} (h : B) : if (!true) = true then A else B := iteF h
theorem iteNF {A B : Prop} (h : A) : if (!false) = true then A else B := iteT h
theorem iteS {c A B : Prop} [Decidable c] (hc : c) (h : A) : if decide c = true then A else B := by
  rw [decide_eq_true hc]
  exact iteT h
theorem iteNo {c A B : Prop} [Decidable c] (hc : ¬ c) (h : B) : if decide c = true then A else B := by
  rw [decide_eq_false hc]
  exact iteF h
theorem iteSE {a b : Str} {A B : Prop} (h : a = b) (q : A) : if decide (V.str a = V.str b) = true then A else B := iteS (by rw [h]) q
theorem iteSN {a b : Str} {A B : Prop} (h : decide (a = b) = false) (q : B) : if decide (V.str a = V.str b) = true then A else B := iteNo (fun e => by cases e; simp at h) q
theorem g_dget {td ty : TE} (q : td σ H fun x H1 => ty σ H1 fun y H2 => ∃ a v, x = .ref a ∧ DGet H2 a y (some v) ∧ Q v H2) : tDGet td ty σ H Q := q
theorem g_dput {td ty tv : TE} (q : tv σ H fun v H1 => td σ H1 fun x H2 => ty σ H2 fun y H3 => ∃ a H4, x = .ref a ∧ DPut H3 a y v H4 ∧ D.nx σ H4) : sDPut td ty tv D σ H := q
theorem g_dnew (q : ∀ p, H p = none → Q (.ref p) (upd H p (.dK []))) : tDNewK σ H Q := q
theorem g_tupT {t : TGs} {Q : L2.St → Hp → Prop} {m : Nat} (h : SqT K H p xs) (hl : xs.length = m) (q : t xs σ H Q) : gTup K m t (.ref p) σ H Q := ⟨p, xs, rfl, h, hl, q⟩
theorem g_gcons {t : TG} {u : TGs} {Q : L2.St → Hp → Prop} (q : t v σ H fun σ' H' => u xs σ' H' Q) : gCons t u (v :: xs) σ H Q := ⟨v, xs, rfl, q⟩
theorem g_gnil {Q : L2.St → Hp → Prop} (q : Q σ H) : gNil [] σ H Q := ⟨rfl, q⟩
theorem g_itup {tl : TE} {R : It → Hp → Prop} (q : tl σ H fun x H1 => ∃ a, x = .ref a ∧ (∃ xs, SqT K H1 a xs) ∧ R (Itt K a) H1) : iTup K tl σ H R := q
theorem g_ilist {tl : TE} {R : It → Hp → Prop} (q : tl σ H fun x H1 => ∃ a, x = .ref a ∧ (∃ xs, SqL K H1 a xs) ∧ R (Itl K a) H1) : iList K tl σ H R := q
theorem g_sl {s : V → Option Int → Option Int → Hp → VK → Prop} {tl th : TO} (q : te σ H fun x H1 => tl σ H1 fun l H2 => th σ H2 fun u H3 => s x l u H3 Q) : tSl s te tl th σ H Q := q
theorem g_part {Q : Option Int → Hp → Prop} (q : te σ H fun x H1 => ∃ i, x = .int i ∧ Q (some i) H1) : tPart te σ H Q := q
theorem g_nopart {Q : Option Int → Hp → Prop} (q : Q none H) : tNoPart σ H Q := q
theorem g_slT {lo hi : Option Int} (h : SqT K H p xs) (hw : ¬ (HT.sIx xs.length 0 lo = 0 ∧ HT.sIx xs.length xs.length hi = xs.length)) (q : ∀ p', H p' = none → Q (.ref p') (upd H p' (.tup (cutV xs lo hi)))) : rSlT K (.ref p) lo hi H Q := ⟨p, xs, rfl, h, hw, q⟩
theorem g_slL {lo hi : Option Int} (h : SqL K H p xs) (q : ∀ p', H p' = none → Q (.ref p') (upd H p' (.lst (cutV xs lo hi)))) : rSlL K (.ref p) lo hi H Q := ⟨p, xs, rfl, h, q⟩
theorem g_cat {l b : Addr} {xs zs : List V} (h1 : H l = some (.lst xs)) (h2 : H b = some (.lst zs)) (hl : xs.length + zs.length ≤ sizeLine) (q : ∀ p', H p' = none → Q (.ref p') (upd H p' (.lst (xs ++ zs)))) : rCat (.ref l) (.ref b) H Q := ⟨l, b, xs, zs, rfl, rfl, h1, h2, hl, q⟩
theorem g_lc {wi : TI} {g : TG} {tt : TT} {vs : List Nat} (q : wi σ H fun J H1 => ∀ D, H1 D = none → ∃ W : Nat → Nat → Hp → Prop, (∃ m, W 0 m (upd H1 D (.lst []))) ∧ ∀ i m H, W i m H →
  (J.stop i H ∧ Q (.ref D) H) ∨ (J.go i H ∧ ∃ Nx : Hp → Prop, (∀ H', Nx H' → ∃ m', m' < m ∧ W (i + 1) m' H') ∧ ∀ x H', J.yld i H x H' → g x (wipe σ vs) H' fun σ2 H2 => wipe σ2 vs = wipe σ vs ∧ tt σ2 H2 fun b H3 =>
    if b = true then te σ2 H3 fun y H4 => ∃ acc, H4 D = some (.lst acc) ∧ acc.length < sizeLine ∧ Nx (upd H4 D (.lst (acc ++ [y]))) else Nx H3)) : tLc wi g tt te vs σ H Q := q
theorem g_bm {T : String} {r : V → List V → Hp → VK → Prop} {t : TA} (q : te σ H fun x H1 => tyV K T x H1 ∧ t σ H1 fun xs H2 => r x xs H2 Q) : tBM K T r te t σ H Q := q
theorem g_bm0 {T : String} {r : V → List V → Hp → VK → Prop} (q : te σ H fun x H1 => tyV K T x H1 ∧ r x [] H1 Q) : tBM0 K T r te σ H Q := q
theorem g_append {l : Addr} {y : V} (h : H l = some (.lst xs)) (hl : xs.length < sizeLine) (q : Q .non (upd H l (.lst (xs ++ [y])))) : rAppend (.ref l) [y] H Q := ⟨l, xs, y, rfl, rfl, h, hl, q⟩
theorem tyL {l : Addr} (h : H l = some (.lst xs)) : tyV K "list" (.ref l) H := .inl ⟨rfl, _, SqL.of h⟩
theorem g_max2 {i j : Int} {P : Int → Prop} (q : P (if j > i then j else i)) : ∃ i' j' : Int, [V.int i, V.int j] = [V.int i', V.int j'] ∧ P (if j' > i' then j' else i') := ⟨i, j, rfl, q⟩
end
theorem upd_self {H : Hp} {p : Addr} {o : HO} (h : H p = some o) : upd H p o = H := by
  funext b
  unfold upd
  by_cases e : b = p
  · rw [if_pos e, e, h]
  · rw [if_neg e]
/-- all but p is kept -/
def Keep (p : Addr) (H H' : Hp) : Prop := ∀ b u, b ≠ p → H b = some u → H' b = some u
theorem Keep.refl {p : Addr} {H : Hp} : Keep p H H := fun _ _ _ h => h
theorem Keep.trans {p : Addr} {H H1 H2 : Hp} (a : Keep p H H1) (b : Keep p H1 H2) : Keep p H H2 := fun c u n h => b c u n (a c u n h)
theorem Keep.put {p : Addr} {H H' : Hp} {o : HO} (a : Keep p H H') : Keep p H (upd H' p o) := fun c u n h => by
  rw [upd_ne n]
  exact a c u n h
theorem Keep.new {p x : Addr} {H H' : Hp} {o : HO} (a : Keep p H H') (hx : H' x = none) : Keep p H (upd H' x o) := fun c u n h => by
  rw [upd_ne (ne_of_none (a c u n h) hx)]
  exact a c u n h
theorem Keep.seq {K : PySem.W.Frag} {p a : Addr} {H H' : Hp} {xs : List V} (k : Keep p H H') (n : a ≠ p) (h : SqL K H a xs) : SqL K H' a xs := by
  rcases h with (h | ⟨o, h⟩) | h
  · exact .inl (.inl (k _ _ n h))
  · exact .inl (.inr ⟨o, k _ _ n h⟩)
  · exact .inr h
theorem Keep.seqN {K : PySem.W.Frag} {p a : Addr} {H H' : Hp} {xs : List V} (k : Keep p H H') (n : H p = none) (h : SqL K H a xs) : SqL K H' a xs := by
  rcases h with (h | ⟨o, h⟩) | h
  · exact .inl (.inl (k _ _ (ne_of_none h n) h))
  · exact .inl (.inr ⟨o, k _ _ (ne_of_none h n) h⟩)
  · exact .inr h
/-! ### numbers -/
theorem bits_le {n : Int} (h0 : 0 ≤ n) (h : n ≤ 1000000000000000000000000000000) : Builtin.Int.intBits n ≤ 100 := by
  have e : (2 : Nat) ^ 100 = 1267650600228229401496703205376 := by decide
  have hb : n.natAbs < 2 ^ 100 := by omega
  have l := PySem.Flt.log2_lt_of (by decide) hb
  unfold Builtin.Int.intBits
  split <;> omega
theorem div_ok {i n : Int} (h0 : 0 < n) (h : n ≤ 1000000000000000000000000000000) : CDivW i n := by
  have e : (2 : Nat) ^ 100 = 1267650600228229401496703205376 := by decide
  exact wide_div h0 (b := 100) (by omega) (by decide) (by decide)
theorem pow_ok {i j : Int} (h : decide (0 ≤ j ∧ (Builtin.Int.intBits i : Int) * j ≤ 2 ^ 27) = true) : CPowW i j := (show _ ∧ _ from of_decide_eq_true h)
end Lw

namespace L22
open PySem PySem.Spec PyProof.Rows L2
def top (i : Nat) : Stmt := PySem.Challenge.pw_landweave_k22_whole_fields.main.body.getD i (.Pass ⟨0, 0, 0, 0⟩)
abbrev s_is_from : Stmt := top 9
abbrev s_is_name : Stmt := top 10
abbrev s_is_point : Stmt := top 11
abbrev s_must_point : Stmt := top 12
abbrev s_is_box : Stmt := top 13
abbrev s_must_box : Stmt := top 14
abbrev s_knot : Stmt := top 23
abbrev s_four_knots : Stmt := top 24
abbrev s_knot_row : Stmt := top 25
abbrev s_noise_value : Stmt := top 29
abbrev s_knots_beside : Stmt := top 31
abbrev s_noise_grid : Stmt := top 30
abbrev s_corner_values : Stmt := top 33
abbrev s_turns : Stmt := top 34
abbrev s_noise_range : Stmt := top 32
abbrev s_weighed : Stmt := top 47
abbrev s_weighed_long : Stmt := top 48
abbrev s_greatest_of : Stmt := top 46
abbrev s_placed : Stmt := top 50
abbrev s_below_range : Stmt := top 54
abbrev s_joined_range : Stmt := top 55
abbrev s_ranges_of : Stmt := top 53
abbrev s_must_ranges : Stmt := top 49
abbrev s_steps_of : Stmt := top 43
abbrev s_run_known : Stmt := top 51
abbrev s_run_steps : Stmt := top 44
abbrev s_value_at : Stmt := top 42
abbrev s_steps_range : Stmt := top 52
abbrev s_bounds_of : Stmt := top 45
abbrev s_law_at : Stmt := top 57
abbrev s_law_mixed : Stmt := top 58
abbrev s_law_purse : Stmt := top 59
abbrev s_law_draw : Stmt := top 60
abbrev s_law_knot : Stmt := top 61
abbrev s_law_noise : Stmt := top 62
abbrev s_law_noise_range : Stmt := top 63
abbrev s_law_two_range : Stmt := top 64
abbrev s_law_below_range : Stmt := top 65
abbrev s_law_range : Stmt := top 66
abbrev s_law_number : Stmt := top 67
abbrev s_law_leaf : Stmt := top 68
abbrev s_law_field : Stmt := top 69
abbrev s_law_all_ranges : Stmt := top 70
abbrev s_law_small : Stmt := top 71
abbrev s_law_rules : Stmt := top 72
abbrev s_law_grain : Stmt := top 73
abbrev s_law_place : Stmt := top 74
abbrev s_law_area : Stmt := top 75
abbrev s_law_simple : Stmt := top 76
abbrev s_law_same : Stmt := top 77
abbrev s_law_words_right : Stmt := top 78
abbrev s_law_steps_right : Stmt := top 79
abbrev s_law_down_right : Stmt := top 80
abbrev s_law_noise_right : Stmt := top 81
abbrev s_law : Stmt := top 82
namespace Hd
/-! ### the head: facts by names, the run -/
def dd_is_from : He.DefD := ⟨("is_from", none), "is_from", "is_from", defArgs s_is_from, defBody s_is_from, defScope s_is_from, [], []⟩
def dd_is_name : He.DefD := ⟨("is_name", none), "is_name", "is_name", defArgs s_is_name, defBody s_is_name, defScope s_is_name, [], []⟩
def dd_is_point : He.DefD := ⟨("is_point", none), "is_point", "is_point", defArgs s_is_point, defBody s_is_point, defScope s_is_point, [], []⟩
def dd_must_point : He.DefD := ⟨("must_point", none), "must_point", "must_point", defArgs s_must_point, defBody s_must_point, defScope s_must_point, [], []⟩
def dd_is_box : He.DefD := ⟨("is_box", none), "is_box", "is_box", defArgs s_is_box, defBody s_is_box, defScope s_is_box, [], []⟩
def dd_must_box : He.DefD := ⟨("must_box", none), "must_box", "must_box", defArgs s_must_box, defBody s_must_box, defScope s_must_box, [], []⟩
def dd_knot : He.DefD := ⟨("knot", none), "knot", "knot", defArgs s_knot, defBody s_knot, defScope s_knot, [], []⟩
def dd_four_knots : He.DefD := ⟨("four_knots", none), "four_knots", "four_knots", defArgs s_four_knots, defBody s_four_knots, defScope s_four_knots, [], []⟩
def dd_knot_row : He.DefD := ⟨("knot_row", none), "knot_row", "knot_row", defArgs s_knot_row, defBody s_knot_row, defScope s_knot_row, [], []⟩
def dd_noise_value : He.DefD := ⟨("noise_value", none), "noise_value", "noise_value", defArgs s_noise_value, defBody s_noise_value, defScope s_noise_value, [], []⟩
def dd_noise_grid : He.DefD := ⟨("noise_grid", none), "noise_grid", "noise_grid", defArgs s_noise_grid, defBody s_noise_grid, defScope s_noise_grid, [], []⟩
def dd_knots_beside : He.DefD := ⟨("knots_beside", none), "knots_beside", "knots_beside", defArgs s_knots_beside, defBody s_knots_beside, defScope s_knots_beside, [], []⟩
def dd_noise_range : He.DefD := ⟨("noise_range", none), "noise_range", "noise_range", defArgs s_noise_range, defBody s_noise_range, defScope s_noise_range, [], []⟩
def dd_corner_values : He.DefD := ⟨("corner_values", none), "corner_values", "corner_values", defArgs s_corner_values, defBody s_corner_values, defScope s_corner_values, [], []⟩
def dd_turns : He.DefD := ⟨("turns", none), "turns", "turns", defArgs s_turns, defBody s_turns, defScope s_turns, [], []⟩
def dd_value_at : He.DefD := ⟨("value_at", none), "value_at", "value_at", defArgs s_value_at, defBody s_value_at, defScope s_value_at, [], []⟩
def dd_steps_of : He.DefD := ⟨("steps_of", none), "steps_of", "steps_of", defArgs s_steps_of, defBody s_steps_of, defScope s_steps_of, [], []⟩
def dd_run_steps : He.DefD := ⟨("run_steps", none), "run_steps", "run_steps", defArgs s_run_steps, defBody s_run_steps, defScope s_run_steps, [], []⟩
def dd_bounds_of : He.DefD := ⟨("bounds_of", none), "bounds_of", "bounds_of", defArgs s_bounds_of, defBody s_bounds_of, defScope s_bounds_of, [], []⟩
def dd_greatest_of : He.DefD := ⟨("greatest_of", none), "greatest_of", "greatest_of", defArgs s_greatest_of, defBody s_greatest_of, defScope s_greatest_of, [], []⟩
def dd_weighed : He.DefD := ⟨("weighed", none), "weighed", "weighed", defArgs s_weighed, defBody s_weighed, defScope s_weighed, [], []⟩
def dd_weighed_long : He.DefD := ⟨("weighed_long", none), "weighed_long", "weighed_long", defArgs s_weighed_long, defBody s_weighed_long, defScope s_weighed_long, [], []⟩
def dd_must_ranges : He.DefD := ⟨("must_ranges", none), "must_ranges", "must_ranges", defArgs s_must_ranges, defBody s_must_ranges, defScope s_must_ranges, [], []⟩
def dd_placed : He.DefD := ⟨("placed", none), "placed", "placed", defArgs s_placed, defBody s_placed, defScope s_placed, [], []⟩
def dd_run_known : He.DefD := ⟨("run_known", none), "run_known", "run_known", defArgs s_run_known, defBody s_run_known, defScope s_run_known, [], []⟩
def dd_steps_range : He.DefD := ⟨("steps_range", none), "steps_range", "steps_range", defArgs s_steps_range, defBody s_steps_range, defScope s_steps_range, [], []⟩
def dd_ranges_of : He.DefD := ⟨("ranges_of", none), "ranges_of", "ranges_of", defArgs s_ranges_of, defBody s_ranges_of, defScope s_ranges_of, [], []⟩
def dd_below_range : He.DefD := ⟨("below_range", none), "below_range", "below_range", defArgs s_below_range, defBody s_below_range, defScope s_below_range, [], []⟩
def dd_joined_range : He.DefD := ⟨("joined_range", none), "joined_range", "joined_range", defArgs s_joined_range, defBody s_joined_range, defScope s_joined_range, [], []⟩
def dd_law_at : He.DefD := ⟨("_law_at", none), "_law_at", "_law_at", defArgs s_law_at, defBody s_law_at, defScope s_law_at, [], []⟩
def dd_law_mixed : He.DefD := ⟨("_law_mixed", none), "_law_mixed", "_law_mixed", defArgs s_law_mixed, defBody s_law_mixed, defScope s_law_mixed, [], []⟩
def dd_law_purse : He.DefD := ⟨("_law_purse", none), "_law_purse", "_law_purse", defArgs s_law_purse, defBody s_law_purse, defScope s_law_purse, [], []⟩
def dd_law_draw : He.DefD := ⟨("_law_draw", none), "_law_draw", "_law_draw", defArgs s_law_draw, defBody s_law_draw, defScope s_law_draw, [], []⟩
def dd_law_knot : He.DefD := ⟨("_law_knot", none), "_law_knot", "_law_knot", defArgs s_law_knot, defBody s_law_knot, defScope s_law_knot, [], []⟩
def dd_law_noise : He.DefD := ⟨("_law_noise", none), "_law_noise", "_law_noise", defArgs s_law_noise, defBody s_law_noise, defScope s_law_noise, [], []⟩
def dd_law_noise_range : He.DefD := ⟨("_law_noise_range", none), "_law_noise_range", "_law_noise_range", defArgs s_law_noise_range, defBody s_law_noise_range, defScope s_law_noise_range, [], []⟩
def dd_law_two_range : He.DefD := ⟨("_law_two_range", none), "_law_two_range", "_law_two_range", defArgs s_law_two_range, defBody s_law_two_range, defScope s_law_two_range, [], []⟩
def dd_law_below_range : He.DefD := ⟨("_law_below_range", none), "_law_below_range", "_law_below_range", defArgs s_law_below_range, defBody s_law_below_range, defScope s_law_below_range, [], []⟩
def dd_law_range : He.DefD := ⟨("_law_range", none), "_law_range", "_law_range", defArgs s_law_range, defBody s_law_range, defScope s_law_range, [], []⟩
def dd_law_number : He.DefD := ⟨("_law_number", none), "_law_number", "_law_number", defArgs s_law_number, defBody s_law_number, defScope s_law_number, [], []⟩
def dd_law_leaf : He.DefD := ⟨("_law_leaf", none), "_law_leaf", "_law_leaf", defArgs s_law_leaf, defBody s_law_leaf, defScope s_law_leaf, [], []⟩
def dd_law_field : He.DefD := ⟨("_law_field", none), "_law_field", "_law_field", defArgs s_law_field, defBody s_law_field, defScope s_law_field, [], []⟩
def dd_law_all_ranges : He.DefD := ⟨("_law_all_ranges", none), "_law_all_ranges", "_law_all_ranges", defArgs s_law_all_ranges, defBody s_law_all_ranges, defScope s_law_all_ranges, [], []⟩
def dd_law_small : He.DefD := ⟨("_law_small", none), "_law_small", "_law_small", defArgs s_law_small, defBody s_law_small, defScope s_law_small, [], []⟩
def dd_law_rules : He.DefD := ⟨("_law_rules", none), "_law_rules", "_law_rules", defArgs s_law_rules, defBody s_law_rules, defScope s_law_rules, [], []⟩
def dd_law_grain : He.DefD := ⟨("_law_grain", none), "_law_grain", "_law_grain", defArgs s_law_grain, defBody s_law_grain, defScope s_law_grain, [], []⟩
def dd_law_place : He.DefD := ⟨("_law_place", none), "_law_place", "_law_place", defArgs s_law_place, defBody s_law_place, defScope s_law_place, [], []⟩
def dd_law_area : He.DefD := ⟨("_law_area", none), "_law_area", "_law_area", defArgs s_law_area, defBody s_law_area, defScope s_law_area, [], []⟩
def dd_law_simple : He.DefD := ⟨("_law_simple", none), "_law_simple", "_law_simple", defArgs s_law_simple, defBody s_law_simple, defScope s_law_simple, [], []⟩
def dd_law_same : He.DefD := ⟨("_law_same", none), "_law_same", "_law_same", defArgs s_law_same, defBody s_law_same, defScope s_law_same, [], []⟩
def dd_law_words_right : He.DefD := ⟨("_law_words_right", none), "_law_words_right", "_law_words_right", defArgs s_law_words_right, defBody s_law_words_right, defScope s_law_words_right, [], []⟩
def dd_law_steps_right : He.DefD := ⟨("_law_steps_right", none), "_law_steps_right", "_law_steps_right", defArgs s_law_steps_right, defBody s_law_steps_right, defScope s_law_steps_right, [], []⟩
def dd_law_down_right : He.DefD := ⟨("_law_down_right", none), "_law_down_right", "_law_down_right", defArgs s_law_down_right, defBody s_law_down_right, defScope s_law_down_right, [], []⟩
def dd_law_noise_right : He.DefD := ⟨("_law_noise_right", none), "_law_noise_right", "_law_noise_right", defArgs s_law_noise_right, defBody s_law_noise_right, defScope s_law_noise_right, [], []⟩
def dd_law : He.DefD := ⟨("law", none), "law", "law", defArgs s_law, defBody s_law, defScope s_law, [], []⟩
def fn : List He.DefD := [dd_is_from, dd_is_name, dd_is_point, dd_must_point, dd_is_box, dd_must_box, dd_knot, dd_four_knots, dd_knot_row, dd_noise_value, dd_noise_grid, dd_knots_beside, dd_noise_range, dd_corner_values, dd_turns, dd_value_at, dd_steps_of, dd_run_steps, dd_bounds_of, dd_greatest_of, dd_weighed, dd_weighed_long, dd_must_ranges, dd_placed, dd_run_known, dd_steps_range, dd_ranges_of, dd_below_range, dd_joined_range, dd_law_at, dd_law_mixed, dd_law_purse, dd_law_draw, dd_law_knot, dd_law_noise, dd_law_noise_range, dd_law_two_range, dd_law_below_range, dd_law_range, dd_law_number, dd_law_leaf, dd_law_field, dd_law_all_ranges, dd_law_small, dd_law_rules, dd_law_grain, dd_law_place, dd_law_area, dd_law_simple, dd_law_same, dd_law_words_right, dd_law_steps_right, dd_law_down_right, dd_law_noise_right, dd_law]
def fa : List He.Fa := [.glo "is_from", .glo "is_name", .glo "is_point", .glo "must_point", .glo "is_box", .glo "must_box", .glo "knot", .glo "four_knots", .glo "knot_row", .glo "noise_value", .glo "noise_grid", .glo "knots_beside", .glo "noise_range", .glo "corner_values", .glo "turns", .glo "value_at", .glo "steps_of", .glo "run_steps", .glo "bounds_of", .glo "greatest_of", .glo "weighed", .glo "weighed_long", .glo "must_ranges", .glo "placed", .glo "run_known", .glo "steps_range", .glo "ranges_of", .glo "below_range", .glo "joined_range", .glo "_law_at", .glo "_law_mixed", .glo "_law_purse", .glo "_law_draw", .glo "_law_knot", .glo "_law_noise", .glo "_law_noise_range", .glo "_law_two_range", .glo "_law_below_range", .glo "_law_range", .glo "_law_number", .glo "_law_leaf", .glo "_law_field", .glo "_law_all_ranges", .glo "_law_small", .glo "_law_rules", .glo "_law_grain", .glo "_law_place", .glo "_law_area", .glo "_law_simple", .glo "_law_same", .glo "_law_words_right", .glo "_law_steps_right", .glo "_law_down_right", .glo "_law_noise_right", .glo "law", .free "isinstance", .free "int", .free "bool", .free "str", .free "len", .free "tuple", .free "reversed", .free "enumerate", .free "zip", .free "min", .free "max", .free "range", .free "list", .free "abs", .free "sum", .free "dict", .int "EDGE" (1000000), .int "LONGEST_NAME" (8), .int "MOST_SQUARES" (64), .int "GREATEST_KNOT" (65535), .int "MOST_FIELDS" (200), .int "GREATEST_VALUE" (1000000000000000000000000000000), .int "BEYOND" (1000000000000000000000000000001), .glo "ALL_POINTS", .glo "PAIRS", .glo "PLACE", .glo "NOISE"]
def loose : List Str := (["LandError", "NoRules", "NoBox", "NoPoint", "EDGE", "ALL_POINTS", "LONGEST_NAME", "is_from", "is_name", "is_point", "must_point", "is_box", "must_box", "SHAPES", "NUMBERS", "must_parts", "must_field", "is_shaped", "parts_of", "knot", "four_knots", "knot_row", "MOST_SQUARES", "GREATEST_KNOT", "noise_value", "noise_grid", "knots_beside", "noise_range", "corner_values", "turns"] : List Str) ++ (["MOST_FIELDS", "GREATEST_VALUE", "BEYOND", "PAIRS", "PLACE", "NOISE", "value_at", "steps_of", "run_steps", "bounds_of", "greatest_of", "weighed", "weighed_long", "must_ranges", "placed", "run_known", "steps_range", "ranges_of", "below_range", "joined_range", "_law_at", "_law_mixed", "_law_purse", "_law_draw", "_law_knot", "_law_noise", "_law_noise_range", "_law_two_range", "_law_below_range", "_law_range"] : List Str) ++ (["_law_number", "_law_leaf", "_law_field", "_law_all_ranges", "_law_small", "_law_rules", "_law_grain", "_law_place", "_law_area", "_law_simple", "_law_same", "_law_words_right", "_law_steps_right", "_law_down_right", "_law_noise_right"] : List Str)
abbrev R : PySem.W.OpenRow := PySem.W.OpenLaw.row PySem.Challenge.rw_landweave_k22_whole_fields
def ex (K : PySem.W.Frag) : Bool := He.tupB K "ALL_POINTS" [.int (-1000000), .int (-1000000), .int (1000000), .int (1000000)] && (He.tupB K "PAIRS" [.str "plus", .str "less", .str "times", .str "least", .str "most"] && (He.tupB K "PLACE" [.int (1), .int (1200000)] && (He.tupB K "NOISE" [.int (1), .int (65535)] && (true))))
abbrev hk : PySem.W.Hook := He.hookX 2 fa fn [] [] ex
def ob (s : PySem.W.SharedT) : He.AlX := He.obsX 2 fa fn [] [] ex (HandSHeadRun.getT s)
theorem ob_eq (s : PySem.W.SharedT) : ob s = hk.obs s.abs := He.obsX_eq (HandSHeadRun.getT_eq s)
theorem run_f (w : World) : HandSHeadRun.RunEq R (PySem.W.view R.prog [82]) hk ob 30000 loose (w.withFollow "special-get-raises" false) := by
  intro os
  kernel_rfl
theorem run_t (w : World) : HandSHeadRun.RunEq R (PySem.W.view R.prog [82]) hk ob 30000 loose (w.withFollow "special-get-raises" true) := by
  intro os
  kernel_rfl
theorem run (w : World) : HandSHeadRun.RunEq R (PySem.W.view R.prog [82]) hk ob 30000 loose w := PySem.W.byRow2 "special-get-raises" run_f run_t w
open PySem.W in
theorem pre (F : ∀ (w : World) (mg : Str → Option Value) (fa : Addr) (h : Heap), hk.says w h → h.Ns mainGlobals mg → mg ("law" : Str) = some (.ref fa) →
      ∃ (K : PySem.W.Frag) (fd : FuncData) (sp : Sp), K.In h ∧ (∀ (s : Shared) (u : Value), BindsTo s fd ⟨[u], []⟩ [("_law_script", u)]) ∧
        (∀ (H : Hp) (a : Addr) (ns : List Int), ns.length ≤ 63 → Only H → SqL K H a (ns.map V.int) → sp [.ref a] H (fun v _ => v = .bl true) fun _ _ _ => False) ∧
        ∀ base : Heap, K.In base → base.Ns mainGlobals mg → FnOk (PySem.Challenge.rw_landweave_k22_whole_fields).prog w K mg base L2.CX0 108 fa fd ["_law_script"] sp) : PySem.Challenge.rw_landweave_k22_whole_fields.Holds := by
  w_on; o_law
  refine HandSHeadRun.head_any (r := R) (q := PySem.W.view R.prog [82]) (H := hk) (ob := ob) (M := 30000) (loose := loose) (d := HandSHeadRun.topDef R.prog 82) (kwd := []) ob_eq
    (by kernel_rfl) (fun s => by kernel_rfl) run (by kernel_rfl) (by kernel_rfl) (by kernel_rfl) (by rfl) (by first | assumption | decide +kernel) (by decide +kernel) ⟨rfl, rfl, rfl, rfl, rfl, by decide +kernel⟩ ?hw ?hc
  case hw => w_witness2
  case hc =>
    refine L2.walk_ofE (l := PySem.Challenge.rw_landweave_k22_whole_fields) (n := 63) (k := 108) (x := "_law_script") (CX := L2.CX0) rfl (by decide) (by kernel_rfl) ⟨rfl, by decide, by decide⟩ ?F (fun _ _ _ _ z => z)
    intro w mg fa h Y G hmg0
    have e : (HandSHeadRun.topDef R.prog 82).name = ("law" : PySem.Str) := by kernel_rfl
    exact F w mg fa h Y G (e ▸ hmg0)
end Hd
end L22

/-! Fields as plain data: with names (Fd), without (Ex); values, sizes. -/
namespace Fm
open PySem
/-! ### knots -/
def kA (seed salt : Int) : Int := (seed + 48271 * salt + 7) % 2147483647
def kB (a i : Int) : Int := (a * a + 69621 * i + 1) % 2147483629
def kC (b j : Int) : Int := (b * b + 16807 * j + 1) % 2147483587
def kD (c : Int) : Int := (c * c + c) % 2147483579 % 65536
def knotL (seed salt i j : Int) : Int := kD (kC (kB (kA seed salt) i) j)
theorem knot_in (a b c d : Int) : 0 ≤ knotL a b c d ∧ knotL a b c d < 65536 := by
  unfold knotL kD
  omega
theorem knot_mul (a b c d : Int) : -(2 ^ 64) < knotL a b c d ∧ knotL a b c d < 2 ^ 64 := by
  have := knot_in a b c d
  omega
theorem log_pow {l : Int} (h0 : 0 ≤ l) (h8 : l ≤ 8) : ∃ S : Int, (1 : Int) * 2 ^ l.toNat = S ∧ (2 : Int) ^ l.toNat = S ∧ 0 < S ∧ S ≤ 256 ∧ 0 < S * S ∧ S * S ≤ 65536 := by
  rcases (show l = 0 ∨ l = 1 ∨ l = 2 ∨ l = 3 ∨ l = 4 ∨ l = 5 ∨ l = 6 ∨ l = 7 ∨ l = 8 by omega) with rfl | rfl | rfl | rfl | rfl | rfl | rfl | rfl | rfl <;>
    exact ⟨_, rfl, by decide, by decide, by decide, by decide, by decide⟩
/-! ### fields -/
inductive W2 where
  | plus | less | times | least | most
  deriving DecidableEq
def W2.word : W2 → Str
  | .plus => "plus" | .less => "less" | .times => "times" | .least => "least" | .most => "most"
def isW2 (s : Str) : Bool := decide (s = "plus") || (decide (s = "less") || (decide (s = "times") || (decide (s = "least") || decide (s = "most"))))
theorem word_ne {s : Str} (h : isW2 s = false) (w : W2) : decide (w.word = s) = false := by
  refine decide_eq_false fun e => ?_
  subst e
  revert h
  cases w <;> decide +kernel
def W2.op : W2 → Int → Int → Int
  | .plus, a, b => a + b
  | .less, a, b => a - b
  | .times, a, b => a * b
  | .least, a, b => if b < a then b else a
  | .most, a, b => if b > a then b else a
/-- a field without names -/
inductive Ex where
  | whole (n : Int) | px | pz | noise (s l : Int) | two (w : W2) (a b : Ex) | over (a : Ex) (n : Int) | bel (a b c d : Ex) | shift (dx dz : Int) (a : Ex)
/-- a field as it is written -/
inductive Fd where
  | whole (n : Int) | px | pz | noise (s l : Int) | two (w : W2) (a b : Fd) | over (a : Fd) (n : Int) | bel (a b c d : Fd) | shift (dx dz : Int) (a : Fd) | lt (x : Str) (a b : Fd) | nm (x : Str)
abbrev Env := List (Str × Ex)
def look : Env → Str → Ex
  | [], _ => .whole 0
  | (y, e) :: r, x => if x = y then e else look r x
def expand : Fd → Env → Ex
  | .whole n, _ => .whole n
  | .px, _ => .px
  | .pz, _ => .pz
  | .noise s l, _ => .noise s l
  | .two w a b, r => .two w (expand a r) (expand b r)
  | .over a n, r => .over (expand a r) n
  | .bel a b c d, r => .bel (expand a r) (expand b r) (expand c r) (expand d r)
  | .shift dx dz a, r => .shift dx dz (expand a r)
  | .lt x a b, r => expand b ((x, expand a r) :: r)
  | .nm x, r => look r x
/-- all names are bound -/
def Bnd : Fd → List Str → Prop
  | .two _ a b, r => Bnd a r ∧ Bnd b r
  | .over a _, r => Bnd a r
  | .bel a b c d, r => Bnd a r ∧ Bnd b r ∧ Bnd c r ∧ Bnd d r
  | .shift _ _ a, r => Bnd a r
  | .lt x a b, r => Bnd a r ∧ Bnd b (x :: r)
  | .nm x, r => x ∈ r
  | _, _ => True
/-- how deep a walk along names goes; r tells how deep each name's field goes -/
def udep : Fd → List (Str × Nat) → Nat
  | .two _ a b, r => 1 + max (udep a r) (udep b r)
  | .over a _, r => 1 + udep a r
  | .bel a b c d, r => 1 + max (max (udep a r) (udep b r)) (max (udep c r) (udep d r))
  | .shift _ _ a, r => 1 + udep a r
  | .lt x a b, r => 1 + udep b ((x, udep a r) :: r)
  | .nm x, r => 1 + (r.lookup x).getD 0
  | _, _ => 1
/-! ### values -/
def noiseL (seed salt log x z : Int) : Int :=
  let S : Int := 2 ^ log.toNat
  let p := x % S
  let q := z % S
  let i := (x - p) / S
  let j := (z - q) / S
  ((S - p) * (S - q) * knotL seed salt i j + p * (S - q) * knotL seed salt (i + 1) j + (S - p) * q * knotL seed salt i (j + 1) + p * q * knotL seed salt (i + 1) (j + 1)) / (S * S)
def valE : Ex → Int → Int → Int → Int
  | .whole n, _, _, _ => n
  | .px, _, x, _ => x
  | .pz, _, _, z => z
  | .noise s l, g, x, z => noiseL g s l x z
  | .two w a b, g, x, z => w.op (valE a g x z) (valE b g x z)
  | .over a n, g, x, z => valE a g x z / n
  | .bel a b c d, g, x, z => if valE a g x z < valE b g x z then valE c g x z else valE d g x z
  | .shift dx dz a, g, x, z => valE a g (x + dx) (z + dz)
/-- the numbers of a field lie within their bounds -/
def OkE : Ex → Prop
  | .whole n => -999999999 ≤ n ∧ n ≤ 999999999
  | .noise s l => (0 ≤ s ∧ s ≤ 1000000000) ∧ 0 ≤ l ∧ l ≤ 8
  | .two _ a b => OkE a ∧ OkE b
  | .over a n => OkE a ∧ 1 ≤ n ∧ n ≤ 1000000000
  | .bel a b c d => OkE a ∧ OkE b ∧ OkE c ∧ OkE d
  | .shift dx dz a => (-1000 ≤ dx ∧ dx ≤ 1000) ∧ (-1000 ≤ dz ∧ dz ≤ 1000) ∧ OkE a
  | _ => True
theorem two_pow_pos (n : Nat) : (0 : Int) < 2 ^ n := Int.pow_pos (by decide)
/-- a mean of four numbers by weights -/
theorem mean4 {S p q a b c d m M : Int} (hS : 0 < S) (hp : 0 ≤ p) (hp2 : p ≤ S) (hq : 0 ≤ q) (hq2 : q ≤ S) (ha : m ≤ a) (ha2 : a ≤ M) (hb : m ≤ b) (hb2 : b ≤ M) (hc : m ≤ c) (hc2 : c ≤ M) (hd : m ≤ d) (hd2 : d ≤ M) :
    m ≤ ((S - p) * (S - q) * a + p * (S - q) * b + (S - p) * q * c + p * q * d) / (S * S) ∧ ((S - p) * (S - q) * a + p * (S - q) * b + (S - p) * q * c + p * q * d) / (S * S) ≤ M := by
  have w1 : 0 ≤ (S - p) * (S - q) := Int.mul_nonneg (by omega) (by omega)
  have w2 : 0 ≤ p * (S - q) := Int.mul_nonneg (by omega) (by omega)
  have w3 : 0 ≤ (S - p) * q := Int.mul_nonneg (by omega) (by omega)
  have w4 : 0 ≤ p * q := Int.mul_nonneg (by omega) (by omega)
  have tot : (S - p) * (S - q) + p * (S - q) + (S - p) * q + p * q = S * S := by
    have e1 : (S - p) * (S - q) + p * (S - q) = S * (S - q) := by rw [← Int.add_mul]; congr 1; omega
    have e2 : (S - p) * q + p * q = S * q := by rw [← Int.add_mul]; congr 1; omega
    have e3 : S * (S - q) + S * q = S * S := by rw [← Int.mul_add]; congr 1; omega
    omega
  have SS : 0 < S * S := Int.mul_pos hS hS
  have lo : ∀ {w v : Int}, 0 ≤ w → m ≤ v → w * m ≤ w * v := fun h1 h2 => Int.mul_le_mul_of_nonneg_left h2 h1
  have hi : ∀ {w v : Int}, 0 ≤ w → v ≤ M → w * v ≤ w * M := fun h1 h2 => Int.mul_le_mul_of_nonneg_left h2 h1
  have sumL : ∀ t : Int, (S - p) * (S - q) * t + p * (S - q) * t + (S - p) * q * t + p * q * t = S * S * t := fun t => by
    rw [← Int.add_mul, ← Int.add_mul, ← Int.add_mul, tot]
  constructor
  · refine (Int.le_ediv_iff_mul_le SS).mpr ?_
    have := lo w1 ha; have := lo w2 hb; have := lo w3 hc; have := lo w4 hd
    have := sumL m
    rw [Int.mul_comm m]
    omega
  · have h := hi w1 ha2; have := hi w2 hb2; have := hi w3 hc2; have := hi w4 hd2
    have := sumL M
    have : ((S - p) * (S - q) * a + p * (S - q) * b + (S - p) * q * c + p * q * d) ≤ M * (S * S) := by
      rw [Int.mul_comm M]
      omega
    exact Int.ediv_le_of_le_mul SS this
theorem noise_in (g s l x z : Int) : 0 ≤ noiseL g s l x z ∧ noiseL g s l x z ≤ 65535 := by
  have hS := two_pow_pos l.toNat
  have k := fun i j => knot_in g s i j
  have h := mean4 (S := 2 ^ l.toNat) (p := x % 2 ^ l.toNat) (q := z % 2 ^ l.toNat) (a := knotL g s ((x - x % 2 ^ l.toNat) / 2 ^ l.toNat) ((z - z % 2 ^ l.toNat) / 2 ^ l.toNat))
    (b := knotL g s ((x - x % 2 ^ l.toNat) / 2 ^ l.toNat + 1) ((z - z % 2 ^ l.toNat) / 2 ^ l.toNat)) (c := knotL g s ((x - x % 2 ^ l.toNat) / 2 ^ l.toNat) ((z - z % 2 ^ l.toNat) / 2 ^ l.toNat + 1))
    (d := knotL g s ((x - x % 2 ^ l.toNat) / 2 ^ l.toNat + 1) ((z - z % 2 ^ l.toNat) / 2 ^ l.toNat + 1)) (m := 0) (M := 65535) hS
    (Int.emod_nonneg _ (by omega)) (Int.le_of_lt (Int.emod_lt_of_pos _ hS)) (Int.emod_nonneg _ (by omega)) (Int.le_of_lt (Int.emod_lt_of_pos _ hS))
    (k _ _).1 (by have := (k ((x - x % 2 ^ l.toNat) / 2 ^ l.toNat) ((z - z % 2 ^ l.toNat) / 2 ^ l.toNat)).2; omega)
    (k _ _).1 (by have := (k ((x - x % 2 ^ l.toNat) / 2 ^ l.toNat + 1) ((z - z % 2 ^ l.toNat) / 2 ^ l.toNat)).2; omega)
    (k _ _).1 (by have := (k ((x - x % 2 ^ l.toNat) / 2 ^ l.toNat) ((z - z % 2 ^ l.toNat) / 2 ^ l.toNat + 1)).2; omega)
    (k _ _).1 (by have := (k ((x - x % 2 ^ l.toNat) / 2 ^ l.toNat + 1) ((z - z % 2 ^ l.toNat) / 2 ^ l.toNat + 1)).2; omega)
  exact h
/-! ### sizes -/
/-- bits of the values, k bits being those of the coordinates -/
def vb : Ex → Nat → Nat
  | .whole _, _ => 34
  | .px, k => k
  | .pz, k => k
  | .noise _ _, _ => 17
  | .two w a b, k => match w with
    | .times => vb a k + vb b k
    | _ => max (vb a k) (vb b k) + 1
  | .over a _, k => vb a k
  | .bel a b c d, k => max (max (vb a k) (vb b k)) (max (vb c k) (vb d k))
  | .shift _ _ a, k => vb a (k + 1)
theorem pow_le {a b : Nat} (h : a ≤ b) : 2 ^ a ≤ 2 ^ b := Nat.pow_le_pow_right (by decide) h
theorem lt_pow_of {n a b : Nat} (h : n < 2 ^ a) (l : a ≤ b) : n < 2 ^ b := Nat.lt_of_lt_of_le h (pow_le l)
theorem natAbs_div_le (a : Int) {n : Int} (h : 1 ≤ n) : (a / n).natAbs ≤ a.natAbs := by
  rcases Int.lt_or_le a 0 with ha | ha
  · have h1 : a / n < 0 := Int.ediv_neg_of_neg_of_pos ha (by omega)
    have h2 : a ≤ a / n := by
      refine (Int.le_ediv_iff_mul_le (by omega)).mpr ?_
      have := Int.mul_le_mul_of_nonpos_left (a := a) (by omega) h
      omega
    omega
  · have h1 : 0 ≤ a / n := Int.ediv_nonneg ha (by omega)
    have h2 : a / n ≤ a := Int.ediv_le_self _ ha
    omega
theorem vb_two (w : W2) (a b : Ex) (k : Nat) : vb a k ≤ vb (.two w a b) k ∧ vb b k ≤ vb (.two w a b) k := by
  cases w <;> simp only [vb] <;> omega
theorem val_bits : ∀ (e : Ex) (g x z : Int) (k : Nat), OkE e → 34 ≤ k → x.natAbs < 2 ^ k → z.natAbs < 2 ^ k → (valE e g x z).natAbs < 2 ^ (vb e k)
  | .whole n, _, _, _, k, h, _, _, _ => by
    have e : (2 : Nat) ^ 34 = 17179869184 := by decide
    have h1 : -999999999 ≤ n := h.1
    have h2 : n ≤ 999999999 := h.2
    show n.natAbs < 2 ^ 34
    omega
  | .px, _, _, _, _, _, _, hx, _ => hx
  | .pz, _, _, _, _, _, _, _, hz => hz
  | .noise s l, g, x, z, k, _, _, _, _ => by
    have e : (2 : Nat) ^ 17 = 131072 := by decide
    have h := noise_in g s l x z
    show (noiseL g s l x z).natAbs < 2 ^ 17
    omega
  | .two w a b, g, x, z, k, h, hk, hx, hz => by
    have ha := val_bits a g x z k h.1 hk hx hz
    have hb := val_bits b g x z k h.2 hk hx hz
    have ha2 := lt_pow_of ha (Nat.le_max_left (vb a k) (vb b k))
    have hb2 := lt_pow_of hb (Nat.le_max_right (vb a k) (vb b k))
    cases w with
    | times =>
      show (valE a g x z * valE b g x z).natAbs < 2 ^ (vb a k + vb b k)
      rw [Int.natAbs_mul, Nat.pow_add]
      exact Nat.mul_lt_mul'' ha hb
    | plus =>
      show (valE a g x z + valE b g x z).natAbs < 2 ^ (max (vb a k) (vb b k) + 1)
      rw [Nat.pow_succ]
      omega
    | less =>
      show (valE a g x z - valE b g x z).natAbs < 2 ^ (max (vb a k) (vb b k) + 1)
      rw [Nat.pow_succ]
      omega
    | least =>
      show (if valE b g x z < valE a g x z then valE b g x z else valE a g x z).natAbs < 2 ^ (max (vb a k) (vb b k) + 1)
      rw [Nat.pow_succ]
      split <;> omega
    | most =>
      show (if valE b g x z > valE a g x z then valE b g x z else valE a g x z).natAbs < 2 ^ (max (vb a k) (vb b k) + 1)
      rw [Nat.pow_succ]
      split <;> omega
  | .over a n, g, x, z, k, h, hk, hx, hz => Nat.lt_of_le_of_lt (natAbs_div_le _ h.2.1) (val_bits a g x z k h.1 hk hx hz)
  | .bel a b c d, g, x, z, k, h, hk, hx, hz => by
    have hc := val_bits c g x z k h.2.2.1 hk hx hz
    have hd := val_bits d g x z k h.2.2.2 hk hx hz
    show (if valE a g x z < valE b g x z then valE c g x z else valE d g x z).natAbs < 2 ^ (max (max (vb a k) (vb b k)) (max (vb c k) (vb d k)))
    split
    · exact lt_pow_of hc (by omega)
    · exact lt_pow_of hd (by omega)
  | .shift dx dz a, g, x, z, k, h, hk, hx, hz => by
    have e : (2 : Nat) ^ 34 = 17179869184 := by decide
    have hp := pow_le hk
    have h1 : -1000 ≤ dx := h.1.1
    have h2 : dx ≤ 1000 := h.1.2
    have h3 : -1000 ≤ dz := h.2.1.1
    have h4 : dz ≤ 1000 := h.2.1.2
    refine val_bits a g (x + dx) (z + dz) (k + 1) h.2.2 (by omega) ?_ ?_
    · rw [Nat.pow_succ]; omega
    · rw [Nat.pow_succ]; omega
theorem mul_ok {a b : Ex} {g x z : Int} {k : Nat} (ha : OkE a) (hb : OkE b) (hk : 34 ≤ k) (hx : x.natAbs < 2 ^ k) (hz : z.natAbs < 2 ^ k) (hv : vb a k + vb b k ≤ 400000) : L2.CMulW (valE a g x z) (valE b g x z) :=
  L2.wide_mul (lt_pow_of (val_bits a g x z k ha hk hx hz) (Nat.le_succ _)) (lt_pow_of (val_bits b g x z k hb hk hx hz) (Nat.le_succ _)) (Nat.succ_pos _) (Nat.succ_pos _) (by omega)
theorem shift_bits {x dx : Int} {k : Nat} (h : -1000 ≤ dx ∧ dx ≤ 1000) (hk : 34 ≤ k) (hx : x.natAbs < 2 ^ k) : (x + dx).natAbs < 2 ^ (k + 1) := by
  have e : (2 : Nat) ^ 34 = 17179869184 := by decide
  have hp := pow_le hk
  rw [Nat.pow_succ]
  omega
/-! ### ranges -/
def mn4 (a b c d : Int) : Int := min (min a b) (min c d)
def mx4 (a b c d : Int) : Int := max (max a b) (max c d)
def W2.rng : W2 → Int × Int → Int × Int → Int × Int
  | .plus, a, b => (a.1 + b.1, a.2 + b.2)
  | .less, a, b => (a.1 - b.2, a.2 - b.1)
  | .times, a, b => (mn4 (a.1 * b.1) (a.1 * b.2) (a.2 * b.1) (a.2 * b.2), mx4 (a.1 * b.1) (a.1 * b.2) (a.2 * b.1) (a.2 * b.2))
  | .least, a, b => (min a.1 b.1, min a.2 b.2)
  | .most, a, b => (max a.1 b.1, max a.2 b.2)
def belR (a b c d : Int × Int) : Int × Int := if a.2 < b.1 then c else if b.2 ≤ a.1 then d else (min c.1 d.1, max c.2 d.2)
abbrev NR := Int → Int → Int → Int → Int → Int → Int × Int
def rangeG (N : NR) : Ex → Int → Int → Int → Int → Int × Int
  | .whole n, _, _, _, _ => (n, n)
  | .px, x0, _, x1, _ => (x0, x1)
  | .pz, _, z0, _, z1 => (z0, z1)
  | .noise s l, x0, z0, x1, z1 => N s l x0 z0 x1 z1
  | .two w a b, x0, z0, x1, z1 => w.rng (rangeG N a x0 z0 x1 z1) (rangeG N b x0 z0 x1 z1)
  | .over a n, x0, z0, x1, z1 => ((rangeG N a x0 z0 x1 z1).1 / n, (rangeG N a x0 z0 x1 z1).2 / n)
  | .bel a b c d, x0, z0, x1, z1 => belR (rangeG N a x0 z0 x1 z1) (rangeG N b x0 z0 x1 z1) (rangeG N c x0 z0 x1 z1) (rangeG N d x0 z0 x1 z1)
  | .shift dx dz a, x0, z0, x1, z1 => rangeG N a (x0 + dx) (z0 + dz) (x1 + dx) (z1 + dz)
/-- noise of many squares -/
def wideN : NR := fun _ _ _ _ _ _ => (0, 65535)
def NOk (N : NR) : Prop := ∀ s l x0 z0 x1 z1, (0 ≤ (N s l x0 z0 x1 z1).1 ∧ (N s l x0 z0 x1 z1).1 ≤ 65535) ∧ 0 ≤ (N s l x0 z0 x1 z1).2 ∧ (N s l x0 z0 x1 z1).2 ≤ 65535
theorem wide_ok : NOk wideN := fun _ _ _ _ _ _ => ⟨⟨Int.le_refl 0, (by decide : (0 : Int) ≤ 65535)⟩, (by decide : (0 : Int) ≤ 65535), Int.le_refl 65535⟩
abbrev B2 (p : Int × Int) (k : Nat) : Prop := p.1.natAbs < 2 ^ k ∧ p.2.natAbs < 2 ^ k
theorem B2.mono {p : Int × Int} {a b : Nat} (h : B2 p a) (l : a ≤ b) : B2 p b := ⟨lt_pow_of h.1 l, lt_pow_of h.2 l⟩
theorem mul_lt {a b : Int} {m n : Nat} (ha : a.natAbs < 2 ^ m) (hb : b.natAbs < 2 ^ n) : (a * b).natAbs < 2 ^ (m + n) := by
  rw [Int.natAbs_mul, Nat.pow_add]
  exact Nat.mul_lt_mul'' ha hb
theorem rng_bits (w : W2) {a b : Int × Int} {m n : Nat} (ha : B2 a m) (hb : B2 b n) : B2 (w.rng a b) (match w with | .times => m + n | _ => max m n + 1) := by
  have ha2 := ha.mono (Nat.le_max_left m n)
  have hb2 := hb.mono (Nat.le_max_right m n)
  obtain ⟨a1, a2⟩ := a
  obtain ⟨b1, b2⟩ := b
  obtain ⟨h1, h2⟩ := ha2
  obtain ⟨h3, h4⟩ := hb2
  cases w with
  | times =>
    have p1 := mul_lt ha.1 hb.1
    have p2 := mul_lt ha.1 hb.2
    have p3 := mul_lt ha.2 hb.1
    have p4 := mul_lt ha.2 hb.2
    simp only [W2.rng, mn4, mx4]
    constructor <;> simp only at * <;> omega
  | plus => simp only [W2.rng, B2] at *; rw [Nat.pow_succ]; omega
  | less => simp only [W2.rng, B2] at *; rw [Nat.pow_succ]; omega
  | least => simp only [W2.rng, B2] at *; rw [Nat.pow_succ]; omega
  | most => simp only [W2.rng, B2] at *; rw [Nat.pow_succ]; omega
theorem range_bits {N : NR} (hN : NOk N) : ∀ (e : Ex) (x0 z0 x1 z1 : Int) (k : Nat), OkE e → 34 ≤ k → B2 (x0, x1) k → B2 (z0, z1) k → B2 (rangeG N e x0 z0 x1 z1) (vb e k)
  | .whole n, _, _, _, _, k, h, _, _, _ => by
    have e : (2 : Nat) ^ 34 = 17179869184 := by decide
    have h1 : -999999999 ≤ n := h.1
    have h2 : n ≤ 999999999 := h.2
    show B2 (n, n) 34
    simp only [B2]
    omega
  | .px, _, _, _, _, _, _, _, hx, _ => hx
  | .pz, _, _, _, _, _, _, _, _, hz => hz
  | .noise s l, x0, z0, x1, z1, k, _, _, _, _ => by
    have e : (2 : Nat) ^ 17 = 131072 := by decide
    have h := hN s l x0 z0 x1 z1
    show B2 (N s l x0 z0 x1 z1) 17
    simp only [B2]
    omega
  | .two w a b, x0, z0, x1, z1, k, h, hk, hx, hz => by
    have r := rng_bits w (range_bits hN a x0 z0 x1 z1 k h.1 hk hx hz) (range_bits hN b x0 z0 x1 z1 k h.2 hk hx hz)
    cases w <;> exact r
  | .over a n, x0, z0, x1, z1, k, h, hk, hx, hz => by
    have r := range_bits hN a x0 z0 x1 z1 k h.1 hk hx hz
    exact ⟨Nat.lt_of_le_of_lt (natAbs_div_le _ h.2.1) r.1, Nat.lt_of_le_of_lt (natAbs_div_le _ h.2.1) r.2⟩
  | .bel a b c d, x0, z0, x1, z1, k, h, hk, hx, hz => by
    have r3 := range_bits hN c x0 z0 x1 z1 k h.2.2.1 hk hx hz
    have r4 := range_bits hN d x0 z0 x1 z1 k h.2.2.2 hk hx hz
    have q3 := r3.mono (b := vb (.bel a b c d) k) (by simp only [vb]; omega)
    have q4 := r4.mono (b := vb (.bel a b c d) k) (by simp only [vb]; omega)
    show B2 (belR _ _ _ _) _
    unfold belR
    split
    · exact q3
    · split
      · exact q4
      · obtain ⟨h1, h2⟩ := q3
        obtain ⟨h3, h4⟩ := q4
        simp only [B2]
        omega
  | .shift dx dz a, x0, z0, x1, z1, k, h, hk, hx, hz => by
    have e : (2 : Nat) ^ 34 = 17179869184 := by decide
    have hp := pow_le hk
    have h1 := h.1
    have h2 := h.2.1
    obtain ⟨a1, a2⟩ := hx
    obtain ⟨a3, a4⟩ := hz
    refine range_bits hN a (x0 + dx) (z0 + dz) (x1 + dx) (z1 + dz) (k + 1) h.2.2 (by omega) ?_ ?_ <;> (simp only [B2] at *; rw [Nat.pow_succ]; omega)
theorem cols_ge {S x0 x1 : Int} (S0 : 0 < S) (S1 : S ≤ 256) (h : 20000 ≤ x1 - x0) : 65 ≤ x1 / S - x0 / S + 1 := by
  have e1 := Int.mul_ediv_add_emod x1 S
  have e2 := Int.mul_ediv_add_emod x0 S
  have m1 := Int.emod_lt_of_pos x1 S0
  have m0 := Int.emod_nonneg x0 (show S ≠ 0 by omega)
  rcases Int.lt_or_le (x1 / S - x0 / S) 64 with hlt | hge
  · exfalso
    have d : S * (x1 / S) - S * (x0 / S) = S * (x1 / S - x0 / S) := (Int.mul_sub S _ _).symm
    have : S * (x1 / S - x0 / S) ≤ 256 * 63 := by
      rcases Int.lt_or_le (x1 / S - x0 / S) 0 with hn | hp
      · have := Int.mul_nonpos_of_nonneg_of_nonpos (Int.le_of_lt S0) (Int.le_of_lt hn)
        omega
      · exact Int.mul_le_mul S1 (by omega) hp (by decide)
    omega
  · omega
theorem many {a b : Int} (ha : 65 ≤ a) (hb : 65 ≤ b) : 64 < a * b := by
  have : 65 * 65 ≤ a * b := Int.mul_le_mul ha hb (by decide) (by omega)
  omega
/-! ### all ranges -/
def allE (N : NR) : Ex → Int → Int → Int → Int → List (Int × Int)
  | .two w a b, x0, z0, x1, z1 => rangeG N (.two w a b) x0 z0 x1 z1 :: (allE N a x0 z0 x1 z1 ++ allE N b x0 z0 x1 z1)
  | .over a n, x0, z0, x1, z1 => rangeG N (.over a n) x0 z0 x1 z1 :: allE N a x0 z0 x1 z1
  | .bel a b c d, x0, z0, x1, z1 => rangeG N (.bel a b c d) x0 z0 x1 z1 :: (allE N a x0 z0 x1 z1 ++ (allE N b x0 z0 x1 z1 ++ (allE N c x0 z0 x1 z1 ++ allE N d x0 z0 x1 z1)))
  | .shift dx dz a, x0, z0, x1, z1 => rangeG N (.shift dx dz a) x0 z0 x1 z1 :: allE N a (x0 + dx) (z0 + dz) (x1 + dx) (z1 + dz)
  | e, x0, z0, x1, z1 => [rangeG N e x0 z0 x1 z1]
def cn : Ex → Nat
  | .two _ a b => 1 + (cn a + cn b)
  | .over a _ => 1 + cn a
  | .bel a b c d => 1 + (cn a + (cn b + (cn c + cn d)))
  | .shift _ _ a => 1 + cn a
  | _ => 1
theorem allE_len (N : NR) : ∀ (e : Ex) (x0 z0 x1 z1 : Int), (allE N e x0 z0 x1 z1).length = cn e
  | .whole _, _, _, _, _ => rfl
  | .px, _, _, _, _ => rfl
  | .pz, _, _, _, _ => rfl
  | .noise _ _, _, _, _, _ => rfl
  | .two _ a b, x0, z0, x1, z1 => by simp only [allE, cn, List.length_cons, List.length_append, allE_len N a, allE_len N b]; omega
  | .over a _, x0, z0, x1, z1 => by simp only [allE, cn, List.length_cons, allE_len N a]; omega
  | .bel a b c d, x0, z0, x1, z1 => by simp only [allE, cn, List.length_cons, List.length_append, allE_len N a, allE_len N b, allE_len N c, allE_len N d]; omega
  | .shift _ _ a, x0, z0, x1, z1 => by simp only [allE, cn, List.length_cons, allE_len N a]; omega
/-! ### drawn fields -/
def dep : Fd → Nat
  | .two _ a b => 1 + max (dep a) (dep b)
  | .over a _ => 1 + dep a
  | .bel a b c d => 1 + max (max (dep a) (dep b)) (max (dep c) (dep d))
  | .shift _ _ a => 1 + dep a
  | .lt _ a b => 1 + max (dep a) (dep b)
  | _ => 0
/-- a name: one to eight small letters -/
def NameOk (s : Str) : Prop := 1 ≤ s.length ∧ s.length ≤ 8 ∧ ∀ c ∈ s.cps.toList, 97 ≤ c ∧ c ≤ 122
def OkF : Fd → Prop
  | .whole n => -999999999 ≤ n ∧ n ≤ 999999999
  | .noise s l => (0 ≤ s ∧ s ≤ 1000000000) ∧ 0 ≤ l ∧ l ≤ 8
  | .two _ a b => OkF a ∧ OkF b
  | .over a n => OkF a ∧ 1 ≤ n ∧ n ≤ 1000000000
  | .bel a b c d => OkF a ∧ OkF b ∧ OkF c ∧ OkF d
  | .shift dx dz a => (-1000 ≤ dx ∧ dx ≤ 1000) ∧ (-1000 ≤ dz ∧ dz ≤ 1000) ∧ OkF a
  | .lt x a b => NameOk x ∧ OkF a ∧ OkF b
  | .nm x => NameOk x
  | _ => True
def OkR (r : Env) : Prop := ∀ x, OkE (look r x)
theorem okR_nil : OkR [] := fun _ => ⟨by decide, by decide⟩
theorem okR_cons {x : Str} {e : Ex} {r : Env} (he : OkE e) (h : OkR r) : OkR ((x, e) :: r) := fun y => by
  unfold look
  split
  · exact he
  · exact h y
theorem ok_expand : ∀ (F : Fd) (r : Env), OkF F → OkR r → OkE (expand F r)
  | .whole _, _, h, _ => h
  | .px, _, _, _ => True.intro
  | .pz, _, _, _ => True.intro
  | .noise _ _, _, h, _ => h
  | .two _ a b, r, h, hr => ⟨ok_expand a r h.1 hr, ok_expand b r h.2 hr⟩
  | .over a _, r, h, hr => ⟨ok_expand a r h.1 hr, h.2⟩
  | .bel a b c d, r, h, hr => ⟨ok_expand a r h.1 hr, ok_expand b r h.2.1 hr, ok_expand c r h.2.2.1 hr, ok_expand d r h.2.2.2 hr⟩
  | .shift _ _ a, r, h, hr => ⟨h.1, h.2.1, ok_expand a r h.2.2 hr⟩
  | .lt x a b, r, h, hr => ok_expand b _ h.2.2 (okR_cons (ok_expand a r h.2.1 hr) hr)
  | .nm x, r, _, hr => hr x
theorem bnd_perm : ∀ {a b : List Str}, (∀ y, y ∈ a → y ∈ b) → ∀ F : Fd, Bnd F a → Bnd F b
  | _, _, _, .whole _, _ => True.intro
  | _, _, _, .px, _ => True.intro
  | _, _, _, .pz, _ => True.intro
  | _, _, _, .noise _ _, _ => True.intro
  | _, _, s, .two _ a b, h => ⟨bnd_perm s a h.1, bnd_perm s b h.2⟩
  | _, _, s, .over a _, h => bnd_perm s a h
  | _, _, s, .bel a b c d, h => ⟨bnd_perm s a h.1, bnd_perm s b h.2.1, bnd_perm s c h.2.2.1, bnd_perm s d h.2.2.2⟩
  | _, _, s, .shift _ _ a, h => bnd_perm s a h
  | _, _, s, .lt x a b, h => ⟨bnd_perm s a h.1, bnd_perm (fun y hy => by
    rcases List.mem_cons.mp hy with e | e
    · rw [e]; exact List.mem_cons_self
    · exact List.mem_cons_of_mem _ (s y e)) b h.2⟩
  | _, _, s, .nm x, h => s x h
/-- the weight of an expansion, its shifts one in another -/
def wt : Ex → Nat
  | .two _ a b => wt a + wt b
  | .over a _ => wt a
  | .bel a b c d => max (max (wt a) (wt b)) (max (wt c) (wt d))
  | .shift _ _ a => wt a
  | _ => 1
def sh : Ex → Nat
  | .two _ a b => max (sh a) (sh b)
  | .over a _ => sh a
  | .bel a b c d => max (max (sh a) (sh b)) (max (sh c) (sh d))
  | .shift _ _ a => sh a + 1
  | _ => 0
theorem wt_pos : ∀ e : Ex, 1 ≤ wt e
  | .whole _ => Nat.le_refl 1
  | .px => Nat.le_refl 1
  | .pz => Nat.le_refl 1
  | .noise _ _ => Nat.le_refl 1
  | .two _ a b => by have := wt_pos a; simp only [wt]; omega
  | .over a _ => wt_pos a
  | .bel a b c d => by have := wt_pos a; simp only [wt]; omega
  | .shift _ _ a => wt_pos a
theorem vb_le : ∀ (e : Ex) (k : Nat), 34 ≤ k → vb e k ≤ wt e * (k + sh e + 1)
  | .whole _, k, h => by simp only [vb, wt, sh]; omega
  | .px, k, h => by simp only [vb, wt, sh]; omega
  | .pz, k, h => by simp only [vb, wt, sh]; omega
  | .noise _ _, k, h => by simp only [vb, wt, sh]; omega
  | .two w a b, k, h => by
    have ha := vb_le a k h
    have hb := vb_le b k h
    have ha1 : wt a * (k + sh a + 1) ≤ wt a * (k + max (sh a) (sh b) + 1) := Nat.mul_le_mul_left _ (by omega)
    have hb1 : wt b * (k + sh b + 1) ≤ wt b * (k + max (sh a) (sh b) + 1) := Nat.mul_le_mul_left _ (by omega)
    have pa : 1 * (k + max (sh a) (sh b) + 1) ≤ wt a * (k + max (sh a) (sh b) + 1) := Nat.mul_le_mul_right _ (wt_pos a)
    have pb : 1 * (k + max (sh a) (sh b) + 1) ≤ wt b * (k + max (sh a) (sh b) + 1) := Nat.mul_le_mul_right _ (wt_pos b)
    have e : wt (.two w a b) * (k + sh (.two w a b) + 1) = wt a * (k + max (sh a) (sh b) + 1) + wt b * (k + max (sh a) (sh b) + 1) := by
      simp only [wt, sh]
      rw [Nat.add_mul]
    rw [e]
    cases w <;> simp only [vb] <;> omega
  | .over a _, k, h => vb_le a k h
  | .bel a b c d, k, h => by
    have up : ∀ {x s w m : Nat}, x ≤ w * (k + s + 1) → w ≤ wt (.bel a b c d) → s ≤ sh (.bel a b c d) → x ≤ wt (.bel a b c d) * (k + sh (.bel a b c d) + 1) := fun {x s w m} h1 h2 h3 =>
      Nat.le_trans h1 (Nat.mul_le_mul h2 (by omega))
    have ha := up (m := 0) (vb_le a k h) (by simp only [wt]; omega) (by simp only [sh]; omega)
    have hb := up (m := 0) (vb_le b k h) (by simp only [wt]; omega) (by simp only [sh]; omega)
    have hc := up (m := 0) (vb_le c k h) (by simp only [wt]; omega) (by simp only [sh]; omega)
    have hd := up (m := 0) (vb_le d k h) (by simp only [wt]; omega) (by simp only [sh]; omega)
    simp only [vb]
    omega
  | .shift _ _ a, k, h => by
    have ha := vb_le a (k + 1) (by omega)
    simp only [vb, wt, sh]
    have e : k + 1 + sh a + 1 = k + (sh a + 1) + 1 := by omega
    rw [← e]
    exact ha
def Wd : Nat → Nat → Nat
  | 0, N => max 1 N
  | d + 1, N => 2 * Wd d (max N (Wd d N))
def Sd : Nat → Nat → Nat
  | 0, N => N
  | d + 1, N => 1 + Sd d (max N (Sd d N))
def Ud : Nat → Nat → Nat
  | 0, N => N + 1
  | d + 1, N => 1 + Ud d (max N (Ud d N))
theorem Wd_mono : ∀ {d : Nat} {a b : Nat}, a ≤ b → Wd d a ≤ Wd d b
  | 0, a, b, h => by simp only [Wd]; omega
  | d + 1, a, b, h => by
    have h1 := Wd_mono (d := d) h
    have h2 := Wd_mono (d := d) (show max a (Wd d a) ≤ max b (Wd d b) by omega)
    simp only [Wd]
    omega
theorem Sd_mono : ∀ {d : Nat} {a b : Nat}, a ≤ b → Sd d a ≤ Sd d b
  | 0, a, b, h => h
  | d + 1, a, b, h => by
    have h1 := Sd_mono (d := d) h
    have h2 := Sd_mono (d := d) (show max a (Sd d a) ≤ max b (Sd d b) by omega)
    simp only [Sd]
    omega
theorem Ud_mono : ∀ {d : Nat} {a b : Nat}, a ≤ b → Ud d a ≤ Ud d b
  | 0, a, b, h => by simp only [Ud]; omega
  | d + 1, a, b, h => by
    have h1 := Ud_mono (d := d) h
    have h2 := Ud_mono (d := d) (show max a (Ud d a) ≤ max b (Ud d b) by omega)
    simp only [Ud]
    omega
def Cd : Nat → Nat → Nat
  | 0, N => max 1 N
  | d + 1, N => 1 + 4 * Cd d (max N (Cd d N))
theorem Cd_mono : ∀ {d : Nat} {a b : Nat}, a ≤ b → Cd d a ≤ Cd d b
  | 0, a, b, h => by simp only [Cd]; omega
  | d + 1, a, b, h => by
    have h1 := Cd_mono (d := d) h
    have h2 := Cd_mono (d := d) (show max a (Cd d a) ≤ max b (Cd d b) by omega)
    simp only [Cd]
    omega
theorem cn_le : ∀ (F : Fd) (d : Nat) (r : Env) (c : Nat), dep F ≤ d → (∀ x, cn (look r x) ≤ max 1 c) → cn (expand F r) ≤ Cd d c := by
  have base : ∀ (d c : Nat), 1 ≤ Cd d c ∧ max 1 c ≤ Cd d c := by
    intro d
    induction d with
    | zero => intro c; simp only [Cd]; omega
    | succ d ih =>
      intro c
      have h1 := ih (max c (Cd d c))
      simp only [Cd]
      omega
  have step : ∀ (d c : Nat), 1 + 4 * Cd d c ≤ Cd (d + 1) c := by
    intro d c
    have h1 := Cd_mono (d := d) (show c ≤ max c (Cd d c) by omega)
    simp only [Cd]
    omega
  intro F
  induction F with
  | whole n => intro d r c _ N; have := base d c; simp only [expand, cn]; omega
  | px => intro d r c _ N; have := base d c; simp only [expand, cn]; omega
  | pz => intro d r c _ N; have := base d c; simp only [expand, cn]; omega
  | noise a l => intro d r c _ N; have := base d c; simp only [expand, cn]; omega
  | nm x => intro d r c _ N; have := base d c; have h1 := N x; simp only [expand]; omega
  | two w a b iha ihb =>
    intro d r c h N
    have h' : 1 + max (dep a) (dep b) ≤ d := h
    obtain ⟨d, rfl⟩ : ∃ d', d = d' + 1 := ⟨d - 1, by omega⟩
    have ha := iha d r c (by omega) N
    have hb := ihb d r c (by omega) N
    have st := step d c
    simp only [expand, cn]
    omega
  | over a n iha =>
    intro d r c h N
    have h' : 1 + dep a ≤ d := h
    obtain ⟨d, rfl⟩ : ∃ d', d = d' + 1 := ⟨d - 1, by omega⟩
    have ha := iha d r c (by omega) N
    have st := step d c
    simp only [expand, cn]
    omega
  | bel a b e f iha ihb ihc ihe =>
    intro d r c h N
    have h' : 1 + max (max (dep a) (dep b)) (max (dep e) (dep f)) ≤ d := h
    obtain ⟨d, rfl⟩ : ∃ d', d = d' + 1 := ⟨d - 1, by omega⟩
    have ha := iha d r c (by omega) N
    have hb := ihb d r c (by omega) N
    have hc := ihc d r c (by omega) N
    have he := ihe d r c (by omega) N
    have st := step d c
    simp only [expand, cn]
    omega
  | shift dx dz a iha =>
    intro d r c h N
    have h' : 1 + dep a ≤ d := h
    obtain ⟨d, rfl⟩ : ∃ d', d = d' + 1 := ⟨d - 1, by omega⟩
    have ha := iha d r c (by omega) N
    have st := step d c
    simp only [expand, cn]
    omega
  | lt x a b iha ihb =>
    intro d r c h N
    have h' : 1 + max (dep a) (dep b) ≤ d := h
    obtain ⟨d, rfl⟩ : ∃ d', d = d' + 1 := ⟨d - 1, by omega⟩
    have ha := iha d r c (by omega) N
    have hb := ihb d ((x, expand a r) :: r) (max c (Cd d c)) (by omega) (fun y => by
      have := N y
      unfold look
      split <;> omega)
    simp only [expand, Cd]
    omega
/-- the numbers of an environment -/
structure Num (r : Env) (δ : List (Str × Nat)) (w s u : Nat) : Prop where
  w : ∀ x, wt (look r x) ≤ max 1 w
  s : ∀ x, sh (look r x) ≤ s
  u : ∀ x, (δ.lookup x).getD 0 ≤ u
theorem num_nil : Num [] [] 0 0 0 := ⟨fun _ => Nat.le_refl 1, fun _ => Nat.le_refl 0, fun _ => Nat.le_refl 0⟩
theorem Num.mono {r : Env} {δ : List (Str × Nat)} {w s u w' s' u' : Nat} (h : Num r δ w s u) (hw : w ≤ w') (hs : s ≤ s') (hu : u ≤ u') : Num r δ w' s' u' :=
  ⟨fun x => Nat.le_trans (h.w x) (by omega), fun x => Nat.le_trans (h.s x) hs, fun x => Nat.le_trans (h.u x) hu⟩
theorem Num.cons {r : Env} {δ : List (Str × Nat)} {w s u w' s' u' n : Nat} {x : Str} {e : Ex} (h : Num r δ w s u) (hw : wt e ≤ w') (hs : sh e ≤ s') (hu : n ≤ u') : Num ((x, e) :: r) ((x, n) :: δ) (max w w') (max s s') (max u u') :=
  ⟨fun y => by have := h.w y; unfold look; split <;> omega, fun y => by have := h.s y; unfold look; split <;> omega, fun y => by
    by_cases e : y = x
    · subst e; simp [List.lookup]; omega
    · have hb : (y == x) = false := by simpa using e
      have := h.u y
      simp only [List.lookup, hb]
      omega⟩
theorem nums : ∀ (F : Fd) (d : Nat) (r : Env) (δ : List (Str × Nat)) (w s u : Nat), dep F ≤ d → Num r δ w s u → wt (expand F r) ≤ Wd d w ∧ sh (expand F r) ≤ Sd d s ∧ udep F δ ≤ Ud d u := by
  have base : ∀ (d w s u : Nat), 1 ≤ Wd d w ∧ max 1 w ≤ Wd d w ∧ s ≤ Sd d s ∧ u + 1 ≤ Ud d u := by
    intro d
    induction d with
    | zero => intro w s u; simp only [Wd, Sd, Ud]; omega
    | succ d ih =>
      intro w s u
      have h1 := ih (max w (Wd d w)) (max s (Sd d s)) (max u (Ud d u))
      simp only [Wd, Sd, Ud]
      omega
  have step : ∀ (d w s u : Nat), Wd d w + Wd d w ≤ Wd (d + 1) w ∧ 1 + Sd d s ≤ Sd (d + 1) s ∧ 1 + Ud d u ≤ Ud (d + 1) u := by
    intro d w s u
    have h1 := Wd_mono (d := d) (show w ≤ max w (Wd d w) by omega)
    have h2 := Sd_mono (d := d) (show s ≤ max s (Sd d s) by omega)
    have h3 := Ud_mono (d := d) (show u ≤ max u (Ud d u) by omega)
    simp only [Wd, Sd, Ud]
    omega
  intro F
  induction F with
  | whole n => intro d r δ w s u _ N; have := base d w s u; simp only [expand, wt, sh, udep]; omega
  | px => intro d r δ w s u _ N; have := base d w s u; simp only [expand, wt, sh, udep]; omega
  | pz => intro d r δ w s u _ N; have := base d w s u; simp only [expand, wt, sh, udep]; omega
  | noise a l => intro d r δ w s u _ N; have := base d w s u; simp only [expand, wt, sh, udep]; omega
  | nm x =>
    intro d r δ w s u _ N
    have := base d w s u
    have h1 := N.w x; have h2 := N.s x; have h3 := N.u x
    simp only [expand, udep]
    omega
  | two c a b iha ihb =>
    intro d r δ w s u h N
    have h' : 1 + max (dep a) (dep b) ≤ d := h
    obtain ⟨d, rfl⟩ : ∃ d', d = d' + 1 := ⟨d - 1, by omega⟩
    have ha := iha d r δ w s u (by omega) N
    have hb := ihb d r δ w s u (by omega) N
    have st := step d w s u
    simp only [expand, wt, sh, udep]
    omega
  | over a n iha =>
    intro d r δ w s u h N
    have h' : 1 + dep a ≤ d := h
    obtain ⟨d, rfl⟩ : ∃ d', d = d' + 1 := ⟨d - 1, by omega⟩
    have ha := iha d r δ w s u (by omega) N
    have st := step d w s u
    simp only [expand, wt, sh, udep]
    omega
  | bel a b c e iha ihb ihc ihe =>
    intro d r δ w s u h N
    have h' : 1 + max (max (dep a) (dep b)) (max (dep c) (dep e)) ≤ d := h
    obtain ⟨d, rfl⟩ : ∃ d', d = d' + 1 := ⟨d - 1, by omega⟩
    have ha := iha d r δ w s u (by omega) N
    have hb := ihb d r δ w s u (by omega) N
    have hc := ihc d r δ w s u (by omega) N
    have he := ihe d r δ w s u (by omega) N
    have st := step d w s u
    simp only [expand, wt, sh, udep]
    omega
  | shift dx dz a iha =>
    intro d r δ w s u h N
    have h' : 1 + dep a ≤ d := h
    obtain ⟨d, rfl⟩ : ∃ d', d = d' + 1 := ⟨d - 1, by omega⟩
    have ha := iha d r δ w s u (by omega) N
    have st := step d w s u
    simp only [expand, wt, sh, udep]
    omega
  | lt x a b iha ihb =>
    intro d r δ w s u h N
    have h' : 1 + max (dep a) (dep b) ≤ d := h
    obtain ⟨d, rfl⟩ : ∃ d', d = d' + 1 := ⟨d - 1, by omega⟩
    have ha := iha d r δ w s u (by omega) N
    have hb := ihb d ((x, expand a r) :: r) ((x, udep a δ) :: δ) _ _ _ (by omega) (N.cons ha.1 ha.2.1 ha.2.2)
    have bs := base d w s u
    simp only [expand, udep, Wd, Sd, Ud]
    omega
end Fm

/-! Fields as they stand in the heap. -/
namespace Fr
open PySem L2 Lw Fm
/-- all tuples are kept -/
def Tup (H H' : Hp) : Prop := ∀ a xs, H a = some (.tup xs) → H' a = some (.tup xs)
theorem Tup.refl {H : Hp} : Tup H H := fun _ _ h => h
theorem Tup.trans {H H1 H2 : Hp} (a : Tup H H1) (b : Tup H1 H2) : Tup H H2 := fun c o h => b c o (a c o h)
theorem same_tup {H H' : Hp} (s : Same H H') : Tup H H' := fun a xs h => s a _ h
theorem keep_tup {p : Addr} {H H' : Hp} {xs : List V} (k : Keep p H H') (hp : H p = some (.lst xs)) : Tup H H' := fun a ys h => k a _ (ne_of h hp (by intro z; cases z)) h
theorem same_new {H : Hp} {p : Addr} {o : HO} (h : H p = none) : Same H (upd H p o) := fun b x e => by
  rw [upd_ne (ne_of_none e h)]
  exact e
theorem same_put {H H' : Hp} {p : Addr} {o : HO} (s : Same H H') (hp : H p = none) : Same H (upd H' p o) := fun b x e => by
  rw [upd_ne (ne_of_none e hp)]
  exact s b x e
def FRep : Fd → Hp → V → Prop
  | .whole n, H, v => ∃ p, v = .ref p ∧ H p = some (.tup [.str "whole", .int n])
  | .px, H, v => ∃ p, v = .ref p ∧ H p = some (.tup [.str "x"])
  | .pz, H, v => ∃ p, v = .ref p ∧ H p = some (.tup [.str "z"])
  | .noise s l, H, v => ∃ p, v = .ref p ∧ H p = some (.tup [.str "noise", .int s, .int l])
  | .two w a b, H, v => ∃ p u1 u2, v = .ref p ∧ H p = some (.tup [.str w.word, u1, u2]) ∧ FRep a H u1 ∧ FRep b H u2
  | .over a n, H, v => ∃ p u1, v = .ref p ∧ H p = some (.tup [.str "over", u1, .int n]) ∧ FRep a H u1
  | .bel a b c d, H, v => ∃ p u1 u2 u3 u4, v = .ref p ∧ H p = some (.tup [.str "below", u1, u2, u3, u4]) ∧ FRep a H u1 ∧ FRep b H u2 ∧ FRep c H u3 ∧ FRep d H u4
  | .shift dx dz a, H, v => ∃ p u1, v = .ref p ∧ H p = some (.tup [.str "shift", .int dx, .int dz, u1]) ∧ FRep a H u1
  | .lt x a b, H, v => ∃ p u1 u2, v = .ref p ∧ H p = some (.tup [.str "let", .str x, u1, u2]) ∧ FRep a H u1 ∧ FRep b H u2
  | .nm x, H, v => ∃ p, v = .ref p ∧ H p = some (.tup [.str "name", .str x])
theorem FRep.mono {H H' : Hp} (t : Tup H H') : ∀ {F : Fd} {v : V}, FRep F H v → FRep F H' v
  | .whole _, _, ⟨p, e, h⟩ => ⟨p, e, t _ _ h⟩
  | .px, _, ⟨p, e, h⟩ => ⟨p, e, t _ _ h⟩
  | .pz, _, ⟨p, e, h⟩ => ⟨p, e, t _ _ h⟩
  | .noise _ _, _, ⟨p, e, h⟩ => ⟨p, e, t _ _ h⟩
  | .two _ a b, _, ⟨p, u1, u2, e, h, h1, h2⟩ => ⟨p, u1, u2, e, t _ _ h, FRep.mono t (F := a) h1, FRep.mono t (F := b) h2⟩
  | .over a _, _, ⟨p, u1, e, h, h1⟩ => ⟨p, u1, e, t _ _ h, FRep.mono t (F := a) h1⟩
  | .bel a b c d, _, ⟨p, u1, u2, u3, u4, e, h, h1, h2, h3, h4⟩ => ⟨p, u1, u2, u3, u4, e, t _ _ h, FRep.mono t (F := a) h1, FRep.mono t (F := b) h2, FRep.mono t (F := c) h3, FRep.mono t (F := d) h4⟩
  | .shift _ _ a, _, ⟨p, u1, e, h, h1⟩ => ⟨p, u1, e, t _ _ h, FRep.mono t (F := a) h1⟩
  | .lt _ a b, _, ⟨p, u1, u2, e, h, h1, h2⟩ => ⟨p, u1, u2, e, t _ _ h, FRep.mono t (F := a) h1, FRep.mono t (F := b) h2⟩
  | .nm _, _, ⟨p, e, h⟩ => ⟨p, e, t _ _ h⟩
/-- at d a dict of what the names stand for, lets within lets at most n deep -/
def EnvR : Nat → Hp → Addr → Fm.Env → List (Str × Nat) → Prop
  | 0, H, d, r, δ => H d = some (.dK []) ∧ r = [] ∧ δ = []
  | n + 1, H, d, r, δ => ∃ kvs, H d = some (.dK kvs) ∧ kvs.length ≤ r.length ∧ ∀ x, x ∈ r.map (·.1) → ∃ t u d' F r' δ', valV kvs (Sum.inr x : Key) = some (.ref t) ∧ H t = some (.tup [u, .ref d']) ∧ FRep F H u ∧ EnvR n H d' r' δ' ∧
      Bnd F (r'.map (·.1)) ∧ expand F r' = look r x ∧ udep F δ' ≤ (δ.lookup x).getD 0 ∧ r'.length ≤ r.length
theorem EnvR.up : ∀ {n : Nat} {H : Hp} {d : Addr} {r : Fm.Env} {δ : List (Str × Nat)}, EnvR n H d r δ → EnvR (n + 1) H d r δ
  | 0, H, d, r, δ, ⟨h, e1, e2⟩ => by
    subst e1 e2
    exact ⟨[], h, Nat.le_refl _, fun x hx => by cases hx⟩
  | n + 1, H, d, r, δ, ⟨kvs, h, l, q⟩ => ⟨kvs, h, l, fun x hx => by
    obtain ⟨t, u, d', F, r', δ', a1, a2, a3, a4, a5⟩ := q x hx
    exact ⟨t, u, d', F, r', δ', a1, a2, a3, a4.up, a5⟩⟩
theorem EnvR.mono : ∀ {n : Nat} {H H' : Hp} {d : Addr} {r : Fm.Env} {δ : List (Str × Nat)}, Same H H' → EnvR n H d r δ → EnvR n H' d r δ
  | 0, _, _, _, _, _, s, ⟨h, e⟩ => ⟨s _ _ h, e⟩
  | n + 1, _, _, _, _, _, s, ⟨kvs, h, l, q⟩ => ⟨kvs, s _ _ h, l, fun x hx => by
    obtain ⟨t, u, d', F, r', δ', a1, a2, a3, a4, a5⟩ := q x hx
    exact ⟨t, u, d', F, r', δ', a1, s _ _ a2, a3.mono (same_tup s), a4.mono s, a5⟩⟩
theorem EnvR.dict : ∀ {n : Nat} {H : Hp} {d : Addr} {r : Fm.Env} {δ : List (Str × Nat)}, EnvR n H d r δ → ∃ kvs, H d = some (.dK kvs) ∧ kvs.length ≤ r.length
  | 0, _, _, _, _, ⟨h, e1, _⟩ => ⟨[], h, Nat.zero_le _⟩
  | _ + 1, _, _, _, _, ⟨kvs, h, l, _⟩ => ⟨kvs, h, l⟩
/-- one let more -/
theorem EnvR.let_ {n : Nat} {H H' : Hp} {d p t : Addr} {r : Fm.Env} {δ : List (Str × Nat)} {kvs : List (Key × V)} {x : Str} {u : V} {F : Fd} (E : EnvR n H d r δ) (hd : H d = some (.dK kvs)) (s : Same H H') (hp : H' p = some (.dK (putK kvs (Sum.inr x : Key) (.ref t))))
    (ht : H' t = some (.tup [u, .ref d])) (hF : FRep F H u) (hB : Bnd F (r.map (·.1))) : EnvR (n + 1) H' p ((x, expand F r) :: r) ((x, udep F δ) :: δ) := by
  obtain ⟨k0, e0, l0⟩ := E.dict
  have ek : k0 = kvs := by rw [hd] at e0; cases e0; rfl
  subst ek
  refine ⟨_, hp, ?_, fun y hy => ?_⟩
  · have := length_putK k0 (Sum.inr x : Key) (V.ref t)
    simp only [List.length_cons]
    omega
  · by_cases e : y = x
    · subst e
      refine ⟨t, u, d, F, r, δ, ?_, ht, hF.mono (same_tup s), E.mono s, hB, ?_, ?_, ?_⟩
      · rw [valV_put, if_pos rfl]
      · simp [look]
      · simp [List.lookup]
      · simp
    · have hy' : y ∈ r.map (·.1) := by
        simp only [List.map_cons, List.mem_cons] at hy
        exact hy.resolve_left e
      have hne : ¬ (Sum.inr y : Key) = Sum.inr x := fun z => e (Sum.inr.inj z)
      have key : ∃ t' u' d' F' r' δ', valV k0 (Sum.inr y : Key) = some (.ref t') ∧ H t' = some (.tup [u', .ref d']) ∧ FRep F' H u' ∧ EnvR n H d' r' δ' ∧ Bnd F' (r'.map (·.1)) ∧ expand F' r' = look r y ∧ udep F' δ' ≤ (δ.lookup y).getD 0 ∧ r'.length ≤ r.length := by
        cases n with
        | zero =>
          obtain ⟨_, e1, _⟩ := E
          subst e1
          cases hy'
        | succ n =>
          obtain ⟨k1, e1, _, q⟩ := E
          have : k1 = k0 := by rw [hd] at e1; cases e1; rfl
          subst this
          obtain ⟨t', u', d', F', r', δ', a1, a2, a3, a4, a5⟩ := q y hy'
          exact ⟨t', u', d', F', r', δ', a1, a2, a3, a4.up, a5⟩
      obtain ⟨t', u', d', F', r', δ', a1, a2, a3, a4, a5, a6, a7, a8⟩ := key
      refine ⟨t', u', d', F', r', δ', ?_, s _ _ a2, a3.mono (same_tup s), a4.mono s, a5, ?_, ?_, ?_⟩
      · rw [valV_put, if_neg hne]; exact a1
      · rw [a6]; simp [look, e]
      · have hb : (y == x) = false := by simpa using e
        simpa [List.lookup, hb] using a7
      · simp only [List.length_cons]; omega
/-- a part is no harder than the whole -/
structure Sub (A F : Fd) : Prop where
  bnd : ∀ l, Bnd F l → Bnd A l
  ud : ∀ δ, udep A δ + 1 ≤ udep F δ
  ok : ∀ r, OkE (expand F r) → OkE (expand A r)
  vb : ∀ r k, Fm.vb (expand A r) k ≤ Fm.vb (expand F r) k
  cn : ∀ r, Fm.cn (expand A r) ≤ Fm.cn (expand F r)
def PartOk (H : Hp) (v : V) : Option Fd → Prop
  | some A => FRep A H v
  | none => (∃ n, v = .int n) ∨ ∃ s, v = .str s
def plainWord (w : Str) : Prop := decide (w = "name") = false ∧ decide (w = "let") = false ∧ decide (w = "shift") = false
abbrev partR (N : NR) (r : Fm.Env) (x0 z0 x1 z1 : Int) (q : V × Option Fd) : List (Int × Int) := match q.2 with
  | some A => allE N (expand A r) x0 z0 x1 z1
  | none => []
theorem kinds (F : Fd) : (∃ x, F = .nm x) ∨ (∃ x A B, F = .lt x A B) ∨ (∃ dx dz A, F = .shift dx dz A) ∨ ((∀ dx dz A, F ≠ .shift dx dz A) ∧ (∀ x A B, F ≠ .lt x A B) ∧ ∀ x, F ≠ .nm x) := by
  cases F with
  | nm x => exact .inl ⟨x, rfl⟩
  | lt x A B => exact .inr (.inl ⟨x, A, B, rfl⟩)
  | shift dx dz A => exact .inr (.inr (.inl ⟨dx, dz, A, rfl⟩))
  | _ => exact .inr (.inr (.inr ⟨fun _ _ _ e => (nomatch e), fun _ _ _ e => (nomatch e), fun _ e => (nomatch e)⟩))
theorem frep_ref {H : Hp} {v : V} : ∀ {F : Fd}, FRep F H v → ∃ p xs, v = .ref p ∧ H p = some (.tup xs)
  | .whole _, ⟨p, e, h⟩ => ⟨p, _, e, h⟩
  | .px, ⟨p, e, h⟩ => ⟨p, _, e, h⟩
  | .pz, ⟨p, e, h⟩ => ⟨p, _, e, h⟩
  | .noise _ _, ⟨p, e, h⟩ => ⟨p, _, e, h⟩
  | .two _ _ _, ⟨p, _, _, e, h, _⟩ => ⟨p, _, e, h⟩
  | .over _ _, ⟨p, _, e, h, _⟩ => ⟨p, _, e, h⟩
  | .bel _ _ _ _, ⟨p, _, _, _, _, e, h, _⟩ => ⟨p, _, e, h⟩
  | .shift _ _ _, ⟨p, _, e, h, _⟩ => ⟨p, _, e, h⟩
  | .lt _ _ _, ⟨p, _, _, e, h, _⟩ => ⟨p, _, e, h⟩
  | .nm _, ⟨p, e, h⟩ => ⟨p, _, e, h⟩
structure Parts (F : Fd) (H : Hp) (u : V) : Prop where
  ex : ∃ (p : Addr) (w : Str) (ps : List (V × Option Fd)), u = .ref p ∧ H p = some (.tup (.str w :: ps.map (·.1))) ∧ (∀ q ∈ ps, PartOk H q.1 q.2) ∧ ps.length ≤ 4 ∧ plainWord w ∧ (∀ q ∈ ps, ∀ A, q.2 = some A → Sub A F) ∧
    ∀ (N : NR) (r : Fm.Env) (x0 z0 x1 z1 : Int), allE N (expand F r) x0 z0 x1 z1 = rangeG N (expand F r) x0 z0 x1 z1 :: ps.flatMap (partR N r x0 z0 x1 z1)
theorem sub_two1 (w : W2) (a b : Fd) : Sub a (.two w a b) := ⟨fun _ h => h.1, fun δ => by simp only [udep]; omega, fun _ h => h.1, fun r k => (vb_two w _ _ k).1, fun r => by simp only [expand, Fm.cn]; omega⟩
theorem sub_two2 (w : W2) (a b : Fd) : Sub b (.two w a b) := ⟨fun _ h => h.2, fun δ => by simp only [udep]; omega, fun _ h => h.2, fun r k => (vb_two w _ _ k).2, fun r => by simp only [expand, Fm.cn]; omega⟩
theorem plain_w2 (w : W2) : plainWord w.word := ⟨word_ne (by decide +kernel) w, word_ne (by decide +kernel) w, word_ne (by decide +kernel) w⟩
theorem parts {F : Fd} {H : Hp} {u : V} (h : FRep F H u) (h1 : ∀ dx dz A, F ≠ .shift dx dz A) (h2 : ∀ x A B, F ≠ .lt x A B) (h3 : ∀ x, F ≠ .nm x) : Parts F H u := by
  cases F with
  | whole n =>
    obtain ⟨p, e, hp⟩ := h
    refine ⟨p, "whole", [(.int n, none)], e, hp, ?_, by simp, ⟨by decide +kernel, by decide +kernel, by decide +kernel⟩, ?_, fun N r x0 z0 x1 z1 => rfl⟩
    · intro q hq; rw [List.mem_singleton.mp hq]; exact .inl ⟨n, rfl⟩
    · intro q hq A e; rw [List.mem_singleton.mp hq] at e; cases e
  | px =>
    obtain ⟨p, e, hp⟩ := h
    exact ⟨p, "x", [], e, hp, fun q hq => (nomatch hq), by decide, ⟨by decide +kernel, by decide +kernel, by decide +kernel⟩, fun q hq => (nomatch hq), fun N r x0 z0 x1 z1 => rfl⟩
  | pz =>
    obtain ⟨p, e, hp⟩ := h
    exact ⟨p, "z", [], e, hp, fun q hq => (nomatch hq), by decide, ⟨by decide +kernel, by decide +kernel, by decide +kernel⟩, fun q hq => (nomatch hq), fun N r x0 z0 x1 z1 => rfl⟩
  | noise s l =>
    obtain ⟨p, e, hp⟩ := h
    refine ⟨p, "noise", [(.int s, none), (.int l, none)], e, hp, ?_, by simp, ⟨by decide +kernel, by decide +kernel, by decide +kernel⟩, ?_, fun N r x0 z0 x1 z1 => rfl⟩
    · intro q hq
      simp only [List.mem_cons, List.not_mem_nil, or_false] at hq
      rcases hq with rfl | rfl
      · exact .inl ⟨s, rfl⟩
      · exact .inl ⟨l, rfl⟩
    · intro q hq A e
      simp only [List.mem_cons, List.not_mem_nil, or_false] at hq
      rcases hq with rfl | rfl <;> cases e
  | two w a b =>
    obtain ⟨p, u1, u2, e, hp, ha, hb⟩ := h
    refine ⟨p, w.word, [(u1, some a), (u2, some b)], e, hp, ?_, by simp, plain_w2 w, ?_, fun N r x0 z0 x1 z1 => by simp [allE, expand, partR]⟩
    · intro q hq
      simp only [List.mem_cons, List.not_mem_nil, or_false] at hq
      rcases hq with rfl | rfl
      · exact ha
      · exact hb
    · intro q hq A e
      simp only [List.mem_cons, List.not_mem_nil, or_false] at hq
      rcases hq with rfl | rfl <;> cases e
      · exact sub_two1 w a b
      · exact sub_two2 w a b
  | over a n =>
    obtain ⟨p, u1, e, hp, ha⟩ := h
    refine ⟨p, "over", [(u1, some a), (.int n, none)], e, hp, ?_, by simp, ⟨by decide +kernel, by decide +kernel, by decide +kernel⟩, ?_, fun N r x0 z0 x1 z1 => by simp [allE, expand, partR]⟩
    · intro q hq
      simp only [List.mem_cons, List.not_mem_nil, or_false] at hq
      rcases hq with rfl | rfl
      · exact ha
      · exact .inl ⟨n, rfl⟩
    · intro q hq A e
      simp only [List.mem_cons, List.not_mem_nil, or_false] at hq
      rcases hq with rfl | rfl <;> cases e
      exact ⟨fun _ h => h, fun δ => by simp only [udep]; omega, fun _ h => h.1, fun r k => Nat.le_refl _, fun r => by simp only [expand, Fm.cn]; omega⟩
  | bel a b c d =>
    obtain ⟨p, u1, u2, u3, u4, e, hp, ha, hb, hc, hd⟩ := h
    refine ⟨p, "below", [(u1, some a), (u2, some b), (u3, some c), (u4, some d)], e, hp, ?_, by simp, ⟨by decide +kernel, by decide +kernel, by decide +kernel⟩, ?_, fun N r x0 z0 x1 z1 => by simp [allE, expand, partR]⟩
    · intro q hq
      simp only [List.mem_cons, List.not_mem_nil, or_false] at hq
      rcases hq with rfl | rfl | rfl | rfl
      · exact ha
      · exact hb
      · exact hc
      · exact hd
    · intro q hq A e
      simp only [List.mem_cons, List.not_mem_nil, or_false] at hq
      rcases hq with rfl | rfl | rfl | rfl <;> cases e
      · exact ⟨fun _ h => h.1, fun δ => by simp only [udep]; omega, fun _ h => h.1, fun r k => by simp only [expand, Fm.vb]; omega, fun r => by simp only [expand, Fm.cn]; omega⟩
      · exact ⟨fun _ h => h.2.1, fun δ => by simp only [udep]; omega, fun _ h => h.2.1, fun r k => by simp only [expand, Fm.vb]; omega, fun r => by simp only [expand, Fm.cn]; omega⟩
      · exact ⟨fun _ h => h.2.2.1, fun δ => by simp only [udep]; omega, fun _ h => h.2.2.1, fun r k => by simp only [expand, Fm.vb]; omega, fun r => by simp only [expand, Fm.cn]; omega⟩
      · exact ⟨fun _ h => h.2.2.2, fun δ => by simp only [udep]; omega, fun _ h => h.2.2.2, fun r k => by simp only [expand, Fm.vb]; omega, fun r => by simp only [expand, Fm.cn]; omega⟩
  | shift dx dz a => exact absurd rfl (h1 dx dz a)
  | lt x a b => exact absurd rfl (h2 x a b)
  | nm x => exact absurd rfl (h3 x)
/-- a list of pairs -/
abbrev PairsR (H : Hp) : List V → List (Int × Int) → Prop := Paired fun v ab => ∃ p, v = V.ref p ∧ H p = some (.tup [.int ab.1, .int ab.2])
theorem PairsR.mono {H H' : Hp} (s : Same H H') : ∀ {vs : List V} {ps : List (Int × Int)}, PairsR H vs ps → PairsR H' vs ps
  | _, _, .nil => .nil
  | _, _, .cons ⟨p, e, h⟩ t => .cons ⟨p, e, s _ _ h⟩ (PairsR.mono s t)
theorem pairs_at {H : Hp} : ∀ {vs : List V} {ps : List (Int × Int)} {i : Nat} {y : V}, PairsR H vs ps → vs[i]? = some y → ∃ ab, ps[i]? = some ab ∧ ∃ p, y = V.ref p ∧ H p = some (.tup [.int ab.1, .int ab.2])
  | _, _, _, _, .nil, h => by simp at h
  | _, _, 0, y, .cons (b := b) a _, h => by
    simp at h
    subst h
    exact ⟨b, rfl, a⟩
  | _, _, i + 1, y, .cons _ t, h => by
    obtain ⟨ab, h1, h2⟩ := pairs_at (i := i) (y := y) t (by simpa using h)
    exact ⟨ab, by simpa using h1, h2⟩
theorem PairsR.append {H : Hp} : ∀ {vs ws : List V} {ps qs : List (Int × Int)}, PairsR H vs ps → PairsR H ws qs → PairsR H (vs ++ ws) (ps ++ qs)
  | _, _, _, _, .nil, h => h
  | _, _, _, _, .cons a t, h => .cons a (PairsR.append t h)
end Fr

/-! Steps: fields without names as a list in which nothing stands twice. -/
namespace Sm
open PySem Fm
inductive Stp where
  | whole (n : Int) | px (d : Int) | pz (d : Int) | noise (s l dx dz : Int) | two (w : W2) (i j : Nat) | over (i : Nat) (n : Int) | bel (a b c d : Nat)
  deriving DecidableEq
/-- what a step leans on lies ahead of place n -/
def Stp.lt : Stp → Nat → Prop
  | .two _ i j, n => i < n ∧ j < n
  | .over i _, n => i < n
  | .bel a b c d, n => a < n ∧ b < n ∧ c < n ∧ d < n
  | _, _ => True
theorem Stp.lt_mono {s : Stp} {m n : Nat} (h : s.lt m) (l : m ≤ n) : s.lt n := by
  cases s <;> simp only [Stp.lt] at * <;> omega
/-- put a step in, where it isn't there -/
def put (st : List Stp) (s : Stp) : List Stp × Nat := if s ∈ st then (st, st.idxOf s) else (st ++ [s], st.length)
def into : Ex → Int → Int → List Stp → List Stp × Nat
  | .whole n, _, _, st => put st (.whole n)
  | .px, dx, _, st => put st (.px dx)
  | .pz, _, dz, st => put st (.pz dz)
  | .noise s l, dx, dz, st => put st (.noise s l dx dz)
  | .two w a b, dx, dz, st =>
    let p := into a dx dz st
    let q := into b dx dz p.1
    put q.1 (.two w p.2 q.2)
  | .over a n, dx, dz, st =>
    let p := into a dx dz st
    put p.1 (.over p.2 n)
  | .bel a b c d, dx, dz, st =>
    let p := into a dx dz st
    let q := into b dx dz p.1
    let r := into c dx dz q.1
    let t := into d dx dz r.1
    put t.1 (.bel p.2 q.2 r.2 t.2)
  | .shift ex ez a, dx, dz, st => into a (dx + ex) (dz + ez) st
def stepsE (e : Ex) : List Stp := (into e 0 0 []).1
/-! ### what steps make, in any kind of values -/
structure Alg (α : Type) where
  dflt : α
  whole : Int → α
  px : Int → α
  pz : Int → α
  noise : Int → Int → Int → Int → α
  two : W2 → α → α → α
  over : α → Int → α
  bel : α → α → α → α → α
variable {α : Type}
def Alg.step (A : Alg α) (s : Stp) (vs : List α) : α := match s with
  | .whole n => A.whole n
  | .px d => A.px d
  | .pz d => A.pz d
  | .noise s l dx dz => A.noise s l dx dz
  | .two w i j => A.two w (vs.getD i A.dflt) (vs.getD j A.dflt)
  | .over i n => A.over (vs.getD i A.dflt) n
  | .bel a b c d => A.bel (vs.getD a A.dflt) (vs.getD b A.dflt) (vs.getD c A.dflt) (vs.getD d A.dflt)
def Alg.run (A : Alg α) (st : List Stp) : List α := st.foldl (fun vs s => vs ++ [A.step s vs]) []
theorem run_snoc (A : Alg α) (st : List Stp) (s : Stp) : A.run (st ++ [s]) = A.run st ++ [A.step s (A.run st)] := by
  simp [Alg.run, List.foldl_append]
theorem snoc_ind {β : Type} {P : List β → Prop} (h0 : P []) (h1 : ∀ l a, P l → P (l ++ [a])) (l : List β) : P l := by
  have key : ∀ l : List β, P l.reverse := by
    intro l
    induction l with
    | nil => exact h0
    | cons a r ih => rw [List.reverse_cons]; exact h1 _ _ ih
  have := key l.reverse
  rwa [List.reverse_reverse] at this
theorem run_len (A : Alg α) (st : List Stp) : (A.run st).length = st.length := by
  refine snoc_ind (P := fun st => (A.run st).length = st.length) rfl (fun st s ih => ?_) st
  rw [run_snoc]; simp [ih]
/-- more steps change no earlier value -/
theorem run_append (A : Alg α) (st : List Stp) : ∀ more : List Stp, ∃ t, A.run (st ++ more) = A.run st ++ t := by
  intro more
  refine snoc_ind (P := fun more => ∃ t, A.run (st ++ more) = A.run st ++ t) ⟨[], by simp⟩ (fun r s ih => ?_) more
  obtain ⟨t, h⟩ := ih
  rw [← List.append_assoc, run_snoc, h]
  exact ⟨_, List.append_assoc _ _ _⟩
theorem run_get (A : Alg α) {st st' : List Stp} (h : st <+: st') {i : Nat} (hi : i < st.length) : (A.run st').getD i A.dflt = (A.run st).getD i A.dflt := by
  obtain ⟨m, rfl⟩ := h
  obtain ⟨t, e⟩ := run_append A st m
  rw [e]
  have hl : i < (A.run st).length := by rw [run_len]; exact hi
  simp [List.getD, List.getElem?_append_left hl]
/-- steps lean on steps ahead -/
def Ok (st : List Stp) : Prop := ∀ (j : Nat) (s : Stp), st[j]? = some s → s.lt j
theorem ok_nil : Ok [] := fun j s h => by simp at h
theorem ok_snoc {st : List Stp} {s : Stp} (h : Ok st) (hs : s.lt st.length) : Ok (st ++ [s]) := fun j t e => by
  rcases Nat.lt_trichotomy j st.length with l | l | l
  · rw [List.getElem?_append_left l] at e; exact h j t e
  · subst l; simp at e; subst e; exact hs
  · rw [List.getElem?_append_right (by omega)] at e
    have : 1 ≤ j - st.length := by omega
    rw [List.getElem?_eq_none (by simp; omega)] at e
    cases e
/-- a step's value leans on what stands ahead of it alone -/
theorem step_eq (A : Alg α) {s : Stp} {n : Nat} {vs ws : List α} (hs : s.lt n) (h : ∀ i, i < n → vs.getD i A.dflt = ws.getD i A.dflt) : A.step s vs = A.step s ws := by
  cases s with
  | two w i j => simp only [Alg.step]; rw [h i hs.1, h j hs.2]
  | over i m => simp only [Alg.step]; rw [h i hs]
  | bel a b c d => simp only [Alg.step]; rw [h a hs.1, h b hs.2.1, h c hs.2.2.1, h d hs.2.2.2]
  | _ => rfl
theorem run_at (A : Alg α) {st : List Stp} (h : Ok st) {j : Nat} {s : Stp} (hj : st[j]? = some s) : (A.run st).getD j A.dflt = A.step s (A.run st) := by
  have hl : j < st.length := (List.getElem?_eq_some_iff.mp hj).1
  have e1 : st.take (j + 1) = st.take j ++ [s] := by rw [List.take_add_one, hj]; rfl
  have hp : st.take (j + 1) <+: st := List.take_prefix _ _
  have hp0 : st.take j <+: st := List.take_prefix _ _
  have hlen : (st.take j).length = j := by rw [List.length_take]; omega
  rw [run_get A hp (by rw [List.length_take]; omega), e1, run_snoc]
  have hr : (A.run (st.take j)).length = j := by rw [run_len, hlen]
  have e2 : (A.run (st.take j) ++ [A.step s (A.run (st.take j))]).getD j A.dflt = A.step s (A.run (st.take j)) := by
    simp [List.getD, List.getElem?_append_right (Nat.le_of_eq hr), hr]
  rw [e2]
  exact step_eq A (h j s hj) fun i hi => (run_get A hp0 (by omega)).symm
structure Put (st : List Stp) (s : Stp) (r : List Stp × Nat) : Prop where
  pre : st <+: r.1
  lt : r.2 < r.1.length
  at_ : r.1[r.2]? = some s
  ok : Ok st → s.lt st.length → Ok r.1
  nd : st.Nodup → r.1.Nodup
  len : r.1.length ≤ st.length + 1
theorem put_ok (st : List Stp) (s : Stp) : Put st s (put st s) := by
  unfold put
  split
  · rename_i h
    have hl := List.idxOf_lt_length_iff.mpr h
    exact ⟨List.prefix_refl _, hl, by rw [List.getElem?_eq_getElem hl, List.getElem_idxOf], fun o _ => o, fun n => n, Nat.le_succ _⟩
  · rename_i h
    refine ⟨List.prefix_append _ _, by simp, by simp, fun o hs => ok_snoc o hs, fun n => ?_, by simp⟩
    exact List.nodup_append.mpr ⟨n, by simp, fun a ha b hb e => by simp at hb; subst hb; subst e; exact h ha⟩
def foldE (A : Alg α) : Ex → Int → Int → α
  | .whole n, _, _ => A.whole n
  | .px, dx, _ => A.px dx
  | .pz, _, dz => A.pz dz
  | .noise s l, dx, dz => A.noise s l dx dz
  | .two w a b, dx, dz => A.two w (foldE A a dx dz) (foldE A b dx dz)
  | .over a n, dx, dz => A.over (foldE A a dx dz) n
  | .bel a b c d, dx, dz => A.bel (foldE A a dx dz) (foldE A b dx dz) (foldE A c dx dz) (foldE A d dx dz)
  | .shift ex ez a, dx, dz => foldE A a (dx + ex) (dz + ez)
structure Into (st : List Stp) (e : Ex) (dx dz : Int) (r : List Stp × Nat) : Prop where
  pre : st <+: r.1
  lt : r.2 < r.1.length
  ok : Ok st → Ok r.1
  nd : st.Nodup → r.1.Nodup
  val : Ok st → ∀ {α : Type} (A : Alg α), (A.run r.1).getD r.2 A.dflt = foldE A e dx dz
  len : r.1.length ≤ st.length + cn e
theorem leaf_into {st : List Stp} {s : Stp} {e : Ex} {dx dz : Int} (hs : ∀ n, s.lt n) (hv : ∀ {α : Type} (A : Alg α) (vs : List α), A.step s vs = foldE A e dx dz) (hc : cn e = 1) : Into st e dx dz (put st s) := by
  have p := put_ok st s
  exact ⟨p.pre, p.lt, fun o => p.ok o (hs _), p.nd, fun o α A => by rw [run_at A (p.ok o (hs _)) p.at_]; exact hv A _, by rw [hc]; exact p.len⟩
theorem into_ok : ∀ (e : Ex) (dx dz : Int) (st : List Stp), Into st e dx dz (into e dx dz st)
  | .whole n, dx, dz, st => leaf_into (fun _ => True.intro) (fun _ _ => rfl) rfl
  | .px, dx, dz, st => leaf_into (fun _ => True.intro) (fun _ _ => rfl) rfl
  | .pz, dx, dz, st => leaf_into (fun _ => True.intro) (fun _ _ => rfl) rfl
  | .noise s l, dx, dz, st => leaf_into (fun _ => True.intro) (fun _ _ => rfl) rfl
  | .two w a b, dx, dz, st => by
    have ha := into_ok a dx dz st
    have hb := into_ok b dx dz (into a dx dz st).1
    have p := put_ok (into b dx dz (into a dx dz st).1).1 (.two w (into a dx dz st).2 (into b dx dz (into a dx dz st).1).2)
    have lb := hb.pre.length_le
    have hs : (Stp.two w (into a dx dz st).2 (into b dx dz (into a dx dz st).1).2).lt (into b dx dz (into a dx dz st).1).1.length := ⟨Nat.lt_of_lt_of_le ha.lt lb, hb.lt⟩
    refine ⟨ha.pre.trans (hb.pre.trans p.pre), p.lt, fun o => p.ok (hb.ok (ha.ok o)) hs, fun n => p.nd (hb.nd (ha.nd n)), fun o α A => ?_, ?_⟩
    · show (A.run (put _ _).1).getD (put _ _).2 A.dflt = _
      rw [run_at A (p.ok (hb.ok (ha.ok o)) hs) p.at_]
      show A.two w _ _ = A.two w _ _
      rw [run_get A p.pre hs.1, run_get A p.pre hs.2, run_get A hb.pre ha.lt, ha.val o A, hb.val (ha.ok o) A]
    · have := p.len; have := ha.len; have := hb.len
      show (put _ _).1.length ≤ st.length + (1 + (cn a + cn b))
      omega
  | .over a n, dx, dz, st => by
    have ha := into_ok a dx dz st
    have p := put_ok (into a dx dz st).1 (.over (into a dx dz st).2 n)
    have hs : (Stp.over (into a dx dz st).2 n).lt (into a dx dz st).1.length := ha.lt
    refine ⟨ha.pre.trans p.pre, p.lt, fun o => p.ok (ha.ok o) hs, fun m => p.nd (ha.nd m), fun o α A => ?_, ?_⟩
    · show (A.run (put _ _).1).getD (put _ _).2 A.dflt = _
      rw [run_at A (p.ok (ha.ok o) hs) p.at_]
      show A.over _ n = A.over _ n
      rw [run_get A p.pre hs, ha.val o A]
    · have := p.len; have := ha.len
      show (put _ _).1.length ≤ st.length + (1 + cn a)
      omega
  | .bel a b c d, dx, dz, st => by
    have ha := into_ok a dx dz st
    have hb := into_ok b dx dz (into a dx dz st).1
    have hc := into_ok c dx dz (into b dx dz (into a dx dz st).1).1
    have hd := into_ok d dx dz (into c dx dz (into b dx dz (into a dx dz st).1).1).1
    have p := put_ok (into d dx dz (into c dx dz (into b dx dz (into a dx dz st).1).1).1).1 (.bel (into a dx dz st).2 (into b dx dz (into a dx dz st).1).2 (into c dx dz (into b dx dz (into a dx dz st).1).1).2 (into d dx dz (into c dx dz (into b dx dz (into a dx dz st).1).1).1).2)
    have lb := hb.pre.length_le
    have lc := hc.pre.length_le
    have ld := hd.pre.length_le
    have la' := ha.lt
    have lb' := hb.lt
    have lc' := hc.lt
    have hs : (Stp.bel (into a dx dz st).2 (into b dx dz (into a dx dz st).1).2 (into c dx dz (into b dx dz (into a dx dz st).1).1).2 (into d dx dz (into c dx dz (into b dx dz (into a dx dz st).1).1).1).2).lt (into d dx dz (into c dx dz (into b dx dz (into a dx dz st).1).1).1).1.length :=
      ⟨by omega, by omega, by omega, hd.lt⟩
    have od := fun o => hd.ok (hc.ok (hb.ok (ha.ok o)))
    refine ⟨ha.pre.trans (hb.pre.trans (hc.pre.trans (hd.pre.trans p.pre))), p.lt, fun o => p.ok (od o) hs, fun n => p.nd (hd.nd (hc.nd (hb.nd (ha.nd n)))), fun o α A => ?_, ?_⟩
    · show (A.run (put _ _).1).getD (put _ _).2 A.dflt = _
      rw [run_at A (p.ok (od o) hs) p.at_]
      show A.bel _ _ _ _ = A.bel _ _ _ _
      rw [run_get A p.pre hs.1, run_get A p.pre hs.2.1, run_get A p.pre hs.2.2.1, run_get A p.pre hs.2.2.2]
      rw [run_get A (hb.pre.trans (hc.pre.trans hd.pre)) ha.lt, run_get A (hc.pre.trans hd.pre) hb.lt, run_get A hd.pre hc.lt, ha.val o A, hb.val (ha.ok o) A, hc.val (hb.ok (ha.ok o)) A, hd.val (hc.ok (hb.ok (ha.ok o))) A]
    · have := p.len; have := ha.len; have := hb.len; have := hc.len; have := hd.len
      show (put _ _).1.length ≤ st.length + (1 + (cn a + (cn b + (cn c + cn d))))
      omega
  | .shift ex ez a, dx, dz, st => by
    have ha := into_ok a (dx + ex) (dz + ez) st
    refine ⟨ha.pre, ha.lt, ha.ok, ha.nd, fun o α A => ha.val o A, ?_⟩
    have := ha.len
    show (into a (dx + ex) (dz + ez) st).1.length ≤ st.length + (1 + cn a)
    omega
/-- a field's own step is the last one, where anything was put in -/
theorem put_top {st : List Stp} {s : Stp} (h : Ok st) (no : ∀ p, s.lt p → ¬ p < st.length) : (put st s).2 + 1 = (put st s).1.length := by
  unfold put
  split
  · rename_i m
    have hl := List.idxOf_lt_length_iff.mpr m
    exact absurd hl (no _ (h _ s (by rw [List.getElem?_eq_getElem hl, List.getElem_idxOf])))
  · simp
theorem put_any (st : List Stp) (s : Stp) : (put st s).1 = st ∨ (put st s).2 + 1 = (put st s).1.length := by
  unfold put
  split
  · exact .inl rfl
  · right; simp
theorem into_top : ∀ (e : Ex) (dx dz : Int) (st : List Stp), Ok st → (into e dx dz st).1 = st ∨ (into e dx dz st).2 + 1 = (into e dx dz st).1.length
  | .whole _, _, _, st, _ => put_any st _
  | .px, _, _, st, _ => put_any st _
  | .pz, _, _, st, _ => put_any st _
  | .noise _ _, _, _, st, _ => put_any st _
  | .two w a b, dx, dz, st, ok => by
    have oa := (into_ok a dx dz st).ok ok
    have ob := (into_ok b dx dz (into a dx dz st).1).ok oa
    show (put (into b dx dz (into a dx dz st).1).1 (.two w (into a dx dz st).2 (into b dx dz (into a dx dz st).1).2)).1 = st ∨ _
    rcases into_top b dx dz _ oa with hb | hb
    · rcases into_top a dx dz st ok with ha | ha
      · have e : (into b dx dz (into a dx dz st).1).1 = st := by rw [hb, ha]
        have := put_any (into b dx dz (into a dx dz st).1).1 (.two w (into a dx dz st).2 (into b dx dz (into a dx dz st).1).2)
        rcases this with h | h
        · exact .inl (h.trans e)
        · exact .inr h
      · refine .inr (put_top ob fun p hp => ?_)
        have h1 : (into a dx dz st).2 < p := hp.1
        rw [hb]
        omega
    · refine .inr (put_top ob fun p hp => ?_)
      have h1 : (into b dx dz (into a dx dz st).1).2 < p := hp.2
      omega
  | .over a n, dx, dz, st, ok => by
    have oa := (into_ok a dx dz st).ok ok
    show (put (into a dx dz st).1 (.over (into a dx dz st).2 n)).1 = st ∨ _
    rcases into_top a dx dz st ok with ha | ha
    · rcases put_any (into a dx dz st).1 (.over (into a dx dz st).2 n) with h | h
      · exact .inl (h.trans ha)
      · exact .inr h
    · refine .inr (put_top oa fun p hp => ?_)
      have h1 : (into a dx dz st).2 < p := hp
      omega
  | .bel a b c d, dx, dz, st, ok => by
    obtain ⟨qa, ea⟩ : ∃ q, into a dx dz st = q := ⟨_, rfl⟩
    obtain ⟨qb, eb⟩ : ∃ q, into b dx dz qa.1 = q := ⟨_, rfl⟩
    obtain ⟨qc, ec⟩ : ∃ q, into c dx dz qb.1 = q := ⟨_, rfl⟩
    obtain ⟨qd, ed⟩ : ∃ q, into d dx dz qc.1 = q := ⟨_, rfl⟩
    have oa := (into_ok a dx dz st).ok ok
    rw [ea] at oa
    have ob := (into_ok b dx dz qa.1).ok oa
    rw [eb] at ob
    have oc := (into_ok c dx dz qb.1).ok ob
    rw [ec] at oc
    have od := (into_ok d dx dz qc.1).ok oc
    rw [ed] at od
    have ta := into_top a dx dz st ok
    have tb := into_top b dx dz qa.1 oa
    have tc := into_top c dx dz qb.1 ob
    have td := into_top d dx dz qc.1 oc
    rw [ea] at ta
    rw [eb] at tb
    rw [ec] at tc
    rw [ed] at td
    have e : into (.bel a b c d) dx dz st = put qd.1 (.bel qa.2 qb.2 qc.2 qd.2) := by
      simp only [into, ea, eb, ec, ed]
    rw [e]
    by_cases hd : qd.1 = qc.1
    · by_cases hc : qc.1 = qb.1
      · by_cases hb : qb.1 = qa.1
        · by_cases ha : qa.1 = st
          · have e2 : qd.1 = st := by rw [hd, hc, hb, ha]
            rcases put_any qd.1 (.bel qa.2 qb.2 qc.2 qd.2) with h | h
            · exact .inl (h.trans e2)
            · exact .inr h
          · have h1 := ta.resolve_left ha
            refine .inr (put_top od fun p hp => ?_)
            have h2 : qa.2 < p := hp.1
            rw [hd, hc, hb]
            omega
        · have h1 := tb.resolve_left hb
          refine .inr (put_top od fun p hp => ?_)
          have h2 : qb.2 < p := hp.2.1
          rw [hd, hc]
          omega
      · have h1 := tc.resolve_left hc
        refine .inr (put_top od fun p hp => ?_)
        have h2 : qc.2 < p := hp.2.2.1
        rw [hd]
        omega
    · have h1 := td.resolve_left hd
      refine .inr (put_top od fun p hp => ?_)
      have h2 : qd.2 < p := hp.2.2.2
      omega
  | .shift ex ez a, dx, dz, st, ok => into_top a (dx + ex) (dz + ez) st ok
/-! ### values, ranges -/
def valA (g x z : Int) : Alg Int := ⟨0, fun n => n, fun d => x + d, fun d => z + d, fun s l dx dz => noiseL g s l (x + dx) (z + dz), W2.op, fun a n => a / n, fun a b c d => if a < b then c else d⟩
def rngA (N : NR) (x0 z0 x1 z1 : Int) : Alg (Int × Int) := ⟨(0, 0), fun n => (n, n), fun d => (x0 + d, x1 + d), fun d => (z0 + d, z1 + d), fun s l dx dz => N s l (x0 + dx) (z0 + dz) (x1 + dx) (z1 + dz), W2.rng, fun a n => (a.1 / n, a.2 / n), belR⟩
theorem fold_val : ∀ (e : Ex) (g x z dx dz : Int), foldE (valA g x z) e dx dz = valE e g (x + dx) (z + dz)
  | .whole _, _, _, _, _, _ => rfl
  | .px, _, _, _, _, _ => rfl
  | .pz, _, _, _, _, _ => rfl
  | .noise _ _, _, _, _, _, _ => rfl
  | .two w a b, g, x, z, dx, dz => by simp only [foldE, valE, fold_val a, fold_val b]; rfl
  | .over a n, g, x, z, dx, dz => by simp only [foldE, valE, fold_val a]; rfl
  | .bel a b c d, g, x, z, dx, dz => by simp only [foldE, valE, fold_val a, fold_val b, fold_val c, fold_val d]; rfl
  | .shift ex ez a, g, x, z, dx, dz => by simp only [foldE, valE, fold_val a, Int.add_assoc]
theorem fold_rng (N : NR) : ∀ (e : Ex) (x0 z0 x1 z1 dx dz : Int), foldE (rngA N x0 z0 x1 z1) e dx dz = rangeG N e (x0 + dx) (z0 + dz) (x1 + dx) (z1 + dz)
  | .whole _, _, _, _, _, _, _ => rfl
  | .px, _, _, _, _, _, _ => rfl
  | .pz, _, _, _, _, _, _ => rfl
  | .noise _ _, _, _, _, _, _, _ => rfl
  | .two w a b, x0, z0, x1, z1, dx, dz => by simp only [foldE, rangeG, fold_rng N a, fold_rng N b]; rfl
  | .over a n, x0, z0, x1, z1, dx, dz => by simp only [foldE, rangeG, fold_rng N a]; rfl
  | .bel a b c d, x0, z0, x1, z1, dx, dz => by simp only [foldE, rangeG, fold_rng N a, fold_rng N b, fold_rng N c, fold_rng N d]; rfl
  | .shift ex ez a, x0, z0, x1, z1, dx, dz => by simp only [foldE, rangeG, fold_rng N a, Int.add_assoc]
end Sm

/-! Fields: what a name's environment has to do with the expansion; names called otherwise; names exchanged for their fields. -/
namespace Fm
open PySem
/-- an expansion hangs on the fields of the names alone that stand free in it -/
theorem expand_same : ∀ (F : Fd) (xs : List Str) (r r' : Env), Bnd F xs → (∀ x ∈ xs, look r x = look r' x) → expand F r = expand F r'
  | .whole _, _, _, _, _, _ => rfl
  | .px, _, _, _, _, _ => rfl
  | .pz, _, _, _, _, _ => rfl
  | .noise _ _, _, _, _, _, _ => rfl
  | .two _ a b, xs, r, r', h, e => by simp only [expand]; rw [expand_same a xs r r' h.1 e, expand_same b xs r r' h.2 e]
  | .over a _, xs, r, r', h, e => by simp only [expand]; rw [expand_same a xs r r' h e]
  | .bel a b c d, xs, r, r', h, e => by simp only [expand]; rw [expand_same a xs r r' h.1 e, expand_same b xs r r' h.2.1 e, expand_same c xs r r' h.2.2.1 e, expand_same d xs r r' h.2.2.2 e]
  | .shift _ _ a, xs, r, r', h, e => by simp only [expand]; rw [expand_same a xs r r' h e]
  | .lt x a b, xs, r, r', h, e => by
    simp only [expand]
    rw [expand_same a xs r r' h.1 e]
    exact expand_same b (x :: xs) _ _ h.2 fun y hy => by
      unfold look
      split
      · rfl
      · rename_i n
        exact e y (by rcases List.mem_cons.mp hy with h | h; exact absurd h n; exact h)
  | .nm x, xs, r, r', h, e => e x h
/-- a closed field's expansion needs no names -/
theorem expand_closed {F : Fd} (h : Bnd F []) (r r' : Env) : expand F r = expand F r' := expand_same F [] r r' h fun _ hx => nomatch hx
/-- fields without names, as fields -/
def emb : Ex → Fd
  | .whole n => .whole n
  | .px => .px
  | .pz => .pz
  | .noise s l => .noise s l
  | .two w a b => .two w (emb a) (emb b)
  | .over a n => .over (emb a) n
  | .bel a b c d => .bel (emb a) (emb b) (emb c) (emb d)
  | .shift dx dz a => .shift dx dz (emb a)
theorem expand_emb : ∀ (e : Ex) (r : Env), expand (emb e) r = e
  | .whole _, _ => rfl
  | .px, _ => rfl
  | .pz, _ => rfl
  | .noise _ _, _ => rfl
  | .two _ a b, r => by simp only [emb, expand, expand_emb a, expand_emb b]
  | .over a _, r => by simp only [emb, expand, expand_emb a]
  | .bel a b c d, r => by simp only [emb, expand, expand_emb a, expand_emb b, expand_emb c, expand_emb d]
  | .shift _ _ a, r => by simp only [emb, expand, expand_emb a]
theorem bnd_emb : ∀ (e : Ex) (xs : List Str), Bnd (emb e) xs
  | .whole _, _ => True.intro
  | .px, _ => True.intro
  | .pz, _ => True.intro
  | .noise _ _, _ => True.intro
  | .two _ a b, xs => ⟨bnd_emb a xs, bnd_emb b xs⟩
  | .over a _, xs => bnd_emb a xs
  | .bel a b c d, xs => ⟨bnd_emb a xs, bnd_emb b xs, bnd_emb c xs, bnd_emb d xs⟩
  | .shift _ _ a, xs => bnd_emb a xs
theorem okF_emb : ∀ (e : Ex), OkE e → OkF (emb e)
  | .whole _, h => h
  | .px, _ => True.intro
  | .pz, _ => True.intro
  | .noise _ _, h => h
  | .two _ a b, h => ⟨okF_emb a h.1, okF_emb b h.2⟩
  | .over a _, h => ⟨okF_emb a h.1, h.2⟩
  | .bel a b c d, h => ⟨okF_emb a h.1, okF_emb b h.2.1, okF_emb c h.2.2.1, okF_emb d h.2.2.2⟩
  | .shift _ _ a, h => ⟨h.1, h.2.1, okF_emb a h.2.2⟩
/-- the new name of a name -/
def nu : List (Str × Str) → Str → Str
  | [], x => x
  | (y, z) :: r, x => if x = y then z else nu r x
/-- a field whose lets' names are called otherwise, nm k being the new name of a let k lets deep -/
def call (fresh : Nat → Str) : Fd → List (Str × Str) → Nat → Fd
  | .two w a b, ν, k => .two w (call fresh a ν k) (call fresh b ν k)
  | .over a n, ν, k => .over (call fresh a ν k) n
  | .bel a b c d, ν, k => .bel (call fresh a ν k) (call fresh b ν k) (call fresh c ν k) (call fresh d ν k)
  | .shift dx dz a, ν, k => .shift dx dz (call fresh a ν k)
  | .lt x a b, ν, k => .lt (fresh k) (call fresh a ν k) (call fresh b ((x, fresh k) :: ν) (k + 1))
  | .nm x, ν, _ => .nm (nu ν x)
  | F, _, _ => F
/-- how many lets stand within one another -/
def lets : Fd → Nat
  | .two _ a b => max (lets a) (lets b)
  | .over a _ => lets a
  | .bel a b c d => max (max (lets a) (lets b)) (max (lets c) (lets d))
  | .shift _ _ a => lets a
  | .lt _ a b => max (lets a) (lets b + 1)
  | _ => 0
/-- called otherwise, a field's expansion is the same; new names differ -/
theorem expand_call (fresh : Nat → Str) (M : Nat) (inj : ∀ i j, i < M → j < M → fresh i = fresh j → i = j) : ∀ (F : Fd) (xs : List Str) (r r' : Env) (ν : List (Str × Str)) (k : Nat), k + lets F ≤ M → Bnd F xs →
    (∀ x ∈ xs, look r' (nu ν x) = look r x) → (∀ x ∈ xs, ∃ j, j < k ∧ nu ν x = fresh j) → expand (call fresh F ν k) r' = expand F r := by
  intro F
  induction F with
  | whole n => intros; rfl
  | px => intros; rfl
  | pz => intros; rfl
  | noise s l => intros; rfl
  | two w a b iha ihb =>
    intro xs r r' ν k hk h e f
    simp only [lets] at hk
    simp only [call, expand]
    rw [iha xs r r' ν k (by omega) h.1 e f, ihb xs r r' ν k (by omega) h.2 e f]
  | over a n iha =>
    intro xs r r' ν k hk h e f
    simp only [lets] at hk
    simp only [call, expand]
    rw [iha xs r r' ν k hk h e f]
  | bel a b c d iha ihb ihc ihd =>
    intro xs r r' ν k hk h e f
    simp only [lets] at hk
    simp only [call, expand]
    rw [iha xs r r' ν k (by omega) h.1 e f, ihb xs r r' ν k (by omega) h.2.1 e f, ihc xs r r' ν k (by omega) h.2.2.1 e f, ihd xs r r' ν k (by omega) h.2.2.2 e f]
  | shift dx dz a iha =>
    intro xs r r' ν k hk h e f
    simp only [lets] at hk
    simp only [call, expand]
    rw [iha xs r r' ν k hk h e f]
  | lt x a b iha ihb =>
    intro xs r r' ν k hk h e f
    simp only [lets] at hk
    simp only [call, expand]
    rw [iha xs r r' ν k (by omega) h.1 e f]
    refine ihb (x :: xs) _ _ _ (k + 1) (by omega) h.2 (fun y hy => ?_) (fun y hy => ?_)
    · by_cases c : y = x
      · simp only [nu, c, if_true, look]
      · have hy' : y ∈ xs := by rcases List.mem_cons.mp hy with h | h; exact absurd h c; exact h
        obtain ⟨j, hj, ej⟩ := f y hy'
        have n : ¬ nu ν y = fresh k := fun e2 => by
          have := inj j k (by omega) (by omega) (ej.symm.trans e2)
          omega
        simp only [nu, if_neg c, look, if_neg n]
        exact e y hy'
    · by_cases c : y = x
      · exact ⟨k, by omega, by simp only [nu, c, if_true]⟩
      · have hy' : y ∈ xs := by rcases List.mem_cons.mp hy with h | h; exact absurd h c; exact h
        obtain ⟨j, hj, ej⟩ := f y hy'
        exact ⟨j, by omega, by simp only [nu, if_neg c]; exact ej⟩
  | nm x => intro xs r r' ν k hk h e f; exact e x h
end Fm
namespace Fm
open PySem
/-- without products -/
def noT : Ex → Prop
  | .two w a b => w ≠ .times ∧ noT a ∧ noT b
  | .over a _ => noT a
  | .bel a b c d => noT a ∧ noT b ∧ noT c ∧ noT d
  | .shift _ _ a => noT a
  | _ => True
def dpE : Ex → Nat
  | .two _ a b => 1 + max (dpE a) (dpE b)
  | .over a _ => dpE a
  | .bel a b c d => max (max (dpE a) (dpE b)) (max (dpE c) (dpE d))
  | .shift _ _ a => dpE a
  | _ => 0
theorem vb_noT : ∀ (e : Ex) (k : Nat), 34 ≤ k → noT e → vb e k ≤ k + sh e + dpE e
  | .whole _, k, h, _ => by simp only [vb, sh, dpE]; omega
  | .px, k, h, _ => by simp only [vb, sh, dpE]; omega
  | .pz, k, h, _ => by simp only [vb, sh, dpE]; omega
  | .noise _ _, k, h, _ => by simp only [vb, sh, dpE]; omega
  | .two w a b, k, h, n => by
    have h1 := vb_noT a k h n.2.1
    have h2 := vb_noT b k h n.2.2
    cases w <;> first | exact absurd rfl n.1 | (simp only [vb, sh, dpE]; omega)
  | .over a _, k, h, n => by
    have h1 := vb_noT a k h n
    simp only [vb, sh, dpE]; omega
  | .bel a b c d, k, h, n => by
    have h1 := vb_noT a k h n.1
    have h2 := vb_noT b k h n.2.1
    have h3 := vb_noT c k h n.2.2.1
    have h4 := vb_noT d k h n.2.2.2
    simp only [vb, sh, dpE]; omega
  | .shift _ _ a, k, h, n => by
    have h1 := vb_noT a (k + 1) (by omega) n
    simp only [vb, sh, dpE]; omega
end Fm

/-! Ranges hold: in a part of the box they are no wider; values lie between. -/
namespace Rm
open PySem Fm
def In (a b : Int × Int) : Prop := b.1 ≤ a.1 ∧ a.2 ≤ b.2
theorem In.refl (a : Int × Int) : In a a := ⟨Int.le_refl _, Int.le_refl _⟩
theorem In.trans {a b c : Int × Int} (h : In a b) (k : In b c) : In a c := ⟨Int.le_trans k.1 h.1, Int.le_trans h.2 k.2⟩
/-- a product of one factor lies between those of its ends -/
theorem mul_ends {lo hi x : Int} (y : Int) (h1 : lo ≤ x) (h2 : x ≤ hi) : min (lo * y) (hi * y) ≤ x * y ∧ x * y ≤ max (lo * y) (hi * y) := by
  rcases Int.le_total 0 y with hy | hy
  · have a := Int.mul_le_mul_of_nonneg_right h1 hy
    have b := Int.mul_le_mul_of_nonneg_right h2 hy
    omega
  · have a := Int.mul_le_mul_of_nonpos_right h1 hy
    have b := Int.mul_le_mul_of_nonpos_right h2 hy
    omega
theorem mul_in {a b : Int × Int} {x y : Int} (h1 : a.1 ≤ x) (h2 : x ≤ a.2) (h3 : b.1 ≤ y) (h4 : y ≤ b.2) : (W2.rng .times a b).1 ≤ x * y ∧ x * y ≤ (W2.rng .times a b).2 := by
  have e1 := mul_ends y h1 h2
  have e2 := mul_ends a.1 h3 h4
  have e3 := mul_ends a.2 h3 h4
  rw [Int.mul_comm b.1 a.1, Int.mul_comm b.2 a.1, Int.mul_comm y a.1] at e2
  rw [Int.mul_comm b.1 a.2, Int.mul_comm b.2 a.2, Int.mul_comm y a.2] at e3
  simp only [W2.rng, mn4, mx4]
  omega
theorem rng_ok (w : W2) {a b : Int × Int} (ha : a.1 ≤ a.2) (hb : b.1 ≤ b.2) : (w.rng a b).1 ≤ (w.rng a b).2 := by
  cases w with
  | times =>
    have := mul_in (a := a) (b := b) (Int.le_refl a.1) ha (Int.le_refl b.1) hb
    omega
  | _ => simp only [W2.rng]; omega
theorem rng_in (w : W2) {a b a' b' : Int × Int} (ha : a.1 ≤ a.2) (hb : b.1 ≤ b.2) (h1 : In a a') (h2 : In b b') : In (w.rng a b) (w.rng a' b') := by
  obtain ⟨p1, p2⟩ := h1
  obtain ⟨q1, q2⟩ := h2
  cases w with
  | times =>
    have c1 := mul_in (a := a') (b := b') (x := a.1) (y := b.1) p1 (by omega) q1 (by omega)
    have c2 := mul_in (a := a') (b := b') (x := a.1) (y := b.2) p1 (by omega) (by omega) q2
    have c3 := mul_in (a := a') (b := b') (x := a.2) (y := b.1) (by omega) p2 q1 (by omega)
    have c4 := mul_in (a := a') (b := b') (x := a.2) (y := b.2) (by omega) p2 (by omega) q2
    simp only [In]
    simp only [W2.rng, mn4, mx4] at *
    omega
  | _ => simp only [In, W2.rng]; omega
theorem op_in (w : W2) {a b : Int × Int} {x y : Int} (h1 : a.1 ≤ x) (h2 : x ≤ a.2) (h3 : b.1 ≤ y) (h4 : y ≤ b.2) : (w.rng a b).1 ≤ w.op x y ∧ w.op x y ≤ (w.rng a b).2 := by
  cases w with
  | times => exact mul_in h1 h2 h3 h4
  | plus => simp only [W2.rng, W2.op]; omega
  | less => simp only [W2.rng, W2.op]; omega
  | least => simp only [W2.rng, W2.op]; split <;> omega
  | most => simp only [W2.rng, W2.op]; split <;> omega
theorem bel_ok {a b c d : Int × Int} (hc : c.1 ≤ c.2) (hd : d.1 ≤ d.2) : (belR a b c d).1 ≤ (belR a b c d).2 := by
  unfold belR
  split
  · exact hc
  · split
    · exact hd
    · show min c.1 d.1 ≤ max c.2 d.2
      omega
theorem bel_in {a b c d a' b' c' d' : Int × Int} (ha : a.1 ≤ a.2) (hb : b.1 ≤ b.2) (hc : c.1 ≤ c.2) (hd : d.1 ≤ d.2) (h1 : In a a') (h2 : In b b') (h3 : In c c') (h4 : In d d') : In (belR a b c d) (belR a' b' c' d') := by
  obtain ⟨p1, p2⟩ := h1
  obtain ⟨q1, q2⟩ := h2
  obtain ⟨r1, r2⟩ := h3
  obtain ⟨s1, s2⟩ := h4
  unfold belR
  by_cases t1 : a'.2 < b'.1
  · rw [if_pos t1, if_pos (show a.2 < b.1 by omega)]
    exact ⟨r1, r2⟩
  · rw [if_neg t1]
    by_cases t2 : b'.2 ≤ a'.1
    · rw [if_pos t2, if_neg (show ¬ a.2 < b.1 by omega), if_pos (show b.2 ≤ a.1 by omega)]
      exact ⟨s1, s2⟩
    · rw [if_neg t2]
      by_cases t3 : a.2 < b.1
      · rw [if_pos t3]
        show min c'.1 d'.1 ≤ c.1 ∧ c.2 ≤ max c'.2 d'.2
        omega
      · rw [if_neg t3]
        by_cases t4 : b.2 ≤ a.1
        · rw [if_pos t4]
          show min c'.1 d'.1 ≤ d.1 ∧ d.2 ≤ max c'.2 d'.2
          omega
        · rw [if_neg t4]
          show min c'.1 d'.1 ≤ min c.1 d.1 ∧ max c.2 d.2 ≤ max c'.2 d'.2
          omega
/-- ranges of noise that hold: no less than one another in parts -/
structure NMono (N N' : NR) : Prop where
  ok : ∀ s l x0 z0 x1 z1, x0 ≤ x1 → z0 ≤ z1 → (N s l x0 z0 x1 z1).1 ≤ (N s l x0 z0 x1 z1).2
  sub : ∀ s l x0 z0 x1 z1 x0' z0' x1' z1', x0 ≤ x1 → z0 ≤ z1 → x0' ≤ x0 → x1 ≤ x1' → z0' ≤ z0 → z1 ≤ z1' → In (N s l x0 z0 x1 z1) (N' s l x0' z0' x1' z1')
theorem wide_mono : NMono wideN wideN := ⟨fun _ _ _ _ _ _ _ _ => (by decide : (0 : Int) ≤ 65535), fun _ _ _ _ _ _ _ _ _ _ _ _ _ _ _ _ => In.refl _⟩
theorem div_le {a b n : Int} (h : a ≤ b) (hn : 1 ≤ n) : a / n ≤ b / n := Int.ediv_le_ediv (by omega) h
theorem range_ok {N N' : NR} (hN : NMono N N') : ∀ (e : Ex) (x0 z0 x1 z1 : Int), OkE e → x0 ≤ x1 → z0 ≤ z1 → (rangeG N e x0 z0 x1 z1).1 ≤ (rangeG N e x0 z0 x1 z1).2
  | .whole _, _, _, _, _, _, _, _ => Int.le_refl _
  | .px, _, _, _, _, _, hx, _ => hx
  | .pz, _, _, _, _, _, _, hz => hz
  | .noise s l, x0, z0, x1, z1, _, hx, hz => hN.ok s l x0 z0 x1 z1 hx hz
  | .two w a b, x0, z0, x1, z1, h, hx, hz => rng_ok w (range_ok hN a x0 z0 x1 z1 h.1 hx hz) (range_ok hN b x0 z0 x1 z1 h.2 hx hz)
  | .over a n, x0, z0, x1, z1, h, hx, hz => div_le (range_ok hN a x0 z0 x1 z1 h.1 hx hz) h.2.1
  | .bel a b c d, x0, z0, x1, z1, h, hx, hz => bel_ok (range_ok hN c x0 z0 x1 z1 h.2.2.1 hx hz) (range_ok hN d x0 z0 x1 z1 h.2.2.2 hx hz)
  | .shift dx dz a, x0, z0, x1, z1, h, hx, hz => range_ok hN a _ _ _ _ h.2.2 (by omega) (by omega)
theorem range_in {N N' : NR} (hN : NMono N N') : ∀ (e : Ex) (x0 z0 x1 z1 x0' z0' x1' z1' : Int), OkE e → x0 ≤ x1 → z0 ≤ z1 → x0' ≤ x0 → x1 ≤ x1' → z0' ≤ z0 → z1 ≤ z1' → In (rangeG N e x0 z0 x1 z1) (rangeG N' e x0' z0' x1' z1')
  | .whole _, _, _, _, _, _, _, _, _, _, _, _, _, _, _, _ => In.refl _
  | .px, _, _, _, _, _, _, _, _, _, _, _, h1, h2, _, _ => ⟨h1, h2⟩
  | .pz, _, _, _, _, _, _, _, _, _, _, _, _, _, h3, h4 => ⟨h3, h4⟩
  | .noise s l, x0, z0, x1, z1, _, _, _, _, _, hx, hz, h1, h2, h3, h4 => hN.sub s l _ _ _ _ _ _ _ _ hx hz h1 h2 h3 h4
  | .two w a b, x0, z0, x1, z1, x0', z0', x1', z1', h, hx, hz, h1, h2, h3, h4 =>
    rng_in w (range_ok hN a x0 z0 x1 z1 h.1 hx hz) (range_ok hN b x0 z0 x1 z1 h.2 hx hz) (range_in hN a x0 z0 x1 z1 x0' z0' x1' z1' h.1 hx hz h1 h2 h3 h4) (range_in hN b x0 z0 x1 z1 x0' z0' x1' z1' h.2 hx hz h1 h2 h3 h4)
  | .over a n, x0, z0, x1, z1, x0', z0', x1', z1', h, hx, hz, h1, h2, h3, h4 => by
    have i := range_in hN a x0 z0 x1 z1 x0' z0' x1' z1' h.1 hx hz h1 h2 h3 h4
    exact ⟨div_le i.1 h.2.1, div_le i.2 h.2.1⟩
  | .bel a b c d, x0, z0, x1, z1, x0', z0', x1', z1', h, hx, hz, h1, h2, h3, h4 =>
    bel_in (range_ok hN a x0 z0 x1 z1 h.1 hx hz) (range_ok hN b x0 z0 x1 z1 h.2.1 hx hz) (range_ok hN c x0 z0 x1 z1 h.2.2.1 hx hz) (range_ok hN d x0 z0 x1 z1 h.2.2.2 hx hz)
      (range_in hN a x0 z0 x1 z1 x0' z0' x1' z1' h.1 hx hz h1 h2 h3 h4) (range_in hN b x0 z0 x1 z1 x0' z0' x1' z1' h.2.1 hx hz h1 h2 h3 h4) (range_in hN c x0 z0 x1 z1 x0' z0' x1' z1' h.2.2.1 hx hz h1 h2 h3 h4) (range_in hN d x0 z0 x1 z1 x0' z0' x1' z1' h.2.2.2 hx hz h1 h2 h3 h4)
  | .shift dx dz a, x0, z0, x1, z1, x0', z0', x1', z1', h, hx, hz, h1, h2, h3, h4 => range_in hN a _ _ _ _ _ _ _ _ h.2.2 (by omega) (by omega) (by omega) (by omega) (by omega) (by omega)
/-- noise lies in its range -/
def NHolds (g : Int) (N : NR) : Prop := ∀ s l x0 z0 x1 z1 x z, x0 ≤ x → x ≤ x1 → z0 ≤ z → z ≤ z1 → (N s l x0 z0 x1 z1).1 ≤ noiseL g s l x z ∧ noiseL g s l x z ≤ (N s l x0 z0 x1 z1).2
theorem wide_holds (g : Int) : NHolds g wideN := fun s l _ _ _ _ x z _ _ _ _ => noise_in g s l x z
theorem val_in {g : Int} {N : NR} (hN : NHolds g N) : ∀ (e : Ex) (x0 z0 x1 z1 x z : Int), OkE e → x0 ≤ x → x ≤ x1 → z0 ≤ z → z ≤ z1 → (rangeG N e x0 z0 x1 z1).1 ≤ valE e g x z ∧ valE e g x z ≤ (rangeG N e x0 z0 x1 z1).2
  | .whole _, _, _, _, _, _, _, _, _, _, _, _ => ⟨Int.le_refl _, Int.le_refl _⟩
  | .px, _, _, _, _, _, _, _, h1, h2, _, _ => ⟨h1, h2⟩
  | .pz, _, _, _, _, _, _, _, _, _, h3, h4 => ⟨h3, h4⟩
  | .noise s l, x0, z0, x1, z1, x, z, _, h1, h2, h3, h4 => hN s l x0 z0 x1 z1 x z h1 h2 h3 h4
  | .two w a b, x0, z0, x1, z1, x, z, h, h1, h2, h3, h4 => by
    have i := val_in hN a x0 z0 x1 z1 x z h.1 h1 h2 h3 h4
    have j := val_in hN b x0 z0 x1 z1 x z h.2 h1 h2 h3 h4
    exact op_in w i.1 i.2 j.1 j.2
  | .over a n, x0, z0, x1, z1, x, z, h, h1, h2, h3, h4 => by
    have i := val_in hN a x0 z0 x1 z1 x z h.1 h1 h2 h3 h4
    exact ⟨div_le i.1 h.2.1, div_le i.2 h.2.1⟩
  | .bel a b c d, x0, z0, x1, z1, x, z, h, h1, h2, h3, h4 => by
    have i := val_in hN a x0 z0 x1 z1 x z h.1 h1 h2 h3 h4
    have j := val_in hN b x0 z0 x1 z1 x z h.2.1 h1 h2 h3 h4
    have k := val_in hN c x0 z0 x1 z1 x z h.2.2.1 h1 h2 h3 h4
    have m := val_in hN d x0 z0 x1 z1 x z h.2.2.2 h1 h2 h3 h4
    show (belR _ _ _ _).1 ≤ (if _ then _ else _) ∧ (if _ then _ else _) ≤ (belR _ _ _ _).2
    unfold belR
    by_cases t : valE a g x z < valE b g x z
    · rw [if_pos t]
      split
      · exact k
      · split
        · omega
        · show min _ _ ≤ _ ∧ _ ≤ max _ _
          omega
    · rw [if_neg t]
      split
      · omega
      · split
        · exact m
        · show min _ _ ≤ _ ∧ _ ≤ max _ _
          omega
  | .shift dx dz a, x0, z0, x1, z1, x, z, h, h1, h2, h3, h4 => val_in hN a _ _ _ _ _ _ h.2.2 (by omega) (by omega) (by omega) (by omega)
/-- all ranges of a field in a part of the box lie within those of the box, one by one -/
theorem all_in {N N' : NR} (hN : NMono N N') (B : Int × Int) : ∀ (e : Ex) (x0 z0 x1 z1 x0' z0' x1' z1' : Int), OkE e → x0 ≤ x1 → z0 ≤ z1 → x0' ≤ x0 → x1 ≤ x1' → z0' ≤ z0 → z1 ≤ z1' →
    (∀ p ∈ allE N' e x0' z0' x1' z1', In p B) → ∀ p ∈ allE N e x0 z0 x1 z1, In p B
  | .whole n, x0, z0, x1, z1, x0', z0', x1', z1', h, hx, hz, h1, h2, h3, h4, q, p, hp => by
    have e := List.mem_singleton.mp hp
    rw [e]
    exact (range_in hN (.whole n) _ _ _ _ _ _ _ _ h hx hz h1 h2 h3 h4).trans (q _ (List.mem_singleton.mpr rfl))
  | .px, x0, z0, x1, z1, x0', z0', x1', z1', h, hx, hz, h1, h2, h3, h4, q, p, hp => by
    have e := List.mem_singleton.mp hp
    rw [e]
    exact (range_in hN .px _ _ _ _ _ _ _ _ h hx hz h1 h2 h3 h4).trans (q _ (List.mem_singleton.mpr rfl))
  | .pz, x0, z0, x1, z1, x0', z0', x1', z1', h, hx, hz, h1, h2, h3, h4, q, p, hp => by
    have e := List.mem_singleton.mp hp
    rw [e]
    exact (range_in hN .pz _ _ _ _ _ _ _ _ h hx hz h1 h2 h3 h4).trans (q _ (List.mem_singleton.mpr rfl))
  | .noise s l, x0, z0, x1, z1, x0', z0', x1', z1', h, hx, hz, h1, h2, h3, h4, q, p, hp => by
    have e := List.mem_singleton.mp hp
    rw [e]
    exact (range_in hN (.noise s l) _ _ _ _ _ _ _ _ h hx hz h1 h2 h3 h4).trans (q _ (List.mem_singleton.mpr rfl))
  | .two w a b, x0, z0, x1, z1, x0', z0', x1', z1', h, hx, hz, h1, h2, h3, h4, q, p, hp => by
    rcases List.mem_cons.mp hp with e | hp
    · rw [e]
      exact (range_in hN (.two w a b) _ _ _ _ _ _ _ _ h hx hz h1 h2 h3 h4).trans (q _ List.mem_cons_self)
    · rcases List.mem_append.mp hp with hp | hp
      · exact all_in hN B a _ _ _ _ _ _ _ _ h.1 hx hz h1 h2 h3 h4 (fun p hp => q p (List.mem_cons_of_mem _ (List.mem_append_left _ hp))) p hp
      · exact all_in hN B b _ _ _ _ _ _ _ _ h.2 hx hz h1 h2 h3 h4 (fun p hp => q p (List.mem_cons_of_mem _ (List.mem_append_right _ hp))) p hp
  | .over a n, x0, z0, x1, z1, x0', z0', x1', z1', h, hx, hz, h1, h2, h3, h4, q, p, hp => by
    rcases List.mem_cons.mp hp with e | hp
    · rw [e]
      exact (range_in hN (.over a n) _ _ _ _ _ _ _ _ h hx hz h1 h2 h3 h4).trans (q _ List.mem_cons_self)
    · exact all_in hN B a _ _ _ _ _ _ _ _ h.1 hx hz h1 h2 h3 h4 (fun p hp => q p (List.mem_cons_of_mem _ hp)) p hp
  | .bel a b c d, x0, z0, x1, z1, x0', z0', x1', z1', h, hx, hz, h1, h2, h3, h4, q, p, hp => by
    rcases List.mem_cons.mp hp with e | hp
    · rw [e]
      exact (range_in hN (.bel a b c d) _ _ _ _ _ _ _ _ h hx hz h1 h2 h3 h4).trans (q _ List.mem_cons_self)
    · rcases List.mem_append.mp hp with hp | hp
      · exact all_in hN B a _ _ _ _ _ _ _ _ h.1 hx hz h1 h2 h3 h4 (fun p hp => q p (List.mem_cons_of_mem _ (List.mem_append_left _ hp))) p hp
      · rcases List.mem_append.mp hp with hp | hp
        · exact all_in hN B b _ _ _ _ _ _ _ _ h.2.1 hx hz h1 h2 h3 h4 (fun p hp => q p (List.mem_cons_of_mem _ (List.mem_append_right _ (List.mem_append_left _ hp)))) p hp
        · rcases List.mem_append.mp hp with hp | hp
          · exact all_in hN B c _ _ _ _ _ _ _ _ h.2.2.1 hx hz h1 h2 h3 h4 (fun p hp => q p (List.mem_cons_of_mem _ (List.mem_append_right _ (List.mem_append_right _ (List.mem_append_left _ hp))))) p hp
          · exact all_in hN B d _ _ _ _ _ _ _ _ h.2.2.2 hx hz h1 h2 h3 h4 (fun p hp => q p (List.mem_cons_of_mem _ (List.mem_append_right _ (List.mem_append_right _ (List.mem_append_right _ hp))))) p hp
  | .shift dx dz a, x0, z0, x1, z1, x0', z0', x1', z1', h, hx, hz, h1, h2, h3, h4, q, p, hp => by
    rcases List.mem_cons.mp hp with e | hp
    · rw [e]
      exact (range_in hN (.shift dx dz a) _ _ _ _ _ _ _ _ h hx hz h1 h2 h3 h4).trans (q _ List.mem_cons_self)
    · exact all_in hN B a _ _ _ _ _ _ _ _ h.2.2 (by omega) (by omega) (by omega) (by omega) (by omega) (by omega) (fun p hp => q p (List.mem_cons_of_mem _ hp)) p hp
end Rm

/-! {**d, k: v} at the model's level. -/
namespace Dm
open PySem
section
variable {prog : Program} {w : World} {K : Type} [DecidableEq K] {knd : KeyKind prog w K} {A : Around} {E : Value → Shared → Prop} {s : Shared}
theorem wpAny_dictPut_pairs {d : Addr} {kvs : List (K × Value)} {k : K} {key v : Value} {Q : Unit → Shared → Prop} (hkey : knd.is k key = true) (hm : s.heap.DictOf knd d kvs)
    (hQ : ∀ h', h'.DictOf knd d (stored kvs k v) → Heap.SameBut d s.heap h' → Q () { s with heap := h' })
    (hsz : kvs.length ≤ sizeLine := by size_fits) :
    wpAny (model prog w) A (dictPut d (knd.hash k) key v) Q E s := by
  obtain ⟨o, es, ep, ho, hc, hd, hk, hp, hn⟩ := hm
  have hes : es.size ≤ sizeLine := by have e1 := hp.length; have e2 : es.toList.length = es.size := by simp
                                      omega
  unfold dictPut
  refine wpAny_bind (wpAny_dictFind_of hkey ho hd hk ?_)
  have hidx : (es.findIdx? fun e => knd.is k e.key) = kvs.findIdx? fun kv => decide (kv.1 = k) := by
    rw [← hp.findIdx k]; obtain ⟨l⟩ := es; simp
  cases hi : es.findIdx? fun e => knd.is k e.key with
  | some i =>
    refine wpAny_updateDict ho hd (hQ _ ⟨_, _, ep, Heap.get?_update_self _ ho (Obj.isFreed_of_dict (Obj.data_mapDict hd _)),
      hc.mapDict _, Obj.data_mapDict hd _, hk.modify _ _, ?_, ?_⟩ (Heap.SameBut.update ..))
    · rw [stored, if_pos (any_of_findIdx_some (hidx ▸ hi))]
      have hl : (es.toList.findIdx? fun e => knd.is k e.key) = some i := by rw [← hi]; obtain ⟨l⟩ := es; simp
      have := hp.modify hn hl v
      obtain ⟨l⟩ := es
      simpa using this
    · rw [stored, if_pos (any_of_findIdx_some (hidx ▸ hi)), keys_map_store]; exact hn
  | none =>
    have hnot : k ∉ kvs.map (·.1) := not_mem_of_findIdx_none (hidx ▸ hi)
    have hany : ¬ (kvs.any fun kv => decide (kv.1 = k)) = true := by
      rw [List.any_eq_true]; rintro ⟨kv, hkv, he⟩
      exact hnot (List.mem_map.mpr ⟨kv, hkv, of_decide_eq_true he⟩)
    refine wpAny_updateDictKeys (hz := hes) ho hd (hQ _ ⟨_, _, ep + 1, Heap.get?_update_self _ ho (Obj.isFreed_of_dict (Obj.data_mapDictKeys hd _)),
      hc.mapDictKeys _, Obj.data_mapDictKeys hd _, hk.push hkey _, ?_, ?_⟩ (Heap.SameBut.update ..))
    · rw [stored, if_neg hany]
      have := hp.append hkey (knd.hash k) v
      obtain ⟨l⟩ := es
      simpa using this
    · rw [stored, if_neg hany, List.map_append, List.nodup_append]
      refine ⟨hn, by simp, ?_⟩
      intro a ha b hb
      simp only [List.map_cons, List.map_nil, List.mem_singleton] at hb
      subst hb
      exact fun e => hnot (e ▸ ha)

theorem wpAny_mergeMapping {d o : Addr} {kvs more : List (K × Value)} {Q : Unit → Shared → Prop} (hdo : d ≠ o) (hoS : (o == sysModules) = false)
    (hd : s.heap.DictOf knd d kvs) (ho : s.heap.DictOf knd o more)
    (hQ : ∀ h', h'.DictOf knd d (merged kvs more) → h'.DictOf knd o more → Heap.SameBut d s.heap h' → Q () { s with heap := h' })
    (hsz : kvs.length + more.length ≤ sizeLine) :
    wpAny (model prog w) A (mergeMapping d (.ref o) false) Q E s := by
  obtain ⟨od, esd, epd, hod, hcd, hdd, hkd, hpd, hnd⟩ := id hd
  obtain ⟨oo, eso, epo, hoo, hco, hdo', hko, hpo, hno⟩ := id ho
  have hlen : more.length = eso.size := by rw [← hpo.length]; simp
  unfold mergeMapping
  refine wpAny_bind (wpAny_isInstance ho.typeIs isSubtype_dict_dict ?_)
  simp only [if_true]
  refine wpAny_bind (wpAny_specialOf ho.typeIs F.slot_dict_iter.lookup (wpAny_bind (wpAny_pure ?_)))
  have eb : ((some (Value.builtin "dict.__iter__") : Option Value) == some (Value.builtin "dict.__iter__")) = true := by decide +kernel
  simp only [eb]
  rw [if_neg (by rw [hoS]; exact Bool.false_ne_true)]
  refine wpAny_bind (wpAny_dictEntries hod hdd ?_)
  have loop : wpAny (model prog w) A (do
      let l ← dictEntries o
      let epoch ← dictEpoch o
      forIn (List.range l.size) PUnit.unit fun i (_ : PUnit) => (do
          let l' ← dictEntries o
          match l'[i]? with
            | some e => do
              holding [e.key, e.val] (dictPut d e.hash e.key e.val)
              let ep' ← dictEpoch o
              if (ep' != epoch) = true then do
                  (unsupported "dict.changed-during-merge" : Sem PUnit)
                  pure (ForInStep.yield PUnit.unit)
                else pure (ForInStep.yield PUnit.unit)
            | _ => do
              (unsupported "dict.changed-during-merge" : Sem PUnit)
              pure (ForInStep.yield PUnit.unit) : Sem (ForInStep PUnit))
      pure ()) Q E s := by
    refine wpAny_bind (wpAny_dictEntries hoo hdo' ?_)
    refine wpAny_bind (wpAny_dictEpoch hoo hdo' ?_)
    refine wpAny_bind ?_
    rw [List.range_eq_range']
    refine wpAny_forIn_list _
      (fun rest _ s' => ∃ h' i, s' = { s with heap := h' } ∧ rest = List.range' i (eso.size - i) ∧ i ≤ eso.size ∧ h'.DictOf knd d (merged kvs (more.take i)) ∧ h'.get? o = some oo ∧ Heap.SameBut d s.heap h')
      _ ?_ ?_ _ _ ⟨s.heap, 0, rfl, by simp, Nat.zero_le _, by simpa [merged] using hd, hoo, Heap.SameBut.refl _ _⟩
    · rintro x rest b s' ⟨h', i, rfl, hr, hi, hd', hoo', hs'⟩
      have hlt : i < eso.size := by
        rcases Nat.lt_or_ge i eso.size with h | h
        · exact h
        · rw [Nat.sub_eq_zero_of_le h] at hr; simp at hr
      obtain ⟨rfl, hrest⟩ : x = i ∧ rest = List.range' (i + 1) (eso.size - (i + 1)) := by
        have e : eso.size - i = (eso.size - (i + 1)) + 1 := by omega
        rw [e, List.range'_succ] at hr
        injection hr with h1 h2
        exact ⟨h1, h2⟩
      refine wpAny_bind (wpAny_dictEntries hoo' hdo' ?_)
      rw [Array.getElem?_eq_getElem hlt]
      obtain ⟨kv, hkv⟩ : ∃ kv, more[x]? = some kv := ⟨more[x]'(by rw [hlen]; exact hlt), List.getElem?_eq_getElem _⟩
      obtain ⟨k, v⟩ := kv
      obtain ⟨hkey, hval⟩ := hpo.get? (e := eso[x]) (by simp [hlt]) hkv
      obtain ⟨k', hkey', hhash⟩ := hko eso[x] (Array.getElem_mem hlt)
      obtain rfl : k' = k := knd.inj _ _ _ hkey' hkey
      show wpAny _ _ (holding [eso[x].key, eso[x].val] (dictPut d eso[x].hash eso[x].key eso[x].val) >>= _) _ _ _
      rw [hhash, hval]
      have hmx : (merged kvs (more.take x)).length ≤ sizeLine := by
        have e1 := merged_length_le kvs (more.take x)
        have e2 : (more.take x).length ≤ more.length := by rw [List.length_take]; omega
        omega
      refine wpAny_bind (wpAny_holding (wpAny_dictPut_pairs (hsz := hmx) hkey hd' fun h'' hd'' hs'' => ?_))
      have hoo'' : h''.get? o = some oo := (hs''.2 o (Ne.symm hdo)).trans hoo'
      refine wpAny_bind (wpAny_dictEpoch hoo'' hdo' ?_)
      rw [if_neg (by simp)]
      exact wpAny_pure ⟨h'', x + 1, rfl, hrest, hlt, by rw [merged_take_succ kvs more x (k', v) hkv]; exact hd'', hoo'', hs'.trans hs''⟩
    · rintro b s' ⟨h', i, rfl, hr, hi, hd', hoo', hs'⟩
      have hin : i = eso.size := by
        rcases Nat.lt_or_ge i eso.size with h | h
        · have e : eso.size - i = (eso.size - (i + 1)) + 1 := by omega
          rw [e, List.range'_succ] at hr; exact nomatch hr
        · exact Nat.le_antisymm hi h
      refine wpAny_pure (hQ h' ?_ ⟨oo, eso, epo, hoo', hco, hdo', hko, hpo, hno⟩ hs')
      rw [hin, ← hlen, List.take_length] at hd'; exact hd'
  have loop2 := loop
  split
  · refine wpAny_bind (wpAny_dictEntries hoo hdo' ?_)
    refine wpAny_bind ?_
    rw [← Array.forIn_toList]
    refine wpAny_forIn_list _ (fun rest _ s' => s' = s ∧ ∀ e ∈ rest, e ∈ eso.toList) _ ?_ ?_ _ _ ⟨rfl, fun e h => h⟩
    · rintro e rest b s' ⟨rfl, hall⟩
      obtain ⟨k, hkey, _⟩ := hko e (Array.mem_toList_iff.mp (hall e List.mem_cons_self))
      have hb := knd.byValue k _ hkey
      cases hkk : e.key with
      | ref a =>
        rw [hkk] at hb
        cases hb
      | _ => exact wpAny_pure ⟨rfl, fun x hx => hall x (List.mem_cons_of_mem _ hx)⟩
    · rintro b s' ⟨rfl, _⟩
      exact loop
  · exact loop
theorem wpAny_displayStar {m k v : Sem Value} {Q : Value → Shared → Prop}
    (h : wpAny (model prog w) A m (fun mv s1 => ∃ o more, mv = .ref o ∧ s.heap.objs.size ≠ o ∧ (o == sysModules) = false ∧ s1.heap.DictOf knd s.heap.objs.size [] ∧ s1.heap.DictOf knd o more ∧ more.length < sizeLine ∧
      ∀ h1, h1.DictOf knd s.heap.objs.size more → Heap.SameBut s.heap.objs.size s1.heap h1 →
        wpAny (model prog w) A (evalPairs [(k, v)]) (fun vs s2 => ∃ key val more2, more2.length < sizeLine ∧ Carries knd vs [(key, val)] ∧ h1.objs.size ≠ s.heap.objs.size ∧ (h1.objs.size == sysModules) = false ∧ s2.heap.DictOf knd h1.objs.size [] ∧ s2.heap.DictOf knd s.heap.objs.size more2 ∧
          ∀ h2, h2.DictOf knd h1.objs.size [(key, val)] → Heap.SameBut h1.objs.size s2.heap h2 → ∀ h3, h3.DictOf knd s.heap.objs.size (stored more2 key val) → h3.DictOf knd h1.objs.size [(key, val)] → Heap.SameBut s.heap.objs.size h2 h3 →
            Q (.ref s.heap.objs.size) { s2 with heap := h3, toks := s2.toks + vs.length }) E { s1 with heap := h1.push { cls := .type "dict", data := .dict #[] } }) E
      { s with heap := s.heap.push { cls := .type "dict", data := .dict #[] } }) :
    wpAny (model prog w) A (dictDisplay [(none, m), (some k, v)]) Q E s := by
  unfold dictDisplay
  simp only [List.forIn_cons, List.forIn_nil]
  refine wpAny_bind ?_
  refine wpAny_bind ?_
  simp only [List.isEmpty_nil, if_true]
  refine wpAny_bind (wpAny_pure ?_)
  refine wpAny_bind (wpAny_alloc ?_)
  refine wpAny_bind (wpAny_holding (wpAny_mono h (fun mv s1 hm => ?_) fun _ _ e => e))
  obtain ⟨o, more, rfl, hne, hoS, hd, ho, hz, h1⟩ := hm
  have hnd : (more.map (·.1)).Nodup := by
    obtain ⟨_, _, _, _, _, _, _, _, n⟩ := ho
    exact n
  refine wpAny_bind (wpAny_onRaise (wpAny_tryCatch (wpAny_onRaise (wpAny_holding (wpAny_mergeMapping hne hoS hd ho (fun h' hd' ho' hs' => ?_) (by simp only [List.length_nil]; omega))))))
  rw [merged_nil_of_nodup more hnd] at hd'
  refine wpAny_pure ?_
  refine wpAny_bind ?_
  simp only [List.nil_append, List.length_cons, List.length_nil]
  refine wpAny_pure ?_
  refine wpAny_pure ?_
  simp only [List.isEmpty_cons, Bool.false_eq_true, if_false]
  refine wpAny_bind (wpAny_bind (wpAny_holding (wpAny_subDict (knd := knd) (by simp) (wpAny_mono (h1 h' hd' hs') (fun vs s2 hv => ?_) fun _ _ e => e))))
  obtain ⟨key, val, more2, hz2, hc, hne2, hS2, hd2, hdm, hq⟩ := hv
  refine ⟨[(key, val)], hc, hd2, fun h2 hd3 hs3 => ?_⟩
  have e1 : merged ([] : List (K × Value)) [(key, val)] = [(key, val)] := rfl
  rw [e1] at hd3
  refine wpAny_bind (wpAny_onRaise (wpAny_holding (wpAny_mergeMapping (s := { s2 with heap := h2, toks := s2.toks + vs.length }) hne2.symm hS2 (hdm.sameBut hs3 hne2.symm) hd3 (fun h3 hd4 hd5 hs4 => ?_) (by simp only [List.length_cons, List.length_nil]; omega))))
  refine wpAny_pure ?_
  exact wpAny_pure (hq h2 hd3 hs3 h3 hd4 hd5 hs4)
end
end Dm

/-! Weights of fields; steps as they stand in the heap. -/
namespace Pf
open PySem L2 Lw Fm Fr Sm
/-! ### weights -/
def grE : Ex → Int
  | .whole n => (if n < 0 then -n else n) + 1
  | .px => 1200000
  | .pz => 1200000
  | .noise _ _ => 65535
  | .two w a b => match w with
    | .times => min (grE a * grE b) 1000000000000000000000000000001
    | _ => grE a + grE b
  | .over a _ => grE a
  | .bel a b c d => [grE a, grE b, grE c, grE d].sum
  | .shift _ _ a => grE a
theorem sum4 (a b c d : Int) : [a, b, c, d].sum = a + b + c + d := by simp; omega
theorem gr_bnd : ∀ e : Ex, OkE e → 0 ≤ grE e ∧ grE e ≤ (cn e : Int) * 1000000000000000000000000000001
  | .whole n, h => by
    have h1 : -999999999 ≤ n := h.1
    have h2 : n ≤ 999999999 := h.2
    simp only [grE, cn]
    split <;> omega
  | .px, _ => by simp only [grE, cn]; omega
  | .pz, _ => by simp only [grE, cn]; omega
  | .noise _ _, _ => by simp only [grE, cn]; omega
  | .two w a b, h => by
    have ha := gr_bnd a h.1
    have hb := gr_bnd b h.2
    have hp := Int.mul_nonneg ha.1 hb.1
    have e1 : ((cn (.two w a b) : Nat) : Int) = 1 + ((cn a : Int) + (cn b : Int)) := by simp only [cn]; omega
    rw [e1]
    cases w <;> simp only [grE] <;> omega
  | .over a _, h => by
    have ha := gr_bnd a h.1
    simp only [grE, cn]
    omega
  | .bel a b c d, h => by
    have ha := gr_bnd a h.1
    have hb := gr_bnd b h.2.1
    have hc := gr_bnd c h.2.2.1
    have hd := gr_bnd d h.2.2.2
    simp only [grE, cn, sum4]
    omega
  | .shift _ _ a, h => by
    have ha := gr_bnd a h.2.2
    simp only [grE, cn]
    omega
theorem gr_mul {a b : Ex} (ha : OkE a) (hb : OkE b) (la : cn a ≤ 1000000000000000000000000000000) (lb : cn b ≤ 1000000000000000000000000000000) : L2.CMulW (grE a) (grE b) := by
  have h1 := gr_bnd a ha
  have h2 := gr_bnd b hb
  have e : (2 : Nat) ^ 210 = 1645504557321206042154969182557350504982735865633579863348609024 := by decide
  refine L2.wide_mul (a := 210) (b := 210) ?_ ?_ (by decide) (by decide) (by decide)
  · rw [e]; omega
  · rw [e]; omega
/-- what is let stays small, whether it is asked for or not -/
def Cok : Fd → Fm.Env → Prop
  | .two _ a b, r => Cok a r ∧ Cok b r
  | .over a _, r => Cok a r
  | .bel a b c d, r => Cok a r ∧ Cok b r ∧ Cok c r ∧ Cok d r
  | .shift _ _ a, r => Cok a r
  | .lt x a b, r => cn (expand a r) ≤ 1000000000000000000000000000000 ∧ Cok a r ∧ Cok b ((x, expand a r) :: r)
  | _, _ => True
theorem cok_of : ∀ (F : Fd) (d : Nat) (r : Fm.Env) (c : Nat), dep F ≤ d → (∀ x, cn (look r x) ≤ max 1 c) → Cd d c ≤ 1000000000000000000000000000000 → Cok F r := by
  have base : ∀ (d c : Nat), 1 ≤ Cd d c ∧ max 1 c ≤ Cd d c := by
    intro d
    induction d with
    | zero => intro c; simp only [Cd]; omega
    | succ d ih =>
      intro c
      have h1 := ih (max c (Cd d c))
      simp only [Cd]
      omega
  have step : ∀ (d c : Nat), 1 + 4 * Cd d c ≤ Cd (d + 1) c := by
    intro d c
    have h1 := Cd_mono (d := d) (show c ≤ max c (Cd d c) by omega)
    simp only [Cd]
    omega
  intro F
  induction F with
  | whole n => exact fun _ _ _ _ _ _ => True.intro
  | px => exact fun _ _ _ _ _ _ => True.intro
  | pz => exact fun _ _ _ _ _ _ => True.intro
  | noise a l => exact fun _ _ _ _ _ _ => True.intro
  | nm x => exact fun _ _ _ _ _ _ => True.intro
  | two w a b iha ihb =>
    intro d r c h N hC
    have h' : 1 + max (dep a) (dep b) ≤ d := h
    obtain ⟨d, rfl⟩ : ∃ d', d = d' + 1 := ⟨d - 1, by omega⟩
    have st := step d c
    exact ⟨iha d r c (by omega) N (by omega), ihb d r c (by omega) N (by omega)⟩
  | over a n iha =>
    intro d r c h N hC
    have h' : 1 + dep a ≤ d := h
    obtain ⟨d, rfl⟩ : ∃ d', d = d' + 1 := ⟨d - 1, by omega⟩
    have st := step d c
    exact iha d r c (by omega) N (by omega)
  | bel a b e f iha ihb ihc ihe =>
    intro d r c h N hC
    have h' : 1 + max (max (dep a) (dep b)) (max (dep e) (dep f)) ≤ d := h
    obtain ⟨d, rfl⟩ : ∃ d', d = d' + 1 := ⟨d - 1, by omega⟩
    have st := step d c
    exact ⟨iha d r c (by omega) N (by omega), ihb d r c (by omega) N (by omega), ihc d r c (by omega) N (by omega), ihe d r c (by omega) N (by omega)⟩
  | shift dx dz a iha =>
    intro d r c h N hC
    have h' : 1 + dep a ≤ d := h
    obtain ⟨d, rfl⟩ : ∃ d', d = d' + 1 := ⟨d - 1, by omega⟩
    have st := step d c
    exact iha d r c (by omega) N (by omega)
  | lt x a b iha ihb =>
    intro d r c h N hC
    have h' : 1 + max (dep a) (dep b) ≤ d := h
    obtain ⟨d, rfl⟩ : ∃ d', d = d' + 1 := ⟨d - 1, by omega⟩
    have st := step d c
    have ha := cn_le a d r c (by omega) N
    have bs := base d (max c (Cd d c))
    have eC : Cd (d + 1) c = 1 + 4 * Cd d (max c (Cd d c)) := rfl
    refine ⟨by omega, iha d r c (by omega) N (by omega), ihb d ((x, expand a r) :: r) (max c (Cd d c)) (by omega) (fun y => ?_) (by omega)⟩
    have := N y
    unfold look
    split <;> omega
/-- at d what each name's field weighs -/
def WEnv (K : PySem.W.Frag) (H : Hp) (d : Addr) (r : Fm.Env) : Prop := ∃ kvs : List (Key × V), H d = some (.dK kvs) ∧ kvs.length ≤ r.length ∧ ∀ x, x ∈ r.map (·.1) → ∃ t, valV kvs (Sum.inr x : Key) = some (.ref t) ∧ SqT K H t [.int (cn (look r x) : Nat), .int (grE (look r x))]
theorem same_sqT {K : PySem.W.Frag} {H H' : Hp} {p : Addr} {xs : List V} (s : Same H H') (h : SqT K H p xs) : SqT K H' p xs := by
  rcases h with (h | ⟨o, h⟩) | h
  · exact .inl (.inl (s _ _ h))
  · exact .inl (.inr ⟨o, s _ _ h⟩)
  · exact .inr h
theorem WEnv.mono {K : PySem.W.Frag} {H H' : Hp} {d : Addr} {r : Fm.Env} (s : Same H H') : WEnv K H d r → WEnv K H' d r := fun ⟨kvs, h, l, q⟩ => ⟨kvs, s _ _ h, l, fun x hx => by
  obtain ⟨t, a1, a2⟩ := q x hx
  exact ⟨t, a1, same_sqT s a2⟩⟩
theorem WEnv.let_ {K : PySem.W.Frag} {H H' : Hp} {d p t : Addr} {r : Fm.Env} {kvs : List (Key × V)} {x : Str} {e : Ex} (E : WEnv K H d r) (hd : H d = some (.dK kvs)) (s : Same H H') (hp : H' p = some (.dK (putK kvs (Sum.inr x : Key) (.ref t))))
    (ht : SqT K H' t [.int (cn e : Nat), .int (grE e)]) : WEnv K H' p ((x, e) :: r) := by
  obtain ⟨k0, h0, l, q⟩ := E
  have ek : k0 = kvs := by rw [hd] at h0; cases h0; rfl
  subst ek
  refine ⟨_, hp, ?_, fun y hy => ?_⟩
  · have := length_putK k0 (Sum.inr x : Key) (V.ref t)
    simp only [List.length_cons]
    omega
  · by_cases e1 : y = x
    · subst e1
      refine ⟨t, by rw [valV_put, if_pos rfl], ?_⟩
      simpa [look] using ht
    · have hy' : y ∈ r.map (·.1) := by
        simp only [List.map_cons, List.mem_cons] at hy
        exact hy.resolve_left e1
      obtain ⟨t', a1, a2⟩ := q y hy'
      refine ⟨t', ?_, ?_⟩
      · rw [valV_put, if_neg (fun z => e1 (Sum.inr.inj z))]; exact a1
      · have e2 : look ((x, e) :: r) y = look r y := by simp [look, e1]
        rw [e2]
        exact same_sqT s a2
/-! ### steps in the heap -/
def stepK : Stp → List Key
  | .whole n => [.inr "whole", .inl n]
  | .px d => [.inr "x", .inl d]
  | .pz d => [.inr "z", .inl d]
  | .noise s l dx dz => [.inr "noise", .inl s, .inl l, .inl dx, .inl dz]
  | .two w i j => [.inr w.word, .inl (i : Int), .inl (j : Int)]
  | .over i n => [.inr "over", .inl (i : Int), .inl n]
  | .bel a b c d => [.inr "below", .inl (a : Int), .inl (b : Int), .inl (c : Int), .inl (d : Int)]
def stepV : Stp → List V
  | .whole n => [.str "whole", .int n]
  | .px d => [.str "x", .int d]
  | .pz d => [.str "z", .int d]
  | .noise s l dx dz => [.str "noise", .int s, .int l, .int dx, .int dz]
  | .two w i j => [.str w.word, .int (i : Int), .int (j : Int)]
  | .over i n => [.str "over", .int (i : Int), .int n]
  | .bel a b c d => [.str "below", .int (a : Int), .int (b : Int), .int (c : Int), .int (d : Int)]
theorem stepV_eq (s : Stp) : stepV s = (stepK s).map kV := by cases s <;> rfl
theorem word_inj {w v : W2} (h : w.word = v.word) : w = v := by
  cases w <;> cases v <;> first | rfl | (exact absurd h (by decide +kernel))
theorem w2_ne (w : W2) : w.word ≠ "over" ∧ w.word ≠ "whole" ∧ w.word ≠ "x" ∧ w.word ≠ "z" ∧ w.word ≠ "noise" ∧ w.word ≠ "below" := by
  cases w <;> exact ⟨by decide +kernel, by decide +kernel, by decide +kernel, by decide +kernel, by decide +kernel, by decide +kernel⟩
theorem stepK_inj {s t : Stp} (h : stepK s = stepK t) : s = t := by
  cases s <;> cases t <;> simp only [stepK, List.cons.injEq, Sum.inr.injEq, Sum.inl.injEq, and_true, Int.natCast_inj, reduceCtorEq, and_false] at h
  case whole.whole => rw [h.2]
  case px.px => rw [h.2]
  case pz.pz => rw [h.2]
  case noise.noise => rw [h.2.1, h.2.2.1, h.2.2.2.1, h.2.2.2.2]
  case two.two w i j v k l => rw [word_inj h.1, h.2.1, h.2.2]
  case two.over w i j k n => exact absurd h.1 (w2_ne w).1
  case over.two k n w i j => exact absurd h.1.symm (w2_ne w).1
  case over.over => rw [h.2.1, h.2.2]
  case bel.bel => rw [h.2.1, h.2.2.1, h.2.2.2.1, h.2.2.2.2]
  all_goals first | exact absurd h.1 (by decide +kernel) | exact h.elim
/-- the steps made so far, each with its number -/
def mkKV (st : List Stp) : List (List Key × V) := st.zipIdx.map fun q => (stepK q.1, V.int (q.2 : Int))
theorem mkKV_len (st : List Stp) : (mkKV st).length = st.length := by simp [mkKV]
theorem mkKV_snoc (st : List Stp) (s : Stp) : mkKV (st ++ [s]) = mkKV st ++ [(stepK s, V.int (st.length : Int))] := by
  simp [mkKV, List.zipIdx_append]
theorem valV_mk (s : Stp) : ∀ (st : List Stp) (n : Nat), valV (st.zipIdx n |>.map fun q => (stepK q.1, V.int (q.2 : Int))) (stepK s) = if s ∈ st then some (V.int ((n + st.idxOf s : Nat) : Int)) else none
  | [], _ => rfl
  | t :: r, n => by
    rw [List.zipIdx_cons, List.map_cons]
    by_cases e : t = s
    · subst e
      rw [valV_pos rfl, if_pos List.mem_cons_self, List.idxOf_cons_self, Nat.add_zero]
    · rw [valV_neg (fun h => e (stepK_inj h)), valV_mk s r (n + 1)]
      have e2 : (t == s) = false := by simpa using e
      by_cases m : s ∈ r
      · rw [if_pos m, if_pos (List.mem_cons_of_mem _ m), List.idxOf_cons, e2]
        have : n + 1 + List.idxOf s r = n + (List.idxOf s r + 1) := by omega
        rw [this]
        rfl
      · rw [if_neg m, if_neg]
        intro h
        rcases List.mem_cons.mp h with h | h
        · exact e h.symm
        · exact m h
theorem mk_get (st : List Stp) (s : Stp) : valV (mkKV st) (stepK s) = if s ∈ st then some (V.int ((st.idxOf s : Nat) : Int)) else none := by
  have := valV_mk s st 0
  simpa [mkKV] using this
theorem putK_new {κ : Type} [DecidableEq κ] {kvs : List (κ × V)} {k : κ} {v : V} (h : valV kvs k = none) : putK kvs k v = kvs ++ [(k, v)] := by
  unfold putK
  rw [valV_any, h]
  rfl
/-- what setdefault does with a step -/
theorem mk_put {st : List Stp} {s : Stp} {P : V → List (List Key × V) → Prop} (h : P (V.int ((put st s).2 : Int)) (mkKV (put st s).1)) :
    (∀ v, valV (mkKV st) (stepK s) = some v → P v (mkKV st)) ∧ (valV (mkKV st) (stepK s) = none → P (V.int (st.length : Int)) (putK (mkKV st) (stepK s) (V.int (st.length : Int)))) := by
  rw [mk_get]
  unfold put at h
  by_cases m : s ∈ st
  · rw [if_pos m] at h
    rw [if_pos m]
    exact ⟨fun v e => by rw [← Option.some.inj e]; exact h, fun e => nomatch e⟩
  · rw [if_neg m] at h
    rw [if_neg m]
    refine ⟨fun v e => (nomatch e), fun _ => ?_⟩
    rw [putK_new (by rw [mk_get, if_neg m]), ← mkKV_snoc]
    exact h
/-- a list of steps -/
abbrev StepsR (H : Hp) : List V → List Stp → Prop := Paired fun v s => ∃ p, v = V.ref p ∧ H p = some (.tup (stepV s))
theorem StepsR.mono {H H' : Hp} (t : Tup H H') : ∀ {vs : List V} {st : List Stp}, StepsR H vs st → StepsR H' vs st
  | _, _, .nil => .nil
  | _, _, .cons ⟨p, e, h⟩ r => .cons ⟨p, e, t _ _ h⟩ (StepsR.mono t r)
theorem steps_at {H : Hp} : ∀ {vs : List V} {st : List Stp} {i : Nat} {y : V}, StepsR H vs st → vs[i]? = some y → ∃ s, st[i]? = some s ∧ ∃ p, y = V.ref p ∧ H p = some (.tup (stepV s))
  | _, _, _, _, .nil, h => by simp at h
  | _, _, 0, y, .cons (b := b) a _, h => by
    simp at h
    subst h
    exact ⟨b, rfl, a⟩
  | _, _, i + 1, y, .cons _ t, h => by
    obtain ⟨s, h1, h2⟩ := steps_at (i := i) (y := y) t (by simpa using h)
    exact ⟨s, by simpa using h1, h2⟩
theorem StepsR.append {H : Hp} : ∀ {vs ws : List V} {st tt : List Stp}, StepsR H vs st → StepsR H ws tt → StepsR H (vs ++ ws) (st ++ tt)
  | _, _, _, _, .nil, h => h
  | _, _, _, _, .cons a t, h => .cons a (StepsR.append t h)
theorem steps_of_keys {H : Hp} : ∀ {st : List Stp} {n : Nat} {bs : List Addr}, IsKeys H (st.zipIdx n |>.map fun q => (stepK q.1, V.int (q.2 : Int))) bs → StepsR H (bs.map V.ref) st
  | [], _, bs, h => by
    cases bs with
    | nil => exact .nil
    | cons b r => cases h
  | s :: st, n, bs, h => by
    rw [List.zipIdx_cons, List.map_cons] at h
    cases h with
    | @cons a b l m h t =>
      refine .cons ⟨b, rfl, ?_⟩ (steps_of_keys (n := n + 1) t)
      rw [stepV_eq]
      exact h
end Pf


/-! Rules over the hand layer: {**d, k: v}; d.setdefault of a dict whose keys are tuples. -/
namespace Dz
open PySem PySem.Spec PyProof.Rows L2
section
variable {X : Cx} {pins : List (Addr × Obj)} {σ : L2.St} {H : Hp} {s : Shared} {a b : Addr} {u r : Value} {d : V} {A : Around} {E : Value → Shared → Prop}
theorem d_setdT {kvs : List (List Key × V)} {k : List Key} {Q : Value → Shared → Prop} (hu : A.units + 1 < cLine) (I : Inv X pins σ H s) (e : H a = some (.dT kvs)) (eb : H b = some (.tup (k.map kV))) (rd : RelV d r) (hl : kvs.length < sizeLine)
    (h1 : ∀ v, valV kvs k = some v → ∀ (w' : Value) (s' : Shared), Inv X pins σ H s' → RelV v w' → Q w' s') (h2 : valV kvs k = none → ∀ (w' : Value) (s' : Shared), Inv X pins σ (upd H a (.dT (putK kvs k d))) s' → RelV d w' → Q w' s') :
    wpAny (model X.prog X.w) A (call (.builtin "dict.setdefault") [.ref a, .ref b, r]) Q E s := by
  obtain ⟨z, hd, xs, rel, dd⟩ := dt_of I.hok e
  have hz : xs.length ≤ sizeLine := by
    rw [← Paired.length rel]
    exact z
  refine call_meetsIn PySem.F.slot_dict_setdefault dd.typeIs PySem.F.entry_dict_setdefault (PySem.F.args_dict_setdefault_3 _ _ _) (meetsH_dict_setdefault (tupleKind (mixKind X.prog X.w)) a b hd r) ⟨tupleKind_room_in1 hu, k, xs, key_of I.hok eb, dd, hz, fun p hp => ?_, fun hn h' dd' hs => ?_⟩
  · have q := rel.val k
    rw [hp] at q
    cases q0 : valV kvs k with
    | none =>
      rw [q0] at q
      exact (show False from q).elim
    | some v0 =>
      rw [q0] at q
      exact h1 v0 q0 _ _ (I.tok _) q
  · have q := rel.val k
    rw [hn] at q
    cases q0 : valV kvs k with
    | some v0 =>
      rw [q0] at q
      exact (show False from q).elim
    | none =>
      have hl2 : (putK kvs k d).length ≤ sizeLine := by
        have := length_putK kvs k d
        omega
      obtain ⟨q, es, ep, hq, e2, e3, e4, _, e5⟩ := dd'
      refine h2 q0 _ _ (d_write I (by rw [e]; exact True.intro) hs ⟨q, hq⟩ ⟨hl2, hd, _, (rel.put k eb rd).keeps fun c ys ec => ?_, q, es, ep, hq, e2, e3, e4, e5⟩) rd
      rw [upd_ne (ne_of ec e (fun z => nomatch z))]
      exact ec
end
/-- d.setdefault(y, z), the keys tuples -/
def tDSetdT (td ty tx : TE) : TE := fun σ H Q => td σ H fun x H1 => ∃ a, x = .ref a ∧ IsD H1 a ∧ ty σ H1 fun y H2 => tx σ H2 fun z H3 => ∃ (kvs : List (List Key × V)) (k : List Key) (b : Addr), H3 a = some (.dT kvs) ∧ y = .ref b ∧ H3 b = some (.tup (k.map kV)) ∧ kvs.length < sizeLine ∧
  (∀ v, valV kvs k = some v → Q v H3) ∧ (valV kvs k = none → Q z (upd H3 a (.dT (putK kvs k z))))
section
variable {X : Cx} {o e f : Expr} {td ty tx : TE} {apos cpos : Pos}
theorem pe_dsetdT (hu : X.A.units + 1 < cLine) (ho : PE X o td) (he : PE X e ty) (hf : PE X f tx) (m : M2 X o "setdefault" apos e f cpos) : PE X (.Call (.Attribute o "setdefault" apos) [e, f] [] cpos) (tDSetdT td ty tx) := by
  refine ⟨fun pins s σ H Q I h => ?_⟩
  refine wpAny_Call_method m.base m.few m.line PySem.F.plainAttrs_dict PySem.F.slot_dict_setdefault PySem.F.type_dict_setdefault (thn (ho.run pins s σ H _ I h) fun u s1 ⟨x, H1, I1, rx, a, ex, d, q1⟩ => ?_)
  subst ex
  obtain rfl : u = Value.ref a := rx
  obtain ⟨t1, t2, _⟩ := isD_at I1 d
  refine ⟨t1, t2, ?_⟩
  rw [m.trees]
  refine Calls.callWith_builtin rfl (Calls.evalArgs_plain (Calls.spliced_cons (thn (he.run pins s1 σ H1 _ I1 q1) fun iv s2 ⟨y, H2, I2, ry, q2⟩ =>
    Calls.spliced_cons (thn (hf.run pins s2 σ H2 _ I2 q2) fun fv s3 ⟨z, H3, I3, rz, kvs, k, b, ea, ey, eb, hl, q3, q4⟩ => Calls.spliced_nil ?_))))
  subst ey
  obtain rfl : iv = Value.ref b := ry
  exact d_setdT hu I3 ea eb rz hl (fun v hv w' s4 I4 rw' => ⟨v, _, I4, rw', q3 v hv⟩) fun hn w' s4 I4 rw' => ⟨z, _, I4, rw', q4 hn⟩
end
/-- {**m, k: v}, the keys ints and texts -/
def tDispS (tm tk tv : TE) : TE := fun σ H Q => ∀ p, H p = none → tm σ (upd H p (.dK [])) fun x H1 => ∃ a kvs, x = .ref a ∧ a ≠ p ∧ H1 p = some (.dK []) ∧ H1 a = some (.dK kvs) ∧ kvs.length < sizeLine ∧
  ∀ p2, upd H1 p (.dK kvs) p2 = none → tk σ (upd (upd H1 p (.dK kvs)) p2 (.dK [])) fun y H2 => tv σ H2 fun v H3 => ∃ key : Key, y = kV key ∧ H3 p = some (.dK kvs) ∧ H3 p2 = some (.dK []) ∧ Q (.ref p) (upd (upd H3 p2 (.dK [(key, v)])) p (.dK (putK kvs key v)))
section
variable {X : Cx} {m k v : Expr} {tm tk tv : TE} {pos : Pos}
theorem pe_dispS (hm : PE X m tm) (hk : PE X k tk) (hv : PE X v tv) : PE X (.Dict [none, some k] [m, v] pos) (tDispS tm tk tv) := by
  refine ⟨fun pins s σ H Q I q => ?_⟩
  rw [arm_eval_Dict]
  refine wpAny_bind (wpAny_standAt ?_)
  have hn := I.hok.fresh (Nat.le_refl s.heap.objs.size)
  have I1 := I.laid (a := s.heap.objs.size) (o := .dK []) (h' := s.heap.push { cls := .type "dict", data := .dict #[] }) (t' := s.toks) (fun _ _ q => Heap.get?_push_of_some _ q) (Nat.le_refl _) (dk_empty s.heap I.big)
  show wpAny _ _ (dictDisplay [(none, do let x ← eval m X.env; standAt pos; pure x), (some (eval k X.env), do let x ← eval v X.env; standAt pos; pure x)]) _ _ s
  refine Dm.wpAny_displayStar (knd := mixKind X.prog X.w) (wpAny_bind (thn (hm.run pins _ σ _ _ I1 (q _ hn)) fun mv s1 ⟨x, H1, I2, rx, a, kvs, ex, hap, hp, ha, hl, q1⟩ => wpAny_bind (wpAny_standAt (wpAny_pure ?_))))
  subst ex
  obtain rfl : mv = Value.ref a := rx
  obtain ⟨z, hd, vs, rel, dd⟩ := dk_of I2.hok ha
  obtain ⟨z0, hd0, vs0, r0, dd0⟩ := dk_of I2.hok hp
  cases r0
  have hlv : vs.length < sizeLine := by rw [← rel.length]; exact hl
  refine ⟨a, vs, rfl, hap.symm, hd, dd0, dd, hlv, fun h1 dd1 hs1 => ?_⟩
  have he1 : ∃ q, h1.get? s.heap.objs.size = some q := let ⟨q, _, _, hq, _⟩ := dd1; ⟨q, hq⟩
  have I3 := d_write (t' := s1.toks) I2 (by rw [hp]; exact True.intro) hs1 he1 (dk_new z hd0 rel dd1)
  have hn2 := I3.hok.fresh (Nat.le_refl _)
  have I4 := I3.laid (a := h1.objs.size) (o := .dK []) (h' := h1.push { cls := .type "dict", data := .dict #[] }) (t' := s1.toks) (fun _ _ q => Heap.get?_push_of_some _ q) (Nat.le_refl _) (dk_empty h1 I3.big)
  refine evalPairs_cons (thn (hk.run pins _ σ _ _ I4 (q1 _ hn2)) fun kv s2 ⟨y, H2, I5, ry, q2⟩ => wpAny_bind (thn (hv.run pins s2 σ H2 _ I5 q2) fun vv s3 ⟨x2, H3, I6, rv, key, ey, hp3, hp4, q3⟩ => wpAny_bind (wpAny_standAt (wpAny_pure (evalPairs_nil ?_)))))
  subst ey
  obtain ⟨z5, hd5, vs5, r5, dd5⟩ := dk_of I6.hok hp3
  obtain ⟨z6, hd6, vs6, r6, dd6⟩ := dk_of I6.hok hp4
  cases r6
  have ne12 : h1.objs.size ≠ s.heap.objs.size := fun e => by
    rw [e, upd_same] at hn2
    cases hn2
  have hz5 : vs5.length < sizeLine := by rw [← r5.length]; exact hl
  refine ⟨key, vv, vs5, hz5, ⟨kV_is ry, rfl, True.intro⟩, ne12, hd6, dd6, dd5, fun h2 dd7 hs2 h3 dd8 dd9 hs3 => ?_⟩
  have he2 : ∃ q, h2.get? h1.objs.size = some q := let ⟨q, _, _, hq, _⟩ := dd7; ⟨q, hq⟩
  have r7 : KV [(key, x2)] [(key, vv)] := .cons ⟨rfl, rv⟩ .nil
  have I7 := d_write (t' := s3.toks + 1) I6 (by rw [hp4]; exact True.intro) hs2 he2 (dk_new (by rw [sizeLine_eq]; simp only [List.length_cons, List.length_nil]; omega) hd6 r7 dd7)
  have he3 : ∃ q, h3.get? s.heap.objs.size = some q := let ⟨q, _, _, hq, _⟩ := dd8; ⟨q, hq⟩
  have hl2 : (putK kvs key x2).length ≤ sizeLine := by
    have := length_putK kvs key x2
    omega
  have I8 := d_write (t' := s3.toks + 1) I7 (by rw [upd_ne ne12.symm, hp3]; exact True.intro) hs3 he3 (dk_new hl2 hd5 (r5.put key rv) dd8)
  exact ⟨.ref s.heap.objs.size, _, I8, rfl, q3⟩
end
end Dz

/-! min, max of a tuple of ints. -/
namespace Dz
open PySem PySem.Spec PyProof.Rows L2
section
variable {prog : Program} {w : World} {A : Around} {E : Value → Shared → Prop} {s : Shared} {l : Addr} {xs : Array (Int × Tok)}
theorem old_keptT {h' : Heap} {o : Obj} (hk : ∀ b u, b ∉ [s.heap.objs.size] → (s.heap.push o).get? b = some u → h'.get? b = some u) :
    ∀ b u, s.heap.get? b = some u → h'.get? b = some u := fun b u e => by
  refine hk b u (fun hm => ?_) (Heap.get?_push_of_some _ e)
  rcases List.mem_cons.mp hm with e1 | hm
  · exact absurd (e1 ▸ Heap.lt_size e) (Nat.lt_irrefl _)
  · cases hm
theorem max_intTuple {Q : Value → Shared → Prop} (hh : A.handled = none) (hl : s.heap.IsTuple l (intItems xs)) (hne : 0 < xs.size)
    (h : ∀ v h' tk, (intItems xs)[argBest (fun i j => decide (numAt xs i > numAt xs j)) (xs.size - 1)]? = some v → (∀ b o, s.heap.get? b = some o → h'.get? b = some o) → Q v { s with heap := h', toks := tk }) :
    wpAny (model prog w) A (call (.builtin "max") [.ref l]) Q E s := by
  have hlt : l < s.heap.objs.size := by obtain ⟨_, e, _⟩ := hl; exact Heap.lt_size e
  refine call_max_walk (wpAny_pyIter_tuple hl ?_)
  refine ⟨_, [_, l], [_], _, _, _, _, rfl, Walks.tuple (A := A.in1) hh _ l (Nat.ne_of_lt hlt) (intItems xs), ⟨⟨_, Heap.get?_push_size _ rfl, rfl, rfl⟩, hl.push _⟩, fun c hc => ?_, by simpa [intItems] using hne, CmpOf.ints_gt (numAt xs) (fun _ _ => intItems_at), fun v h' tk hP hk => ?_⟩
  · show c < (s.heap.push _).objs.size
    rw [Heap.size_push]
    rcases List.mem_cons.mp hc with rfl | hc
    · exact Nat.lt_succ_self _
    · rcases List.mem_cons.mp hc with rfl | hc
      · exact Nat.lt_succ_of_lt hlt
      · cases hc
  · exact h v h' tk (by simpa [intItems] using hP) (old_keptT hk)
theorem min_intTuple {Q : Value → Shared → Prop} (hh : A.handled = none) (hl : s.heap.IsTuple l (intItems xs)) (hne : 0 < xs.size)
    (h : ∀ v h' tk, (intItems xs)[argBest (fun i j => decide (numAt xs i < numAt xs j)) (xs.size - 1)]? = some v → (∀ b o, s.heap.get? b = some o → h'.get? b = some o) → Q v { s with heap := h', toks := tk }) :
    wpAny (model prog w) A (call (.builtin "min") [.ref l]) Q E s := by
  have hlt : l < s.heap.objs.size := by obtain ⟨_, e, _⟩ := hl; exact Heap.lt_size e
  refine call_min_walk (wpAny_pyIter_tuple hl ?_)
  refine ⟨_, [_, l], [_], _, _, _, _, rfl, Walks.tuple (A := A.in1) hh _ l (Nat.ne_of_lt hlt) (intItems xs), ⟨⟨_, Heap.get?_push_size _ rfl, rfl, rfl⟩, hl.push _⟩, fun c hc => ?_, by simpa [intItems] using hne, CmpOf.ints_lt (numAt xs) (fun _ _ => intItems_at), fun v h' tk hP hk => ?_⟩
  · show c < (s.heap.push _).objs.size
    rw [Heap.size_push]
    rcases List.mem_cons.mp hc with rfl | hc
    · exact Nat.lt_succ_self _
    · rcases List.mem_cons.mp hc with rfl | hc
      · exact Nat.lt_succ_of_lt hlt
      · cases hc
  · exact h v h' tk (by simpa [intItems] using hP) (old_keptT hk)
end
section
variable {X : Cx}
def rMaxT (K : PySem.W.Frag) : List V → Hp → VK → Prop := fun vs H Q => ∃ (a : Addr) (ns : List Int), vs = [V.ref a] ∧ SqT K H a (ns.map V.int) ∧ 0 < ns.length ∧ ∀ m, m ∈ ns → (∀ y, y ∈ ns → y ≤ m) → Q (.int m) H
def rMinT (K : PySem.W.Frag) : List V → Hp → VK → Prop := fun vs H Q => ∃ (a : Addr) (ns : List Int), vs = [V.ref a] ∧ SqT K H a (ns.map V.int) ∧ 0 < ns.length ∧ ∀ m, m ∈ ns → (∀ y, y ∈ ns → m ≤ y) → Q (.int m) H
theorem cr_maxT (hc : X.calm = true) : CallR X (.builtin "max") (rMaxT X.K) := by
  intro pins s σ H vs us Q I r h
  obtain ⟨a, ns, rfl, hs, hne, q⟩ := h
  obtain ⟨its, rv, hl, _⟩ := I.tuple hs
  rw [Vals.ref1 r]
  obtain ⟨xs, e⟩ := rv.ints.allInts.items
  have hn : numsOf (intItems xs).toList = ns := by rw [← e]; exact rv.ints.numsOf
  rw [nums_intItems] at hn
  subst hn
  rw [e] at hl
  have hsz : 0 < xs.size := by simpa using hne
  refine max_intTuple (I.ok.hd hc) hl hsz fun v h' tk hv hk => ?_
  obtain ⟨t, rfl⟩ := intItems_at hv
  obtain ⟨h1, h2⟩ := argBest_gt (numAt xs) (xs.size - 1)
  refine ⟨.int _, H, I.kept hk, ⟨_, rfl⟩, q _ ?_ fun a ha => ?_⟩
  · rw [numAt_eq]; exact PySem.getD_mem (by rw [List.length_map, Array.length_toList]; omega)
  · obtain ⟨j, hj, rfl⟩ := mem_getD ha
    rw [List.length_map, Array.length_toList] at hj
    rw [← numAt_eq]; exact h2 j (by omega)
theorem cr_minT (hc : X.calm = true) : CallR X (.builtin "min") (rMinT X.K) := by
  intro pins s σ H vs us Q I r h
  obtain ⟨a, ns, rfl, hs, hne, q⟩ := h
  obtain ⟨its, rv, hl, _⟩ := I.tuple hs
  rw [Vals.ref1 r]
  obtain ⟨xs, e⟩ := rv.ints.allInts.items
  have hn : numsOf (intItems xs).toList = ns := by rw [← e]; exact rv.ints.numsOf
  rw [nums_intItems] at hn
  subst hn
  rw [e] at hl
  have hsz : 0 < xs.size := by simpa using hne
  refine min_intTuple (I.ok.hd hc) hl hsz fun v h' tk hv hk => ?_
  obtain ⟨t, rfl⟩ := intItems_at hv
  obtain ⟨h1, h2⟩ := argBest_lt (numAt xs) (xs.size - 1)
  refine ⟨.int _, H, I.kept hk, ⟨_, rfl⟩, q _ ?_ fun a ha => ?_⟩
  · rw [numAt_eq]; exact PySem.getD_mem (by rw [List.length_map, Array.length_toList]; omega)
  · obtain ⟨j, hj, rfl⟩ := mem_getD ha
    rw [List.length_map, Array.length_toList] at hj
    rw [← numAt_eq]; exact h2 j (by omega)
end
end Dz

/-! Nests of lets: how deep their expansions are, no products, names called otherwise. -/
namespace Fm
open PySem
/-- an expansion is no deeper than a walk along the names -/
theorem dep_emb : ∀ (F : Fd) (xs : List Str) (r : Env) (δ : List (Str × Nat)), Bnd F xs → (∀ x ∈ xs, dep (emb (look r x)) + 1 ≤ (δ.lookup x).getD 0) → dep (emb (expand F r)) + 1 ≤ udep F δ
  | .whole _, _, _, _, _, _ => by simp only [expand, emb, dep, udep]; omega
  | .px, _, _, _, _, _ => by simp only [expand, emb, dep, udep]; omega
  | .pz, _, _, _, _, _ => by simp only [expand, emb, dep, udep]; omega
  | .noise _ _, _, _, _, _, _ => by simp only [expand, emb, dep, udep]; omega
  | .two _ a b, xs, r, δ, h, e => by
    have h1 := dep_emb a xs r δ h.1 e
    have h2 := dep_emb b xs r δ h.2 e
    simp only [expand, emb, dep, udep]; omega
  | .over a _, xs, r, δ, h, e => by
    have h1 := dep_emb a xs r δ h e
    simp only [expand, emb, dep, udep]; omega
  | .bel a b c d, xs, r, δ, h, e => by
    have h1 := dep_emb a xs r δ h.1 e
    have h2 := dep_emb b xs r δ h.2.1 e
    have h3 := dep_emb c xs r δ h.2.2.1 e
    have h4 := dep_emb d xs r δ h.2.2.2 e
    simp only [expand, emb, dep, udep]; omega
  | .shift _ _ a, xs, r, δ, h, e => by
    have h1 := dep_emb a xs r δ h e
    simp only [expand, emb, dep, udep]; omega
  | .lt x a b, xs, r, δ, h, e => by
    have h1 := dep_emb a xs r δ h.1 e
    have h2 := dep_emb b (x :: xs) ((x, expand a r) :: r) ((x, udep a δ) :: δ) h.2 fun y hy => by
      by_cases c : y = x
      · subst c
        simp [look, List.lookup]; omega
      · have hb : (y == x) = false := by simpa using c
        simp only [look, if_neg c, List.lookup, hb]
        exact e y (by rcases List.mem_cons.mp hy with h | h; exact absurd h c; exact h)
    simp only [expand, udep]; omega
  | .nm x, xs, r, δ, h, e => by
    have h1 := e x h
    simp only [expand, udep]; omega
theorem sh_emb : ∀ e : Ex, sh e ≤ dep (emb e) ∧ dpE e ≤ dep (emb e)
  | .whole _ => by simp only [sh, dpE, emb, dep]; omega
  | .px => by simp only [sh, dpE, emb, dep]; omega
  | .pz => by simp only [sh, dpE, emb, dep]; omega
  | .noise _ _ => by simp only [sh, dpE, emb, dep]; omega
  | .two _ a b => by have := sh_emb a; have := sh_emb b; simp only [sh, dpE, emb, dep]; omega
  | .over a _ => by have := sh_emb a; simp only [sh, dpE, emb, dep]; omega
  | .bel a b c d => by have := sh_emb a; have := sh_emb b; have := sh_emb c; have := sh_emb d; simp only [sh, dpE, emb, dep]; omega
  | .shift _ _ a => by have := sh_emb a; simp only [sh, dpE, emb, dep]; omega
theorem udep_emb : ∀ (e : Ex) (δ : List (Str × Nat)), udep (emb e) δ = dep (emb e) + 1
  | .whole _, _ => rfl
  | .px, _ => rfl
  | .pz, _ => rfl
  | .noise _ _, _ => rfl
  | .two _ a b, δ => by have := udep_emb a δ; have := udep_emb b δ; simp only [emb, dep, udep]; omega
  | .over a _, δ => by have := udep_emb a δ; simp only [emb, dep, udep]; omega
  | .bel a b c d, δ => by have := udep_emb a δ; have := udep_emb b δ; have := udep_emb c δ; have := udep_emb d δ; simp only [emb, dep, udep]; omega
  | .shift _ _ a, δ => by have := udep_emb a δ; simp only [emb, dep, udep]; omega
theorem cok_emb : ∀ (e : Ex) (r : Env), Pf.Cok (emb e) r
  | .whole _, _ => True.intro
  | .px, _ => True.intro
  | .pz, _ => True.intro
  | .noise _ _, _ => True.intro
  | .two _ a b, r => ⟨cok_emb a r, cok_emb b r⟩
  | .over a _, r => cok_emb a r
  | .bel a b c d, r => ⟨cok_emb a r, cok_emb b r, cok_emb c r, cok_emb d r⟩
  | .shift _ _ a, r => cok_emb a r
/-- without products -/
def noTF : Fd → Prop
  | .two w a b => w ≠ .times ∧ noTF a ∧ noTF b
  | .over a _ => noTF a
  | .bel a b c d => noTF a ∧ noTF b ∧ noTF c ∧ noTF d
  | .shift _ _ a => noTF a
  | .lt _ a b => noTF a ∧ noTF b
  | _ => True
theorem noT_expand : ∀ (F : Fd) (r : Env), noTF F → (∀ x, noT (look r x)) → noT (expand F r)
  | .whole _, _, _, _ => True.intro
  | .px, _, _, _ => True.intro
  | .pz, _, _, _ => True.intro
  | .noise _ _, _, _, _ => True.intro
  | .two _ a b, r, h, e => ⟨h.1, noT_expand a r h.2.1 e, noT_expand b r h.2.2 e⟩
  | .over a _, r, h, e => noT_expand a r h e
  | .bel a b c d, r, h, e => ⟨noT_expand a r h.1 e, noT_expand b r h.2.1 e, noT_expand c r h.2.2.1 e, noT_expand d r h.2.2.2 e⟩
  | .shift _ _ a, r, h, e => noT_expand a r h e
  | .lt x a b, r, h, e => noT_expand b _ h.2 fun y => by
    unfold look
    split
    · exact noT_expand a r h.1 e
    · exact e y
  | .nm x, r, _, e => e x
/-- all ranges of a field within its own bits -/
theorem allE_bits {N : NR} (hN : NOk N) : ∀ (e : Ex) (x0 z0 x1 z1 : Int) (k : Nat), OkE e → 34 ≤ k → B2 (x0, x1) k → B2 (z0, z1) k → ∀ p ∈ allE N e x0 z0 x1 z1, B2 p (vb e k)
  | .whole n, x0, z0, x1, z1, k, ok, hk, hx, hz => fun p hp => by rw [List.mem_singleton.mp hp]; exact range_bits hN (.whole n) x0 z0 x1 z1 k ok hk hx hz
  | .px, x0, z0, x1, z1, k, ok, hk, hx, hz => fun p hp => by rw [List.mem_singleton.mp hp]; exact range_bits hN .px x0 z0 x1 z1 k ok hk hx hz
  | .pz, x0, z0, x1, z1, k, ok, hk, hx, hz => fun p hp => by rw [List.mem_singleton.mp hp]; exact range_bits hN .pz x0 z0 x1 z1 k ok hk hx hz
  | .noise s l, x0, z0, x1, z1, k, ok, hk, hx, hz => fun p hp => by rw [List.mem_singleton.mp hp]; exact range_bits hN (.noise s l) x0 z0 x1 z1 k ok hk hx hz
  | .two w a b, x0, z0, x1, z1, k, ok, hk, hx, hz => fun p hp => by
    have hv := vb_two w a b k
    simp only [allE, List.mem_cons, List.mem_append] at hp
    rcases hp with rfl | hp | hp
    · exact range_bits hN (.two w a b) x0 z0 x1 z1 k ok hk hx hz
    · exact (allE_bits hN a x0 z0 x1 z1 k ok.1 hk hx hz p hp).mono hv.1
    · exact (allE_bits hN b x0 z0 x1 z1 k ok.2 hk hx hz p hp).mono hv.2
  | .over a n, x0, z0, x1, z1, k, ok, hk, hx, hz => fun p hp => by
    simp only [allE, List.mem_cons] at hp
    rcases hp with rfl | hp
    · exact range_bits hN (.over a n) x0 z0 x1 z1 k ok hk hx hz
    · exact allE_bits hN a x0 z0 x1 z1 k ok.1 hk hx hz p hp
  | .bel a b c d, x0, z0, x1, z1, k, ok, hk, hx, hz => fun p hp => by
    simp only [allE, List.mem_cons, List.mem_append] at hp
    rcases hp with rfl | hp | hp | hp | hp
    · exact range_bits hN (.bel a b c d) x0 z0 x1 z1 k ok hk hx hz
    · exact (allE_bits hN a x0 z0 x1 z1 k ok.1 hk hx hz p hp).mono (by simp only [vb]; omega)
    · exact (allE_bits hN b x0 z0 x1 z1 k ok.2.1 hk hx hz p hp).mono (by simp only [vb]; omega)
    · exact (allE_bits hN c x0 z0 x1 z1 k ok.2.2.1 hk hx hz p hp).mono (by simp only [vb]; omega)
    · exact (allE_bits hN d x0 z0 x1 z1 k ok.2.2.2 hk hx hz p hp).mono (by simp only [vb]; omega)
  | .shift dx dz a, x0, z0, x1, z1, k, ok, hk, hx, hz => fun p hp => by
    simp only [allE, List.mem_cons] at hp
    rcases hp with rfl | hp
    · exact range_bits hN (.shift dx dz a) x0 z0 x1 z1 k ok hk hx hz
    · exact allE_bits hN a _ _ _ _ (k + 1) ok.2.2 (by omega) ⟨shift_bits ok.1 hk hx.1, shift_bits ok.1 hk hx.2⟩ ⟨shift_bits ok.2.1 hk hz.1, shift_bits ok.2.1 hk hz.2⟩ p hp
/-- lets within one another are no more than the field is deep -/
theorem lets_dep : ∀ F : Fd, lets F ≤ dep F
  | .whole _ => Nat.le_refl 0
  | .px => Nat.le_refl 0
  | .pz => Nat.le_refl 0
  | .noise _ _ => Nat.le_refl 0
  | .nm _ => Nat.le_refl 0
  | .two _ a b => by have := lets_dep a; have := lets_dep b; simp only [lets, dep]; omega
  | .over a _ => by have := lets_dep a; simp only [lets, dep]; omega
  | .bel a b c d => by have := lets_dep a; have := lets_dep b; have := lets_dep c; have := lets_dep d; simp only [lets, dep]; omega
  | .shift _ _ a => by have := lets_dep a; simp only [lets, dep]; omega
  | .lt _ a b => by have := lets_dep a; have := lets_dep b; simp only [lets, dep]; omega
/-- what is called otherwise is as deep, within its bounds, bound -/
theorem call_ok (fresh : Nat → Str) (M : Nat) (nok : ∀ j, j < M → NameOk (fresh j)) : ∀ (F : Fd) (xs ys : List Str) (ν : List (Str × Str)) (k : Nat), k + lets F ≤ M → Bnd F xs → OkF F →
    (∀ x ∈ xs, ∃ j, j < k ∧ nu ν x = fresh j) → (∀ x ∈ xs, nu ν x ∈ ys) → OkF (call fresh F ν k) ∧ Bnd (call fresh F ν k) ys ∧ dep (call fresh F ν k) = dep F ∧ (noTF F → noTF (call fresh F ν k)) := by
  intro F
  induction F with
  | whole n => exact fun _ _ _ _ _ _ h _ _ => ⟨h, True.intro, rfl, fun _ => True.intro⟩
  | px => exact fun _ _ _ _ _ _ h _ _ => ⟨h, True.intro, rfl, fun _ => True.intro⟩
  | pz => exact fun _ _ _ _ _ _ h _ _ => ⟨h, True.intro, rfl, fun _ => True.intro⟩
  | noise s l => exact fun _ _ _ _ _ _ h _ _ => ⟨h, True.intro, rfl, fun _ => True.intro⟩
  | two w a b iha ihb =>
    intro xs ys ν k hk h o f g
    simp only [lets] at hk
    obtain ⟨a1, a2, a3, a4⟩ := iha xs ys ν k (by omega) h.1 o.1 f g
    obtain ⟨b1, b2, b3, b4⟩ := ihb xs ys ν k (by omega) h.2 o.2 f g
    exact ⟨⟨a1, b1⟩, ⟨a2, b2⟩, by simp only [call, dep, a3, b3], fun n => ⟨n.1, a4 n.2.1, b4 n.2.2⟩⟩
  | over a n iha =>
    intro xs ys ν k hk h o f g
    simp only [lets] at hk
    obtain ⟨a1, a2, a3, a4⟩ := iha xs ys ν k (by omega) h o.1 f g
    exact ⟨⟨a1, o.2⟩, a2, by simp only [call, dep, a3], fun n => a4 n⟩
  | bel a b c d iha ihb ihc ihd =>
    intro xs ys ν k hk h o f g
    simp only [lets] at hk
    obtain ⟨a1, a2, a3, a4⟩ := iha xs ys ν k (by omega) h.1 o.1 f g
    obtain ⟨b1, b2, b3, b4⟩ := ihb xs ys ν k (by omega) h.2.1 o.2.1 f g
    obtain ⟨c1, c2, c3, c4⟩ := ihc xs ys ν k (by omega) h.2.2.1 o.2.2.1 f g
    obtain ⟨d1, d2, d3, d4⟩ := ihd xs ys ν k (by omega) h.2.2.2 o.2.2.2 f g
    exact ⟨⟨a1, b1, c1, d1⟩, ⟨a2, b2, c2, d2⟩, by simp only [call, dep, a3, b3, c3, d3], fun n => ⟨a4 n.1, b4 n.2.1, c4 n.2.2.1, d4 n.2.2.2⟩⟩
  | shift dx dz a iha =>
    intro xs ys ν k hk h o f g
    simp only [lets] at hk
    obtain ⟨a1, a2, a3, a4⟩ := iha xs ys ν k (by omega) h o.2.2 f g
    exact ⟨⟨o.1, o.2.1, a1⟩, a2, by simp only [call, dep, a3], fun n => a4 n⟩
  | lt x a b iha ihb =>
    intro xs ys ν k hk h o f g
    simp only [lets] at hk
    obtain ⟨a1, a2, a3, a4⟩ := iha xs ys ν k (by omega) h.1 o.2.1 f g
    obtain ⟨b1, b2, b3, b4⟩ := ihb (x :: xs) (fresh k :: ys) ((x, fresh k) :: ν) (k + 1) (by omega) h.2 o.2.2 (fun y hy => by
      by_cases c : y = x
      · exact ⟨k, by omega, by simp only [nu, c, if_true]⟩
      · have hy' : y ∈ xs := by rcases List.mem_cons.mp hy with h | h; exact absurd h c; exact h
        obtain ⟨j, hj, ej⟩ := f y hy'
        exact ⟨j, by omega, by simp only [nu, if_neg c]; exact ej⟩) (fun y hy => by
      by_cases c : y = x
      · simp only [nu, c, if_true]; exact List.mem_cons_self
      · have hy' : y ∈ xs := by rcases List.mem_cons.mp hy with h | h; exact absurd h c; exact h
        simp only [nu, if_neg c]
        exact List.mem_cons_of_mem _ (g y hy'))
    exact ⟨⟨nok k (by omega), a1, b1⟩, ⟨a2, b2⟩, by simp only [call, dep, a3, b3], fun n => ⟨a4 n.1, b4 n.2⟩⟩
  | nm x =>
    intro xs ys ν k hk h o f g
    obtain ⟨j, hj, e⟩ := f x h
    exact ⟨by show NameOk (nu ν x); rw [e]; exact nok j (by omega), g x h, rfl, fun _ => True.intro⟩
end Fm

/-! Noise as the program reckons it; the values of steps. -/
namespace Pf
open PySem L2 Lw Fm Fr Sm
theorem cmul_mod {a m b : Int} (h : 0 < m) (h2 : m ≤ 18446744073709551616) : L2.CMul (a % m) b := Or.inl ⟨by have := Int.emod_nonneg a (show m ≠ 0 by omega); omega, by have := Int.emod_lt_of_pos a h; omega⟩
theorem cmul_nn {a b m : Int} (h0 : 0 ≤ a) (h1 : a < m) (h2 : m ≤ 18446744073709551616) : L2.CMul a b := Or.inl ⟨by omega, by omega⟩
theorem kb_0 (a i : Int) : (a * a + 69621 * i + 1) % 2147483629 = kB a i := rfl
theorem kb_1 (a i : Int) : (a * a + 69621 * i + 1 + 69621) % 2147483629 = kB a (i + 1) := by
  unfold kB
  congr 1
  omega
theorem kc_0 (b j : Int) : (b * b + (16807 * j + 1)) % 2147483587 = kC b j := by
  unfold kC
  congr 1
  omega
theorem kc_1 (b j : Int) : (b * b + (16807 * j + 1) + 16807) % 2147483587 = kC b (j + 1) := by
  unfold kC
  congr 1
  omega
/-- four knots, as they come of one another -/
def fourRaw (g s i j : Int) : List V :=
  let a := (g + 48271 * s + 7) % 2147483647
  let b := (a * a + 69621 * i + 1) % 2147483629
  let c := (a * a + 69621 * i + 1 + 69621) % 2147483629
  let t := 16807 * j + 1
  let k1 := (b * b + t) % 2147483587
  let k3 := (b * b + t + 16807) % 2147483587
  let k2 := (c * c + t) % 2147483587
  let k4 := (c * c + t + 16807) % 2147483587
  [.int ((k1 * k1 + k1) % 2147483579 % 65536), .int ((k2 * k2 + k2) % 2147483579 % 65536), .int ((k3 * k3 + k3) % 2147483579 % 65536), .int ((k4 * k4 + k4) % 2147483579 % 65536)]
abbrev fourV (g s i j : Int) : List V := [.int (knotL g s i j), .int (knotL g s (i + 1) j), .int (knotL g s i (j + 1)), .int (knotL g s (i + 1) (j + 1))]
theorem four_eq (g s i j : Int) : fourRaw g s i j = fourV g s i j := by
  unfold fourRaw
  simp only [kb_0, kb_1, kc_0, kc_1]
  rfl
theorem noise_of {g s x z S : Int} {k : Nat} (hS : (2 : Int) ^ k = S) (S0 : 0 < S) : noiseL g s k x z = ((S - z % S) * ((S - x % S) * knotL g s (x / S) (z / S) + x % S * knotL g s (x / S + 1) (z / S)) + z % S * ((S - x % S) * knotL g s (x / S) (z / S + 1) + x % S * knotL g s (x / S + 1) (z / S + 1))) / (S * S) := by
  have ex : ∀ y : Int, (y - y % S) / S = y / S := fun y => by
    have h := Int.mul_ediv_add_emod y S
    have e : y - y % S = S * (y / S) := by omega
    rw [e, Int.mul_ediv_cancel_left _ (by omega)]
  unfold noiseL
  rw [Int.toNat_natCast, hS]
  simp only [ex]
  congr 1
  simp only [Int.mul_add, Int.mul_assoc, Int.mul_comm, Int.mul_left_comm, Int.add_assoc]
theorem noise_knot {g s x z S : Int} {k : Nat} (hS : (2 : Int) ^ k = S) (S0 : 0 < S) (hx : x % S = 0) (hz : z % S = 0) : noiseL g s k x z = knotL g s (x / S) (z / S) := by
  rw [noise_of hS S0, hx, hz]
  simp only [Int.sub_zero, Int.zero_mul, Int.add_zero]
  rw [← Int.mul_assoc, Int.mul_ediv_cancel_left]
  exact Int.ne_of_gt (Int.mul_pos S0 S0)
theorem shift_eq {a S : Int} {k : Nat} (hS : (2 : Int) ^ k = S) : a / 2 ^ (k + k) = a / (S * S) := by
  rw [Int.pow_add, hS]
/-! ### sizes of steps' values -/
/-- the numbers of a step lie within their bounds -/
def OkS : Stp → Prop
  | .noise _ l _ _ => 0 ≤ l ∧ l ≤ 8
  | .over _ n => 1 ≤ n ∧ n ≤ 1000000000
  | _ => True
def OkSs (st : List Stp) : Prop := ∀ s ∈ st, OkS s
theorem okS_put {st : List Stp} {s : Stp} (h : OkSs st) (hs : OkS s) : OkSs (put st s).1 := by
  unfold put
  split
  · exact h
  · intro t ht
    rcases List.mem_append.mp ht with ht | ht
    · exact h t ht
    · rw [List.mem_singleton.mp ht]; exact hs
theorem okS_into : ∀ (e : Ex) (dx dz : Int) (st : List Stp), OkE e → OkSs st → OkSs (into e dx dz st).1
  | .whole _, _, _, _, _, h => okS_put h True.intro
  | .px, _, _, _, _, h => okS_put h True.intro
  | .pz, _, _, _, _, h => okS_put h True.intro
  | .noise _ _, _, _, _, o, h => okS_put h o.2
  | .two _ a b, dx, dz, st, o, h => okS_put (okS_into b dx dz _ o.2 (okS_into a dx dz st o.1 h)) True.intro
  | .over a _, dx, dz, st, o, h => okS_put (okS_into a dx dz st o.1 h) o.2
  | .bel a b c d, dx, dz, st, o, h => okS_put (okS_into d dx dz _ o.2.2.2 (okS_into c dx dz _ o.2.2.1 (okS_into b dx dz _ o.2.1 (okS_into a dx dz st o.1 h)))) True.intro
  | .shift ex ez a, dx, dz, st, o, h => okS_into a (dx + ex) (dz + ez) st o.2.2 h
/-- all values are less than B bits long -/
def Szd (g x z : Int) (B : Nat) (st : List Stp) : Prop := ∀ i, i < st.length → (((valA g x z).run st).getD i 0).natAbs < 2 ^ B
theorem szd_nil (g x z : Int) (B : Nat) : Szd g x z B [] := fun i h => absurd h (Nat.not_lt_zero i)
theorem szd_put {g x z : Int} {B : Nat} {st : List Stp} {s : Stp} (h : Szd g x z B st) (hv : (((valA g x z).run (put st s).1).getD (put st s).2 0).natAbs < 2 ^ B) : Szd g x z B (put st s).1 := by
  have P := put_ok st s
  intro i hi
  by_cases l : i < st.length
  · show (((valA g x z).run (put st s).1).getD i (valA g x z).dflt).natAbs < 2 ^ B
    rw [run_get (valA g x z) P.pre l]
    exact h i l
  · have e : i = (put st s).2 := by
      unfold put at hi ⊢
      split at hi
      · exact absurd hi l
      · rename_i m
        rw [if_neg m]
        rw [List.length_append] at hi
        simp only [List.length_cons, List.length_nil] at hi
        show i = st.length
        omega
    rw [e]
    exact hv
theorem szd_into : ∀ (e : Ex) (g x z dx dz : Int) (k B : Nat) (st : List Stp), OkE e → Ok st → 34 ≤ k → (x + dx).natAbs < 2 ^ k → (z + dz).natAbs < 2 ^ k → vb e k ≤ B → Szd g x z B st → Szd g x z B (into e dx dz st).1 := by
  have leaf : ∀ (e : Ex) (s : Stp) (g x z dx dz : Int) (k B : Nat) (st : List Stp), into e dx dz st = put st s → OkE e → Ok st → 34 ≤ k → (x + dx).natAbs < 2 ^ k → (z + dz).natAbs < 2 ^ k → vb e k ≤ B → Szd g x z B st → Szd g x z B (into e dx dz st).1 := by
    intro e s g x z dx dz k B st he o ok hk hx hz hv h
    have iv := (into_ok e dx dz st).val ok (valA g x z)
    have b := lt_pow_of (val_bits e g (x + dx) (z + dz) k o hk hx hz) hv
    rw [fold_val] at iv
    rw [he] at iv ⊢
    refine szd_put h ?_
    show (((valA g x z).run (put st s).1).getD (put st s).2 (valA g x z).dflt).natAbs < 2 ^ B
    rw [iv]
    exact b
  have whole : ∀ (e : Ex) (s : Stp) (st' : List Stp) (g x z dx dz : Int) (k B : Nat) (st : List Stp), into e dx dz st = put st' s → OkE e → Ok st → 34 ≤ k → (x + dx).natAbs < 2 ^ k → (z + dz).natAbs < 2 ^ k → vb e k ≤ B → Szd g x z B st' → Szd g x z B (into e dx dz st).1 := by
    intro e s st' g x z dx dz k B st he o ok hk hx hz hv h
    have iv := (into_ok e dx dz st).val ok (valA g x z)
    have b := lt_pow_of (val_bits e g (x + dx) (z + dz) k o hk hx hz) hv
    rw [fold_val] at iv
    rw [he] at iv ⊢
    refine szd_put h ?_
    show (((valA g x z).run (put st' s).1).getD (put st' s).2 (valA g x z).dflt).natAbs < 2 ^ B
    rw [iv]
    exact b
  intro e
  induction e with
  | whole n => exact fun g x z dx dz k B st => leaf (.whole n) (.whole n) g x z dx dz k B st rfl
  | px => exact fun g x z dx dz k B st => leaf .px (.px dx) g x z dx dz k B st rfl
  | pz => exact fun g x z dx dz k B st => leaf .pz (.pz dz) g x z dx dz k B st rfl
  | noise s l => exact fun g x z dx dz k B st => leaf (.noise s l) (.noise s l dx dz) g x z dx dz k B st rfl
  | two w a b iha ihb =>
    intro g x z dx dz k B st o ok hk hx hz hv h
    have v2 := vb_two w a b k
    have ha := iha g x z dx dz k B st o.1 ok hk hx hz (by omega) h
    have hb := ihb g x z dx dz k B _ o.2 ((into_ok a dx dz st).ok ok) hk hx hz (by omega) ha
    exact whole (.two w a b) _ _ g x z dx dz k B st rfl o ok hk hx hz hv hb
  | over a n iha =>
    intro g x z dx dz k B st o ok hk hx hz hv h
    have ha := iha g x z dx dz k B st o.1 ok hk hx hz hv h
    exact whole (.over a n) _ _ g x z dx dz k B st rfl o ok hk hx hz hv ha
  | bel a b c d iha ihb ihc ihd =>
    intro g x z dx dz k B st o ok hk hx hz hv h
    have hv' : max (max (vb a k) (vb b k)) (max (vb c k) (vb d k)) ≤ B := hv
    have oa := (into_ok a dx dz st).ok ok
    have ob := (into_ok b dx dz _).ok oa
    have oc := (into_ok c dx dz _).ok ob
    have ha := iha g x z dx dz k B st o.1 ok hk hx hz (by omega) h
    have hb := ihb g x z dx dz k B _ o.2.1 oa hk hx hz (by omega) ha
    have hc := ihc g x z dx dz k B _ o.2.2.1 ob hk hx hz (by omega) hb
    have hd := ihd g x z dx dz k B _ o.2.2.2 oc hk hx hz (by omega) hc
    exact whole (.bel a b c d) _ _ g x z dx dz k B st rfl o ok hk hx hz hv hd
  | shift ex ez a iha =>
    intro g x z dx dz k B st o ok hk hx hz hv h
    refine iha g x z (dx + ex) (dz + ez) (k + 1) B st o.2.2 ok (by omega) ?_ ?_ hv h
    · rw [← Int.add_assoc]; exact shift_bits o.1 hk hx
    · rw [← Int.add_assoc]; exact shift_bits o.2.1 hk hz
theorem cut1T {w : V} {xs : List V} : cutV (w :: xs) (some 1) none = xs := by
  unfold cutV
  rw [show HT.sIx (w :: xs).length 0 (some 1) = min 1 (w :: xs).length from HT.sIx_nat (w :: xs).length 0 1, HT.sIx_none]
  rw [show min 1 (w :: xs).length = 1 by rw [List.length_cons]; omega]
  show List.take ((w :: xs).length - 1) xs = xs
  rw [List.length_cons, Nat.add_sub_cancel]
  exact List.take_length
theorem cut1T_ok {w : V} {xs : List V} : ¬ (HT.sIx (w :: xs).length 0 (some 1) = 0 ∧ HT.sIx (w :: xs).length (w :: xs).length none = (w :: xs).length) := by
  rw [show HT.sIx (w :: xs).length 0 (some 1) = min 1 (w :: xs).length from HT.sIx_nat (w :: xs).length 0 1]
  rw [List.length_cons]
  omega
theorem g_yes {σ : L2.St} {H : Hp} {Q : Bool → Hp → Prop} (q : Q true H) : tYes σ H Q := q
theorem g_din {σ : L2.St} {H : Hp} {Q : VK} {ty td : TE} (q : ty σ H fun y H1 => td σ H1 fun x H2 => ∃ a o, x = .ref a ∧ DGet H2 a y o ∧ Q (.bl o.isSome) H2) : tDIn ty td σ H Q := q
theorem keepT_tup {mk : Addr} {H H' : Hp} {kvs : List (List Key × V)} (k : Keep mk H H') (h : H mk = some (.dT kvs)) : Tup H H' := fun a xs e => k a _ (ne_of e h (by intro z; cases z)) e
theorem envR_keep {mk : Addr} {H H' : Hp} {kv : List (List Key × V)} (k : Keep mk H H') (h : H mk = some (.dT kv)) : ∀ {n : Nat} {d : Addr} {r : Fm.Env} {δ : List (Str × Nat)}, EnvR n H d r δ → EnvR n H' d r δ
  | 0, _, _, _, ⟨e, q⟩ => ⟨k _ _ (ne_of e h (by intro z; cases z)) e, q⟩
  | n + 1, _, _, _, ⟨kvs, e, l, q⟩ => ⟨kvs, k _ _ (ne_of e h (by intro z; cases z)) e, l, fun x hx => by
    obtain ⟨t, u, d', F, r', δ', a1, a2, a3, a4, a5⟩ := q x hx
    exact ⟨t, u, d', F, r', δ', a1, k _ _ (ne_of a2 h (by intro z; cases z)) a2, a3.mono (keepT_tup k h), envR_keep k h a4, a5⟩⟩
theorem g_star {K : PySem.W.Frag} {σ : L2.St} {H : Hp} {te : TE} {t : TA} {Q : List V → Hp → Prop} (q : te σ H fun x H1 => ∃ p xs, x = V.ref p ∧ (SqT K H1 p xs ∨ SqL K H1 p xs) ∧ t σ H1 fun ys H2 => Q (xs ++ ys) H2) : StX.tStar K te t σ H Q := q
theorem g_lstT {K : PySem.W.Frag} {σ : L2.St} {H : Hp} {p : Addr} {xs : List V} {t : TGs} {Q : L2.St → Hp → Prop} {m : Nat} (h : SqL K H p xs) (hl : xs.length = m) (q : t xs σ H Q) : gLst K m t (.ref p) σ H Q := ⟨p, xs, rfl, h, hl, q⟩
theorem mn4_of {a b c d m : Int} (h : m ∈ [a, b, c, d]) (l : ∀ y, y ∈ [a, b, c, d] → m ≤ y) : m = mn4 a b c d := by
  have h1 := l a (by simp); have h2 := l b (by simp); have h3 := l c (by simp); have h4 := l d (by simp)
  simp only [List.mem_cons, List.not_mem_nil, or_false] at h
  unfold mn4
  omega
theorem mx4_of {a b c d m : Int} (h : m ∈ [a, b, c, d]) (l : ∀ y, y ∈ [a, b, c, d] → y ≤ m) : m = mx4 a b c d := by
  have h1 := l a (by simp); have h2 := l b (by simp); have h3 := l c (by simp); have h4 := l d (by simp)
  simp only [List.mem_cons, List.not_mem_nil, or_false] at h
  unfold mx4
  omega
theorem pr_at {H : Hp} : ∀ {vs : List V} {ps : List (Int × Int)} {j : Nat}, PairsR H vs ps → j < ps.length → ∃ p, vs[j]? = some (V.ref p) ∧ H p = some (.tup [.int (ps.getD j (0, 0)).1, .int (ps.getD j (0, 0)).2])
  | _, _, _, .nil, h => absurd h (Nat.not_lt_zero _)
  | _, _, 0, .cons (b := b) ⟨p, e, h⟩ _, _ => ⟨p, by rw [e]; rfl, h⟩
  | _, _, j + 1, .cons _ t, h => by
    obtain ⟨p, h1, h2⟩ := pr_at (j := j) t (by simpa using h)
    exact ⟨p, by simpa using h1, by simpa using h2⟩
theorem pairs_putL {H : Hp} {a : Addr} {ys : List V} {o : HO} (ha : H a = some (.lst ys)) : ∀ {vs : List V} {ps : List (Int × Int)}, PairsR H vs ps → PairsR (upd H a o) vs ps
  | _, _, .nil => .nil
  | _, _, .cons ⟨p, e, h⟩ t => .cons ⟨p, e, by rw [upd_ne (ne_of h ha (by intro z; cases z))]; exact h⟩ (pairs_putL ha t)
/-- all ranges of steps -/
def AllP (N : NR) (x0 z0 x1 z1 : Int) (P : Int × Int → Prop) (st : List Stp) : Prop := ∀ i, i < st.length → P (((rngA N x0 z0 x1 z1).run st).getD i (0, 0))
theorem allP_put {N : NR} {x0 z0 x1 z1 : Int} {P : Int × Int → Prop} {st : List Stp} {s : Stp} (h : AllP N x0 z0 x1 z1 P st) (hv : P (((rngA N x0 z0 x1 z1).run (put st s).1).getD (put st s).2 (0, 0))) : AllP N x0 z0 x1 z1 P (put st s).1 := by
  have Q := put_ok st s
  intro i hi
  by_cases l : i < st.length
  · show P (((rngA N x0 z0 x1 z1).run (put st s).1).getD i (rngA N x0 z0 x1 z1).dflt)
    rw [run_get (rngA N x0 z0 x1 z1) Q.pre l]
    exact h i l
  · have e : i = (put st s).2 := by
      unfold put at hi ⊢
      split at hi
      · exact absurd hi l
      · rename_i m
        rw [if_neg m]
        rw [List.length_append] at hi
        simp only [List.length_cons, List.length_nil] at hi
        show i = st.length
        omega
    rw [e]
    exact hv
theorem allE_head (N : NR) (e : Ex) (x0 z0 x1 z1 : Int) : rangeG N e x0 z0 x1 z1 ∈ allE N e x0 z0 x1 z1 := by
  cases e <;> simp [allE]
theorem all_into {N : NR} {P : Int × Int → Prop} : ∀ (e : Ex) (x0 z0 x1 z1 dx dz : Int) (st : List Stp), Ok st → (∀ p ∈ allE N e (x0 + dx) (z0 + dz) (x1 + dx) (z1 + dz), P p) → AllP N x0 z0 x1 z1 P st → AllP N x0 z0 x1 z1 P (into e dx dz st).1 := by
  have last : ∀ (e : Ex) (s : Stp) (st' : List Stp) (x0 z0 x1 z1 dx dz : Int) (st : List Stp), into e dx dz st = put st' s → Ok st → (∀ p ∈ allE N e (x0 + dx) (z0 + dz) (x1 + dx) (z1 + dz), P p) → AllP N x0 z0 x1 z1 P st' → AllP N x0 z0 x1 z1 P (into e dx dz st).1 := by
    intro e s st' x0 z0 x1 z1 dx dz st he ok hp h
    have iv := (into_ok e dx dz st).val ok (rngA N x0 z0 x1 z1)
    rw [fold_rng] at iv
    have b := hp _ (allE_head N e _ _ _ _)
    rw [he] at iv ⊢
    refine allP_put h ?_
    show P (((rngA N x0 z0 x1 z1).run (put st' s).1).getD (put st' s).2 (rngA N x0 z0 x1 z1).dflt)
    rw [iv]
    exact b
  intro e
  induction e with
  | whole n => exact fun x0 z0 x1 z1 dx dz st ok hp h => last (.whole n) (.whole n) st x0 z0 x1 z1 dx dz st rfl ok hp h
  | px => exact fun x0 z0 x1 z1 dx dz st ok hp h => last .px (.px dx) st x0 z0 x1 z1 dx dz st rfl ok hp h
  | pz => exact fun x0 z0 x1 z1 dx dz st ok hp h => last .pz (.pz dz) st x0 z0 x1 z1 dx dz st rfl ok hp h
  | noise s l => exact fun x0 z0 x1 z1 dx dz st ok hp h => last (.noise s l) (.noise s l dx dz) st x0 z0 x1 z1 dx dz st rfl ok hp h
  | two w a b iha ihb =>
    intro x0 z0 x1 z1 dx dz st ok hp h
    have ha := iha x0 z0 x1 z1 dx dz st ok (fun p hm => hp p (by simp [allE, hm])) h
    have hb := ihb x0 z0 x1 z1 dx dz _ ((into_ok a dx dz st).ok ok) (fun p hm => hp p (by simp [allE, hm])) ha
    exact last (.two w a b) _ _ x0 z0 x1 z1 dx dz st rfl ok hp hb
  | over a n iha =>
    intro x0 z0 x1 z1 dx dz st ok hp h
    have ha := iha x0 z0 x1 z1 dx dz st ok (fun p hm => hp p (by simp [allE, hm])) h
    exact last (.over a n) _ _ x0 z0 x1 z1 dx dz st rfl ok hp ha
  | bel a b c d iha ihb ihc ihd =>
    intro x0 z0 x1 z1 dx dz st ok hp h
    have oa := (into_ok a dx dz st).ok ok
    have ob := (into_ok b dx dz _).ok oa
    have oc := (into_ok c dx dz _).ok ob
    have ha := iha x0 z0 x1 z1 dx dz st ok (fun p hm => hp p (by simp [allE, hm])) h
    have hb := ihb x0 z0 x1 z1 dx dz _ oa (fun p hm => hp p (by simp [allE, hm])) ha
    have hc := ihc x0 z0 x1 z1 dx dz _ ob (fun p hm => hp p (by simp [allE, hm])) hb
    have hd := ihd x0 z0 x1 z1 dx dz _ oc (fun p hm => hp p (by simp [allE, hm])) hc
    exact last (.bel a b c d) _ _ x0 z0 x1 z1 dx dz st rfl ok hp hd
  | shift ex ez a iha =>
    intro x0 z0 x1 z1 dx dz st ok hp h
    refine iha x0 z0 x1 z1 (dx + ex) (dz + ez) st ok (fun p hm => hp p ?_) h
    simp only [allE, List.mem_cons]
    right
    simpa [Int.add_assoc] using hm
theorem all_bits {N : NR} (hN : NOk N) : ∀ (e : Ex) (x0 z0 x1 z1 : Int) (k : Nat), OkE e → 34 ≤ k → B2 (x0, x1) k → B2 (z0, z1) k → ∀ p ∈ allE N e x0 z0 x1 z1, B2 p (vb e k) := by
  intro e
  induction e with
  | two w a b iha ihb =>
    intro x0 z0 x1 z1 k h hk hx hz p hp
    have v2 := vb_two w a b k
    simp only [allE, List.mem_cons, List.mem_append] at hp
    rcases hp with rfl | hp | hp
    · exact range_bits hN (.two w a b) x0 z0 x1 z1 k h hk hx hz
    · exact (iha x0 z0 x1 z1 k h.1 hk hx hz p hp).mono v2.1
    · exact (ihb x0 z0 x1 z1 k h.2 hk hx hz p hp).mono v2.2
  | over a n iha =>
    intro x0 z0 x1 z1 k h hk hx hz p hp
    simp only [allE, List.mem_cons] at hp
    rcases hp with rfl | hp
    · exact range_bits hN (.over a n) x0 z0 x1 z1 k h hk hx hz
    · exact iha x0 z0 x1 z1 k h.1 hk hx hz p hp
  | bel a b c d iha ihb ihc ihd =>
    intro x0 z0 x1 z1 k h hk hx hz p hp
    have hv : vb (.bel a b c d) k = max (max (vb a k) (vb b k)) (max (vb c k) (vb d k)) := rfl
    simp only [allE, List.mem_cons, List.mem_append] at hp
    rcases hp with rfl | hp | hp | hp | hp
    · exact range_bits hN (.bel a b c d) x0 z0 x1 z1 k h hk hx hz
    · exact (iha x0 z0 x1 z1 k h.1 hk hx hz p hp).mono (by omega)
    · exact (ihb x0 z0 x1 z1 k h.2.1 hk hx hz p hp).mono (by omega)
    · exact (ihc x0 z0 x1 z1 k h.2.2.1 hk hx hz p hp).mono (by omega)
    · exact (ihd x0 z0 x1 z1 k h.2.2.2 hk hx hz p hp).mono (by omega)
  | shift ex ez a iha =>
    intro x0 z0 x1 z1 k h hk hx hz p hp
    simp only [allE, List.mem_cons] at hp
    rcases hp with rfl | hp
    · exact range_bits hN (.shift ex ez a) x0 z0 x1 z1 k h hk hx hz
    · exact iha (x0 + ex) (z0 + ez) (x1 + ex) (z1 + ez) (k + 1) h.2.2 (by omega) ⟨shift_bits h.1 hk hx.1, shift_bits h.1 hk hx.2⟩ ⟨shift_bits h.2.1 hk hz.1, shift_bits h.2.1 hk hz.2⟩ p hp
  | _ =>
    intro x0 z0 x1 z1 k h hk hx hz p hp
    simp only [allE, List.mem_singleton] at hp
    subst hp
    exact range_bits hN _ x0 z0 x1 z1 k h hk hx hz
/-- weights as pairs -/
abbrev WR (K : PySem.W.Frag) (H : Hp) : List V → List Ex → Prop := Paired fun v e => ∃ p, v = V.ref p ∧ SqT K H p [.int (cn e : Nat), .int (grE e)]
theorem sqT_putL {K : PySem.W.Frag} {H : Hp} {p a : Addr} {xs ys : List V} {o : HO} (h : SqT K H p xs) (ha : H a = some (.lst ys)) : SqT K (upd H a o) p xs := by
  rcases h with (h | ⟨o', h⟩) | h
  · exact .inl (.inl (by rw [upd_ne (ne_of h ha (by intro z; cases z))]; exact h))
  · exact .inl (.inr ⟨o', by rw [upd_ne (ne_of h ha (by intro z; cases z))]; exact h⟩)
  · exact .inr h
theorem WR.putL {K : PySem.W.Frag} {H : Hp} {a : Addr} {ys : List V} {o : HO} (ha : H a = some (.lst ys)) : ∀ {vs : List V} {es : List Ex}, WR K H vs es → WR K (upd H a o) vs es
  | _, _, .nil => .nil
  | _, _, .cons ⟨p, e, h⟩ t => .cons ⟨p, e, sqT_putL h ha⟩ (WR.putL ha t)
theorem WR.mono {K : PySem.W.Frag} {H H' : Hp} (s : Same H H') : ∀ {vs : List V} {es : List Ex}, WR K H vs es → WR K H' vs es
  | _, _, .nil => .nil
  | _, _, .cons ⟨p, e, h⟩ t => .cons ⟨p, e, same_sqT s h⟩ (WR.mono s t)
theorem WR.append {K : PySem.W.Frag} {H : Hp} : ∀ {vs ws : List V} {es fs : List Ex}, WR K H vs es → WR K H ws fs → WR K H (vs ++ ws) (es ++ fs)
  | _, _, _, _, .nil, h => h
  | _, _, _, _, .cons a t, h => .cons a (WR.append t h)
theorem wr_at {K : PySem.W.Frag} {H : Hp} : ∀ {vs : List V} {es : List Ex} {i : Nat} {y : V}, WR K H vs es → vs[i]? = some y → ∃ e, es[i]? = some e ∧ ∃ p, y = V.ref p ∧ SqT K H p [.int (cn e : Nat), .int (grE e)]
  | _, _, _, _, .nil, h => by simp at h
  | _, _, 0, y, .cons (b := b) a _, h => by
    simp at h
    subst h
    exact ⟨b, rfl, a⟩
  | _, _, i + 1, y, .cons _ t, h => by
    obtain ⟨s, h1, h2⟩ := wr_at (i := i) (y := y) t (by simpa using h)
    exact ⟨s, by simpa using h1, h2⟩
/-- what is left of a field when names and lets are gone through -/
def coreF : Fd → Prop
  | .lt _ _ _ => False
  | .nm _ => False
  | _ => True
def wordF : Fd → Str
  | .whole _ => "whole"
  | .px => "x"
  | .pz => "z"
  | .noise _ _ => "noise"
  | .two w _ _ => w.word
  | .over _ _ => "over"
  | .bel _ _ _ _ => "below"
  | .shift _ _ _ => "shift"
  | .lt _ _ _ => "let"
  | .nm _ => "name"
theorem frep_word {H : Hp} {v : V} : ∀ {F : Fd}, FRep F H v → ∃ p xs, v = .ref p ∧ H p = some (.tup (.str (wordF F) :: xs))
  | .whole _, ⟨p, e, h⟩ => ⟨p, _, e, h⟩
  | .px, ⟨p, e, h⟩ => ⟨p, _, e, h⟩
  | .pz, ⟨p, e, h⟩ => ⟨p, _, e, h⟩
  | .noise _ _, ⟨p, e, h⟩ => ⟨p, _, e, h⟩
  | .two _ _ _, ⟨p, _, _, e, h, _⟩ => ⟨p, _, e, h⟩
  | .over _ _, ⟨p, _, e, h, _⟩ => ⟨p, _, e, h⟩
  | .bel _ _ _ _, ⟨p, _, _, _, _, e, h, _⟩ => ⟨p, _, e, h⟩
  | .shift _ _ _, ⟨p, _, e, h, _⟩ => ⟨p, _, e, h⟩
  | .lt _ _ _, ⟨p, _, _, e, h, _⟩ => ⟨p, _, e, h⟩
  | .nm _, ⟨p, e, h⟩ => ⟨p, _, e, h⟩
end Pf

/-! Fields in the heap, made anew part by part. -/
namespace Fr
open PySem L2 Lw Fm
/-- a field with each of its own parts changed -/
def fmap (f : Fd → Fd) : Fd → Fd
  | .two w a b => .two w (f a) (f b)
  | .over a n => .over (f a) n
  | .bel a b c d => .bel (f a) (f b) (f c) (f d)
  | .shift dx dz a => .shift dx dz (f a)
  | F => F
/-- what a part has come to -/
def RB (f : Fd → Fd) (H : Hp) (v : V) (q : V × Option Fd) : Prop := match q.2 with
  | some A => FRep (f A) H v
  | none => v = q.1
theorem RB.mono {f : Fd → Fd} {H H' : Hp} (t : Tup H H') {v : V} {q : V × Option Fd} (h : RB f H v q) : RB f H' v q := by
  obtain ⟨u, o⟩ := q
  cases o with
  | some A => exact FRep.mono t (F := f A) h
  | none => exact h
theorem rbs_mono {f : Fd → Fd} {H H' : Hp} (t : Tup H H') : ∀ {vs : List V} {ps : List (V × Option Fd)}, Paired (RB f H) vs ps → Paired (RB f H') vs ps
  | _, _, .nil => .nil
  | _, _, .cons a r => .cons (a.mono t) (rbs_mono t r)
theorem rbs_snoc {f : Fd → Fd} {H : Hp} {v : V} {q : V × Option Fd} : ∀ {vs : List V} {ps : List (V × Option Fd)}, Paired (RB f H) vs ps → RB f H v q → Paired (RB f H) (vs ++ [v]) (ps ++ [q])
  | _, _, .nil, h => .cons h .nil
  | _, _, .cons a r, h => .cons a (rbs_snoc r h)
theorem tup_putL {H : Hp} {D : Addr} {xs : List V} {o : HO} (h : H D = some (.lst xs)) : Tup H (upd H D o) := fun a ys e => by
  rw [upd_ne (ne_of e h (by intro z; cases z))]
  exact e
def notLN : Fd → Prop
  | .lt _ _ _ => False
  | .nm _ => False
  | _ => True
/-- a direct part -/
structure SubB (A F : Fd) : Prop where
  bnd : ∀ l, Bnd F l → Bnd A l
  ud : ∀ δ, udep A δ + 1 ≤ udep F δ
  lets : lets A ≤ lets F
  dep : dep A + 1 ≤ dep F
structure PartsB (F : Fd) (H : Hp) (u : V) : Prop where
  ex : ∃ (p : Addr) (w : Str) (ps : List (V × Option Fd)), u = .ref p ∧ H p = some (.tup (.str w :: ps.map (·.1))) ∧ (∀ q ∈ ps, PartOk H q.1 q.2) ∧ ps.length ≤ 4 ∧ decide (w = "name") = false ∧ decide (w = "let") = false ∧ (∀ q ∈ ps, ∀ A, q.2 = some A → SubB A F) ∧
    ∀ (f : Fd → Fd) (H' : Hp) (ws : List V) (t : Addr), Paired (RB f H') ws ps → H' t = some (.tup (.str w :: ws)) → FRep (fmap f F) H' (.ref t)
theorem partsB {F : Fd} {H : Hp} {u : V} (h : FRep F H u) (hn : notLN F) : PartsB F H u := by
  cases F with
  | whole n =>
    obtain ⟨p, e, hp⟩ := h
    refine ⟨p, "whole", [(.int n, none)], e, hp, ?_, by simp, by decide +kernel, by decide +kernel, ?_, fun f H' ws t hw ht => ?_⟩
    · intro q hq; rw [List.mem_singleton.mp hq]; exact .inl ⟨n, rfl⟩
    · intro q hq A e; rw [List.mem_singleton.mp hq] at e; cases e
    · cases hw with
      | cons a r => cases r; cases a; exact ⟨t, rfl, ht⟩
  | px =>
    obtain ⟨p, e, hp⟩ := h
    refine ⟨p, "x", [], e, hp, fun q hq => (nomatch hq), by decide, by decide +kernel, by decide +kernel, fun q hq => (nomatch hq), fun f H' ws t hw ht => ?_⟩
    cases hw
    exact ⟨t, rfl, ht⟩
  | pz =>
    obtain ⟨p, e, hp⟩ := h
    refine ⟨p, "z", [], e, hp, fun q hq => (nomatch hq), by decide, by decide +kernel, by decide +kernel, fun q hq => (nomatch hq), fun f H' ws t hw ht => ?_⟩
    cases hw
    exact ⟨t, rfl, ht⟩
  | noise s l =>
    obtain ⟨p, e, hp⟩ := h
    refine ⟨p, "noise", [(.int s, none), (.int l, none)], e, hp, ?_, by simp, by decide +kernel, by decide +kernel, ?_, fun f H' ws t hw ht => ?_⟩
    · intro q hq
      simp only [List.mem_cons, List.not_mem_nil, or_false] at hq
      rcases hq with rfl | rfl
      · exact .inl ⟨s, rfl⟩
      · exact .inl ⟨l, rfl⟩
    · intro q hq A e
      simp only [List.mem_cons, List.not_mem_nil, or_false] at hq
      rcases hq with rfl | rfl <;> cases e
    · cases hw with
      | cons a r =>
        cases r with
        | cons b r =>
          cases r
          cases a
          cases b
          exact ⟨t, rfl, ht⟩
  | two w a b =>
    obtain ⟨p, u1, u2, e, hp, ha, hb⟩ := h
    refine ⟨p, w.word, [(u1, some a), (u2, some b)], e, hp, ?_, by simp, word_ne (by decide +kernel) w, word_ne (by decide +kernel) w, ?_, fun f H' ws t hw ht => ?_⟩
    · intro q hq
      simp only [List.mem_cons, List.not_mem_nil, or_false] at hq
      rcases hq with rfl | rfl
      · exact ha
      · exact hb
    · intro q hq A e
      simp only [List.mem_cons, List.not_mem_nil, or_false] at hq
      rcases hq with rfl | rfl <;> cases e
      · exact ⟨fun _ h => h.1, fun δ => by simp only [udep]; omega, by simp only [Fm.lets]; omega, by simp only [Fm.dep]; omega⟩
      · exact ⟨fun _ h => h.2, fun δ => by simp only [udep]; omega, by simp only [Fm.lets]; omega, by simp only [Fm.dep]; omega⟩
    · cases hw with
      | cons a r =>
        cases r with
        | cons b r =>
          cases r
          exact ⟨t, _, _, rfl, ht, a, b⟩
  | over a n =>
    obtain ⟨p, u1, e, hp, ha⟩ := h
    refine ⟨p, "over", [(u1, some a), (.int n, none)], e, hp, ?_, by simp, by decide +kernel, by decide +kernel, ?_, fun f H' ws t hw ht => ?_⟩
    · intro q hq
      simp only [List.mem_cons, List.not_mem_nil, or_false] at hq
      rcases hq with rfl | rfl
      · exact ha
      · exact .inl ⟨n, rfl⟩
    · intro q hq A e
      simp only [List.mem_cons, List.not_mem_nil, or_false] at hq
      rcases hq with rfl | rfl <;> cases e
      exact ⟨fun _ h => h, fun δ => by simp only [udep]; omega, by simp only [Fm.lets]; omega, by simp only [Fm.dep]; omega⟩
    · cases hw with
      | cons a r =>
        cases r with
        | cons b r =>
          cases r
          cases b
          exact ⟨t, _, rfl, ht, a⟩
  | bel a b c d =>
    obtain ⟨p, u1, u2, u3, u4, e, hp, ha, hb, hc, hd⟩ := h
    refine ⟨p, "below", [(u1, some a), (u2, some b), (u3, some c), (u4, some d)], e, hp, ?_, by simp, by decide +kernel, by decide +kernel, ?_, fun f H' ws t hw ht => ?_⟩
    · intro q hq
      simp only [List.mem_cons, List.not_mem_nil, or_false] at hq
      rcases hq with rfl | rfl | rfl | rfl
      · exact ha
      · exact hb
      · exact hc
      · exact hd
    · intro q hq A e
      simp only [List.mem_cons, List.not_mem_nil, or_false] at hq
      rcases hq with rfl | rfl | rfl | rfl <;> cases e
      · exact ⟨fun _ h => h.1, fun δ => by simp only [udep]; omega, by simp only [Fm.lets]; omega, by simp only [Fm.dep]; omega⟩
      · exact ⟨fun _ h => h.2.1, fun δ => by simp only [udep]; omega, by simp only [Fm.lets]; omega, by simp only [Fm.dep]; omega⟩
      · exact ⟨fun _ h => h.2.2.1, fun δ => by simp only [udep]; omega, by simp only [Fm.lets]; omega, by simp only [Fm.dep]; omega⟩
      · exact ⟨fun _ h => h.2.2.2, fun δ => by simp only [udep]; omega, by simp only [Fm.lets]; omega, by simp only [Fm.dep]; omega⟩
    · cases hw with
      | cons a r =>
        cases r with
        | cons b r =>
          cases r with
          | cons c r =>
            cases r with
            | cons d r =>
              cases r
              exact ⟨t, _, _, _, _, rfl, ht, a, b, c, d⟩
  | shift dx dz a =>
    obtain ⟨p, u1, e, hp, ha⟩ := h
    refine ⟨p, "shift", [(.int dx, none), (.int dz, none), (u1, some a)], e, hp, ?_, by simp, by decide +kernel, by decide +kernel, ?_, fun f H' ws t hw ht => ?_⟩
    · intro q hq
      simp only [List.mem_cons, List.not_mem_nil, or_false] at hq
      rcases hq with rfl | rfl | rfl
      · exact .inl ⟨dx, rfl⟩
      · exact .inl ⟨dz, rfl⟩
      · exact ha
    · intro q hq A e
      simp only [List.mem_cons, List.not_mem_nil, or_false] at hq
      rcases hq with rfl | rfl | rfl <;> cases e
      exact ⟨fun _ h => h, fun δ => by simp only [udep]; omega, by simp only [Fm.lets]; omega, by simp only [Fm.dep]; omega⟩
    · cases hw with
      | cons a r =>
        cases r with
        | cons b r =>
          cases r with
          | cons c r =>
            cases r
            cases a
            cases b
            exact ⟨t, _, rfl, ht, c⟩
  | lt x a b => exact hn.elim
  | nm x => exact hn.elim
theorem fmap_emb {F : Fd} (hn : notLN F) (r : Fm.Env) : fmap (fun A => emb (expand A r)) F = emb (expand F r) := by
  cases F <;> first | rfl | exact hn.elim
theorem fmap_call {F : Fd} (hn : notLN F) (fresh : Nat → Str) (ν : List (Str × Str)) (k : Nat) : fmap (fun A => call fresh A ν k) F = call fresh F ν k := by
  cases F <;> first | rfl | exact hn.elim
/-- which kind a field is -/
theorem kindsB (F : Fd) : (∃ x, F = .nm x) ∨ (∃ x A B, F = .lt x A B) ∨ notLN F := by
  cases F with
  | nm x => exact .inl ⟨x, rfl⟩
  | lt x A B => exact .inr (.inl ⟨x, A, B, rfl⟩)
  | _ => exact .inr (.inr True.intro)
/-- new names -/
def fresh (k : Nat) : Str := ("n" : Str) ++ ⟨#[("pqrstuvw" : Str).cps.toList.getD k 112]⟩
theorem fresh_ok : ∀ j, j < 8 → NameOk (fresh j) := by
  intro j hj
  rcases (show j = 0 ∨ j = 1 ∨ j = 2 ∨ j = 3 ∨ j = 4 ∨ j = 5 ∨ j = 6 ∨ j = 7 by omega) with rfl | rfl | rfl | rfl | rfl | rfl | rfl | rfl <;> exact ⟨by decide +kernel, by decide +kernel, by decide +kernel⟩
theorem fresh_inj : ∀ i j, i < 8 → j < 8 → fresh i = fresh j → i = j := by
  have h : ∀ i : Fin 8, ∀ j : Fin 8, fresh i.1 = fresh j.1 → i.1 = j.1 := by decide +kernel
  exact fun i j hi hj e => h ⟨i, hi⟩ ⟨j, hj⟩ e
end Fr

/-! Noise along rows from knot to knot, and in the middle. -/
namespace Pf
open PySem L2 Lw Fm Fr Sm
/-- from knot to knot -/
def lnV (A B W k : Int) : Int := (A * (W - k) + B * k) / W
theorem ln_eq (A B W k : Int) : A * (W - k) + B * k = A * W + (B - A) * k := by
  rw [Int.mul_sub, Int.sub_mul]
  omega
theorem ln_0 {A B W : Int} (W0 : 0 < W) : lnV A B W 0 = A := by
  unfold lnV
  rw [Int.mul_zero, Int.add_zero, Int.sub_zero, Int.mul_ediv_cancel _ (by omega)]
theorem ln_W {A B W : Int} (W0 : 0 < W) : lnV A B W W = B := by
  unfold lnV
  rw [Int.sub_self, Int.mul_zero, Int.zero_add, Int.mul_ediv_cancel _ (by omega)]
theorem ln_up {A B W j k : Int} (W0 : 0 < W) (h : A ≤ B) (l : j ≤ k) : lnV A B W j ≤ lnV A B W k := by
  unfold lnV
  refine Int.ediv_le_ediv W0 ?_
  rw [ln_eq, ln_eq]
  have := Int.mul_le_mul_of_nonneg_left l (show 0 ≤ B - A by omega)
  omega
theorem ln_dn {A B W j k : Int} (W0 : 0 < W) (h : B ≤ A) (l : j ≤ k) : lnV A B W k ≤ lnV A B W j := by
  unfold lnV
  refine Int.ediv_le_ediv W0 ?_
  rw [ln_eq, ln_eq]
  have := Int.mul_le_mul_of_nonneg_left l (show 0 ≤ A - B by omega)
  have e : ∀ k, (B - A) * k = -((A - B) * k) := fun k => by rw [← Int.neg_mul]; congr 1; omega
  rw [e, e]
  omega
theorem mod_add {a S k : Int} (S0 : 0 < S) (ha : a % S = 0) (k0 : 0 ≤ k) (k1 : k < S) : (a + k) % S = k ∧ (a + k) / S = a / S := by
  have h := Int.mul_ediv_add_emod a S
  have e : a + k = k + S * (a / S) := by omega
  rw [e, Int.add_mul_emod_self_left, Int.add_mul_ediv_left _ _ (by omega), Int.emod_eq_of_lt k0 k1, Int.ediv_eq_zero_of_lt k0 k1]
  omega
theorem mod_addS {a S : Int} (S0 : 0 < S) (ha : a % S = 0) : (a + S) % S = 0 ∧ (a + S) / S = a / S + 1 := by
  rw [Int.add_emod_right, Int.add_ediv_of_dvd_right (Int.dvd_refl S), Int.ediv_self (by omega)]
  exact ⟨ha, rfl⟩
theorem noise_x {g s a b S k : Int} {n : Nat} (hS : (2 : Int) ^ n = S) (S0 : 0 < S) (ha : a % S = 0) (hb : b % S = 0) (k0 : 0 ≤ k) (k1 : k ≤ S) :
    noiseL g s n (a + k) b = lnV (noiseL g s n a b) (noiseL g s n (a + S) b) S k := by
  have m := mod_addS S0 ha
  rw [noise_knot hS S0 ha hb, noise_knot hS S0 m.1 hb, m.2]
  by_cases e : k = S
  · subst e
    rw [ln_W S0, noise_knot hS S0 m.1 hb, m.2]
  · have n := mod_add S0 ha k0 (show k < S by omega)
    rw [noise_of hS S0, hb, n.1, n.2, Int.sub_zero, Int.zero_mul, Int.add_zero, Int.mul_ediv_mul_of_pos _ _ S0]
    unfold lnV
    rw [Int.mul_comm (S - k), Int.mul_comm k]
theorem noise_z {g s a b S k : Int} {n : Nat} (hS : (2 : Int) ^ n = S) (S0 : 0 < S) (ha : a % S = 0) (hb : b % S = 0) (k0 : 0 ≤ k) (k1 : k ≤ S) :
    noiseL g s n a (b + k) = lnV (noiseL g s n a b) (noiseL g s n a (b + S)) S k := by
  have m := mod_addS S0 hb
  rw [noise_knot hS S0 ha hb, noise_knot hS S0 ha m.1, m.2]
  by_cases e : k = S
  · subst e
    rw [ln_W S0, noise_knot hS S0 ha m.1, m.2]
  · have n := mod_add S0 hb k0 (show k < S by omega)
    rw [noise_of hS S0, ha, n.1, n.2, Int.sub_zero, Int.zero_mul, Int.zero_mul, Int.add_zero, Int.add_zero]
    have e2 : (S - k) * (S * knotL g s (a / S) (b / S)) + k * (S * knotL g s (a / S) (b / S + 1)) = S * (knotL g s (a / S) (b / S) * (S - k) + knotL g s (a / S) (b / S + 1) * k) := by
      rw [Int.mul_add, Int.mul_left_comm, Int.mul_left_comm k, Int.mul_comm (S - k), Int.mul_comm k]
    rw [e2, Int.mul_ediv_mul_of_pos _ _ S0]
    rfl
theorem noise_row {g s a b dx dz S k l : Int} (l0 : 0 ≤ l) (hS : (2 : Int) ^ l.toNat = S) (S0 : 0 < S) (ha : a % S = 0) (hb : b % S = 0) (d : (dx = 1 ∧ dz = 0) ∨ (dx = 0 ∧ dz = 1)) (k0 : 0 ≤ k) (k1 : k ≤ S) :
    noiseL g s l (a + dx * k) (b + dz * k) = lnV (noiseL g s l a b) (noiseL g s l (a + dx * S) (b + dz * S)) S k := by
  have e : ((l.toNat : Nat) : Int) = l := Int.toNat_of_nonneg l0
  rw [← e]
  rcases d with ⟨rfl, rfl⟩ | ⟨rfl, rfl⟩
  · rw [Int.one_mul, Int.one_mul, Int.zero_mul, Int.zero_mul, Int.add_zero]
    exact noise_x hS S0 ha hb k0 k1
  · rw [Int.one_mul, Int.one_mul, Int.zero_mul, Int.zero_mul, Int.add_zero]
    exact noise_z hS S0 ha hb k0 k1
/-- in the middle between two -/
theorem ln_half {A B W h : Int} (W0 : 0 < W) (e : W = 2 * h) : lnV A B W h = (A + B) / 2 := by
  unfold lnV
  have e2 : A * (W - h) + B * h = (A + B) * h := by
    rw [show W - h = h by omega, ← Int.add_mul]
  rw [e2, e, Int.mul_ediv_mul_of_pos_left _ _ (by omega)]
/-- in the middle between four -/
theorem noise_mid {g s a b S h : Int} {n : Nat} (hS : (2 : Int) ^ n = S) (S0 : 0 < S) (ha : a % S = 0) (hb : b % S = 0) (e : S = 2 * h) :
    noiseL g s n (a + h) (b + h) = (knotL g s (a / S) (b / S) + knotL g s (a / S + 1) (b / S) + knotL g s (a / S) (b / S + 1) + knotL g s (a / S + 1) (b / S + 1)) / 4 := by
  have m1 := mod_add S0 ha (show 0 ≤ h by omega) (show h < S by omega)
  have m2 := mod_add S0 hb (show 0 ≤ h by omega) (show h < S by omega)
  rw [noise_of hS S0, m1.1, m1.2, m2.1, m2.2, show S - h = h by omega]
  have e2 : ∀ p q r t : Int, h * (h * p + h * q) + h * (h * r + h * t) = (h * h) * (p + q + r + t) := fun p q r t => by
    simp only [Int.mul_add, Int.mul_assoc, Int.add_assoc]
  rw [e2, show S * S = (h * h) * 4 by rw [e]; simp only [Int.mul_assoc, Int.mul_comm, Int.mul_left_comm]; rfl, Int.mul_ediv_mul_of_pos _ _ (Int.mul_pos (by omega) (by omega))]
end Pf

/-! Steps as data; the steps of several fields, one behind the other. -/
namespace Pf
open PySem PySem.Spec PyProof.Rows L2 Lw Fm Fr Sm
theorem room65 {k : Nat} {A : Around} (r : Room k A) : A.units + 65 < cLine := by
  have := r.un
  omega
def kD : Key → PyData
  | .inl i => .int i
  | .inr x => .str x
def stepD (s : Stp) : PyData := .tuple ((stepK s).map kD)
theorem eqv_kD (a b : Key) : PyData.eqv (kD a) (kD b) = decide (a = b) := by
  cases a with
  | inl i => cases b with
    | inl j => simp only [kD, PyData.eqv, Sum.inl.injEq]; exact Bool.eq_iff_iff.mpr (by simp)
    | inr y => simp [kD, PyData.eqv]
  | inr x => cases b with
    | inl j => simp [kD, PyData.eqv]
    | inr y => simp only [kD, PyData.eqv, Sum.inr.injEq]; exact Bool.eq_iff_iff.mpr (by simp)
theorem eqv_kDs : ∀ (a b : List Key), PyData.eqvAll (a.map kD) (b.map kD) = decide (a = b)
  | [], [] => by simp [PyData.eqvAll]
  | [], _ :: _ => by simp [PyData.eqvAll]
  | _ :: _, [] => by simp [PyData.eqvAll]
  | x :: a, y :: b => by
    rw [List.map_cons, List.map_cons]
    simp only [PyData.eqvAll, eqv_kD, eqv_kDs a b]
    by_cases h1 : x = y <;> by_cases h2 : a = b <;> simp [h1, h2]
theorem eqv_stepD (s t : Stp) : PyData.eqv (stepD s) (stepD t) = decide (s = t) := by
  unfold stepD
  simp only [PyData.eqv, eqv_kDs]
  by_cases h : s = t
  · rw [h]; simp
  · rw [decide_eq_false h, decide_eq_false fun e => h (stepK_inj e)]
theorem eqv_stepsD : ∀ (a b : List Stp), PyData.eqvAll (a.map stepD) (b.map stepD) = decide (a = b)
  | [], [] => by simp [PyData.eqvAll]
  | [], _ :: _ => by simp [PyData.eqvAll]
  | _ :: _, [] => by simp [PyData.eqvAll]
  | x :: a, y :: b => by
    rw [List.map_cons, List.map_cons]
    simp only [PyData.eqvAll, eqv_stepD, eqv_stepsD a b]
    by_cases h1 : x = y <;> by_cases h2 : a = b <;> simp [h1, h2]
theorem any_stepD (s : Stp) : ∀ st : List Stp, ((st.map stepD).any fun z => PyData.eqv z (stepD s)) = decide (s ∈ st)
  | [] => by simp
  | t :: r => by
    rw [List.map_cons, List.any_cons, any_stepD s r, eqv_stepD]
    by_cases h1 : t = s
    · subst h1; simp
    · have : ¬ s = t := fun e => h1 e.symm
      simp [h1, this]
theorem lay_step (s : Stp) : PyData.canLay0 (stepD s) = true := by
  have hw : ∀ w : W2, PyData.strOk w.word = true := fun w => by cases w <;> decide +kernel
  cases s with
  | two w i j =>
    show (PyData.canLay0 (.str w.word) && (true && (true && true))) = true
    rw [show PyData.canLay0 (.str w.word) = PyData.strOk w.word from rfl, hw w]
    rfl
  | whole n => show (PyData.canLay0 (.str "whole") && (true && true)) = true; decide +kernel
  | px n => show (PyData.canLay0 (.str "x") && (true && true)) = true; decide +kernel
  | pz n => show (PyData.canLay0 (.str "z") && (true && true)) = true; decide +kernel
  | noise a b c d => show (PyData.canLay0 (.str "noise") && (true && (true && (true && (true && true))))) = true; decide +kernel
  | over a b => show (PyData.canLay0 (.str "over") && (true && (true && true))) = true; decide +kernel
  | bel a b c d => show (PyData.canLay0 (.str "below") && (true && (true && (true && (true && true))))) = true; decide +kernel
theorem depth_keys : ∀ ks : List Key, PyData.depthAll (ks.map kD) ≤ 1
  | [] => by decide
  | x :: r => by
    have h := depth_keys r
    have e : PyData.depthAll ((x :: r).map kD) = max (PyData.depth (kD x)) (PyData.depthAll (r.map kD)) := rfl
    have e2 : PyData.depth (kD x) ≤ 1 := by cases x <;> simp [kD, PyData.depth]
    omega
theorem depth_step (s : Stp) : PyData.depth (stepD s) ≤ 2 := by
  have h := depth_keys (stepK s)
  have e : PyData.depth (stepD s) = PyData.depthAll ((stepK s).map kD) + 1 := rfl
  omega
theorem lay_steps : ∀ st : List Stp, PyData.canLayAll0 (st.map stepD) = true
  | [] => rfl
  | x :: r => by
    show (PyData.canLay0 (stepD x) && PyData.canLayAll0 (r.map stepD)) = true
    rw [lay_step, lay_steps r]
    rfl
theorem depth_steps : ∀ st : List Stp, PyData.depthAll (st.map stepD) ≤ 2
  | [] => by decide
  | x :: r => by
    have h := depth_steps r
    have e : PyData.depthAll ((x :: r).map stepD) = max (PyData.depth (stepD x)) (PyData.depthAll (r.map stepD)) := rfl
    have e2 := depth_step x
    omega
theorem shaped_step (s : Stp) : SeqAt.shaped (stepD s) = true := by
  unfold SeqAt.shaped
  have := depth_step s
  rw [lay_step, decide_eq_true (show PyData.depth (stepD s) ≤ 64 by omega)]
  rfl
theorem shaped_steps (st : List Stp) : SeqAt.shaped (.list (st.map stepD)) = true := by
  have h1 : PyData.canLay0 (.list (st.map stepD)) = true := lay_steps st
  have h2 : PyData.depth (.list (st.map stepD)) ≤ 64 := by
    have h := depth_steps st
    have e : PyData.depth (.list (st.map stepD)) = PyData.depthAll (st.map stepD) + 1 := rfl
    omega
  unfold SeqAt.shaped
  rw [h1, decide_eq_true h2]
  rfl
theorem dp_keys {K : PySem.W.Frag} {H : Hp} : ∀ ks : List Key, DpAll K H (ks.map kV) (ks.map kD)
  | [] => .nil
  | .inl i :: r => .cons (.int i) (dp_keys r)
  | .inr x :: r => .cons (.str x) (dp_keys r)
theorem dp_step {K : PySem.W.Frag} {H : Hp} {p : Addr} {s : Stp} (h : H p = some (.tup (stepV s))) : Dp K H (.ref p) (stepD s) := by
  rw [stepV_eq] at h
  exact .tup (SqT.of h) (dp_keys _)
theorem dp_steps {K : PySem.W.Frag} {H : Hp} : ∀ {vs : List V} {st : List Stp}, StepsR H vs st → DpAll K H vs (st.map stepD)
  | _, _, .nil => .nil
  | _, _, .cons ⟨p, e, h⟩ t => by
    subst e
    exact .cons (dp_step h) (dp_steps t)
theorem steps_putL {H : Hp} {a : Addr} {ys : List V} {o : HO} (ha : H a = some (.lst ys)) : ∀ {vs : List V} {st : List Stp}, StepsR H vs st → StepsR (upd H a o) vs st
  | _, _, .nil => .nil
  | _, _, .cons ⟨p, e, h⟩ t => .cons ⟨p, e, by rw [upd_ne (ne_of h ha (by intro z; cases z))]; exact h⟩ (steps_putL ha t)
theorem none_of_same {H H' : Hp} {a : Addr} (s : Same H H') (h : H' a = none) : H a = none := by
  cases e : H a with
  | none => rfl
  | some u => rw [s _ _ e] at h; cases h
theorem steps_get {H : Hp} : ∀ {vs : List V} {st : List Stp} {i : Nat}, StepsR H vs st → i < st.length → ∃ p s, vs[i]? = some (V.ref p) ∧ st[i]? = some s ∧ H p = some (.tup (stepV s))
  | _, _, _, .nil, h => absurd h (Nat.not_lt_zero _)
  | _, _, 0, .cons (b := b) ⟨p, e, h⟩ _, _ => ⟨p, b, by rw [e]; rfl, rfl, h⟩
  | _, _, i + 1, .cons _ t, h => by
    obtain ⟨p, s, h1, h2, h3⟩ := steps_get (i := i) t (by simpa using h)
    exact ⟨p, s, by simpa using h1, by simpa using h2, h3⟩
theorem StepsR.take {H : Hp} : ∀ {vs : List V} {st : List Stp} (n : Nat), StepsR H vs st → StepsR H (vs.take n) (st.take n)
  | _, _, 0, _ => .nil
  | _, _, n + 1, .nil => .nil
  | _, _, n + 1, .cons a t => .cons a (StepsR.take n t)
theorem ok_take {st : List Stp} (h : Ok st) (n : Nat) : Ok (st.take n) := fun j s e => by
  rw [List.getElem?_take] at e
  split at e
  · exact h j s e
  · cases e
theorem okSs_take {st : List Stp} (h : OkSs st) (n : Nat) : OkSs (st.take n) := fun s hs => h s (List.mem_of_mem_take hs)
theorem szd_take {g x z : Int} {B : Nat} {st : List Stp} (h : Szd g x z B st) (n : Nat) : Szd g x z B (st.take n) := fun i hi => by
  have e := run_get (valA g x z) (List.take_prefix n st) hi
  have l : i < st.length := by rw [List.length_take] at hi; omega
  have b := h i l
  have e' : ((valA g x z).run st).getD i 0 = ((valA g x z).run (st.take n)).getD i 0 := e
  rw [e'] at b
  exact b
theorem cut_take {xs : List V} {j : Nat} : cutV xs none (some (j : Int)) = xs.take j := by
  unfold cutV
  rw [HT.sIx_none, show HT.sIx xs.length xs.length (some (j : Int)) = min j xs.length from HT.sIx_nat xs.length xs.length j]
  simp only [List.drop_zero, Nat.sub_zero]
  rcases Nat.le_total j xs.length with h | h
  · rw [Nat.min_eq_left h]
  · rw [Nat.min_eq_right h, List.take_length, List.take_of_length_le h]
/-- the place of a step among steps that have it -/
theorem idx_facts {s : Stp} {st : List Stp} (h : s ∈ st) : (st.map stepD)[st.idxOf s]? = some (stepD s) ∧ ∀ (m : Nat) (z : PyData), m < st.idxOf s → (st.map stepD)[m]? = some z → PyData.eqv z (stepD s) = false := by
  have hl := List.idxOf_lt_length_iff.mpr h
  refine ⟨by rw [List.getElem?_map, List.getElem?_eq_getElem hl, List.getElem_idxOf]; rfl, fun m z hm hz => ?_⟩
  rw [List.getElem?_map] at hz
  obtain ⟨t, ht, rfl⟩ := Option.map_eq_some_iff.mp hz
  rw [eqv_stepD]
  refine decide_eq_false fun e => ?_
  subst e
  obtain ⟨hm', e⟩ := List.getElem?_eq_some_iff.mp ht
  have hn := List.not_of_lt_findIdx (p := fun y => y == t) (xs := st) (i := m) hm
  rw [e] at hn
  simp at hn
/-- the steps of several fields, one behind the other -/
def intos (r : Fm.Env) (dx dz : Int) : List Fd → List Stp → List Stp × List Nat
  | [], st => (st, [])
  | A :: l, st => ((intos r dx dz l (into (expand A r) dx dz st).1).1, (into (expand A r) dx dz st).2 :: (intos r dx dz l (into (expand A r) dx dz st).1).2)
theorem intos_snoc (r : Fm.Env) (dx dz : Int) (A : Fd) : ∀ (l : List Fd) (st : List Stp), intos r dx dz (l ++ [A]) st = ((into (expand A r) dx dz (intos r dx dz l st).1).1, (intos r dx dz l st).2 ++ [(into (expand A r) dx dz (intos r dx dz l st).1).2])
  | [], st => rfl
  | B :: l, st => by
    show ((intos r dx dz (l ++ [A]) _).1, _ :: (intos r dx dz (l ++ [A]) _).2) = _
    rw [intos_snoc r dx dz A l]
    rfl
theorem intos_len (r : Fm.Env) (dx dz : Int) : ∀ (l : List Fd) (st : List Stp), (intos r dx dz l st).1.length ≤ st.length + (l.map fun A => cn (expand A r)).sum ∧ (intos r dx dz l st).2.length = l.length
  | [], st => ⟨by simp [intos], rfl⟩
  | A :: l, st => by
    have h := intos_len r dx dz l (into (expand A r) dx dz st).1
    have i := (into_ok (expand A r) dx dz st).len
    refine ⟨?_, ?_⟩
    · show (intos r dx dz l _).1.length ≤ _
      rw [List.map_cons, List.sum_cons]
      omega
    · show (_ :: (intos r dx dz l _).2).length = _
      simp [h.2]
end Pf

/-! The exact range of noise over a box: by its least and greatest points. -/
namespace Pf
open PySem L2 Lw Fm Fr Sm Rm
/-- the sum of a row of knots, weighed by the place between two of them -/
def rowK (g s i z S : Int) : Int := (S - z % S) * knotL g s i (z / S) + z % S * knotL g s i (z / S + 1)
def colK (g s x j S : Int) : Int := (S - x % S) * knotL g s (x / S) j + x % S * knotL g s (x / S + 1) j
/-- noise in a closed square, along x -/
theorem noise_cx {g s x z i S : Int} {n : Nat} (hS : (2 : Int) ^ n = S) (S0 : 0 < S) (h1 : i * S ≤ x) (h2 : x ≤ i * S + S) :
    noiseL g s n x z = (rowK g s i z S * S + (rowK g s (i + 1) z S - rowK g s i z S) * (x - i * S)) / (S * S) := by
  have e0 : (i * S) % S = 0 := Int.mul_emod_left i S
  have e1 : (i * S) / S = i := Int.mul_ediv_cancel _ (by omega)
  rw [noise_of hS S0]
  by_cases e : x = i * S + S
  · have m := mod_addS S0 e0
    rw [e, m.1, m.2, e1]
    congr 1
    unfold rowK
    grind
  · have m := mod_add S0 e0 (show 0 ≤ x - i * S by omega) (show x - i * S < S by omega)
    rw [show i * S + (x - i * S) = x by omega, e1] at m
    rw [m.1, m.2]
    congr 1
    unfold rowK
    grind
theorem noise_cz {g s x z j S : Int} {n : Nat} (hS : (2 : Int) ^ n = S) (S0 : 0 < S) (h1 : j * S ≤ z) (h2 : z ≤ j * S + S) :
    noiseL g s n x z = (colK g s x j S * S + (colK g s x (j + 1) S - colK g s x j S) * (z - j * S)) / (S * S) := by
  have e0 : (j * S) % S = 0 := Int.mul_emod_left j S
  have e1 : (j * S) / S = j := Int.mul_ediv_cancel _ (by omega)
  rw [noise_of hS S0]
  by_cases e : z = j * S + S
  · have m := mod_addS S0 e0
    rw [e, m.1, m.2, e1]
    congr 1
    unfold colK
    grind
  · have m := mod_add S0 e0 (show 0 ≤ z - j * S by omega) (show z - j * S < S by omega)
    rw [show j * S + (z - j * S) = z by omega, e1] at m
    rw [m.1, m.2]
    congr 1
    unfold colK
    grind
/-- between two points of a line lies what stands between -/
theorem line_btw {A D W a x b : Int} (W0 : 0 < W) (h1 : a ≤ x) (h2 : x ≤ b) :
    min ((A + D * a) / W) ((A + D * b) / W) ≤ (A + D * x) / W ∧ (A + D * x) / W ≤ max ((A + D * a) / W) ((A + D * b) / W) := by
  by_cases h : 0 ≤ D
  · have l1 := Int.mul_le_mul_of_nonneg_left h1 h
    have l2 := Int.mul_le_mul_of_nonneg_left h2 h
    have d1 : (A + D * a) / W ≤ (A + D * x) / W := Int.ediv_le_ediv W0 (by omega)
    have d2 : (A + D * x) / W ≤ (A + D * b) / W := Int.ediv_le_ediv W0 (by omega)
    omega
  · have l1 := Int.mul_le_mul_of_nonneg_left h1 (show 0 ≤ -D by omega)
    have l2 := Int.mul_le_mul_of_nonneg_left h2 (show 0 ≤ -D by omega)
    rw [Int.neg_mul, Int.neg_mul] at l1 l2
    have d1 : (A + D * x) / W ≤ (A + D * a) / W := Int.ediv_le_ediv W0 (by omega)
    have d2 : (A + D * b) / W ≤ (A + D * x) / W := Int.ediv_le_ediv W0 (by omega)
    omega
/-- two points of one closed square, side by side in a row: what lies between them -/
theorem noise_btx {g s a x b z i S : Int} {n : Nat} (hS : (2 : Int) ^ n = S) (S0 : 0 < S) (h0 : i * S ≤ a) (h3 : b ≤ i * S + S) (h1 : a ≤ x) (h2 : x ≤ b) :
    min (noiseL g s n a z) (noiseL g s n b z) ≤ noiseL g s n x z ∧ noiseL g s n x z ≤ max (noiseL g s n a z) (noiseL g s n b z) := by
  rw [noise_cx (x := a) (i := i) hS S0 h0 (by omega), noise_cx (x := b) (i := i) hS S0 (by omega) h3, noise_cx (x := x) (i := i) hS S0 (by omega) (by omega)]
  exact line_btw (Int.mul_pos S0 S0) (Int.sub_le_sub_right h1 _) (Int.sub_le_sub_right h2 _)
theorem noise_btz {g s x a z b j S : Int} {n : Nat} (hS : (2 : Int) ^ n = S) (S0 : 0 < S) (h0 : j * S ≤ a) (h3 : b ≤ j * S + S) (h1 : a ≤ z) (h2 : z ≤ b) :
    min (noiseL g s n x a) (noiseL g s n x b) ≤ noiseL g s n x z ∧ noiseL g s n x z ≤ max (noiseL g s n x a) (noiseL g s n x b) := by
  rw [noise_cz (z := a) (j := j) hS S0 h0 (by omega), noise_cz (z := b) (j := j) hS S0 (by omega) h3, noise_cz (z := z) (j := j) hS S0 (by omega) (by omega)]
  exact line_btw (Int.mul_pos S0 S0) (Int.sub_le_sub_right h1 _) (Int.sub_le_sub_right h2 _)
/-! least and greatest of a list -/
def lMin : List Int → Int
  | [] => 0
  | a :: r => r.foldl min a
def lMax : List Int → Int
  | [] => 0
  | a :: r => r.foldl max a
theorem foldl_min (r : List Int) : ∀ a : Int, (r.foldl min a = a ∨ r.foldl min a ∈ r) ∧ r.foldl min a ≤ a ∧ ∀ y ∈ r, r.foldl min a ≤ y := by
  induction r with
  | nil => exact fun a => ⟨.inl rfl, Int.le_refl _, fun y hy => nomatch hy⟩
  | cons b r ih =>
    intro a
    obtain ⟨h1, h2, h3⟩ := ih (min a b)
    refine ⟨?_, by show List.foldl min (min a b) r ≤ a; omega, fun y hy => ?_⟩
    · show List.foldl min (min a b) r = a ∨ List.foldl min (min a b) r ∈ b :: r
      rcases h1 with h | h
      · rw [h]
        rcases (show min a b = a ∨ min a b = b by omega) with e | e
        · exact .inl e
        · exact .inr (by rw [e]; exact List.mem_cons_self)
      · exact .inr (List.mem_cons_of_mem _ h)
    · show List.foldl min (min a b) r ≤ y
      rcases List.mem_cons.mp hy with rfl | hy
      · omega
      · exact h3 y hy
theorem foldl_max (r : List Int) : ∀ a : Int, (r.foldl max a = a ∨ r.foldl max a ∈ r) ∧ a ≤ r.foldl max a ∧ ∀ y ∈ r, y ≤ r.foldl max a := by
  induction r with
  | nil => exact fun a => ⟨.inl rfl, Int.le_refl _, fun y hy => nomatch hy⟩
  | cons b r ih =>
    intro a
    obtain ⟨h1, h2, h3⟩ := ih (max a b)
    refine ⟨?_, by show a ≤ List.foldl max (max a b) r; omega, fun y hy => ?_⟩
    · show List.foldl max (max a b) r = a ∨ List.foldl max (max a b) r ∈ b :: r
      rcases h1 with h | h
      · rw [h]
        rcases (show max a b = a ∨ max a b = b by omega) with e | e
        · exact .inl e
        · exact .inr (by rw [e]; exact List.mem_cons_self)
      · exact .inr (List.mem_cons_of_mem _ h)
    · show y ≤ List.foldl max (max a b) r
      rcases List.mem_cons.mp hy with rfl | hy
      · omega
      · exact h3 y hy
theorem lMin_mem {l : List Int} (h : l ≠ []) : lMin l ∈ l := by
  cases l with
  | nil => exact absurd rfl h
  | cons a r =>
    rcases (foldl_min r a).1 with e | e
    · exact List.mem_cons.mpr (.inl e)
    · exact List.mem_cons_of_mem _ e
theorem lMax_mem {l : List Int} (h : l ≠ []) : lMax l ∈ l := by
  cases l with
  | nil => exact absurd rfl h
  | cons a r =>
    rcases (foldl_max r a).1 with e | e
    · exact List.mem_cons.mpr (.inl e)
    · exact List.mem_cons_of_mem _ e
theorem lMin_le {l : List Int} {y : Int} (h : y ∈ l) : lMin l ≤ y := by
  cases l with
  | nil => cases h
  | cons a r =>
    rcases List.mem_cons.mp h with rfl | h
    · exact (foldl_min r y).2.1
    · exact (foldl_min r a).2.2 y h
theorem le_lMax {l : List Int} {y : Int} (h : y ∈ l) : y ≤ lMax l := by
  cases l with
  | nil => cases h
  | cons a r =>
    rcases List.mem_cons.mp h with rfl | h
    · exact (foldl_max r y).2.1
    · exact (foldl_max r a).2.2 y h
theorem lMin_eq {l : List Int} {m : Int} (h : m ∈ l) (k : ∀ y ∈ l, m ≤ y) : lMin l = m := Int.le_antisymm (lMin_le h) (k _ (lMin_mem (List.ne_nil_of_mem h)))
theorem lMax_eq {l : List Int} {m : Int} (h : m ∈ l) (k : ∀ y ∈ l, y ≤ m) : lMax l = m := Int.le_antisymm (k _ (lMax_mem (List.ne_nil_of_mem h))) (le_lMax h)
/-! where a row turns: its ends, and the knots between -/
def turnC (S lo hi : Int) : Nat := if (lo / S + 1) * S < hi then ((hi - 1 - (lo / S + 1) * S) / S).toNat + 1 else 0
def turnsL (S lo hi : Int) : List Int := (lo :: (List.range (turnC S lo hi)).map fun (k : Nat) => (lo / S + 1) * S + k * S) ++ if lo < hi then [hi] else []
theorem lo_div {S lo : Int} (S0 : 0 < S) : lo / S * S ≤ lo ∧ lo < lo / S * S + S := by
  have h := Int.mul_ediv_add_emod lo S
  have m0 := Int.emod_nonneg lo (show S ≠ 0 by omega)
  have m1 := Int.emod_lt_of_pos lo S0
  have c := Int.mul_comm S (lo / S)
  omega
theorem turn_in {S lo hi t : Int} (S0 : 0 < S) (h : lo ≤ hi) (m : t ∈ turnsL S lo hi) : lo ≤ t ∧ t ≤ hi := by
  have d := lo_div (lo := lo) S0
  have e1 : (lo / S + 1) * S = lo / S * S + S := by rw [Int.add_mul, Int.one_mul]
  unfold turnsL at m
  rcases List.mem_append.mp m with m | m
  · rcases List.mem_cons.mp m with rfl | m
    · omega
    · obtain ⟨k, hk, rfl⟩ := List.mem_map.mp m
      have hk := List.mem_range.mp hk
      unfold turnC at hk
      split at hk
      · have q := Int.mul_ediv_add_emod (hi - 1 - (lo / S + 1) * S) S
        have q0 := Int.emod_nonneg (hi - 1 - (lo / S + 1) * S) (show S ≠ 0 by omega)
        have hk2 : (k : Int) ≤ (hi - 1 - (lo / S + 1) * S) / S := by
          have := Int.ediv_nonneg (a := hi - 1 - (lo / S + 1) * S) (b := S) (by omega) (by omega)
          omega
        have l := Int.mul_le_mul_of_nonneg_left hk2 (show 0 ≤ S by omega)
        have l0 := Int.mul_nonneg (show 0 ≤ (k : Int) by omega) (show 0 ≤ S by omega)
        have c := Int.mul_comm S (k : Int)
        omega
      · omega
  · split at m
    · rw [List.mem_singleton.mp m]; omega
    · cases m
/-- each point of a row stands between two turns of one closed square -/
theorem turn_btw {S lo hi x : Int} (S0 : 0 < S) (h1 : lo ≤ x) (h2 : x ≤ hi) : ∃ a b i : Int, a ∈ turnsL S lo hi ∧ b ∈ turnsL S lo hi ∧ i * S ≤ a ∧ b ≤ i * S + S ∧ a ≤ x ∧ x ≤ b := by
  have dl := lo_div (lo := lo) S0
  have dx := lo_div (lo := x) S0
  have e1 : (lo / S + 1) * S = lo / S * S + S := by rw [Int.add_mul, Int.one_mul]
  have mlo : lo ∈ turnsL S lo hi := List.mem_append_left _ List.mem_cons_self
  have mhi : hi ∈ turnsL S lo hi := by
    by_cases e : lo < hi
    · exact List.mem_append_right _ (by rw [if_pos e]; exact List.mem_cons_self)
    · rw [show hi = lo by omega]; rw [show hi = lo by omega] at mlo; exact mlo
  have mk : ∀ k : Nat, (lo / S + 1) * S + k * S < hi → (lo / S + 1) * S + k * S ∈ turnsL S lo hi := fun k hk => by
    have k0 := Int.mul_nonneg (show 0 ≤ (k : Int) by omega) (show 0 ≤ S by omega)
    refine List.mem_append_left _ (List.mem_cons_of_mem _ (List.mem_map.mpr ⟨k, List.mem_range.mpr ?_, rfl⟩))
    unfold turnC
    rw [if_pos (by omega)]
    have : (k : Int) ≤ (hi - 1 - (lo / S + 1) * S) / S := Int.le_ediv_of_mul_le S0 (by omega)
    omega
  have ij : lo / S ≤ x / S := Int.ediv_le_ediv S0 h1
  obtain ⟨d, hd⟩ : ∃ d : Nat, x / S = lo / S + d := ⟨(x / S - lo / S).toNat, by omega⟩
  have ex : x / S * S = lo / S * S + d * S := by rw [hd, Int.add_mul]
  -- the turn at or ahead of x
  obtain ⟨a, ma, ha, hax⟩ : ∃ a, a ∈ turnsL S lo hi ∧ x / S * S ≤ a ∧ a ≤ x := by
    cases d with
    | zero => exact ⟨lo, mlo, by simp at ex; omega, h1⟩
    | succ k =>
      have e : ((k + 1 : Nat) : Int) * S = k * S + S := by rw [Int.natCast_add, Int.add_mul]; simp
      by_cases c : x / S * S < hi
      · exact ⟨x / S * S, by
          have := mk k (by omega)
          rw [show (lo / S + 1) * S + k * S = x / S * S by omega] at this
          exact this, Int.le_refl _, dx.1⟩
      · exact ⟨hi, mhi, by omega, by omega⟩
  obtain ⟨b, mb, hb, hbx⟩ : ∃ b, b ∈ turnsL S lo hi ∧ b ≤ x / S * S + S ∧ x ≤ b := by
    by_cases c : x / S * S + S < hi
    · exact ⟨x / S * S + S, by
        have := mk d (by omega)
        rw [show (lo / S + 1) * S + d * S = x / S * S + S by omega] at this
        exact this, Int.le_refl _, by omega⟩
    · exact ⟨hi, mhi, by omega, h2⟩
  exact ⟨a, b, x / S, ma, mb, ha, hb, hax, hbx⟩
/-! the range -/
def gridL (g s l : Int) (xs zs : List Int) : List Int := xs.flatMap fun x => zs.map fun z => noiseL g s l x z
def sqs (S x0 z0 x1 z1 : Int) : Int := (x1 / S - x0 / S + 1) * (z1 / S - z0 / S + 1)
def exactN (g : Int) : NR := fun s l x0 z0 x1 z1 =>
  let S := (2 : Int) ^ l.toNat
  if 64 < sqs S x0 z0 x1 z1 then (0, 65535) else (lMin (gridL g s l (turnsL S x0 x1) (turnsL S z0 z1)), lMax (gridL g s l (turnsL S x0 x1) (turnsL S z0 z1)))
theorem turns_ne (S lo hi : Int) : lo ∈ turnsL S lo hi := List.mem_append_left _ List.mem_cons_self
theorem grid_mem {g s l x z : Int} {xs zs : List Int} (hx : x ∈ xs) (hz : z ∈ zs) : noiseL g s l x z ∈ gridL g s l xs zs := List.mem_flatMap.mpr ⟨x, hx, List.mem_map.mpr ⟨z, hz, rfl⟩⟩
theorem mem_grid {g s l v : Int} {xs zs : List Int} (h : v ∈ gridL g s l xs zs) : ∃ x z, x ∈ xs ∧ z ∈ zs ∧ v = noiseL g s l x z := by
  obtain ⟨x, hx, h⟩ := List.mem_flatMap.mp h
  obtain ⟨z, hz, rfl⟩ := List.mem_map.mp h
  exact ⟨x, z, hx, hz, rfl⟩
/-- noise in a box lies between its least and greatest at the turns -/
theorem grid_holds {g s x0 z0 x1 z1 x z S : Int} {n : Nat} (hS : (2 : Int) ^ n = S) (S0 : 0 < S) (h1 : x0 ≤ x) (h2 : x ≤ x1) (h3 : z0 ≤ z) (h4 : z ≤ z1) :
    lMin (gridL g s n (turnsL S x0 x1) (turnsL S z0 z1)) ≤ noiseL g s n x z ∧ noiseL g s n x z ≤ lMax (gridL g s n (turnsL S x0 x1) (turnsL S z0 z1)) := by
  obtain ⟨a, b, i, ma, mb, ia, ib, ax, xb⟩ := turn_btw S0 h1 h2
  obtain ⟨c, d, j, mc, md, jc, jd, cz, zd⟩ := turn_btw S0 h3 h4
  have hx := noise_btx (g := g) (s := s) (z := z) hS S0 ia ib ax xb
  have ha := noise_btz (g := g) (s := s) (x := a) hS S0 jc jd cz zd
  have hb := noise_btz (g := g) (s := s) (x := b) hS S0 jc jd cz zd
  have l1 := lMin_le (grid_mem (g := g) (s := s) (l := n) ma mc)
  have l2 := lMin_le (grid_mem (g := g) (s := s) (l := n) ma md)
  have l3 := lMin_le (grid_mem (g := g) (s := s) (l := n) mb mc)
  have l4 := lMin_le (grid_mem (g := g) (s := s) (l := n) mb md)
  have g1 := le_lMax (grid_mem (g := g) (s := s) (l := n) ma mc)
  have g2 := le_lMax (grid_mem (g := g) (s := s) (l := n) ma md)
  have g3 := le_lMax (grid_mem (g := g) (s := s) (l := n) mb mc)
  have g4 := le_lMax (grid_mem (g := g) (s := s) (l := n) mb md)
  omega
theorem noise_log {g s l x z : Int} : noiseL g s l x z = noiseL g s (l.toNat : Int) x z := by
  unfold noiseL
  rw [Int.toNat_natCast]
theorem grid_log {g s l : Int} {xs zs : List Int} : gridL g s l xs zs = gridL g s (l.toNat : Int) xs zs := by
  unfold gridL
  simp only [noise_log (l := l)]
theorem pow_pos2 (n : Nat) : 0 < (2 : Int) ^ n := Int.pow_pos (by decide)
theorem exact_holds (g : Int) : NHolds g (exactN g) := by
  intro s l x0 z0 x1 z1 x z h1 h2 h3 h4
  unfold exactN
  simp only
  split
  · exact noise_in g s l x z
  · have h := grid_holds (g := g) (s := s) (n := l.toNat) rfl (pow_pos2 l.toNat) h1 h2 h3 h4
    rw [← grid_log, ← noise_log] at h
    exact h
/-- bounds that hold every turn hold all -/
theorem exact_le {g s l x0 z0 x1 z1 A B : Int} (hx : x0 ≤ x1) (hz : z0 ≤ z1) (few : sqs (2 ^ l.toNat) x0 z0 x1 z1 ≤ 64) (h : ∀ x z, x0 ≤ x → x ≤ x1 → z0 ≤ z → z ≤ z1 → A ≤ noiseL g s l x z ∧ noiseL g s l x z ≤ B) :
    A ≤ (exactN g s l x0 z0 x1 z1).1 ∧ (exactN g s l x0 z0 x1 z1).2 ≤ B := by
  unfold exactN
  simp only
  rw [if_neg (by omega)]
  have ne := List.ne_nil_of_mem (grid_mem (g := g) (s := s) (l := l) (turns_ne (2 ^ l.toNat) x0 x1) (turns_ne (2 ^ l.toNat) z0 z1))
  obtain ⟨a, b, ha, hb, e⟩ := mem_grid (lMin_mem ne)
  obtain ⟨c, d, hc, hd, e2⟩ := mem_grid (lMax_mem ne)
  have ta := turn_in (pow_pos2 l.toNat) hx ha
  have tb := turn_in (pow_pos2 l.toNat) hz hb
  have tc := turn_in (pow_pos2 l.toNat) hx hc
  have td := turn_in (pow_pos2 l.toNat) hz hd
  exact ⟨e ▸ (h a b ta.1 ta.2 tb.1 tb.2).1, e2 ▸ (h c d tc.1 tc.2 td.1 td.2).2⟩
theorem exact_in (g s l x0 z0 x1 z1 : Int) (hx : x0 ≤ x1) (hz : z0 ≤ z1) : 0 ≤ (exactN g s l x0 z0 x1 z1).1 ∧ (exactN g s l x0 z0 x1 z1).2 ≤ 65535 := by
  by_cases few : 64 < sqs (2 ^ l.toNat) x0 z0 x1 z1
  · unfold exactN
    simp only
    rw [if_pos few]
    exact ⟨by decide, by decide⟩
  · exact exact_le hx hz (by omega) fun x z _ _ _ _ => noise_in g s l x z
theorem sqs_le {S x0 z0 x1 z1 x0' z0' x1' z1' : Int} (S0 : 0 < S) (hx : x0 ≤ x1) (hz : z0 ≤ z1) (h1 : x0' ≤ x0) (h2 : x1 ≤ x1') (h3 : z0' ≤ z0) (h4 : z1 ≤ z1') : sqs S x0 z0 x1 z1 ≤ sqs S x0' z0' x1' z1' := by
  have a1 : x0' / S ≤ x0 / S := Int.ediv_le_ediv S0 h1
  have a2 : x1 / S ≤ x1' / S := Int.ediv_le_ediv S0 h2
  have a3 : z0' / S ≤ z0 / S := Int.ediv_le_ediv S0 h3
  have a4 : z1 / S ≤ z1' / S := Int.ediv_le_ediv S0 h4
  have a5 : x0 / S ≤ x1 / S := Int.ediv_le_ediv S0 hx
  have a6 : z0 / S ≤ z1 / S := Int.ediv_le_ediv S0 hz
  unfold sqs
  exact Int.mul_le_mul (by omega) (by omega) (by omega) (by omega)
theorem exact_mono (g : Int) : NMono (exactN g) (exactN g) := by
  refine ⟨fun s l x0 z0 x1 z1 hx hz => ?_, fun s l x0 z0 x1 z1 x0' z0' x1' z1' hx hz h1 h2 h3 h4 => ?_⟩
  · have h := exact_holds g s l x0 z0 x1 z1 x0 z0 (by omega) hx (by omega) hz
    omega
  · by_cases few : sqs (2 ^ l.toNat) x0' z0' x1' z1' ≤ 64
    · have f2 := sqs_le (S := 2 ^ l.toNat) (pow_pos2 _) hx hz h1 h2 h3 h4
      exact exact_le hx hz (by omega) fun x z a b c d => exact_holds g s l x0' z0' x1' z1' x z (by omega) (by omega) (by omega) (by omega)
    · have h := exact_in g s l x0 z0 x1 z1 hx hz
      have e : exactN g s l x0' z0' x1' z1' = (0, 65535) := by
        unfold exactN
        simp only
        rw [if_pos (by omega)]
      rw [e]
      exact h
theorem exact_wide (g : Int) : NMono (exactN g) wideN := ⟨(exact_mono g).ok, fun s l x0 z0 x1 z1 _ _ _ _ hx hz _ _ _ _ => exact_in g s l x0 z0 x1 z1 hx hz⟩
theorem exact_point (g s l x z : Int) : exactN g s l x z x z = (noiseL g s l x z, noiseL g s l x z) := by
  have few : sqs (2 ^ l.toNat) x z x z ≤ 64 := by unfold sqs; rw [Int.sub_self, Int.sub_self]; decide
  have h := exact_le (g := g) (s := s) (l := l) (A := noiseL g s l x z) (B := noiseL g s l x z) (Int.le_refl x) (Int.le_refl z) few fun x' z' a b c d => by
    rw [show x' = x by omega, show z' = z by omega]
    exact ⟨Int.le_refl _, Int.le_refl _⟩
  have k := exact_holds g s l x z x z x z (by omega) (by omega) (by omega) (by omega)
  refine Prod.ext ?_ ?_ <;> omega
/-- values at some points of the box, all turns among them: their least and greatest are the range -/
theorem exact_of {g s l x0 z0 x1 z1 : Int} {vs : List Int} (hx : x0 ≤ x1) (hz : z0 ≤ z1) (few : sqs (2 ^ l.toNat) x0 z0 x1 z1 ≤ 64)
    (h1 : ∀ v ∈ vs, ∃ x z, x0 ≤ x ∧ x ≤ x1 ∧ z0 ≤ z ∧ z ≤ z1 ∧ v = noiseL g s l x z) (h2 : ∀ x ∈ turnsL (2 ^ l.toNat) x0 x1, ∀ z ∈ turnsL (2 ^ l.toNat) z0 z1, noiseL g s l x z ∈ vs) : exactN g s l x0 z0 x1 z1 = (lMin vs, lMax vs) := by
  have hold : ∀ v ∈ vs, (exactN g s l x0 z0 x1 z1).1 ≤ v ∧ v ≤ (exactN g s l x0 z0 x1 z1).2 := fun v hv => by
    obtain ⟨x, z, a, b, c, d, rfl⟩ := h1 v hv
    exact exact_holds g s l x0 z0 x1 z1 x z a b c d
  have ne := List.ne_nil_of_mem (grid_mem (g := g) (s := s) (l := l) (turns_ne (2 ^ l.toNat) x0 x1) (turns_ne (2 ^ l.toNat) z0 z1))
  have e : exactN g s l x0 z0 x1 z1 = (lMin (gridL g s l (turnsL (2 ^ l.toNat) x0 x1) (turnsL (2 ^ l.toNat) z0 z1)), lMax (gridL g s l (turnsL (2 ^ l.toNat) x0 x1) (turnsL (2 ^ l.toNat) z0 z1))) := by
    unfold exactN
    simp only
    rw [if_neg (by omega)]
  refine Prod.ext ?_ ?_
  · refine (lMin_eq ?_ fun y hy => (hold y hy).1).symm
    rw [e]
    obtain ⟨x, z, a, b, e2⟩ := mem_grid (lMin_mem ne)
    dsimp only
    rw [e2]
    exact h2 x a z b
  · refine (lMax_eq ?_ fun y hy => (hold y hy).2).symm
    rw [e]
    obtain ⟨x, z, a, b, e2⟩ := mem_grid (lMax_mem ne)
    dsimp only
    rw [e2]
    exact h2 x a z b
/-- a turn is the first or the last point of its square within the row -/
theorem turn_sq {S lo hi t : Int} (S0 : 0 < S) (h : lo ≤ hi) (m : t ∈ turnsL S lo hi) : ∃ i, lo / S ≤ i ∧ i ≤ hi / S ∧ (t = max lo (i * S) ∨ t = min hi (i * S + S - 1)) := by
  have ti := turn_in S0 h m
  have dl := lo_div (lo := lo) S0
  have dh := lo_div (lo := hi) S0
  have lh : lo / S ≤ hi / S := Int.ediv_le_ediv S0 h
  unfold turnsL at m
  rcases List.mem_append.mp m with m | m
  · rcases List.mem_cons.mp m with rfl | m
    · exact ⟨t / S, Int.le_refl _, lh, .inl (by omega)⟩
    · obtain ⟨k, hk, rfl⟩ := List.mem_map.mp m
      have e : (lo / S + 1) * S + (k : Int) * S = (lo / S + 1 + k) * S := by rw [← Int.add_mul]
      rw [e] at ti ⊢
      refine ⟨lo / S + 1 + k, by omega, ?_, .inl (by omega)⟩
      exact Int.le_ediv_of_mul_le S0 ti.2
  · split at m
    · rw [List.mem_singleton.mp m]
      exact ⟨hi / S, lh, Int.le_refl _, .inr (by omega)⟩
    · cases m
/-- first and last point of a square within the row lie in the row -/
theorem sq_in {S lo hi i : Int} (S0 : 0 < S) (h : lo ≤ hi) (h1 : lo / S ≤ i) (h2 : i ≤ hi / S) : (lo ≤ max lo (i * S) ∧ max lo (i * S) ≤ hi) ∧ lo ≤ min hi (i * S + S - 1) ∧ min hi (i * S + S - 1) ≤ hi := by
  have dl := lo_div (lo := lo) S0
  have dh := lo_div (lo := hi) S0
  have a := Int.mul_le_mul_of_nonneg_right h1 (show 0 ≤ S by omega)
  have b := Int.mul_le_mul_of_nonneg_right h2 (show 0 ≤ S by omega)
  omega
theorem cols77 {S a b : Int} (S0 : 0 < S) (S1 : S ≤ 256) (h : 20000 ≤ b - a) : 77 ≤ b / S - a / S := by
  have da := lo_div (lo := a) S0
  have db := lo_div (lo := b) S0
  have e : (b / S - a / S) * S = b / S * S - a / S * S := Int.sub_mul _ _ _
  by_cases hc : b / S - a / S ≤ 76
  · have m := Int.mul_le_mul_of_nonneg_right hc (show 0 ≤ S by omega)
    omega
  · omega
/-- over a wide box it is that of all noise -/
theorem exact_many {g s l x0 z0 x1 z1 : Int} (S1 : (2 : Int) ^ l.toNat ≤ 256) (wx : 20000 ≤ x1 - x0) (wz : 20000 ≤ z1 - z0) : exactN g s l x0 z0 x1 z1 = (0, 65535) := by
  have c := cols77 (pow_pos2 l.toNat) S1 wx
  have d := cols77 (pow_pos2 l.toNat) S1 wz
  unfold exactN
  simp only
  refine if_pos ?_
  unfold sqs
  have m := Int.mul_le_mul_of_nonneg_left (show 1 ≤ z1 / 2 ^ l.toNat - z0 / 2 ^ l.toNat + 1 by omega) (show 0 ≤ x1 / 2 ^ l.toNat - x0 / 2 ^ l.toNat + 1 by omega)
  omega
end Pf

/-! The exact range of noise: over wide boxes, over one point; steps whose shifts are small. -/
namespace Pf
open PySem L2 Lw Fm Fr Sm Rm
theorem exact_ok (g : Int) : NOk (exactN g) := by
  intro s l x0 z0 x1 z1
  unfold exactN
  simp only
  split
  · exact ⟨⟨by decide, by decide⟩, by decide, by decide⟩
  · have ne := List.ne_nil_of_mem (grid_mem (g := g) (s := s) (l := l) (turns_ne (2 ^ l.toNat) x0 x1) (turns_ne (2 ^ l.toNat) z0 z1))
    obtain ⟨a, b, _, _, e⟩ := mem_grid (lMin_mem ne)
    obtain ⟨c, d, _, _, e2⟩ := mem_grid (lMax_mem ne)
    have h1 := noise_in g s l a b
    have h2 := noise_in g s l c d
    rw [← e] at h1
    rw [← e2] at h2
    exact ⟨h1, h2⟩
theorem pow256 {l : Int} (h0 : 0 ≤ l) (h8 : l ≤ 8) : (2 : Int) ^ l.toNat ≤ 256 := by
  obtain ⟨S, _, e, _, h, _⟩ := log_pow h0 h8
  rw [e]
  exact h
theorem range_wide {g : Int} : ∀ (e : Ex) (x0 z0 x1 z1 : Int), OkE e → 20000 ≤ x1 - x0 → 20000 ≤ z1 - z0 → rangeG (exactN g) e x0 z0 x1 z1 = rangeG wideN e x0 z0 x1 z1
  | .whole _, _, _, _, _, _, _, _ => rfl
  | .px, _, _, _, _, _, _, _ => rfl
  | .pz, _, _, _, _, _, _, _ => rfl
  | .noise s l, x0, z0, x1, z1, h, wx, wz => exact_many (pow256 h.2.1 h.2.2) wx wz
  | .two w a b, x0, z0, x1, z1, h, wx, wz => by simp only [rangeG]; rw [range_wide a _ _ _ _ h.1 wx wz, range_wide b _ _ _ _ h.2 wx wz]
  | .over a n, x0, z0, x1, z1, h, wx, wz => by simp only [rangeG]; rw [range_wide a _ _ _ _ h.1 wx wz]
  | .bel a b c d, x0, z0, x1, z1, h, wx, wz => by simp only [rangeG]; rw [range_wide a _ _ _ _ h.1 wx wz, range_wide b _ _ _ _ h.2.1 wx wz, range_wide c _ _ _ _ h.2.2.1 wx wz, range_wide d _ _ _ _ h.2.2.2 wx wz]
  | .shift dx dz a, x0, z0, x1, z1, h, wx, wz => range_wide a _ _ _ _ h.2.2 (by omega) (by omega)
theorem all_wide {g : Int} : ∀ (e : Ex) (x0 z0 x1 z1 : Int), OkE e → 20000 ≤ x1 - x0 → 20000 ≤ z1 - z0 → allE (exactN g) e x0 z0 x1 z1 = allE wideN e x0 z0 x1 z1
  | .whole _, _, _, _, _, _, _, _ => rfl
  | .px, _, _, _, _, _, _, _ => rfl
  | .pz, _, _, _, _, _, _, _ => rfl
  | .noise s l, x0, z0, x1, z1, h, wx, wz => by simp only [allE]; rw [range_wide _ _ _ _ _ h wx wz]
  | .two w a b, x0, z0, x1, z1, h, wx, wz => by simp only [allE]; rw [range_wide _ _ _ _ _ h wx wz, all_wide a _ _ _ _ h.1 wx wz, all_wide b _ _ _ _ h.2 wx wz]
  | .over a n, x0, z0, x1, z1, h, wx, wz => by simp only [allE]; rw [range_wide _ _ _ _ _ h wx wz, all_wide a _ _ _ _ h.1 wx wz]
  | .bel a b c d, x0, z0, x1, z1, h, wx, wz => by simp only [allE]; rw [range_wide _ _ _ _ _ h wx wz, all_wide a _ _ _ _ h.1 wx wz, all_wide b _ _ _ _ h.2.1 wx wz, all_wide c _ _ _ _ h.2.2.1 wx wz, all_wide d _ _ _ _ h.2.2.2 wx wz]
  | .shift dx dz a, x0, z0, x1, z1, h, wx, wz => by simp only [allE]; rw [range_wide _ _ _ _ _ h wx wz, all_wide a _ _ _ _ h.2.2 (by omega) (by omega)]
theorem mn4_same (n : Int) : mn4 n n n n = n := by unfold mn4; omega
theorem mx4_same (n : Int) : mx4 n n n n = n := by unfold mx4; omega
theorem rng_point (w : W2) (a b : Int) : w.rng (a, a) (b, b) = (w.op a b, w.op a b) := by
  cases w with
  | plus => rfl
  | less => rfl
  | times => simp only [W2.rng, W2.op, mn4_same, mx4_same]
  | least => refine Prod.ext ?_ ?_ <;> (simp only [W2.rng, W2.op]; omega)
  | most => refine Prod.ext ?_ ?_ <;> (simp only [W2.rng, W2.op]; omega)
theorem range_point {g : Int} : ∀ (e : Ex) (x z : Int), rangeG (exactN g) e x z x z = (valE e g x z, valE e g x z)
  | .whole _, _, _ => rfl
  | .px, _, _ => rfl
  | .pz, _, _ => rfl
  | .noise s l, x, z => exact_point g s l x z
  | .two w a b, x, z => by simp only [rangeG]; rw [range_point a, range_point b, rng_point]; rfl
  | .over a n, x, z => by simp only [rangeG]; rw [range_point a]; rfl
  | .bel a b c d, x, z => by
    simp only [rangeG]
    rw [range_point a, range_point b, range_point c, range_point d]
    unfold belR
    simp only [valE]
    by_cases h : valE a g x z < valE b g x z
    · rw [if_pos h, if_pos h]
    · rw [if_neg h, if_neg h, if_pos (by omega)]
  | .shift dx dz a, x, z => range_point a _ _
/-! ### steps whose shifts are small -/
def OkSh : Stp → Prop
  | .noise _ _ dx dz => dx.natAbs ≤ 100000000000 ∧ dz.natAbs ≤ 100000000000
  | _ => True
def ShS (st : List Stp) : Prop := ∀ s ∈ st, OkSh s
theorem shS_nil : ShS [] := fun s hs => nomatch hs
theorem shS_put {st : List Stp} {s : Stp} (h : ShS st) (hs : OkSh s) : ShS (put st s).1 := by
  unfold put
  split
  · exact h
  · intro t ht
    rcases List.mem_append.mp ht with ht | ht
    · exact h t ht
    · rw [List.mem_singleton.mp ht]
      exact hs
theorem cn_pos : ∀ e : Ex, 1 ≤ cn e
  | .whole _ => Nat.le_refl 1
  | .px => Nat.le_refl 1
  | .pz => Nat.le_refl 1
  | .noise _ _ => Nat.le_refl 1
  | .two _ a b => by simp only [cn]; omega
  | .over a _ => by simp only [cn]; omega
  | .bel a b c d => by simp only [cn]; omega
  | .shift _ _ a => by simp only [cn]; omega
theorem shS_into : ∀ (e : Ex) (dx dz : Int) (st : List Stp), OkE e → dx.natAbs + 1000 * cn e ≤ 100000000000 → dz.natAbs + 1000 * cn e ≤ 100000000000 → ShS st → ShS (into e dx dz st).1
  | .whole _, _, _, st, _, _, _, h => shS_put h True.intro
  | .px, _, _, st, _, _, _, h => shS_put h True.intro
  | .pz, _, _, st, _, _, _, h => shS_put h True.intro
  | .noise _ _, dx, dz, st, _, hx, hz, h => shS_put h ⟨by omega, by omega⟩
  | .two _ a b, dx, dz, st, o, hx, hz, h => by
    simp only [cn] at hx hz
    exact shS_put (shS_into b dx dz _ o.2 (by omega) (by omega) (shS_into a dx dz st o.1 (by omega) (by omega) h)) True.intro
  | .over a _, dx, dz, st, o, hx, hz, h => by
    simp only [cn] at hx hz
    exact shS_put (shS_into a dx dz st o.1 (by omega) (by omega) h) True.intro
  | .bel a b c d, dx, dz, st, o, hx, hz, h => by
    simp only [cn] at hx hz
    exact shS_put (shS_into d dx dz _ o.2.2.2 (by omega) (by omega) (shS_into c dx dz _ o.2.2.1 (by omega) (by omega) (shS_into b dx dz _ o.2.1 (by omega) (by omega) (shS_into a dx dz st o.1 (by omega) (by omega) h)))) True.intro
  | .shift ex ez a, dx, dz, st, o, hx, hz, h => by
    simp only [cn] at hx hz
    have h1 : -1000 ≤ ex ∧ ex ≤ 1000 := o.1
    have h2 : -1000 ≤ ez ∧ ez ≤ 1000 := o.2.1
    exact shS_into a (dx + ex) (dz + ez) st o.2.2 (by omega) (by omega) h
theorem shS_steps {e : Ex} (o : OkE e) (c : cn e ≤ 900) : ShS (stepsE e) := shS_into e 0 0 [] o (by omega) (by omega) shS_nil
/-- over a wide box the steps' ranges are those of all noise -/
theorem run_wide {g x0 z0 x1 z1 : Int} (wx : 20000 ≤ x1 - x0) (wz : 20000 ≤ z1 - z0) (st : List Stp) (h : OkSs st) : (rngA (exactN g) x0 z0 x1 z1).run st = (rngA wideN x0 z0 x1 z1).run st := by
  revert h
  refine snoc_ind (P := fun st => OkSs st → (rngA (exactN g) x0 z0 x1 z1).run st = (rngA wideN x0 z0 x1 z1).run st) (fun _ => rfl) (fun st s ih h => ?_) st
  rw [run_snoc, run_snoc, ih fun t ht => h t (List.mem_append_left _ ht)]
  congr 1
  have hs := h s (List.mem_append_right _ (List.mem_singleton.mpr rfl))
  cases s with
  | noise s l dx dz =>
    have e : exactN g s l (x0 + dx) (z0 + dz) (x1 + dx) (z1 + dz) = (0, 65535) := exact_many (pow256 hs.1 hs.2) (by omega) (by omega)
    show [exactN g s l (x0 + dx) (z0 + dz) (x1 + dx) (z1 + dz)] = [(0, 65535)]
    rw [e]
  | _ => rfl
end Pf

/-! Fields put together: their ranges near the land, their sizes; steps of a field twice. -/
namespace Pf
open PySem L2 Lw Fm Fr Sm Rm
/-- a box at most r beyond the land -/
structure Nb (r x0 z0 x1 z1 : Int) : Prop where
  hx : x0 ≤ x1
  hz : z0 ≤ z1
  a : -1000000 - r ≤ x0
  b : x1 ≤ 1000000 + r
  c : -1000000 - r ≤ z0
  d : z1 ≤ 1000000 + r
theorem Nb.le {r s x0 z0 x1 z1 : Int} (h : Nb r x0 z0 x1 z1) (l : r ≤ s) : Nb s x0 z0 x1 z1 := by
  obtain ⟨h1, h2, h3, h4, h5, h6⟩ := h
  exact ⟨h1, h2, by omega, by omega, by omega, by omega⟩
/-- what is known of a field without names: r its room beyond the land, K for the bits of places -/
structure Ne (e : Ex) (r : Int) (K c v : Nat) (B : Int) : Prop where
  ok : OkE e
  cn : cn e ≤ c
  vb : ∀ k, 34 ≤ k → k ≤ K → vb e k ≤ v
  all : ∀ x0 z0 x1 z1, Nb r x0 z0 x1 z1 → ∀ p ∈ allE wideN e x0 z0 x1 z1, -(1000000000000000000000000000000 : Int) ≤ p.1 ∧ p.2 ≤ (1000000000000000000000000000000 : Int)
  lo : ∀ x0 z0 x1 z1, Nb r x0 z0 x1 z1 → -B ≤ (rangeG wideN e x0 z0 x1 z1).1
  hi : ∀ x0 z0 x1 z1, Nb r x0 z0 x1 z1 → (rangeG wideN e x0 z0 x1 z1).2 ≤ B
theorem Ne.or {e : Ex} {r : Int} {K c v : Nat} {B : Int} (h : Ne e r K c v B) {x0 z0 x1 z1 : Int} (n : Nb r x0 z0 x1 z1) : (rangeG wideN e x0 z0 x1 z1).1 ≤ (rangeG wideN e x0 z0 x1 z1).2 := range_ok wide_mono e x0 z0 x1 z1 h.ok n.hx n.hz
theorem ne_whole {n r B : Int} {K : Nat} (h : -999999999 ≤ n ∧ n ≤ 999999999) (h1 : -B ≤ n) (h2 : n ≤ B) : Ne (.whole n) r K 1 34 B :=
  ⟨h, Nat.le_refl 1, fun _ _ _ => Nat.le_refl 34, fun x0 z0 x1 z1 nb p hp => by rw [List.mem_singleton.mp hp]; show -(1000000000000000000000000000000 : Int) ≤ n ∧ n ≤ (1000000000000000000000000000000 : Int); omega, fun _ _ _ _ _ => h1, fun _ _ _ _ _ => h2⟩
theorem ne_px {r : Int} {K : Nat} (h : r ≤ 10000) : Ne .px r K 1 K 1010000 :=
  ⟨True.intro, Nat.le_refl 1, fun _ _ h => h, fun x0 z0 x1 z1 nb p hp => by rw [List.mem_singleton.mp hp]; have := nb.a; have := nb.b; show -(1000000000000000000000000000000 : Int) ≤ x0 ∧ x1 ≤ (1000000000000000000000000000000 : Int); omega, fun x0 z0 x1 z1 nb => by have := nb.a; show -1010000 ≤ x0; omega, fun x0 z0 x1 z1 nb => by have := nb.b; show x1 ≤ 1010000; omega⟩
theorem ne_pz {r : Int} {K : Nat} (h : r ≤ 10000) : Ne .pz r K 1 K 1010000 :=
  ⟨True.intro, Nat.le_refl 1, fun _ _ h => h, fun x0 z0 x1 z1 nb p hp => by rw [List.mem_singleton.mp hp]; have := nb.c; have := nb.d; show -(1000000000000000000000000000000 : Int) ≤ z0 ∧ z1 ≤ (1000000000000000000000000000000 : Int); omega, fun x0 z0 x1 z1 nb => by have := nb.c; show -1010000 ≤ z0; omega, fun x0 z0 x1 z1 nb => by have := nb.d; show z1 ≤ 1010000; omega⟩
theorem ne_noise {s l r : Int} {K : Nat} (h : (0 ≤ s ∧ s ≤ 1000000000) ∧ 0 ≤ l ∧ l ≤ 8) : Ne (.noise s l) r K 1 17 65535 :=
  ⟨h, Nat.le_refl 1, fun _ _ _ => Nat.le_refl 17, fun x0 z0 x1 z1 nb p hp => by rw [List.mem_singleton.mp hp]; show -(1000000000000000000000000000000 : Int) ≤ (0 : Int) ∧ (65535 : Int) ≤ (1000000000000000000000000000000 : Int); decide, fun _ _ _ _ _ => (by decide : -65535 ≤ (0 : Int)), fun _ _ _ _ _ => Int.le_refl 65535⟩
theorem ne_mono {e : Ex} {r r' : Int} {K K' c c' v v' : Nat} {B B' : Int} (h : Ne e r K c v B) (h1 : r' ≤ r) (h2 : K' ≤ K) (h3 : c ≤ c') (h4 : v ≤ v') (h5 : B ≤ B') : Ne e r' K' c' v' B' :=
  ⟨h.ok, Nat.le_trans h.cn h3, fun k a b => Nat.le_trans (h.vb k a (by omega)) h4, fun x0 z0 x1 z1 nb => h.all _ _ _ _ (nb.le h1), fun x0 z0 x1 z1 nb => by have := h.lo _ _ _ _ (nb.le h1); omega, fun x0 z0 x1 z1 nb => by have := h.hi _ _ _ _ (nb.le h1); omega⟩
theorem ne_two {w : W2} {a b : Ex} {r : Int} {K c1 c2 v1 v2 : Nat} {B1 B2 : Int} (hw : w ≠ .times) (ha : Ne a r K c1 v1 B1) (hb : Ne b r K c2 v2 B2) (h : B1 + B2 ≤ (1000000000000000000000000000000 : Int)) (p1 : 0 ≤ B1) (p2 : 0 ≤ B2) : Ne (.two w a b) r K (1 + (c1 + c2)) (max v1 v2 + 1) (B1 + B2) := by
  have top : ∀ x0 z0 x1 z1, Nb r x0 z0 x1 z1 → -(B1 + B2) ≤ (w.rng (rangeG wideN a x0 z0 x1 z1) (rangeG wideN b x0 z0 x1 z1)).1 ∧ (w.rng (rangeG wideN a x0 z0 x1 z1) (rangeG wideN b x0 z0 x1 z1)).2 ≤ B1 + B2 := fun x0 z0 x1 z1 nb => by
    have e1 := ha.lo _ _ _ _ nb
    have e2 := ha.hi _ _ _ _ nb
    have e3 := hb.lo _ _ _ _ nb
    have e4 := hb.hi _ _ _ _ nb
    have e5 := ha.or nb
    have e6 := hb.or nb
    cases w with
    | times => exact absurd rfl hw
    | _ => simp only [W2.rng]; omega
  refine ⟨⟨ha.ok, hb.ok⟩, by have := ha.cn; have := hb.cn; simp only [Fm.cn]; omega, fun k k0 k1 => by
    have e1 := ha.vb k k0 k1
    have e2 := hb.vb k k0 k1
    cases w with
    | times => exact absurd rfl hw
    | _ => simp only [Fm.vb]; omega, fun x0 z0 x1 z1 nb p hp => ?_, fun x0 z0 x1 z1 nb => (top _ _ _ _ nb).1, fun x0 z0 x1 z1 nb => (top _ _ _ _ nb).2⟩
  rcases List.mem_cons.mp hp with rfl | hp
  · have t := top _ _ _ _ nb
    simp only [rangeG]
    omega
  · rcases List.mem_append.mp hp with hp | hp
    · exact ha.all _ _ _ _ nb p hp
    · exact hb.all _ _ _ _ nb p hp
theorem ne_times {a b : Ex} {r : Int} {K c1 c2 v1 v2 : Nat} {B1 B2 : Int} (ha : Ne a r K c1 v1 B1) (hb : Ne b r K c2 v2 B2) (h : B1 * B2 ≤ (1000000000000000000000000000000 : Int)) (p1 : 0 ≤ B1) (p2 : 0 ≤ B2) : Ne (.two .times a b) r K (1 + (c1 + c2)) (v1 + v2) (B1 * B2) := by
  have mb : ∀ {i j : Int}, -B1 ≤ i → i ≤ B1 → -B2 ≤ j → j ≤ B2 → -(B1 * B2) ≤ i * j ∧ i * j ≤ B1 * B2 := fun {i j} h1 h2 h3 h4 => by
    have h := Nat.mul_le_mul (show i.natAbs ≤ B1.natAbs by omega) (show j.natAbs ≤ B2.natAbs by omega)
    rw [← Int.natAbs_mul, ← Int.natAbs_mul] at h
    have h0 := Int.mul_nonneg p1 p2
    omega
  have top : ∀ x0 z0 x1 z1, Nb r x0 z0 x1 z1 → -(B1 * B2) ≤ (W2.times.rng (rangeG wideN a x0 z0 x1 z1) (rangeG wideN b x0 z0 x1 z1)).1 ∧ (W2.times.rng (rangeG wideN a x0 z0 x1 z1) (rangeG wideN b x0 z0 x1 z1)).2 ≤ B1 * B2 := fun x0 z0 x1 z1 nb => by
    have e1 := ha.lo _ _ _ _ nb
    have e2 := ha.hi _ _ _ _ nb
    have e3 := hb.lo _ _ _ _ nb
    have e4 := hb.hi _ _ _ _ nb
    have e5 := ha.or nb
    have e6 := hb.or nb
    have m1 := mb (i := (rangeG wideN a x0 z0 x1 z1).1) (j := (rangeG wideN b x0 z0 x1 z1).1) (by omega) (by omega) (by omega) (by omega)
    have m2 := mb (i := (rangeG wideN a x0 z0 x1 z1).1) (j := (rangeG wideN b x0 z0 x1 z1).2) (by omega) (by omega) (by omega) (by omega)
    have m3 := mb (i := (rangeG wideN a x0 z0 x1 z1).2) (j := (rangeG wideN b x0 z0 x1 z1).1) (by omega) (by omega) (by omega) (by omega)
    have m4 := mb (i := (rangeG wideN a x0 z0 x1 z1).2) (j := (rangeG wideN b x0 z0 x1 z1).2) (by omega) (by omega) (by omega) (by omega)
    simp only [W2.rng, mn4, mx4]
    omega
  refine ⟨⟨ha.ok, hb.ok⟩, by have := ha.cn; have := hb.cn; simp only [Fm.cn]; omega, fun k k0 k1 => by
    have e1 := ha.vb k k0 k1
    have e2 := hb.vb k k0 k1
    simp only [Fm.vb]
    omega, fun x0 z0 x1 z1 nb p hp => ?_, fun x0 z0 x1 z1 nb => (top _ _ _ _ nb).1, fun x0 z0 x1 z1 nb => (top _ _ _ _ nb).2⟩
  rcases List.mem_cons.mp hp with rfl | hp
  · have t := top _ _ _ _ nb
    simp only [rangeG]
    omega
  · rcases List.mem_append.mp hp with hp | hp
    · exact ha.all _ _ _ _ nb p hp
    · exact hb.all _ _ _ _ nb p hp
theorem ne_over {a : Ex} {n r : Int} {K c v : Nat} {B : Int} (ha : Ne a r K c v B) (n0 : 1 ≤ n) (n1 : n ≤ 1000000000) (h : B ≤ (1000000000000000000000000000000 : Int)) (p : 0 ≤ B) : Ne (.over a n) r K (1 + c) v B := by
  have q0 : ∀ i : Int, -B ≤ i → -B ≤ i / n := fun i hi => by
    by_cases h0 : 0 ≤ i
    · have := Int.ediv_nonneg h0 (show 0 ≤ n by omega)
      omega
    · have h2 : i ≤ i / n := by
        refine (Int.le_ediv_iff_mul_le (by omega)).mpr ?_
        have := Int.mul_le_mul_of_nonpos_left (a := i) (by omega) n0
        omega
      omega
  have q1 : ∀ i : Int, i ≤ B → i / n ≤ B := fun i hi => by
    by_cases h0 : 0 ≤ i
    · have := Int.ediv_le_self n h0
      omega
    · have := Int.ediv_neg_of_neg_of_pos (show i < 0 by omega) (show 0 < n by omega)
      omega
  refine ⟨⟨ha.ok, n0, n1⟩, by have := ha.cn; simp only [Fm.cn]; omega, ha.vb, fun x0 z0 x1 z1 nb p hp => ?_, fun x0 z0 x1 z1 nb => q0 _ (ha.lo _ _ _ _ nb), fun x0 z0 x1 z1 nb => q1 _ (ha.hi _ _ _ _ nb)⟩
  rcases List.mem_cons.mp hp with rfl | hp
  · have t := q0 _ (ha.lo _ _ _ _ nb)
    have u := q1 _ (ha.hi _ _ _ _ nb)
    simp only [rangeG]
    omega
  · exact ha.all _ _ _ _ nb p hp
theorem ne_bel {a b e f : Ex} {r : Int} {K c1 c2 c3 c4 v1 v2 v3 v4 : Nat} {B1 B2 B3 B4 : Int} (ha : Ne a r K c1 v1 B1) (hb : Ne b r K c2 v2 B2) (he : Ne e r K c3 v3 B3) (hf : Ne f r K c4 v4 B4) (h : max B3 B4 ≤ (1000000000000000000000000000000 : Int)) :
    Ne (.bel a b e f) r K (1 + (c1 + (c2 + (c3 + c4)))) (max (max v1 v2) (max v3 v4)) (max B3 B4) := by
  have top : ∀ x0 z0 x1 z1, Nb r x0 z0 x1 z1 → -(max B3 B4) ≤ (rangeG wideN (.bel a b e f) x0 z0 x1 z1).1 ∧ (rangeG wideN (.bel a b e f) x0 z0 x1 z1).2 ≤ max B3 B4 := fun x0 z0 x1 z1 nb => by
    have e1 := he.lo _ _ _ _ nb
    have e2 := he.hi _ _ _ _ nb
    have e3 := hf.lo _ _ _ _ nb
    have e4 := hf.hi _ _ _ _ nb
    simp only [rangeG, belR]
    split
    · omega
    · split
      · omega
      · show -(max B3 B4) ≤ min _ _ ∧ max _ _ ≤ max B3 B4
        omega
  refine ⟨⟨ha.ok, hb.ok, he.ok, hf.ok⟩, by have := ha.cn; have := hb.cn; have := he.cn; have := hf.cn; simp only [Fm.cn]; omega, fun k k0 k1 => by
    have e1 := ha.vb k k0 k1
    have e2 := hb.vb k k0 k1
    have e3 := he.vb k k0 k1
    have e4 := hf.vb k k0 k1
    simp only [Fm.vb]
    omega, fun x0 z0 x1 z1 nb p hp => ?_, fun x0 z0 x1 z1 nb => (top _ _ _ _ nb).1, fun x0 z0 x1 z1 nb => (top _ _ _ _ nb).2⟩
  rcases List.mem_cons.mp hp with rfl | hp
  · have t := top _ _ _ _ nb
    omega
  · rcases List.mem_append.mp hp with hp | hp
    · exact ha.all _ _ _ _ nb p hp
    · rcases List.mem_append.mp hp with hp | hp
      · exact hb.all _ _ _ _ nb p hp
      · rcases List.mem_append.mp hp with hp | hp
        · exact he.all _ _ _ _ nb p hp
        · exact hf.all _ _ _ _ nb p hp
theorem ne_shift {a : Ex} {dx dz r s : Int} {K c v : Nat} {B : Int} (ha : Ne a r (K + 1) c v B) (hx : -s ≤ dx ∧ dx ≤ s) (hz : -s ≤ dz ∧ dz ≤ s) (s1 : s ≤ 1000) (h : B ≤ (1000000000000000000000000000000 : Int)) : Ne (.shift dx dz a) (r - s) K (1 + c) v B := by
  have sb : ∀ {x0 z0 x1 z1}, Nb (r - s) x0 z0 x1 z1 → Nb r (x0 + dx) (z0 + dz) (x1 + dx) (z1 + dz) := fun {x0 z0 x1 z1} h => by
    obtain ⟨h1, h2, h3, h4, h5, h6⟩ := h
    exact ⟨by omega, by omega, by omega, by omega, by omega, by omega⟩
  refine ⟨⟨⟨by omega, by omega⟩, ⟨by omega, by omega⟩, ha.ok⟩, by have := ha.cn; simp only [Fm.cn]; omega, fun k k0 k1 => ha.vb (k + 1) (by omega) (by omega), fun x0 z0 x1 z1 nb p hp => ?_, fun x0 z0 x1 z1 nb => ha.lo _ _ _ _ (sb nb), fun x0 z0 x1 z1 nb => ha.hi _ _ _ _ (sb nb)⟩
  rcases List.mem_cons.mp hp with rfl | hp
  · have t := ha.lo _ _ _ _ (sb nb)
    have u := ha.hi _ _ _ _ (sb nb)
    simp only [rangeG]
    omega
  · exact ha.all _ _ _ _ (sb nb) p hp
theorem ne_shift2 {e : Ex} {a b c d r s : Int} {K n v : Nat} {B : Int} (h : Ne e r (K + 1 + 1) n v B) (ha : -1000 ≤ a ∧ a ≤ 1000) (hb : -1000 ≤ b ∧ b ≤ 1000) (hc : -1000 ≤ c ∧ c ≤ 1000) (hd : -1000 ≤ d ∧ d ≤ 1000) (hx : -s ≤ a + c ∧ a + c ≤ s) (hz : -s ≤ b + d ∧ b + d ≤ s) (hB : B ≤ (1000000000000000000000000000000 : Int)) :
    Ne (.shift a b (.shift c d e)) (r - s) K (1 + (1 + n)) v B := by
  have sb : ∀ {x0 z0 x1 z1}, Nb (r - s) x0 z0 x1 z1 → Nb r (x0 + a + c) (z0 + b + d) (x1 + a + c) (z1 + b + d) := fun {x0 z0 x1 z1} h => by
    obtain ⟨h1, h2, h3, h4, h5, h6⟩ := h
    exact ⟨by omega, by omega, by omega, by omega, by omega, by omega⟩
  refine ⟨⟨ha, hb, hc, hd, h.ok⟩, by have := h.cn; simp only [Fm.cn]; omega, fun k k0 k1 => h.vb (k + 1 + 1) (by omega) (by omega), fun x0 z0 x1 z1 nb p hp => ?_, fun x0 z0 x1 z1 nb => h.lo _ _ _ _ (sb nb), fun x0 z0 x1 z1 nb => h.hi _ _ _ _ (sb nb)⟩
  have t := h.lo _ _ _ _ (sb nb)
  have u := h.hi _ _ _ _ (sb nb)
  rcases List.mem_cons.mp hp with rfl | hp
  · simp only [rangeG]
    omega
  · rcases List.mem_cons.mp hp with rfl | hp
    · simp only [rangeG]
      omega
    · exact h.all _ _ _ _ (sb nb) p hp
/-! ### a field put in again -/
theorem put_again {st : List Stp} {s : Stp} (h : s ∈ st) : (put st s).1 = st := by unfold put; rw [if_pos h]
theorem put_idx {st st' : List Stp} {s : Stp} (h : st <+: st') (m : s ∈ st) : (put st' s) = (st', st.idxOf s) := by
  obtain ⟨t, rfl⟩ := h
  unfold put
  rw [if_pos (List.mem_append_left _ m), List.idxOf_append, if_pos m]
theorem put_fst_mem (st : List Stp) (s : Stp) : s ∈ (put st s).1 := by
  unfold put
  split
  · assumption
  · simp
theorem put_num (st : List Stp) (s : Stp) : (put st s).2 = (put st s).1.idxOf s := by
  unfold put
  split
  · rfl
  · rename_i h
    dsimp only
    rw [List.idxOf_append, if_neg h]
    simp
theorem put_more {st st' : List Stp} {s : Stp} (h : (put st s).1 <+: st') : put st' s = (st', (put st s).2) := by
  rw [put_idx h (put_fst_mem st s), put_num]
/-- put in behind what has it, nothing is added, and the number is the same -/
theorem into_again : ∀ (e : Ex) (dx dz : Int) (st st' : List Stp), (into e dx dz st).1 <+: st' → into e dx dz st' = (st', (into e dx dz st).2)
  | .whole n, dx, dz, st, st', h => put_more h
  | .px, dx, dz, st, st', h => put_more h
  | .pz, dx, dz, st, st', h => put_more h
  | .noise s l, dx, dz, st, st', h => put_more h
  | .two w a b, dx, dz, st, st', h => by
    have ia := into_ok a dx dz st
    have ib := into_ok b dx dz (into a dx dz st).1
    have p := put_ok (into b dx dz (into a dx dz st).1).1 (.two w (into a dx dz st).2 (into b dx dz (into a dx dz st).1).2)
    have h' : (put (into b dx dz (into a dx dz st).1).1 (.two w (into a dx dz st).2 (into b dx dz (into a dx dz st).1).2)).1 <+: st' := h
    have h2 := p.pre.trans h'
    have h1 := ib.pre.trans h2
    show put (into b dx dz (into a dx dz st').1).1 (.two w (into a dx dz st').2 (into b dx dz (into a dx dz st').1).2) = _
    rw [into_again a dx dz st st' h1]
    dsimp only
    rw [into_again b dx dz (into a dx dz st).1 st' h2]
    dsimp only
    rw [put_more h']
    rfl
  | .over a n, dx, dz, st, st', h => by
    have ia := into_ok a dx dz st
    have p := put_ok (into a dx dz st).1 (.over (into a dx dz st).2 n)
    have h' : (put (into a dx dz st).1 (.over (into a dx dz st).2 n)).1 <+: st' := h
    have h1 := p.pre.trans h'
    show put (into a dx dz st').1 (.over (into a dx dz st').2 n) = _
    rw [into_again a dx dz st st' h1]
    dsimp only
    rw [put_more h']
    rfl
  | .bel a b c d, dx, dz, st, st', h => by
    obtain ⟨qa, ea⟩ : ∃ q, into a dx dz st = q := ⟨_, rfl⟩
    obtain ⟨qb, eb⟩ : ∃ q, into b dx dz qa.1 = q := ⟨_, rfl⟩
    obtain ⟨qc, ec⟩ : ∃ q, into c dx dz qb.1 = q := ⟨_, rfl⟩
    obtain ⟨qd, ed⟩ : ∃ q, into d dx dz qc.1 = q := ⟨_, rfl⟩
    have e : into (.bel a b c d) dx dz st = put qd.1 (.bel qa.2 qb.2 qc.2 qd.2) := by
      simp only [into, ea, eb, ec, ed]
    rw [e] at h ⊢
    have p := put_ok qd.1 (.bel qa.2 qb.2 qc.2 qd.2)
    have h4 := p.pre.trans h
    have id := into_ok d dx dz qc.1
    rw [ed] at id
    have h3 := id.pre.trans h4
    have ic := into_ok c dx dz qb.1
    rw [ec] at ic
    have h2 := ic.pre.trans h3
    have ib := into_ok b dx dz qa.1
    rw [eb] at ib
    have h1 := ib.pre.trans h2
    have a1 := into_again a dx dz st st' (by rw [ea]; exact h1)
    have a2 := into_again b dx dz qa.1 st' (by rw [eb]; exact h2)
    have a3 := into_again c dx dz qb.1 st' (by rw [ec]; exact h3)
    have a4 := into_again d dx dz qc.1 st' (by rw [ed]; exact h4)
    rw [ea] at a1
    rw [eb] at a2
    rw [ec] at a3
    rw [ed] at a4
    simp only [into, a1, a2, a3, a4]
    exact put_more h
  | .shift ex ez a, dx, dz, st, st', h => into_again a (dx + ex) (dz + ez) st st' h
/-- a field twice costs one step more -/
theorem steps_twice (e : Ex) : (stepsE (.two .plus e e)).length = (stepsE e).length + 1 := by
  have ie := into_ok e 0 0 []
  have ok := ie.ok ok_nil
  have htop : (into e 0 0 []).2 + 1 = (into e 0 0 []).1.length := by
    rcases into_top e 0 0 [] ok_nil with h | h
    · have := ie.lt
      rw [h] at this
      exact absurd this (Nat.not_lt_zero _)
    · exact h
  have ag := into_again e 0 0 [] (into e 0 0 []).1 (List.prefix_refl _)
  show (put (into e 0 0 (into e 0 0 []).1).1 (.two .plus (into e 0 0 []).2 (into e 0 0 (into e 0 0 []).1).2)).1.length = (into e 0 0 []).1.length + 1
  rw [ag]
  dsimp only
  have no : Stp.two .plus (into e 0 0 []).2 (into e 0 0 []).2 ∉ (into e 0 0 []).1 := fun m => by
    obtain ⟨j, hj⟩ := List.getElem?_of_mem m
    have h1 := ok j _ hj
    have h2 : (into e 0 0 []).2 < j := h1.1
    have h3 : j < (into e 0 0 []).1.length := (List.getElem?_eq_some_iff.mp hj).1
    omega
  unfold put
  rw [if_neg no, List.length_append]
  rfl
end Pf

/-! a op b op' c op'' d as a test. -/
namespace Ch
open PySem PySem.Spec PyProof.Rows L2
variable {X : Cx} {a b c d : Expr} {ta tb tc td : TE} {pos : Pos}
def tChain3 (r r' r'' : R2) (ta tb tc td : TE) : TE := fun σ H Q => ta σ H fun x H1 => tb σ H1 fun y H2 => r x y H2 fun z H3 => ∃ k, z = .bl k ∧
  (if k = true then tc σ H3 fun x3 H4 => r' y x3 H4 fun z2 H5 => ∃ k2, z2 = .bl k2 ∧ (if k2 = true then td σ H5 fun x4 H6 => r'' x3 x4 H6 Q else Q (.bl false) H5) else Q (.bl false) H3)
theorem pt_chain3 {op op' op'' : CmpOp} {r r' r'' : R2} (ho : OpR X (compareOp op) r) (ho' : OpR X (compareOp op') r') (ho'' : OpR X (compareOp op'') r'') (ha : PE X a ta) (hb : PE X b tb) (hc : PE X c tc) (hd : PE X d td)
    (hm : lastMarks [op, op', op''] [b, c, d] = false := by with_unfolding_all rfl) : PT X (.Compare a [op, op', op''] [b, c, d] pos) (tTest (tChain3 r r' r'' ta tb tc td)) := by
  refine ⟨fun pins s σ H Q I h => ?_⟩
  refine isTrue_chain (thn (ha.run pins s σ H _ I h) fun v s1 ⟨x, H1, I1, r1, q1⟩ => test_link (thn (hb.run pins s1 σ H1 _ I1 q1) fun u s2 ⟨y, H2, I2, r2, q2⟩ =>
    thn (ho pins s2 σ H2 x y v u _ I2 r1 r2 q2) fun d s3 ⟨z, H3, I3, r3, k, e, q3⟩ => ?_)) hm
  subst e
  cases r3
  refine wpAny_truthy_bool ?_
  cases k with
  | false =>
    obtain ⟨k', e', q'⟩ := q3
    cases e'
    exact ite_ff ⟨H3, I3, q'⟩
  | true =>
    refine ite_tt (test_link (thn (hc.run pins s3 σ H3 _ I3 q3) fun u3 s4 ⟨x3, H4, I4, r4, q4⟩ =>
      thn (ho' pins s4 σ H4 y x3 u u3 _ I4 r2 r4 q4) fun d2 s5 ⟨z2, H5, I5, r5, k2, e2, q5⟩ => ?_))
    subst e2
    cases r5
    refine wpAny_truthy_bool ?_
    cases k2 with
    | false =>
      obtain ⟨k', e', q'⟩ := q5
      cases e'
      exact ite_ff ⟨H5, I5, q'⟩
    | true =>
      refine ite_tt (test_last (thn (hd.run pins s5 σ H5 _ I5 q5) fun u4 s6 ⟨x4, H6, I6, r6, q6⟩ => thn (ho'' pins s6 σ H6 x3 x4 u3 u4 _ I6 r4 r6 q6) fun d' s7 ⟨z3, H7, I7, r7, k3, e3, q7⟩ => ?_))
      subst e3
      cases r7
      exact wpAny_truthy_bool ⟨H7, I7, q7⟩
theorem g_chain3 {σ : L2.St} {H : Hp} {Q : VK} {r r' r'' : R2} (q : ta σ H fun x H1 => tb σ H1 fun y H2 => r x y H2 fun z H3 => ∃ k, z = .bl k ∧
  (if k = true then tc σ H3 fun x3 H4 => r' y x3 H4 fun z2 H5 => ∃ k2, z2 = .bl k2 ∧ (if k2 = true then td σ H5 fun x4 H6 => r'' x3 x4 H6 Q else Q (.bl false) H5) else Q (.bl false) H3)) : tChain3 r r' r'' ta tb tc td σ H Q := q
end Ch

namespace L22
open PySem PySem.Spec PyProof.Rows L2 Lw Fm Fr Sm Pf
local macro_rules | `(tactic| walk_at "lw one") => `(tactic| first
  | with_reducible refine' g_seq ?_
  | with_reducible refine' g_asg ?_
  | ((with_reducible refine' g_nameN ?he ?_); case he => (simp only [List.set_cons_succ, List.set_cons_zero]; exact rfl))
  | with_reducible refine' g_name ?_
  | with_reducible refine' g_ret ?_
  | with_reducible refine' g_retN ?_
  | with_reducible refine' g_next ?_
  | with_reducible refine' g_drop ?_
  | with_reducible refine' g_ifS ?_
  | with_reducible refine' g_op ?_
  | with_reducible refine' g_c ?_
  | ((with_reducible refine' g_var ?hv ?_); case hv => exact rfl)
  | with_reducible refine' g_I0 ?_
  | ((with_reducible refine' g_I ?_ ?_); first | (show CMul _ _; first | exact Pf.cmul_mod (by decide) (by decide) | exact Pf.cmul_nn (by assumption) (by assumption) (by decide) | exact Or.inl ⟨by decide, by decide⟩ | exact Or.inl ⟨by omega, by omega⟩ | exact Or.inr ⟨by omega, by omega⟩ | exact Or.inr (Fm.knot_mul _ _ _ _)) | (show CDiv _ _; exact ⟨by omega, by omega⟩) | (show CDivW _ _; exact div_ok (by omega) (by omega)) | (show CPowW _ _; exact pow_ok (by decide +kernel)) | (show CPow _ _; exact ⟨by decide, by decide, by decide⟩) | (show (0 : Int) < _; first | omega | decide +kernel) | (show (0 : Int) ≤ _; omega) | assumption)
  | with_reducible refine' g_test ?_
  | with_reducible refine' g_B ?_
  | with_reducible refine' g_and ?_
  | with_reducible refine' g_or ?_
  | with_reducible refine' g_not ?_
  | with_reducible refine' g_andV ?_
  | with_reducible refine' g_orV ?_
  | with_reducible refine' g_notV ?_
  | with_reducible refine' g_if ?_
  | with_reducible refine' g_chain ?_
  | with_reducible refine' g_un ?_
  | with_reducible refine' g_U ?_
  | with_reducible refine' g_nil ?_
  | with_reducible refine' g_cons ?_
  | with_reducible refine' g_tup ?_
  | with_reducible refine' g_lst ?_
  | with_reducible refine' g_CB ?_
  | with_reducible refine' g_call ?_
  | with_reducible refine' g_callK ?_
  | with_reducible refine' g_bits ?_
  | with_reducible refine' g_sub ?_
  | with_reducible refine' g_for ?_
  | with_reducible refine' g_rng1 ?_
  | ((with_reducible refine' g_eq ?_ ?_); exact rfl)
  | ((with_reducible refine' g_ne ?_ ?_); exact rfl)
  | with_reducible refine' g_dget ?_
  | with_reducible refine' Pf.g_din ?_
  | with_reducible refine' Pf.g_star ?_
  | with_reducible refine' g_bm ?_
  | with_reducible refine' g_bm0 ?_
  | with_reducible refine' g_lc ?_
  | with_reducible refine' g_itup ?_
  | with_reducible refine' g_ilist ?_
  | with_reducible refine' g_sl ?_
  | with_reducible refine' g_part ?_
  | with_reducible refine' g_nopart ?_
  | with_reducible refine' g_gcons ?_
  | with_reducible refine' g_gnil ?_
  | with_reducible refine' g_dput ?_
  | with_reducible refine' g_bl ?_
  | ((with_reducible refine' iteSE ?_ ?_); exact rfl)
  | ((with_reducible refine' iteSN ?_ ?_); first | decide +kernel | exact Fm.word_ne (by decide +kernel) _)
  | with_reducible refine' g_int ?_
  | (with_reducible refine' iteNT ?_)
  | (with_reducible refine' iteNF ?_)
  | (with_reducible refine' iteT ?_)
  | (with_reducible refine' iteF ?_))
local macro_rules | `(tactic| walk_at "lw go") => `(tactic| repeat walk_at "lw one")
local macro_rules | `(tactic| walk_at "lw so") => `(tactic| first
  | with_reducible refine' g_asg ?_
  | ((with_reducible refine' g_nameN ?he ?_); case he => (simp only [List.set_cons_succ, List.set_cons_zero]; exact rfl))
  | with_reducible refine' g_name ?_
  | with_reducible refine' g_ret ?_
  | with_reducible refine' g_retN ?_
  | with_reducible refine' g_next ?_
  | with_reducible refine' g_drop ?_
  | with_reducible refine' g_ifS ?_
  | with_reducible refine' g_op ?_
  | with_reducible refine' g_c ?_
  | ((with_reducible refine' g_var ?hv ?_); case hv => exact rfl)
  | with_reducible refine' g_I0 ?_
  | ((with_reducible refine' g_I ?_ ?_); first | (show CMul _ _; first | exact Pf.cmul_mod (by decide) (by decide) | exact Pf.cmul_nn (by assumption) (by assumption) (by decide) | exact Or.inl ⟨by decide, by decide⟩ | exact Or.inl ⟨by omega, by omega⟩ | exact Or.inr ⟨by omega, by omega⟩ | exact Or.inr (Fm.knot_mul _ _ _ _)) | (show CDiv _ _; exact ⟨by omega, by omega⟩) | (show CDivW _ _; exact div_ok (by omega) (by omega)) | (show CPowW _ _; exact pow_ok (by decide +kernel)) | (show CPow _ _; exact ⟨by decide, by decide, by decide⟩) | (show (0 : Int) < _; first | omega | decide +kernel) | (show (0 : Int) ≤ _; omega) | assumption)
  | with_reducible refine' g_test ?_
  | with_reducible refine' g_B ?_
  | with_reducible refine' g_and ?_
  | with_reducible refine' g_or ?_
  | with_reducible refine' g_not ?_
  | with_reducible refine' g_andV ?_
  | with_reducible refine' g_orV ?_
  | with_reducible refine' g_notV ?_
  | with_reducible refine' g_if ?_
  | with_reducible refine' g_chain ?_
  | with_reducible refine' g_un ?_
  | with_reducible refine' g_U ?_
  | with_reducible refine' g_nil ?_
  | with_reducible refine' g_cons ?_
  | with_reducible refine' g_tup ?_
  | with_reducible refine' g_lst ?_
  | with_reducible refine' g_CB ?_
  | with_reducible refine' g_call ?_
  | with_reducible refine' g_callK ?_
  | with_reducible refine' g_bits ?_
  | with_reducible refine' g_sub ?_
  | with_reducible refine' g_for ?_
  | with_reducible refine' g_rng1 ?_
  | ((with_reducible refine' g_eq ?_ ?_); exact rfl)
  | ((with_reducible refine' g_ne ?_ ?_); exact rfl)
  | with_reducible refine' g_dget ?_
  | with_reducible refine' Pf.g_din ?_
  | with_reducible refine' Pf.g_star ?_
  | with_reducible refine' g_bm ?_
  | with_reducible refine' g_bm0 ?_
  | with_reducible refine' g_lc ?_
  | with_reducible refine' g_itup ?_
  | with_reducible refine' g_ilist ?_
  | with_reducible refine' g_sl ?_
  | with_reducible refine' g_part ?_
  | with_reducible refine' g_nopart ?_
  | with_reducible refine' g_gcons ?_
  | with_reducible refine' g_gnil ?_
  | with_reducible refine' g_dput ?_
  | with_reducible refine' g_bl ?_
  | ((with_reducible refine' iteSE ?_ ?_); exact rfl)
  | ((with_reducible refine' iteSN ?_ ?_); first | decide +kernel | exact Fm.word_ne (by decide +kernel) _)
  | with_reducible refine' g_int ?_
  | (with_reducible refine' iteNT ?_)
  | (with_reducible refine' iteNF ?_)
  | (with_reducible refine' iteT ?_)
  | (with_reducible refine' iteF ?_))
local macro_rules | `(tactic| walk_at "lw st") => `(tactic| repeat walk_at "lw so")
local macro_rules | `(tactic| walk_at "lw i0") => `(tactic| refine' g_cast (by (simp only [L2.start, List.map_cons, List.map_nil, List.length_cons, List.length_nil, List.replicate_succ, List.replicate_zero, List.cons_append, List.nil_append, Nat.reduceAdd, Nat.reduceSub, Nat.sub_self]; exact rfl)) ?_)
local macro_rules | `(tactic| walk_at "lw ns") => `(tactic| simp only [List.set_cons_succ, List.set_cons_zero])
abbrev FnP (K : PySem.W.Frag) (x : Str) (st : Stmt) (f : Addr) (fd : FuncData) : Prop := FunD K x x (defArgs st) (defBody st) (defScope st) [] [] f fd
structure Bi (mg : Str → Option Value) : Prop where
  isinstance : mg "isinstance" = none
  int : mg "int" = none
  bool : mg "bool" = none
  str : mg "str" = none
  len : mg "len" = none
  tuple : mg "tuple" = none
  reversed : mg "reversed" = none
  enumerate : mg "enumerate" = none
  zip : mg "zip" = none
  min : mg "min" = none
  max : mg "max" = none
  range : mg "range" = none
  list : mg "list" = none
  abs : mg "abs" = none
  sum : mg "sum" = none
  dict : mg "dict" = none
structure Kn (K : PySem.W.Frag) (mg : Str → Option Value) : Prop where
  c_EDGE : ∃ t, mg "EDGE" = some (.int (1000000) t)
  g_ALL_POINTS : mg "ALL_POINTS" = some (.ref (He.ga K "ALL_POINTS"))
  v_ALL_POINTS : ∀ H : Hp, SqT K H (He.ga K "ALL_POINTS") [V.int (-1000000), V.int (-1000000), V.int (1000000), V.int (1000000)]
  c_LONGEST_NAME : ∃ t, mg "LONGEST_NAME" = some (.int (8) t)
  c_MOST_SQUARES : ∃ t, mg "MOST_SQUARES" = some (.int (64) t)
  c_GREATEST_KNOT : ∃ t, mg "GREATEST_KNOT" = some (.int (65535) t)
  c_MOST_FIELDS : ∃ t, mg "MOST_FIELDS" = some (.int (200) t)
  c_GREATEST_VALUE : ∃ t, mg "GREATEST_VALUE" = some (.int (1000000000000000000000000000000) t)
  c_BEYOND : ∃ t, mg "BEYOND" = some (.int (1000000000000000000000000000001) t)
  g_PAIRS : mg "PAIRS" = some (.ref (He.ga K "PAIRS"))
  v_PAIRS : ∀ H : Hp, SqT K H (He.ga K "PAIRS") [V.str "plus", V.str "less", V.str "times", V.str "least", V.str "most"]
  g_PLACE : mg "PLACE" = some (.ref (He.ga K "PLACE"))
  v_PLACE : ∀ H : Hp, SqT K H (He.ga K "PLACE") [V.int (1), V.int (1200000)]
  g_NOISE : mg "NOISE" = some (.ref (He.ga K "NOISE"))
  v_NOISE : ∀ H : Hp, SqT K H (He.ga K "NOISE") [V.int (1), V.int (65535)]
theorem pe_gI {X : Cx} {x : Str} {i : Int} {pos : Pos} (hg : Gl X x) (h : ∃ t, X.mg x = some (.int i t)) (hd : (x == ("__debug__" : Str)) = false := by decide) : PE X (.Name x pos) (tC (.int i)) := by
  obtain ⟨t, e⟩ := h
  exact pe_glob hg e ⟨t, rfl⟩ hd
theorem pe_gR {X : Cx} {x : Str} {a : Addr} {pos : Pos} (hg : Gl X x) (h : X.mg x = some (.ref a)) (hd : (x == ("__debug__" : Str)) = false := by decide) : PE X (.Name x pos) (tC (.ref a)) := pe_glob (v := .ref a) hg h rfl hd

/-! ### knots, drawn numbers -/
theorem bl_of {b : Bool} {Q : VK} {H : Hp} (h : b = true) (q : Q (.bl true) H) : Q (.bl b) H := by
  rw [h]
  exact q
def spKnot : Sp := fun vs H Q _ => ∃ a b c d : Int, vs = [.int a, .int b, .int c, .int d] ∧ Q (.int (knotL a b c d)) H
def spAt (K : PySem.W.Frag) : Sp := fun vs H Q _ => ∃ (a : Addr) (ns : List Int) (k : Int), vs = [.ref a, .int k] ∧ SqL K H a (ns.map V.int) ∧ 0 ≤ k ∧ ∀ n : Int, Q (.int n) H
def spMixed : Sp := fun vs H Q _ => ∃ (a k : Int), vs = [.int a, .int k] ∧ 0 ≤ k ∧ k < 2 ^ 64 ∧ ∀ n : Int, Q (.int n) H
/-- a purse: two numbers and a count of at most m -/
structure Purse (m : Int) (o : HO) : Prop where
  ex : ∃ a b c : Int, o = .lst [.int a, .int b, .int c] ∧ 0 ≤ c ∧ c ≤ m
theorem Purse.mono {m m' : Int} {o : HO} (h : Purse m o) (l : m ≤ m') : Purse m' o := by
  obtain ⟨a, b, c, e, c0, c1⟩ := h.ex
  exact ⟨a, b, c, e, c0, by omega⟩
def spPurse (K : PySem.W.Frag) : Sp := fun vs H Q _ => ∃ (a : Addr) (ns : List Int) (k : Int), vs = [.ref a, .int k] ∧ SqL K H a (ns.map V.int) ∧ 0 ≤ k ∧ k ≤ 64 ∧ ∀ p o, H p = none → Purse 64000 o → Q (.ref p) (upd H p o)
def spDraw : Sp := fun vs H Q _ => ∃ (p : Addr) (n m : Int) (o : HO), vs = [.ref p, .int n] ∧ H p = some o ∧ Purse m o ∧ m ≤ 1000000000000000 ∧ 0 < n ∧ n ≤ 1000000000000000000000000000000 ∧
  ∀ (d : Int) (o' : HO), 0 ≤ d → d < n → Purse (m + 4) o' → Q (.int d) (upd H p o')
def spWhole : Sp := fun vs H Q _ => ∃ n : Int, vs = [.int n] ∧ Q (.bl true) H
/-- a def that draws a number from lo to hi from the purse -/
def spNum (lo hi : Int) : Sp := fun vs H Q _ => ∃ (p : Addr) (m : Int) (o : HO), vs = [.ref p] ∧ H p = some o ∧ Purse m o ∧ m ≤ 100000000000000 ∧
  ∀ (g : Int) (o' : HO) (H' : Hp), lo ≤ g → g ≤ hi → Keep p H H' → H' p = some o' → Purse (m + 12) o' → Q (.int g) H'
def spNoise : Sp := fun vs H Q _ => ∃ (p : Addr) (w : V) (s l g x z : Int) (r : List V), vs = [.ref p, .int g, .int x, .int z] ∧ H p = some (.tup (w :: .int s :: .int l :: r)) ∧ 0 ≤ l ∧ l ≤ 8 ∧ Q (.int (noiseL g s l x z)) H
def spTwo : Sp := fun vs H Q _ => ∃ (w : W2) (a b : Int), vs = [.str w.word, .int a, .int b] ∧ (w = .times → CMulW a b) ∧ Q (.int (w.op a b)) H
def spValue (n : Nat) : Sp := fun vs H Q _ => ∃ (u : V) (F : Fd) (g x z : Int) (d : Addr) (m k : Nat) (r : Fm.Env) (δ : List (Str × Nat)), vs = [u, .int g, .int x, .int z, .ref d] ∧ FRep F H u ∧ EnvR m H d r δ ∧ Bnd F (r.map (·.1)) ∧ udep F δ ≤ n ∧ OkE (expand F r) ∧
  vb (expand F r) k ≤ 400000 ∧ 34 ≤ k ∧ x.natAbs < 2 ^ k ∧ z.natAbs < 2 ^ k ∧ r.length + n ≤ 1000 ∧ ∀ H', Same H H' → Q (.int (valE (expand F r) g x z)) H'
theorem udep_pos : ∀ (F : Fd) (δ : List (Str × Nat)), 1 ≤ udep F δ
  | .whole _, _ => Nat.le_refl 1
  | .px, _ => Nat.le_refl 1
  | .pz, _ => Nat.le_refl 1
  | .noise _ _, _ => Nat.le_refl 1
  | .two _ _ _, _ => Nat.le_add_right 1 _
  | .over _ _, _ => Nat.le_add_right 1 _
  | .bel _ _ _ _, _ => Nat.le_add_right 1 _
  | .shift _ _ _, _ => Nat.le_add_right 1 _
  | .lt _ _ _, _ => Nat.le_add_right 1 _
  | .nm _, _ => Nat.le_add_right 1 _
theorem spValue_zero {vs : List V} {H : Hp} {Q : VK} {E : XK} (h : spValue 0 vs H Q E) : False := by
  obtain ⟨u, F, g, x, z, d, m, k, r, δ, _, _, _, _, h, _⟩ := h
  have := udep_pos F δ
  omega
/-- a pair of numbers at p -/
abbrev Pair (H : Hp) (p : Addr) (ab : Int × Int) : Prop := H p = some (.tup [.int ab.1, .int ab.2])
/-- hands back a pair, nothing else changed -/
def PairTo (H : Hp) (Q : VK) (ab : Int × Int) : Prop := ∀ p H', Same H H' → Pair H' p ab → Q (.ref p) H'
theorem PairTo.new {H : Hp} {Q : VK} {ab : Int × Int} {a b : Int} (q : PairTo H Q ab) (e1 : a = ab.1) (e2 : b = ab.2) {H1 : Hp} (s : Same H H1) : [V.int a, V.int b].length ≤ sizeLine ∧ ∀ p, H1 p = none → Q (.ref p) (upd H1 p (.tup [.int a, .int b])) := by
  subst e1 e2
  exact ⟨by show 2 ≤ sizeLine; decide, fun p hp => q p _ (s.trans (same_new hp)) upd_same⟩
def spTwoR : Sp := fun vs H Q _ => ∃ (w : W2) (p1 p2 : Addr) (a b : Int × Int), vs = [.str w.word, .ref p1, .ref p2] ∧ Pair H p1 a ∧ Pair H p2 b ∧ (w = .times → CMulW a.1 b.1 ∧ CMulW a.1 b.2 ∧ CMulW a.2 b.1 ∧ CMulW a.2 b.2) ∧ PairTo H Q (w.rng a b)
def spBelR : Sp := fun vs H Q _ => ∃ (p1 p2 p3 p4 : Addr) (a b c d : Int × Int), vs = [.ref p1, .ref p2, .ref p3, .ref p4] ∧ Pair H p1 a ∧ Pair H p2 b ∧ Pair H p3 c ∧ Pair H p4 d ∧ PairTo H Q (belR a b c d)
def spNR : Sp := fun vs H Q _ => ∃ (p ar : Addr) (w : V) (s l g x0 z0 x1 z1 : Int) (r : List V), vs = [.ref p, .int g, .ref ar] ∧ H p = some (.tup (w :: .int s :: .int l :: r)) ∧ H ar = some (.tup [.int x0, .int z0, .int x1, .int z1]) ∧ 0 ≤ l ∧ l ≤ 8 ∧
  20000 ≤ x1 - x0 ∧ 20000 ≤ z1 - z0 ∧ x0.natAbs ≤ 1000000000 ∧ x1.natAbs ≤ 1000000000 ∧ z0.natAbs ≤ 1000000000 ∧ z1.natAbs ≤ 1000000000 ∧ PairTo H Q (0, 65535)
theorem min_if (a b : Int) : (if b < a then b else a) = min a b := by
  split <;> omega
theorem max_if (a b : Int) : (if b > a then b else a) = max a b := by
  split <;> omega
structure Wide (x0 z0 x1 z1 : Int) (n : Nat) : Prop where
  wx : 20000 ≤ x1 - x0
  wz : 20000 ≤ z1 - z0
  bx0 : x0.natAbs + 1000 * n ≤ 1000000000
  bx1 : x1.natAbs + 1000 * n ≤ 1000000000
  bz0 : z0.natAbs + 1000 * n ≤ 1000000000
  bz1 : z1.natAbs + 1000 * n ≤ 1000000000
theorem Wide.le {x0 z0 x1 z1 : Int} {n n' : Nat} (h : Wide x0 z0 x1 z1 n) (l : n' ≤ n) : Wide x0 z0 x1 z1 n' := by
  obtain ⟨h1, h2, h3, h4, h5, h6⟩ := h
  exact ⟨h1, h2, by omega, by omega, by omega, by omega⟩
theorem Wide.shift {x0 z0 x1 z1 dx dz : Int} {n : Nat} (h : Wide x0 z0 x1 z1 (n + 1)) (hx : -1000 ≤ dx ∧ dx ≤ 1000) (hz : -1000 ≤ dz ∧ dz ≤ 1000) : Wide (x0 + dx) (z0 + dz) (x1 + dx) (z1 + dz) n := by
  obtain ⟨h1, h2, h3, h4, h5, h6⟩ := h
  exact ⟨by omega, by omega, by omega, by omega, by omega, by omega⟩
def spRange (n : Nat) : Sp := fun vs H Q _ => ∃ (u : V) (F : Fd) (g x0 z0 x1 z1 : Int) (ar d : Addr) (m k : Nat) (r : Fm.Env) (δ : List (Str × Nat)), vs = [u, .int g, .ref ar, .ref d] ∧ FRep F H u ∧ H ar = some (.tup [.int x0, .int z0, .int x1, .int z1]) ∧
  EnvR m H d r δ ∧ Bnd F (r.map (·.1)) ∧ udep F δ ≤ n ∧ OkE (expand F r) ∧ vb (expand F r) k ≤ 400000 ∧ 34 ≤ k ∧ B2 (x0, x1) k ∧ B2 (z0, z1) k ∧ Wide x0 z0 x1 z1 n ∧ r.length + n ≤ 1000 ∧ PairTo H Q (rangeG wideN (expand F r) x0 z0 x1 z1)
theorem spRange_zero {vs : List V} {H : Hp} {Q : VK} {E : XK} (h : spRange 0 vs H Q E) : False := by
  obtain ⟨u, F, g, x0, z0, x1, z1, ar, d, m, k, r, δ, _, _, _, _, _, h, _⟩ := h
  have := udep_pos F δ
  omega
theorem PairTo.later {H H1 : Hp} {Q : VK} {ab : Int × Int} (q : PairTo H Q ab) (s : Same H H1) : PairTo H1 Q ab := fun p H' s' h => q p H' (s.trans s') h
theorem name_strOk {x : Str} (h : NameOk x) : PyData.strOk x = true := by
  unfold PyData.strOk
  rw [Array.all_eq_true']
  intro c hc
  have := h.2.2 c (by simpa using hc)
  exact decide_eq_true (by omega)
theorem lay_strs : ∀ ks : List Str, (∀ x ∈ ks, NameOk x) → PyData.canLayAll0 (ks.map PyData.str) = true
  | [], _ => rfl
  | x :: r, h => by
    show (PyData.canLay0 (.str x) && PyData.canLayAll0 (r.map PyData.str)) = true
    rw [lay_strs r fun y hy => h y (List.mem_cons_of_mem _ hy)]
    show (PyData.strOk x && true) = true
    rw [name_strOk (h x List.mem_cons_self)]
    rfl
theorem depth_strs : ∀ ks : List Str, PyData.depthAll (ks.map PyData.str) ≤ 1
  | [] => by decide
  | x :: r => by
    have h := depth_strs r
    have e : PyData.depthAll ((x :: r).map PyData.str) = max (PyData.depth (.str x)) (PyData.depthAll (r.map PyData.str)) := rfl
    have e2 : PyData.depth (.str x) ≤ 1 := by simp [PyData.depth]
    omega
theorem shaped_strs (ks : List Str) (hk : ∀ x ∈ ks, NameOk x) : SeqAt.shaped (.list (ks.map PyData.str)) = true := by
  have h1 : PyData.canLay0 (.list (ks.map PyData.str)) = true := lay_strs ks hk
  have h2 : PyData.depth (.list (ks.map PyData.str)) ≤ 64 := by
    have h := depth_strs ks
    have e : PyData.depth (.list (ks.map PyData.str)) = PyData.depthAll (ks.map PyData.str) + 1 := rfl
    omega
  unfold SeqAt.shaped
  rw [h1, decide_eq_true h2]
  rfl
theorem dpAll_strs {K : PySem.W.Frag} {H : Hp} : ∀ ks : List Str, DpAll K H (ks.map V.str) (ks.map PyData.str)
  | [] => .nil
  | x :: r => .cons (.str x) (dpAll_strs r)
theorem eqv_strs_nil : ∀ ks : List Str, PyData.eqv (.list (ks.map PyData.str)) (.list []) = decide (ks = [])
  | [] => by decide
  | x :: r => by simp [PyData.eqv, PyData.eqvAll]
def spNumber : Sp := fun vs H Q _ => ∃ (p : Addr) (n m : Int) (o : HO), vs = [.ref p, .int n] ∧ H p = some o ∧ Purse m o ∧ m ≤ 100000000000000 ∧ 1 ≤ n ∧ n ≤ 1000000000 ∧
  ∀ (g : Int) (o' : HO) (H' : Hp), -(max n 1000) < g → g < max n 1000 → Keep p H H' → H' p = some o' → Purse (m + 12) o' → Q (.int g) H'
theorem four_at {a b c d : V} {e : Int} (h0 : 0 ≤ e) (h1 : e < 4) : ∃ v, atI [a, b, c, d] e = some v ∧ (v = a ∨ v = b ∨ v = c ∨ v = d) := by
  rcases (show e = 0 ∨ e = 1 ∨ e = 2 ∨ e = 3 by omega) with rfl | rfl | rfl | rfl
  · exact ⟨a, rfl, .inl rfl⟩
  · exact ⟨b, rfl, .inr (.inl rfl)⟩
  · exact ⟨c, rfl, .inr (.inr (.inl rfl))⟩
  · exact ⟨d, rfl, .inr (.inr (.inr rfl))⟩
/-- hands back a drawn field -/
def FTo (p : Addr) (H : Hp) (Q : VK) (ks : List Str) (d : Nat) (m : Int) : Prop := ∀ u F H' o', FRep F H' u → dep F ≤ d → OkF F → Bnd F ks → Keep p H H' → H' p = some o' → Purse m o' → Q u H'
def spLeaf : Sp := fun vs H Q _ => ∃ (p kl : Addr) (ks : List Str) (m : Int) (o : HO), vs = [.ref p, .ref kl] ∧ H p = some o ∧ Purse m o ∧ m ≤ 10000000000000 ∧ H kl = some (.lst (ks.map V.str)) ∧ ks.length ≤ 1000 ∧ (∀ x ∈ ks, NameOk x) ∧ FTo p H Q ks 0 (m + 40)
theorem purse_ne {H : Hp} {p kl : Addr} {o : HO} {m : Int} {ks : List Str} (hp : H p = some o) (hP : Purse m o) (hk : H kl = some (.lst (ks.map V.str))) : kl ≠ p := by
  rintro rfl
  obtain ⟨a, b, c, e, _⟩ := hP.ex
  rw [hk, e] at hp
  have z : ks.map V.str = [V.int a, V.int b, V.int c] := by
    have := Option.some.inj hp
    injection this
  cases ks with
  | nil => cases z
  | cons x r => cases z
def costF : Nat → Int
  | 0 => 100
  | d + 1 => 5 * costF d
theorem costF_pos : ∀ d, 100 ≤ costF d
  | 0 => Int.le_refl 100
  | d + 1 => by have := costF_pos d; simp only [costF]; omega
def spField (n : Nat) : Sp := fun vs H Q _ => ∃ (p kl : Addr) (ks : List Str) (dn : Nat) (m : Int) (o : HO), vs = [.ref p, .int dn, .ref kl] ∧ dn + 1 ≤ n ∧ H p = some o ∧ Purse m o ∧ m + costF dn ≤ 9000000000000 ∧ H kl = some (.lst (ks.map V.str)) ∧ ks.length + dn ≤ 900 ∧
  (∀ x ∈ ks, NameOk x) ∧ FTo p H Q ks dn (m + costF dn)
theorem spField_zero {vs : List V} {H : Hp} {Q : VK} {E : XK} (h : spField 0 vs H Q E) : False := by
  obtain ⟨p, kl, ks, dn, m, o, _, h, _⟩ := h
  omega
theorem names4 : NameOk "a" ∧ NameOk "b" ∧ NameOk "ab" ∧ NameOk "abcdefgh" := by
  refine ⟨⟨by decide, by decide, ?_⟩, ⟨by decide, by decide, ?_⟩, ⟨by decide, by decide, ?_⟩, ⟨by decide, by decide, ?_⟩⟩ <;> decide +kernel
theorem six_word {e : Int} (h0 : 0 ≤ e) (h1 : e < 6) : ∃ w : W2, atI [V.str "plus", .str "less", .str "times", .str "least", .str "most", .str "plus"] e = some (.str w.word) := by
  rcases (show e = 0 ∨ e = 1 ∨ e = 2 ∨ e = 3 ∨ e = 4 ∨ e = 5 by omega) with rfl | rfl | rfl | rfl | rfl | rfl
  · exact ⟨.plus, rfl⟩
  · exact ⟨.less, rfl⟩
  · exact ⟨.times, rfl⟩
  · exact ⟨.least, rfl⟩
  · exact ⟨.most, rfl⟩
  · exact ⟨.plus, rfl⟩
theorem three_at {a b c : V} {e : Int} (h0 : 0 ≤ e) (h1 : e < 3) : ∃ v, atI [a, b, c] e = some v ∧ (v = a ∨ v = b ∨ v = c) := by
  rcases (show e = 0 ∨ e = 1 ∨ e = 2 by omega) with rfl | rfl | rfl
  · exact ⟨a, rfl, .inl rfl⟩
  · exact ⟨b, rfl, .inr (.inl rfl)⟩
  · exact ⟨c, rfl, .inr (.inr rfl)⟩
theorem keep_l {p kl : Addr} {H H' : Hp} {u : HO} (k : Keep p H H') (n : kl ≠ p) (h : H kl = some u) : H' kl = some u := k _ _ n h
theorem keep_rep {p : Addr} {H H' : Hp} {o : HO} {m : Int} {F : Fd} {u : V} (k : Keep p H H') (hp : H p = some o) (hP : Purse m o) (h : FRep F H u) : FRep F H' u := by
  obtain ⟨a, b, c, e, _⟩ := hP.ex
  subst e
  exact h.mono (keep_tup k hp)
def PairsTo (H : Hp) (Q : VK) (ps : List (Int × Int)) : Prop := ∀ l vs H', Same H H' → H' l = some (.lst vs) → PairsR H' vs ps → Q (.ref l) H'
theorem PairsTo.later {H H1 : Hp} {Q : VK} {ps : List (Int × Int)} (q : PairsTo H Q ps) (s : Same H H1) : PairsTo H1 Q ps := fun l vs H' s' h => q l vs H' (s.trans s') h
def spAllR (n : Nat) : Sp := fun vs H Q _ => ∃ (u : V) (F : Fd) (x0 z0 x1 z1 : Int) (ar d : Addr) (m k : Nat) (r : Fm.Env) (δ : List (Str × Nat)), vs = [u, .ref ar, .ref d] ∧ FRep F H u ∧ H ar = some (.tup [.int x0, .int z0, .int x1, .int z1]) ∧
  EnvR m H d r δ ∧ Bnd F (r.map (·.1)) ∧ udep F δ ≤ n ∧ OkE (expand F r) ∧ vb (expand F r) k ≤ 400000 ∧ cn (expand F r) ≤ 1000000 ∧ 34 ≤ k ∧ B2 (x0, x1) k ∧ B2 (z0, z1) k ∧ Wide x0 z0 x1 z1 (n + 60) ∧ r.length + n ≤ 900 ∧ n ≤ 50 ∧ PairsTo H Q (allE wideN (expand F r) x0 z0 x1 z1)
theorem spAllR_zero {vs : List V} {H : Hp} {Q : VK} {E : XK} (h : spAllR 0 vs H Q E) : False := by
  obtain ⟨u, F, x0, z0, x1, z1, ar, d, m, k, r, δ, _, _, _, _, _, h, _⟩ := h
  have := udep_pos F δ
  omega
theorem small_size {n : Nat} (h : n ≤ 3000000) : n ≤ sizeLine := by
  rw [sizeLine_eq]
  omega
theorem flat_take {α β : Type} (g : α → List β) (ps : List α) (i : Nat) : ((ps.take i).flatMap g).length ≤ (ps.flatMap g).length := by
  have e : ps.flatMap g = (ps.take i).flatMap g ++ (ps.drop i).flatMap g := by
    rw [← List.flatMap_append, List.take_append_drop]
  rw [e, List.length_append]
  omega
structure SmallE (e : Ex) : Prop where
  cn : cn e ≤ 60
  all : ∀ p ∈ allE wideN e (-1000010) (-1000010) 1000010 1000010, -1000000000000000000000000 ≤ p.1 ∧ p.2 ≤ 1000000000000000000000000
  lo : -1000000000000 ≤ (rangeG wideN e (-1000010) (-1000010) 1000010 1000010).1
  hi : (rangeG wideN e (-1000010) (-1000010) 1000010 1000010).2 ≤ 1000000000000
def spSmall : Sp := fun vs H Q _ => ∃ (u : V) (F : Fd), vs = [u] ∧ FRep F H u ∧ Bnd F [] ∧ OkF F ∧ dep F ≤ 3 ∧ ∀ b H', Same H H' → (b = true → SmallE (expand F [])) → Q (.bl b) H'
abbrev pairD (ab : Int × Int) : PyData := .tuple [.int ab.1, .int ab.2]
theorem lay_pairs : ∀ ps : List (Int × Int), PyData.canLayAll0 (ps.map pairD) = true
  | [] => rfl
  | x :: r => by
    show (PyData.canLay0 (pairD x) && PyData.canLayAll0 (r.map pairD)) = true
    rw [lay_pairs r]
    rfl
theorem depth_pairs : ∀ ps : List (Int × Int), PyData.depthAll (ps.map pairD) ≤ 3
  | [] => by decide
  | x :: r => by
    have h := depth_pairs r
    have e : PyData.depthAll ((x :: r).map pairD) = max (PyData.depth (pairD x)) (PyData.depthAll (r.map pairD)) := rfl
    have e2 : PyData.depth (pairD x) ≤ 3 := by simp [PyData.depth, PyData.depthAll]
    omega
theorem shaped_pairs (ps : List (Int × Int)) : SeqAt.shaped (.list (ps.map pairD)) = true := by
  have h1 : PyData.canLay0 (.list (ps.map pairD)) = true := lay_pairs ps
  have h2 : PyData.depth (.list (ps.map pairD)) ≤ 64 := by
    have h := depth_pairs ps
    have e : PyData.depth (.list (ps.map pairD)) = PyData.depthAll (ps.map pairD) + 1 := rfl
    omega
  unfold SeqAt.shaped
  rw [h1, decide_eq_true h2]
  rfl
theorem dp_pairs {K : PySem.W.Frag} {H : Hp} : ∀ {vs : List V} {ps : List (Int × Int)}, PairsR H vs ps → DpAll K H vs (ps.map pairD)
  | _, _, .nil => .nil
  | _, _, .cons ⟨p, e, h⟩ t => by
    subst e
    exact .cons (.tup (SqT.of h) (.cons (.int _) (.cons (.int _) .nil))) (dp_pairs t)
theorem eqv_nil : ∀ ps : List (Int × Int), PyData.eqv (.list (ps.map pairD)) (.list []) = decide (ps = [])
  | [] => by decide
  | x :: r => by simp [PyData.eqv, PyData.eqvAll]
abbrev badP (ab : Int × Int) : Bool := decide (ab.1 < -10 ^ Int.toNat 24) || decide (10 ^ Int.toNat 24 < ab.2)
/-- rules as they are drawn: a closed field whose expansion is small -/
structure Drawn (F : Fd) (d : Nat) : Prop where
  bnd : Bnd F []
  ok : OkF F
  dep : dep F ≤ d
  small : SmallE (expand F [])
/-- hands back drawn rules -/
def RTo (p : Addr) (H : Hp) (Q : VK) (m : Int) : Prop := ∀ u F H' o', FRep F H' u → Drawn F 3 → Keep p H H' → H' p = some o' → Purse m o' → Q u H'
def spRules : Sp := fun vs H Q _ => ∃ (p : Addr) (m : Int) (o : HO), vs = [.ref p] ∧ H p = some o ∧ Purse m o ∧ m ≤ 1000000000000 ∧ RTo p H Q (m + 100000)
/-- a new object is changed -/
theorem keep_put2 {p l : Addr} {H H' : Hp} {o : HO} (k : Keep p H H') (h : H l = none) : Keep p H (upd H' l o) := fun c u n e => by
  rw [upd_ne (ne_of_none e h)]
  exact k c u n e
/-- hands back a point's pair -/
def spPlace : Sp := fun vs H Q _ => ∃ (p : Addr) (m : Int) (o : HO), vs = [.ref p] ∧ H p = some o ∧ Purse m o ∧ m ≤ 100000000000000 ∧
  ∀ (x z : Int) (t : Addr) (o' : HO) (H' : Hp), -1000000 ≤ x → x ≤ 1000000 → -1000000 ≤ z → z ≤ 1000000 → Keep p H H' → H' p = some o' → Purse (m + 40) o' → H' t = some (.tup [.int x, .int z]) → Q (.ref t) H'
/-- the rules that stand in for great ones -/
def dfltF (l n : Int) : Fd := .two .plus (.over (.noise 3 l) n) .px
theorem dflt_drawn {l n : Int} (l0 : 0 ≤ l) (l1 : l ≤ 8) (n0 : 1 ≤ n) (n1 : n ≤ 1000000000) : Drawn (dfltF l n) 3 := by
  have d0 : (0 : Int) / n = 0 := Int.zero_ediv n
  have d1 : 0 ≤ 65535 / n := Int.ediv_nonneg (by decide) (by omega)
  have d2 : 65535 / n ≤ 65535 := Int.ediv_le_self _ (by decide)
  refine ⟨⟨True.intro, True.intro⟩, ⟨⟨⟨⟨by decide, by decide⟩, l0, l1⟩, n0, n1⟩, True.intro⟩, by simp [dfltF, dep], ⟨by simp [dfltF, expand, cn], ?_, ?_, ?_⟩⟩
  · intro p hp
    simp only [dfltF, expand, allE, rangeG, W2.rng, wideN, List.cons_append, List.nil_append, List.mem_cons, List.not_mem_nil, or_false] at hp
    rcases hp with rfl | rfl | rfl | rfl <;> simp only [d0] <;> omega
  · simp only [dfltF, expand, rangeG, W2.rng, wideN, d0]; omega
  · simp only [dfltF, expand, rangeG, W2.rng, wideN]; omega
/-! ### the program: knots, noise -/
def spFour : Sp := fun vs H Q _ => ∃ g s i j : Int, vs = [.int g, .int s, .int i, .int j] ∧ ∀ p, H p = none → Q (.ref p) (upd H p (.tup (fourV g s i j)))
def spNV : Sp := fun vs H Q _ => ∃ g s l x z : Int, vs = [.int g, .int s, .int l, .int x, .int z, .non] ∧ 0 ≤ l ∧ l ≤ 8 ∧ ∀ H', Same H H' → Q (.int (noiseL g s l x z)) H'
/-! ### the program: values of steps -/
def spRun (K : PySem.W.Frag) : Sp := fun vs H Q _ => ∃ (a : Addr) (ws : List V) (st : List Stp) (g x z : Int), vs = [.ref a, .int g, .int x, .int z, .non] ∧ SqL K H a ws ∧ StepsR H ws st ∧ Ok st ∧ OkSs st ∧ Szd g x z 200000 st ∧ st ≠ [] ∧ st.length ≤ 1000 ∧
  ∀ H', Same H H' → Q (.int (((valA g x z).run st).getD (st.length - 1) 0)) H'
theorem at_ints {xs : List Int} {j : Nat} (h : j < xs.length) : atI (xs.map V.int) (j : Int) = some (.int (xs.getD j 0)) := by
  refine atI_nat ?_
  rw [List.getElem?_map, List.getElem?_eq_getElem h]
  simp [List.getD, List.getElem?_eq_getElem h]
theorem at_last {xs : List Int} {n : Nat} (h : xs.length = n + 1) : atI (xs.map V.int) (-1) = some (.int (xs.getD n 0)) := by
  have e : atI (xs.map V.int) (-1) = (xs.map V.int)[n]? := by
    unfold atI ixN
    rw [List.length_map, h]
    have e2 : ((-1 : Int) + ((n + 1 : Nat) : Int)).toNat = n := by omega
    simp
    rw [if_pos (by omega)]
    have e3 : (-1 + ((n : Int) + 1)).toNat = n := by omega
    simp [e3]
  rw [e, List.getElem?_map, List.getElem?_eq_getElem (by omega)]
  simp [List.getD, List.getElem?_eq_getElem (show n < xs.length by omega)]
/-! ### the program: weights -/
def spFrom : Sp := fun vs H Q _ => ∃ a lo hi : Int, vs = [.int a, .int lo, .int hi] ∧ lo ≤ a ∧ a ≤ hi ∧ Q (.bl true) H
def spName : Sp := fun vs H Q _ => ∃ x : Str, vs = [.str x] ∧ NameOk x ∧ Q (.bl true) H
theorem small_sign : ∀ c : Nat, 97 ≤ c → c ≤ 122 → (Unicode.isAlpha c && (Unicode.isLower c && (!Unicode.isUpper c && (!Unicode.isTitle c && decide (c < 128))))) = true := by
  intro c h0 h1
  rcases (show c = 97 ∨ c = 98 ∨ c = 99 ∨ c = 100 ∨ c = 101 ∨ c = 102 ∨ c = 103 ∨ c = 104 ∨ c = 105 ∨ c = 106 ∨ c = 107 ∨ c = 108 ∨ c = 109 ∨ c = 110 ∨ c = 111 ∨ c = 112 ∨ c = 113 ∨ c = 114 ∨ c = 115 ∨ c = 116 ∨ c = 117 ∨ c = 118 ∨ c = 119 ∨ c = 120 ∨ c = 121 ∨ c = 122 by omega) with rfl | rfl | rfl | rfl | rfl | rfl | rfl | rfl | rfl | rfl | rfl | rfl | rfl | rfl | rfl | rfl | rfl | rfl | rfl | rfl | rfl | rfl | rfl | rfl | rfl | rfl <;> decide +kernel
theorem name_signs {x : Str} (h : NameOk x) : Txt.isascii x = true ∧ Txt.isalpha x = true ∧ Txt.islower x = true := by
  have hs : ∀ c ∈ x.cps, Unicode.isAlpha c = true ∧ Unicode.isLower c = true ∧ Unicode.isUpper c = false ∧ Unicode.isTitle c = false ∧ c < 128 := fun c hc => by
    have b := h.2.2 c (by simpa using hc)
    have e := small_sign c b.1 b.2
    simp only [Bool.and_eq_true, Bool.not_eq_true', decide_eq_true_eq] at e
    exact ⟨e.1, e.2.1, e.2.2.1, e.2.2.2.1, e.2.2.2.2⟩
  have hl : 0 < x.length := h.1
  have hz : 0 < x.cps.size := hl
  refine ⟨?_, ?_, ?_⟩
  · unfold Txt.isascii
    rw [Array.all_eq_true']
    intro c hc
    exact decide_eq_true (hs c hc).2.2.2.2
  · unfold Txt.isalpha
    rw [Bool.and_eq_true]
    refine ⟨decide_eq_true hl, ?_⟩
    rw [Array.all_eq_true']
    intro c hc
    exact (hs c hc).1
  · unfold Txt.islower
    rw [Bool.and_eq_true]
    refine ⟨?_, ?_⟩
    · rw [Array.any_eq_true']
      exact ⟨x.cps[0], Array.getElem_mem hz, (hs _ (Array.getElem_mem hz)).2.1⟩
    · rw [Bool.not_eq_true', Bool.eq_false_iff]
      intro e
      rw [Array.any_eq_true'] at e
      obtain ⟨c, hc, e⟩ := e
      have b := hs c hc
      rw [b.2.2.1, b.2.2.2.1] at e
      cases e
/-- hands back a weight -/
def WTo (K : PySem.W.Frag) (H : Hp) (Q : VK) (e : Ex) : Prop := ∀ p H', Same H H' → SqT K H' p [.int (cn e : Nat), .int (grE e)] → Q (.ref p) H'
def spW (K : PySem.W.Frag) (n : Nat) : Sp := fun vs H Q _ => ∃ (u : V) (F : Fd) (d : Addr) (r : Fm.Env), vs = [u, .ref d] ∧ FRep F H u ∧ dep F + 1 ≤ n ∧ OkF F ∧ Bnd F (r.map (·.1)) ∧ OkR r ∧ WEnv K H d r ∧ Cok F r ∧ cn (expand F r) ≤ 1000000000000000000000000000000 ∧ r.length + n ≤ 1000 ∧ WTo K H Q (expand F r)
def longF : Fd → Prop
  | .bel _ _ _ _ => True
  | .shift _ _ _ => True
  | .lt _ _ _ => True
  | _ => False
def spWL (K : PySem.W.Frag) (n : Nat) : Sp := fun vs H Q _ => ∃ (u : V) (F : Fd) (d : Addr) (r : Fm.Env), vs = [u, .ref d] ∧ longF F ∧ FRep F H u ∧ dep F ≤ n ∧ OkF F ∧ Bnd F (r.map (·.1)) ∧ OkR r ∧ WEnv K H d r ∧ Cok F r ∧ cn (expand F r) ≤ 1000000000000000000000000000000 ∧ r.length + n ≤ 999 ∧ WTo K H Q (expand F r)
theorem WTo.new {K : PySem.W.Frag} {H : Hp} {Q : VK} {e : Ex} {a b : Int} (q : WTo K H Q e) (e1 : a = (cn e : Nat)) (e2 : b = grE e) {H1 : Hp} (s : Same H H1) : [V.int a, V.int b].length ≤ sizeLine ∧ ∀ p, H1 p = none → Q (.ref p) (upd H1 p (.tup [.int a, .int b])) := by
  subst e1 e2
  exact ⟨by show 2 ≤ sizeLine; decide, fun p hp => q p _ (s.trans (same_new hp)) (SqT.of upd_same)⟩
theorem WTo.later {K : PySem.W.Frag} {H H1 : Hp} {Q : VK} {e : Ex} (q : WTo K H Q e) (s : Same H H1) : WTo K H1 Q e := fun p H' s' h => q p H' (s.trans s') h
theorem pairs_word (w : W2) : inV (.str w.word) [V.str "plus", V.str "less", V.str "times", V.str "least", V.str "most"] = true := by cases w <;> decide +kernel
theorem none_back {H H' : Hp} {i i2 : Addr} {o : HO} (hi : H i = none) (s : Same H H') (h : H' i2 = none) : H i2 = none := by
  cases e : H i2 with
  | none => rfl
  | some u => rw [s _ _ e] at h; cases h
theorem sqT_put {K : PySem.W.Frag} {H : Hp} {p a : Addr} {xs : List V} {kvs : List (Key × V)} {o : HO} (h : SqT K H p xs) (ha : H a = some (.dK kvs)) : SqT K (upd H a o) p xs := by
  rcases h with (h | ⟨o', h⟩) | h
  · exact .inl (.inl (by rw [upd_ne (ne_of h ha (by intro z; cases z))]; exact h))
  · exact .inl (.inr ⟨o', by rw [upd_ne (ne_of h ha (by intro z; cases z))]; exact h⟩)
  · exact .inr h
/-! ### the program: steps -/
/-- rules that are told as they are: closed, within their bounds, not too great -/
structure Good (F : Fd) : Prop where
  bnd : Bnd F []
  ok : OkF F
  dep : dep F ≤ 18
  ud : udep F [] ≤ 59
  cok : Cok F []
  cn : cn (expand F []) ≤ 200
  vb : vb (expand F []) 40 ≤ 200000
  rng : ∀ p ∈ allE wideN (expand F []) (-1000000) (-1000000) 1000000 1000000, -1000000000000000000000000000000 ≤ p.1 ∧ p.2 ≤ 1000000000000000000000000000000
def spGr : Sp := fun vs H Q _ => ∃ (u : V) (F : Fd), vs = [u] ∧ FRep F H u ∧ Good F ∧ ∀ H', Same H H' → Q (.int (grE (expand F []))) H'
/-- hands back a step's number; the steps made so far stand at mk -/
def NTo (H : Hp) (Q : VK) (mk : Addr) (R : List Stp × Nat) : Prop := ∀ H', Keep mk H H' → H' mk = some (.dT (mkKV R.1)) → Q (.int (R.2 : Int)) H'
def spPlaced (n : Nat) : Sp := fun vs H Q _ => ∃ (u : V) (F : Fd) (dx dz : Int) (d mk : Addr) (m : Nat) (r : Fm.Env) (δ : List (Str × Nat)) (st : List Stp), vs = [u, .int dx, .int dz, .ref d, .ref mk] ∧ FRep F H u ∧ EnvR m H d r δ ∧ Bnd F (r.map (·.1)) ∧ udep F δ ≤ n ∧
  H mk = some (.dT (mkKV st)) ∧ st.length + cn (expand F r) ≤ 900 ∧ r.length + udep F δ ≤ 900 ∧ NTo H Q mk (into (expand F r) dx dz st)
theorem spPlaced_zero {vs : List V} {H : Hp} {Q : VK} {E : XK} (h : spPlaced 0 vs H Q E) : False := by
  obtain ⟨u, F, dx, dz, d, mk, m, r, δ, st, _, _, _, _, h, _⟩ := h
  have : ∀ (F : Fd) (δ : List (Str × Nat)), 1 ≤ udep F δ := fun F δ => by cases F <;> simp only [udep] <;> omega
  have := this F δ
  omega
/-! ### the program: ranges over all points, the steps of rules -/
/-- a box whose corners are not too far off -/
structure BoxB (x0 z0 x1 z1 : Int) : Prop where
  wx : x0 ≤ x1
  wz : z0 ≤ z1
  bx0 : x0.natAbs ≤ 100000000000
  bx1 : x1.natAbs ≤ 100000000000
  bz0 : z0.natAbs ≤ 100000000000
  bz1 : z1.natAbs ≤ 100000000000
abbrev Pr (H : Hp) (p : Addr) (ab : Int × Int) : Prop := H p = some (.tup [.int ab.1, .int ab.2])
def PrTo (H : Hp) (Q : VK) (ab : Int × Int) : Prop := ∀ p H', Same H H' → Pr H' p ab → Q (.ref p) H'
theorem PrTo.new {H : Hp} {Q : VK} {ab : Int × Int} {a b : Int} (q : PrTo H Q ab) (e1 : a = ab.1) (e2 : b = ab.2) {H1 : Hp} (s : Same H H1) : [V.int a, V.int b].length ≤ sizeLine ∧ ∀ p, H1 p = none → Q (.ref p) (upd H1 p (.tup [.int a, .int b])) := by
  subst e1 e2
  exact ⟨by show 2 ≤ sizeLine; decide, fun p hp => q p _ (s.trans (same_new hp)) upd_same⟩
def spJoin : Sp := fun vs H Q _ => ∃ (w : W2) (p1 p2 : Addr) (a b : Int × Int), vs = [.str w.word, .ref p1, .ref p2] ∧ Pr H p1 a ∧ Pr H p2 b ∧ (w = .times → CMulW a.1 b.1 ∧ CMulW a.1 b.2 ∧ CMulW a.2 b.1 ∧ CMulW a.2 b.2) ∧ PrTo H Q (w.rng a b)
def spBelw : Sp := fun vs H Q _ => ∃ (l p1 p2 p3 p4 : Addr) (a b c d : Int × Int), vs = [.ref l] ∧ H l = some (.lst [.ref p1, .ref p2, .ref p3, .ref p4]) ∧ Pr H p1 a ∧ Pr H p2 b ∧ Pr H p3 c ∧ Pr H p4 d ∧ PrTo H Q (belR a b c d)
theorem rng_one (N : NR) (x0 z0 x1 z1 : Int) (s : Stp) (vs : List (Int × Int)) : True := True.intro
/-- all ranges are less than B bits long -/
def SzR (N : NR) (x0 z0 x1 z1 : Int) (B : Nat) (st : List Stp) : Prop := ∀ i, i < st.length → B2 (((rngA N x0 z0 x1 z1).run st).getD i (0, 0)) B
def spRgs (K : PySem.W.Frag) : Sp := fun vs H Q _ => ∃ (a b : Addr) (ws : List V) (st : List Stp) (g x0 z0 x1 z1 : Int), vs = [.ref a, .int g, .ref b] ∧ SqL K H a ws ∧ StepsR H ws st ∧ Ok st ∧ OkSs st ∧ SqT K H b [.int x0, .int z0, .int x1, .int z1] ∧ BoxB x0 z0 x1 z1 ∧ ShS st ∧ SzR (exactN g) x0 z0 x1 z1 200000 st ∧ st.length ≤ 1000 ∧
  ∀ l H' vs', Same H H' → H' l = some (.lst vs') → PairsR H' vs' ((rngA (exactN g) x0 z0 x1 z1).run st) → Q (.ref l) H'
def spMust (K : PySem.W.Frag) : Sp := fun vs H Q _ => ∃ (a : Addr) (ws : List V) (st : List Stp), vs = [.ref a] ∧ SqL K H a ws ∧ StepsR H ws st ∧ Ok st ∧ OkSs st ∧ ShS st ∧ SzR wideN (-1000000) (-1000000) 1000000 1000000 200000 st ∧ st.length ≤ 1000 ∧
  AllP wideN (-1000000) (-1000000) 1000000 1000000 (fun p => -1000000000000000000000000000000 ≤ p.1 ∧ p.2 ≤ 1000000000000000000000000000000) st ∧ ∀ H', Same H H' → Q .non H'
def spSteps : Sp := fun vs H Q _ => ∃ (u : V) (F : Fd), vs = [u] ∧ FRep F H u ∧ Good F ∧ ∀ l H' ws, H l = none → Same H H' → H' l = some (.lst ws) → StepsR H' ws (stepsE (expand F [])) → Q (.ref l) H'
def spRunS (K : PySem.W.Frag) : Sp := fun vs H Q _ => ∃ (a : Addr) (ws : List V) (st : List Stp) (g x z : Int), vs = [.ref a, .int g, .int x, .int z] ∧ SqL K H a ws ∧ StepsR H ws st ∧ Ok st ∧ OkSs st ∧ Szd g x z 200000 st ∧ st ≠ [] ∧ st.length ≤ 1000 ∧
  ∀ H', Same H H' → Q (.int (((valA g x z).run st).getD (st.length - 1) 0)) H'
/-! ### the program: noise over a box -/
theorem g_rng3 {σ : L2.St} {H : Hp} {ts : TA} {R : It → Hp → Prop} (q : ts σ H fun vs H1 => ∃ (i j c : Int) (n : Nat), vs = [.int i, .int j, .int c] ∧ RgC i j c n ∧ R (Itc i c n) H1) : iRng3 ts σ H R := q
theorem rg_up {S lo hi : Int} (S0 : 0 < S) (S1 : S ≤ 256) (h1 : lo.natAbs ≤ 1000000000000) (h2 : hi.natAbs ≤ 1000000000000) (h3 : ((lo / S + 1) * S).natAbs ≤ 3000000000000) : RgC ((lo / S + 1) * S) hi S (turnC S lo hi) := by
  obtain ⟨b, eb⟩ : ∃ b, (lo / S + 1) * S = b := ⟨_, rfl⟩
  unfold turnC
  rw [eb] at h3 ⊢
  have q0 : b < hi → 0 ≤ (hi - 1 - b) / S := fun h => Int.ediv_nonneg (by omega) (by omega)
  have hsz : Builtin.Range.rangeSize b hi S = ((if b < hi then ((hi - 1 - b) / S).toNat + 1 else 0 : Nat) : Int) := by
    unfold Builtin.Range.rangeSize
    rw [if_pos (by omega)]
    by_cases e : b < hi
    · rw [if_pos e, if_pos e, show hi - b - 1 = hi - 1 - b by omega]
      have := q0 e
      omega
    · rw [if_neg e, if_neg e]
      rfl
  refine ⟨by omega, by omega, ?_, hsz⟩
  have hz : Builtin.Range.rangeSize b hi S ≤ 6000000000000 := by
    rw [hsz]
    split
    · have l : (hi - 1 - b) / S ≤ hi - 1 - b := Int.ediv_le_self _ (by omega)
      have := q0 (by assumption)
      omega
    · decide
  have hz0 : 0 ≤ Builtin.Range.rangeSize b hi S := by rw [hsz]; omega
  unfold Builtin.Range.small
  rw [if_pos (by omega)]
  simp only [Builtin.Range.rangeFitsLong, Bool.and_eq_true, Bool.or_eq_true, decide_eq_true_eq, beq_iff_eq]
  omega
/-- hands back a new list of numbers -/
def LTo (H : Hp) (Q : VK) (ns : List Int) : Prop := ∀ l H', H l = none → Same H H' → H' l = some (.lst (ns.map V.int)) → Q (.ref l) H'
def spTurns : Sp := fun vs H Q _ => ∃ (lo hi : Int) (n : Nat), vs = [.int lo, .int hi, .int n] ∧ n ≤ 8 ∧ lo.natAbs ≤ 1000000000000 ∧ hi.natAbs ≤ 1000000000000 ∧ lo ≤ hi ∧ turnC (2 ^ n) lo hi ≤ 64 ∧ LTo H Q (turnsL (2 ^ n) lo hi)
theorem knot_row_eq (g s i j : Int) : knotL g s i j = ((((((g + 48271 * s + 7) % 2147483647 * ((g + 48271 * s + 7) % 2147483647) + 69621 * i + 1) % 2147483629) * (((g + 48271 * s + 7) % 2147483647 * ((g + 48271 * s + 7) % 2147483647) + 69621 * i + 1) % 2147483629) + 1 + 16807 * j) % 2147483587) * (((((g + 48271 * s + 7) % 2147483647 * ((g + 48271 * s + 7) % 2147483647) + 69621 * i + 1) % 2147483629) * (((g + 48271 * s + 7) % 2147483647 * ((g + 48271 * s + 7) % 2147483647) + 69621 * i + 1) % 2147483629) + 1 + 16807 * j) % 2147483587) + ((((g + 48271 * s + 7) % 2147483647 * ((g + 48271 * s + 7) % 2147483647) + 69621 * i + 1) % 2147483629) * (((g + 48271 * s + 7) % 2147483647 * ((g + 48271 * s + 7) % 2147483647) + 69621 * i + 1) % 2147483629) + 1 + 16807 * j) % 2147483587) % 2147483579 % 65536 := by
  unfold knotL Fm.kD Fm.kC Fm.kB Fm.kA
  generalize ((g + 48271 * s + 7) % 2147483647 * ((g + 48271 * s + 7) % 2147483647) + 69621 * i + 1) % 2147483629 = B
  rw [show B * B + 16807 * j + 1 = B * B + 1 + 16807 * j by omega]
def spKrow : Sp := fun vs H Q _ => ∃ (g s i : Int) (pl : Addr) (ps : List Int), vs = [.int g, .int s, .int i, .ref pl] ∧ H pl = some (.lst (ps.map V.int)) ∧ ps.length ≤ 1000 ∧ LTo H Q (ps.map fun j => knotL g s i j)
theorem corner_eq {g s x z S : Int} {n : Nat} (hS : (2 : Int) ^ n = S) (S0 : 0 < S) : (((S - x % S) * knotL g s (x / S) (z / S) + x % S * knotL g s (x / S + 1) (z / S)) * S + z % S * ((S - x % S) * knotL g s (x / S) (z / S + 1) + x % S * knotL g s (x / S + 1) (z / S + 1) - (S - x % S) * knotL g s (x / S) (z / S) - x % S * knotL g s (x / S + 1) (z / S))) / 2 ^ (n + n) = noiseL g s n x z := by
  rw [noise_of hS S0, Int.pow_add, hS]
  congr 1
  grind
theorem ne_of_none2 {H : Hp} {a b : Addr} {o : HO} (h : H a = some o) (k : H b = none) : b ≠ a := fun e => by rw [e, h] at k; cases k
def spCorner : Sp := fun vs H Q _ => ∃ (g s x0 z0 x1 z1 : Int) (n : Nat) (b : Addr), vs = [.int g, .int s, .int n, .ref b] ∧ n ≤ 8 ∧ H b = some (.tup [.int x0, .int z0, .int x1, .int z1]) ∧ x0 / 2 ^ n = x1 / 2 ^ n ∧ z0 / 2 ^ n = z1 / 2 ^ n ∧ LTo H Q [noiseL g s n x0 z0, noiseL g s n x0 z1, noiseL g s n x1 z0, noiseL g s n x1 z1]
/-- for each z the place of its knot in the row of knots, and how far behind it z lies -/
def SpotsK (H : Hp) (S : Int) (zs ps : List Int) (ws : List V) : Prop := ws.length = zs.length ∧ ∀ (k : Nat) (z : Int), zs[k]? = some z → ∃ (a : Addr) (lo : Nat), ws[k]? = some (.ref a) ∧ H a = some (.tup [.int lo, .int (z % S)]) ∧ ps[lo]? = some (z / S) ∧ (z % S ≠ 0 → ps[lo + 1]? = some (z / S + 1))
def spBeside : Sp := fun vs H Q _ => ∃ (n : Nat) (zl : Addr) (zs : List Int), vs = [.int n, .ref zl] ∧ n ≤ 8 ∧ H zl = some (.lst (zs.map V.int)) ∧ zs.Pairwise (· ≤ ·) ∧ zs.length ≤ 200 ∧
  ∀ (pl sl t : Addr) (ps : List Int) (ws : List V) (H' : Hp), Same H H' → H' t = some (.tup [.ref pl, .ref sl]) → H' pl = some (.lst (ps.map V.int)) → H' sl = some (.lst ws) → SpotsK H' (2 ^ n) zs ps ws → ps.length ≤ 2 * zs.length → Q (.ref t) H'
theorem SpotsK.mono {H H' : Hp} {S : Int} {zs ps : List Int} {ws : List V} (h : SpotsK H S zs ps ws) (t : ∀ (p : Addr) (xs : List V), H p = some (.tup xs) → H' p = some (.tup xs)) : SpotsK H' S zs ps ws :=
  ⟨h.1, fun k z hk => by obtain ⟨a, lo, e1, e2, e3⟩ := h.2 k z hk; exact ⟨a, lo, e1, t _ _ e2, e3⟩⟩
/-- how the row of knots ends behind the z ahead of i -/
def TailK (S : Int) (zs : List Int) (i : Nat) (ps : List Int) : Prop := (i = 0 ∧ ps = []) ∨ ∃ (m : Nat) (z : Int) (base : List Int), i = m + 1 ∧ zs[m]? = some z ∧ (ps = base ++ [z / S] ∨ ps = base ++ [z / S, z / S + 1])
theorem SpotsK.more {H : Hp} {S : Int} {zs ps : List Int} {ws : List V} (h : SpotsK H S zs ps ws) (e : List Int) : SpotsK H S zs (ps ++ e) ws := by
  have ap : ∀ {lo : Nat} {v : Int}, ps[lo]? = some v → (ps ++ e)[lo]? = some v := fun {lo v} hv => by
    have hl : lo < ps.length := by
      rcases Nat.lt_or_ge lo ps.length with h | h
      · exact h
      · rw [List.getElem?_eq_none h] at hv; cases hv
    rw [List.getElem?_append_left hl]
    exact hv
  exact ⟨h.1, fun k z hk => by obtain ⟨a, lo, e1, e2, e3, e4⟩ := h.2 k z hk; exact ⟨a, lo, e1, e2, ap e3, fun hq => ap (e4 hq)⟩⟩
theorem SpotsK.push {H : Hp} {S z : Int} {zs ps : List Int} {ws : List V} {i lo : Nat} {t : Addr} (h : SpotsK H S (zs.take i) ps ws) (hz : zs[i]? = some z) (ht : H t = some (.tup [.int lo, .int (z % S)])) (h1 : ps[lo]? = some (z / S)) (h2 : z % S ≠ 0 → ps[lo + 1]? = some (z / S + 1)) : SpotsK H S (zs.take (i + 1)) ps (ws ++ [.ref t]) := by
  have hi : i < zs.length := by
    rcases Nat.lt_or_ge i zs.length with h | h
    · exact h
    · rw [List.getElem?_eq_none h] at hz; cases hz
  have hw : ws.length = i := by rw [h.1, List.length_take]; omega
  have et : zs.take (i + 1) = zs.take i ++ [z] := by rw [List.take_succ, hz]; rfl
  refine ⟨by rw [List.length_append, hw, List.length_take]; simp; omega, fun k y hk => ?_⟩
  rcases Nat.lt_trichotomy k i with c | c | c
  · rw [et, List.getElem?_append_left (by rw [List.length_take]; omega)] at hk
    obtain ⟨a, lo', e1, e2⟩ := h.2 k y hk
    exact ⟨a, lo', by rw [List.getElem?_append_left (by omega)]; exact e1, e2⟩
  · subst c
    rw [et, List.getElem?_append_right (by rw [List.length_take]; omega), List.length_take, show k - min k zs.length = 0 by omega] at hk
    obtain rfl : z = y := by simpa using hk
    exact ⟨t, lo, by rw [List.getElem?_append_right (by omega), hw, Nat.sub_self]; rfl, ht, h1, h2⟩
  · rw [List.getElem?_eq_none (by rw [List.length_take]; omega)] at hk
    cases hk
theorem beside_fin {H H4 : Hp} {S z : Int} {zs ps2 b2 : List Int} {ws : List V} {i : Nat} {l3 l4 t : Addr} (s4 : Same H H4) (hl4 : H l4 = none) (n34 : l4 ≠ l3) (f3 : H4 l3 = some (.lst (ps2.map V.int))) (f4 : H4 l4 = some (.lst ws)) (ht : H4 t = none)
    (hK : SpotsK H4 S (zs.take i) ps2 ws) (hz : zs[i]? = some z) (hf : (ps2 = b2 ++ [z / S] ∧ z % S = 0) ∨ ps2 = b2 ++ [z / S, z / S + 1]) (hn : ps2.length ≤ 2 * (i + 1)) :
    Same H (upd (upd H4 t (.tup [.int b2.length, .int (z % S)])) l4 (.lst (ws ++ [.ref t]))) ∧ (upd (upd H4 t (.tup [.int b2.length, .int (z % S)])) l4 (.lst (ws ++ [.ref t]))) l3 = some (.lst (ps2.map V.int)) ∧ (upd (upd H4 t (.tup [.int b2.length, .int (z % S)])) l4 (.lst (ws ++ [.ref t]))) l4 = some (.lst (ws ++ [.ref t])) ∧
      SpotsK (upd (upd H4 t (.tup [.int b2.length, .int (z % S)])) l4 (.lst (ws ++ [.ref t]))) S (zs.take (i + 1)) ps2 (ws ++ [.ref t]) ∧ ps2.length ≤ 2 * (i + 1) ∧ TailK S zs (i + 1) ps2 := by
  have s5 := same_new (o := .tup [.int b2.length, .int (z % S)]) ht
  have nt : t ≠ l4 := fun e => by rw [e, f4] at ht; cases ht
  have tp := tup_putL (o := .lst (ws ++ [.ref t])) (s5 _ _ f4)
  refine ⟨same_put (s4.trans s5) hl4, by rw [upd_ne n34.symm]; exact s5 _ _ f3, upd_same, ?_, hn, .inr ⟨i, z, b2, rfl, hz, ?_⟩⟩
  · refine ((hK.mono (same_tup s5)).mono tp).push hz (tp _ _ upd_same) ?_ fun hq => ?_
    · rcases hf with ⟨rfl, _⟩ | rfl <;> simp
    · rcases hf with ⟨rfl, e⟩ | rfl
      · exact absurd e hq
      · simp
  · rcases hf with ⟨e, _⟩ | e
    · exact .inl e
    · exact .inr e
/-- turns over a list, whatever is done at each -/
theorem it_list {K : PySem.W.Frag} {a : Addr} {xs : List V} {Body : V → Hp → (Hp → Prop) → Prop} {End : Hp → Prop} {H0 : Hp} (I : Nat → Hp → Prop) (start : I 0 H0) (at_ : ∀ k G, k ≤ xs.length → I k G → SqL K G a xs)
    (turn : ∀ k v G, xs[k]? = some v → I k G → Body v G (I (k + 1))) (fin : ∀ G, I xs.length G → End G) :
    ∃ W : Nat → Nat → Hp → Prop, (∃ m, W 0 m H0) ∧ ∀ i m H, W i m H → ((Itl K a).stop i H ∧ End H) ∨ ((Itl K a).go i H ∧ ∃ Nx : Hp → Prop, (∀ H', Nx H' → ∃ m', m' < m ∧ W (i + 1) m' H') ∧ ∀ x H', (Itl K a).yld i H x H' → Body x H' Nx) := by
  refine ⟨fun k c G => c + k = xs.length ∧ I k G, ⟨xs.length, rfl, start⟩, fun k c G hw => ?_⟩
  obtain ⟨hc, hI⟩ := hw
  have hq := at_ k G (by omega) hI
  cases c with
  | zero =>
    obtain rfl : k = xs.length := by omega
    exact .inl ⟨⟨xs, hq, Nat.le_refl _⟩, fin G hI⟩
  | succ c =>
    have hk : k < xs.length := by omega
    refine .inr ⟨⟨xs, xs[k], hq, List.getElem?_eq_getElem hk⟩, I (k + 1), fun G' h' => ⟨c, Nat.lt_succ_self c, by omega, h'⟩, fun v G' hy => ?_⟩
    obtain ⟨rfl, hy⟩ := hy
    exact turn k v G' (hy xs hq) hI
theorem noise_zero (g s x z : Int) : noiseL g s 0 x z = knotL g s x z := by
  have h := noise_knot (g := g) (s := s) (x := x) (z := z) (S := 1) (k := 0) rfl (by decide) (Int.emod_one x) (Int.emod_one z)
  rw [Int.ediv_one, Int.ediv_one] at h
  exact h
theorem int_at {xs : List Int} {k : Nat} {y : V} (h : (xs.map V.int)[k]? = some y) : ∃ x, xs[k]? = some x ∧ y = .int x ∧ k < xs.length := by
  rw [List.getElem?_map] at h
  cases e : xs[k]? with
  | none => rw [e] at h; cases h
  | some x =>
    rw [e] at h
    refine ⟨x, rfl, by cases h; rfl, ?_⟩
    rcases Nat.lt_or_ge k xs.length with c | c
    · exact c
    · rw [List.getElem?_eq_none c] at e; cases e
theorem take_at {α : Type} {xs : List α} {k : Nat} {x : α} (h : xs[k]? = some x) : xs.take (k + 1) = xs.take k ++ [x] := by rw [List.take_succ, h]; rfl
theorem gridL_take {g s l : Int} {xs zs : List Int} {k : Nat} {x : Int} (h : xs[k]? = some x) : gridL g s l (xs.take (k + 1)) zs = gridL g s l (xs.take k) zs ++ zs.map fun z => noiseL g s l x z := by
  rw [take_at h]
  unfold gridL
  rw [List.flatMap_append]
  simp
theorem gridL_len {g s l : Int} (xs zs : List Int) : (gridL g s l xs zs).length = xs.length * zs.length := by
  unfold gridL
  induction xs with
  | nil => simp
  | cons x r ih => rw [List.flatMap_cons, List.length_append, ih, List.length_map, List.length_cons, Nat.succ_mul]; omega
/-- a row of knots, carried on to the place p behind it -/
def nearV (g s I p S j : Int) : Int := knotL g s I j * S + p * (knotL g s (I + 1) j - knotL g s I j)
/-- the rows of knots made so far -/
def RowsOk (g s : Int) (ps : List Int) (v : Addr) (G : Hp) (kvs : List (Key × V)) : Prop := ∀ (i : Int) (w : V), valV kvs (Sum.inl i) = some w → ∃ a, w = .ref a ∧ a ≠ v ∧ G a = some (.lst ((ps.map fun j => knotL g s i j).map V.int))
theorem RowsOk.later {g s : Int} {ps : List Int} {v : Addr} {G G' : Hp} {kvs : List (Key × V)} (h : RowsOk g s ps v G kvs) (k : Same G G') : RowsOk g s ps v G' kvs := fun i w e => by
  obtain ⟨a, e1, e2, e3⟩ := h i w e
  exact ⟨a, e1, e2, k _ _ e3⟩
theorem RowsOk.put {g s I : Int} {ps : List Int} {v r l : Addr} {G : Hp} {kvs : List (Key × V)} (h : RowsOk g s ps v G kvs) (hl : G l = some (.lst ((ps.map fun j => knotL g s I j).map V.int))) (hlv : l ≠ v) (hr : G r = some (.dK kvs)) : RowsOk g s ps v (upd G r (.dK (putK kvs (Sum.inl I) (.ref l)))) (putK kvs (Sum.inl I) (.ref l)) := fun i w e => by
  rw [valV_put] at e
  split at e
  · rename_i c
    cases c
    cases e
    exact ⟨l, rfl, hlv, by rw [upd_ne (fun c => by rw [c, hr] at hl; cases hl)]; exact hl⟩
  · obtain ⟨a, e1, e2, e3⟩ := h i w e
    exact ⟨a, e1, e2, by rw [upd_ne (fun c => by rw [c, hr] at e3; cases e3)]; exact e3⟩
/-- turns over two lists at once -/
theorem it_zip {K : PySem.W.Frag} {a b : Addr} {xs ys : List V} {n : Nat} {Body : V → Hp → (Hp → Prop) → Prop} {End : Hp → Prop} {H0 : Hp} (hn : n = min xs.length ys.length) (I : Nat → Hp → Prop) (start : I 0 H0) (at_ : ∀ k G, I k G → SqL K G a xs ∧ SqL K G b ys)
    (turn : ∀ k x y T G, xs[k]? = some x → ys[k]? = some y → I k G → G T = none → Body (.ref T) (upd G T (.tup [x, y])) (I (k + 1))) (fin : ∀ G, I n G → End G) :
    ∃ W : Nat → Nat → Hp → Prop, (∃ m, W 0 m H0) ∧ ∀ i m H, W i m H → ((Itz K a b).stop i H ∧ End H) ∨ ((Itz K a b).go i H ∧ ∃ Nx : Hp → Prop, (∀ H', Nx H' → ∃ m', m' < m ∧ W (i + 1) m' H') ∧ ∀ x H', (Itz K a b).yld i H x H' → Body x H' Nx) := by
  refine ⟨fun k c G => c + k = n ∧ I k G, ⟨n, rfl, start⟩, fun k c G hw => ?_⟩
  obtain ⟨hc, hI⟩ := hw
  obtain ⟨ha, hb⟩ := at_ k G hI
  cases c with
  | zero =>
    obtain rfl : k = n := by omega
    exact .inl ⟨⟨xs, ys, ha, hb, by omega⟩, fin G hI⟩
  | succ c =>
    have hx : k < xs.length := by omega
    have hy : k < ys.length := by omega
    refine .inr ⟨⟨xs, ys, xs[k], ys[k], ha, hb, List.getElem?_eq_getElem hx, List.getElem?_eq_getElem hy⟩, I (k + 1), fun G' h' => ⟨c, Nat.lt_succ_self c, by omega, h'⟩, fun v G' hv => ?_⟩
    obtain ⟨T, x', y', rfl, hT, rfl, f1, f2⟩ := hv
    exact turn k x' y' T G (f1 xs ha) (f2 ys hb) hI hT
theorem grid_val {g s x z S : Int} {n : Nat} (hS : (2 : Int) ^ n = S) (S0 : 0 < S) : (nearV g s (x / S) (x % S) S (z / S) * S + z % S * (nearV g s (x / S) (x % S) S (z / S + 1) - nearV g s (x / S) (x % S) S (z / S))) / 2 ^ (n + n) = noiseL g s n x z := by
  rw [noise_of hS S0, Int.pow_add, hS]
  congr 1
  unfold nearV
  grind
theorem cut_one (xs : List V) : cutV xs (some 1) none = xs.drop 1 := by
  unfold cutV
  cases xs with
  | nil => rfl
  | cons a r =>
    have e1 : HT.sIx (a :: r).length 0 (some 1) = 1 := by
      unfold HT.sIx
      simp
    have e2 : HT.sIx (a :: r).length (a :: r).length none = (a :: r).length := rfl
    rw [e1, e2]
    simp
theorem nearV_small {g s I p S j : Int} (S0 : 0 < S) (S1 : S ≤ 256) (h0 : 0 ≤ p) (h1 : p < S) : (nearV g s I p S j).natAbs < 2 ^ 64 := by
  have a := knot_in g s I j
  have b := knot_in g s (I + 1) j
  have m1 := Int.mul_le_mul (show knotL g s I j ≤ 65536 by omega) S1 (by omega) (by decide)
  have m0 := Int.mul_nonneg a.1 (show 0 ≤ S by omega)
  have m2 := Int.mul_le_mul (show p ≤ 256 by omega) (show knotL g s I j ≤ 65536 by omega) a.1 (by decide)
  have m3 := Int.mul_le_mul (show p ≤ 256 by omega) (show knotL g s (I + 1) j ≤ 65536 by omega) b.1 (by decide)
  have m4 := Int.mul_nonneg h0 a.1
  have m5 := Int.mul_nonneg h0 b.1
  unfold nearV
  rw [Int.mul_sub]
  omega
theorem RowsOk.vset {g s : Int} {ps : List Int} {v : Addr} {G : Hp} {kvs : List (Key × V)} {o : HO} (h : RowsOk g s ps v G kvs) : RowsOk g s ps v (upd G v o) kvs := fun i w e => by
  obtain ⟨a, e1, e2, e3⟩ := h i w e
  exact ⟨a, e1, e2, by rw [upd_ne e2]; exact e3⟩
theorem g_izip {K : PySem.W.Frag} {σ : L2.St} {H : Hp} {ts : TA} {R : It → Hp → Prop} (q : ts σ H fun vs H1 => ∃ a b xs ys, vs = [.ref a, .ref b] ∧ SqL K H1 a xs ∧ SqL K H1 b ys ∧ R (Itz K a b) H1) : iZip K ts σ H R := q
theorem g_dnotin {σ : L2.St} {H : Hp} {Q : VK} {ty td : TE} (q : ty σ H fun y H1 => td σ H1 fun x H2 => ∃ a o, x = .ref a ∧ DGet H2 a y o ∧ Q (.bl (!o.isSome)) H2) : tDNotIn ty td σ H Q := q
theorem ite_keyH {b : Bool} {A : Prop} {R : Hp → Prop} {G : Hp} (C : Hp → Prop) (key : ∀ G, C G → R G) (h2 : b = false → C G) (h1 : b = true → (∀ G, C G → R G) → A) : if b = true then A else R G := by
  cases b
  · exact iteF (key G (h2 rfl))
  · exact iteT (h1 rfl key)
def spGrid : Sp := fun vs H Q _ => ∃ (g s : Int) (n : Nat) (xl zl : Addr) (xs zs : List Int), vs = [.int g, .int s, .int n, .ref xl, .ref zl] ∧ n ≤ 8 ∧ H xl = some (.lst (xs.map V.int)) ∧ H zl = some (.lst (zs.map V.int)) ∧ zs.Pairwise (· ≤ ·) ∧ xs.length ≤ 200 ∧ zs.length ≤ 200 ∧ LTo H Q (gridL g s n xs zs)
/-- a range of noise over any box within the bounds -/
theorem one_one {a b : Int} (ha : 1 ≤ a) (hb : 1 ≤ b) (h : a * b = 1) : a = 1 ∧ b = 1 := by
  have m1 := Int.mul_le_mul_of_nonneg_left hb (show 0 ≤ a by omega)
  have m2 := Int.mul_le_mul_of_nonneg_right ha (show 0 ≤ b by omega)
  omega
theorem turn_one {S lo hi t : Int} (S0 : 0 < S) (h : lo ≤ hi) (e : hi / S = lo / S) (m : t ∈ turnsL S lo hi) : t = lo ∨ t = hi := by
  have d := lo_div (lo := hi) S0
  have e1 : (lo / S + 1) * S = lo / S * S + S := by rw [Int.add_mul, Int.one_mul]
  rw [e] at d
  unfold turnsL at m
  rcases List.mem_append.mp m with m | m
  · rcases List.mem_cons.mp m with rfl | m
    · exact .inl rfl
    · unfold turnC at m
      rw [if_neg (by omega)] at m
      simp at m
  · split at m
    · exact .inr (List.mem_singleton.mp m)
    · cases m
theorem turnC_le {S lo hi : Int} (S0 : 0 < S) (h : lo ≤ hi) : (turnC S lo hi : Int) ≤ hi / S - lo / S := by
  have l : lo / S ≤ hi / S := Int.ediv_le_ediv S0 h
  unfold turnC
  split
  · rename_i c
    have e : hi - 1 - (lo / S + 1) * S = (hi - 1) + (-(lo / S + 1)) * S := by rw [Int.neg_mul]; omega
    have q0 : 0 ≤ (hi - 1 - (lo / S + 1) * S) / S := Int.ediv_nonneg (by omega) (by omega)
    have q1 : (hi - 1 - (lo / S + 1) * S) / S = (hi - 1) / S + -(lo / S + 1) := by rw [e, Int.add_mul_ediv_right _ _ (by omega)]
    have q2 : (hi - 1) / S ≤ hi / S := Int.ediv_le_ediv S0 (by omega)
    omega
  · omega
theorem turnsL_len (S lo hi : Int) : (turnsL S lo hi).length ≤ turnC S lo hi + 2 := by
  unfold turnsL
  split <;> simp
theorem turnsL_sorted {S lo hi : Int} (S0 : 0 < S) (h : lo ≤ hi) : (turnsL S lo hi).Pairwise (· ≤ ·) := by
  have ti := fun t => turn_in (t := t) S0 h
  unfold turnsL at ti ⊢
  refine List.pairwise_append.mpr ⟨List.pairwise_cons.mpr ⟨fun t ht => (ti t (List.mem_append_left _ (List.mem_cons_of_mem _ ht))).1, ?_⟩, ?_, fun a ha b hb => ?_⟩
  · refine List.pairwise_map.mpr (List.pairwise_lt_range.imp fun {a b} hab => ?_)
    have := Int.mul_le_mul_of_nonneg_right (show (a : Int) ≤ (b : Int) by omega) (show 0 ≤ S by omega)
    omega
  · split
    · exact List.pairwise_singleton _ _
    · exact List.Pairwise.nil
  · have h2 := (ti a (List.mem_append_left _ ha)).2
    split at hb
    · rw [List.mem_singleton.mp hb]; exact h2
    · cases hb
def spNRx : Sp := fun vs H Q _ => ∃ (g s x0 z0 x1 z1 : Int) (n : Nat) (b : Addr), vs = [.int g, .int s, .int n, .ref b] ∧ n ≤ 8 ∧ H b = some (.tup [.int x0, .int z0, .int x1, .int z1]) ∧ x0 ≤ x1 ∧ z0 ≤ z1 ∧ x0.natAbs ≤ 1000000000000 ∧ x1.natAbs ≤ 1000000000000 ∧ z0.natAbs ≤ 1000000000000 ∧ z1.natAbs ≤ 1000000000000 ∧ PrTo H Q (exactN g s n x0 z0 x1 z1)
/-! ### the program: points, values of rules -/
def spPt : Sp := fun vs H Q _ => ∃ x z : Int, vs = [.int x, .int z] ∧ -1000000 ≤ x ∧ x ≤ 1000000 ∧ -1000000 ≤ z ∧ z ≤ 1000000 ∧ Q (.bl true) H
def spMustPt : Sp := fun vs H Q _ => ∃ x z : Int, vs = [.int x, .int z] ∧ -1000000 ≤ x ∧ x ≤ 1000000 ∧ -1000000 ≤ z ∧ z ≤ 1000000 ∧ Q .non H
/-- the value of rules that are told as they are -/
def spVal : Sp := fun vs H Q _ => ∃ (u : V) (F : Fd) (g x z : Int), vs = [u, .int g, .int x, .int z] ∧ FRep F H u ∧ Good F ∧ -1000000 ≤ x ∧ x ≤ 1000000 ∧ -1000000 ≤ z ∧ z ≤ 1000000 ∧ ∀ H', Same H H' → Q (.int (valE (expand F []) g x z)) H'
theorem small_pt {x : Int} (h : -1000000 ≤ x) (h2 : x ≤ 1000000) : x.natAbs < 2 ^ 40 := by
  have e : (2 : Nat) ^ 40 = 1099511627776 := by decide
  rw [e]
  omega
structure StV (F : Fd) (g x z : Int) (st : List Stp) : Prop where
  ok : Ok st
  oks : OkSs st
  szd : Szd g x z 200000 st
  ne : st ≠ []
  len : st.length ≤ 1000
  val : ((valA g x z).run st).getD (st.length - 1) 0 = valE (expand F []) g x z
theorem stV {F : Fd} (hG : Good F) {g x z : Int} (bx : x.natAbs < 2 ^ 40) (bz : z.natAbs < 2 ^ 40) : StV F g x z (stepsE (expand F [])) := by
  have hcn := hG.cn
  have ok0 : OkE (expand F []) := ok_expand F [] hG.ok okR_nil
  have io := into_ok (expand F []) 0 0 []
  obtain ⟨st, est⟩ : ∃ st, stepsE (expand F []) = st := ⟨_, rfl⟩
  have htop : (into (expand F []) 0 0 []).2 + 1 = st.length := by
    rw [← est]
    rcases into_top (expand F []) 0 0 [] ok_nil with h | h
    · have := io.lt
      rw [h] at this
      exact absurd this (Nat.not_lt_zero _)
    · exact h
  rw [est]
  refine ⟨by rw [← est]; exact io.ok ok_nil, by rw [← est]; exact okS_into _ 0 0 [] ok0 (fun s hs => (nomatch hs)), ?_, ?_, ?_, ?_⟩
  · rw [← est]
    exact szd_into (expand F []) g x z 0 0 40 200000 [] ok0 ok_nil (by decide) (by rw [Int.add_zero]; exact bx) (by rw [Int.add_zero]; exact bz) hG.vb (szd_nil _ _ _ _)
  · intro e
    rw [e] at htop
    simp at htop
  · have := io.len
    simp only [List.length_nil] at this
    rw [← est]
    show (into (expand F []) 0 0 []).1.length ≤ 1000
    omega
  · have := io.val ok_nil (valA g x z)
    rw [fold_val, Int.add_zero, Int.add_zero] at this
    rw [← this, show st.length - 1 = (into (expand F []) 0 0 []).2 by omega, ← est]
    rfl
open Rm
/-! ### rules that are drawn, and rules twice -/
theorem all_near {e : Ex} (ok : OkE e) (s : SmallE e) {x0 z0 x1 z1 : Int} (hx : x0 ≤ x1) (hz : z0 ≤ z1) (a : -1000010 ≤ x0) (b : x1 ≤ 1000010) (c : -1000010 ≤ z0) (d : z1 ≤ 1000010) : ∀ p ∈ allE wideN e x0 z0 x1 z1, -1000000000000000000000000000000 ≤ p.1 ∧ p.2 ≤ 1000000000000000000000000000000 := fun p hp => by
  have h := all_in wide_mono (-1000000000000000000000000, 1000000000000000000000000) e x0 z0 x1 z1 _ _ _ _ ok hx hz a b c d (fun p hp => s.all p hp) p hp
  have h1 : -1000000000000000000000000 ≤ p.1 := h.1
  have h2 : p.2 ≤ 1000000000000000000000000 := h.2
  omega
structure Inn (F : Fd) : Prop where
  bnd : Bnd F []
  okf : OkF F
  ok : OkE (expand F [])
  small : SmallE (expand F [])
  dep : dep F ≤ 3
  ud : udep F [] ≤ 40
  cok : Cok F []
  vb : ∀ k, 34 ≤ k → k ≤ 50 → vb (expand F []) k ≤ 100000
theorem inn_of {F : Fd} (h : Drawn F 3) : Inn F := by
  have n := nums F 3 [] [] 0 0 0 h.dep num_nil
  have w3 : Wd 3 0 = 128 := by decide
  have s3 : Sd 3 0 = 7 := by decide
  have u3 : Ud 3 0 ≤ 40 := by decide
  refine ⟨h.bnd, h.ok, ok_expand F [] h.ok okR_nil, h.small, h.dep, by have := n.2.2; omega, cok_of F 3 [] 0 h.dep (fun _ => Nat.le_refl 1) (by decide), fun k k0 k1 => ?_⟩
  have hv := vb_le (expand F []) k k0
  have h1 : wt (expand F []) ≤ 128 := by have := n.1; omega
  have h2 : k + sh (expand F []) + 1 ≤ 60 := by have := n.2.1; omega
  have h3 := Nat.mul_le_mul h1 h2
  omega
theorem good_of {F : Fd} (h : Inn F) : Good F :=
  ⟨h.bnd, h.okf, by have := h.dep; omega, by have := h.ud; omega, h.cok, by have := h.small.cn; omega, by have := h.vb 40 (by decide) (by decide); omega, all_near h.ok h.small (by decide) (by decide) (by decide) (by decide) (by decide) (by decide)⟩

/-! ### bounds of rules over any box -/
def rngOf (g x0 z0 x1 z1 : Int) (st : List Stp) : Int × Int :=
  if x0 = x1 ∧ z0 = z1 then (((valA g x0 z0).run st).getD (st.length - 1) 0, ((valA g x0 z0).run st).getD (st.length - 1) 0) else ((rngA (exactN g) x0 z0 x1 z1).run st).getD (st.length - 1) (0, 0)
def spStR (K : PySem.W.Frag) : Sp := fun vs H Q _ => ∃ (a b : Addr) (ws : List V) (st : List Stp) (g x0 z0 x1 z1 : Int), vs = [.ref a, .int g, .ref b] ∧ H b = some (.tup [.int x0, .int z0, .int x1, .int z1]) ∧ SqL K H a ws ∧ StepsR H ws st ∧ Ok st ∧ OkSs st ∧ ShS st ∧ BoxB x0 z0 x1 z1 ∧ Szd g x0 z0 200000 st ∧ SzR (exactN g) x0 z0 x1 z1 200000 st ∧ st ≠ [] ∧ st.length ≤ 1000 ∧ PrTo H Q (rngOf g x0 z0 x1 z1 st)
def onBox (x0 z0 x1 z1 : Int) : Prop := (-1000000 ≤ x0 ∧ x0 ≤ x1 ∧ x1 ≤ 1000000) ∧ (-1000000 ≤ z0 ∧ z0 ≤ z1 ∧ z1 ≤ 1000000)
instance (x0 z0 x1 z1 : Int) : Decidable (onBox x0 z0 x1 z1) := inferInstanceAs (Decidable (_ ∧ _))
def spBnds : Sp := fun vs H Q _ => ∃ (u : V) (F : Fd) (g x0 z0 x1 z1 : Int) (b : Addr), vs = [u, .int g, .ref b] ∧ FRep F H u ∧ Good F ∧ H b = some (.tup [.int x0, .int z0, .int x1, .int z1]) ∧ onBox x0 z0 x1 z1 ∧ PrTo H Q (rangeG (exactN g) (expand F []) x0 z0 x1 z1)
theorem at_lastV {xs : List V} {n : Nat} {v : V} (h : xs.length = n + 1) (hv : xs[n]? = some v) : atI xs (-1) = some v := by
  rw [← hv]
  unfold atI ixN
  rw [h]
  have e2 : ((-1 : Int) + ((n + 1 : Nat) : Int)).toNat = n := by omega
  simp
  rw [if_pos (by omega)]
  have e3 : (-1 + ((n : Int) + 1)).toNat = n := by omega
  simp [e3]
structure StB (F : Fd) (g x0 z0 x1 z1 : Int) (st : List Stp) : Prop where
  sh : ShS st
  box : BoxB x0 z0 x1 z1
  szr : SzR (exactN g) x0 z0 x1 z1 200000 st
  rng : rngOf g x0 z0 x1 z1 st = rangeG (exactN g) (expand F []) x0 z0 x1 z1
theorem stB {F : Fd} (hG : Good F) {g x0 z0 x1 z1 : Int} (hb : onBox x0 z0 x1 z1) : StB F g x0 z0 x1 z1 (stepsE (expand F [])) := by
  obtain ⟨⟨a1, a2, a3⟩, b1, b2, b3⟩ := hb
  have e40 : (2 : Nat) ^ 40 = 1099511627776 := by decide
  have hcn := hG.cn
  have ok0 : OkE (expand F []) := ok_expand F [] hG.ok okR_nil
  have hV := stV hG (g := g) (x := x0) (z := z0) (small_pt (by omega) (by omega)) (small_pt (by omega) (by omega))
  have io := into_ok (expand F []) 0 0 []
  have htop : (into (expand F []) 0 0 []).2 + 1 = (stepsE (expand F [])).length := by
    rcases into_top (expand F []) 0 0 [] ok_nil with h | h
    · have := io.lt
      rw [h] at this
      exact absurd this (Nat.not_lt_zero _)
    · exact h
  refine ⟨shS_steps ok0 (by omega), ⟨a2, b2, by omega, by omega, by omega, by omega⟩, ?_, ?_⟩
  · exact all_into (expand F []) x0 z0 x1 z1 0 0 [] ok_nil (fun p hp => by
      rw [Int.add_zero, Int.add_zero, Int.add_zero, Int.add_zero] at hp
      exact (all_bits (exact_ok g) (expand F []) x0 z0 x1 z1 40 ok0 (by decide) ⟨by show Int.natAbs x0 < _; omega, by show Int.natAbs x1 < _; omega⟩ ⟨by show Int.natAbs z0 < _; omega, by show Int.natAbs z1 < _; omega⟩ p hp).mono hG.vb) (fun i hi => absurd hi (Nat.not_lt_zero i))
  · unfold rngOf
    split
    · rename_i h
      obtain ⟨rfl, rfl⟩ := h
      rw [hV.val, range_point]
    · have := io.val ok_nil (rngA (exactN g) x0 z0 x1 z1)
      rw [fold_rng, Int.add_zero, Int.add_zero, Int.add_zero, Int.add_zero] at this
      rw [← this, show (stepsE (expand F [])).length - 1 = (into (expand F []) 0 0 []).2 by omega]
      rfl
theorem pr_last {H : Hp} {vs : List V} {ps : List (Int × Int)} {n : Nat} (h : PairsR H vs ps) (hn : ps.length = n) (n0 : 0 < n) : ∃ p, atI vs (-1) = some (.ref p) ∧ Pr H p (ps.getD (n - 1) (0, 0)) := by
  obtain ⟨r, h1, h2⟩ := pr_at (j := n - 1) h (by omega)
  exact ⟨r, at_lastV (n := n - 1) (by rw [Paired.length h]; omega) h1, h2⟩
def spIsBox : Sp := fun vs H Q _ => ∃ (p : Addr) (x0 z0 x1 z1 : Int), vs = [.ref p] ∧ H p = some (.tup [.int x0, .int z0, .int x1, .int z1]) ∧ onBox x0 z0 x1 z1 ∧ Q (.bl true) H
def spMustBox : Sp := fun vs H Q _ => ∃ (p : Addr) (x0 z0 x1 z1 : Int), vs = [.ref p] ∧ H p = some (.tup [.int x0, .int z0, .int x1, .int z1]) ∧ onBox x0 z0 x1 z1 ∧ Q .non H
theorem purse_tup {p : Addr} {H H' : Hp} {o : HO} {m : Int} (k : Keep p H H') (hp : H p = some o) (hP : Purse m o) : Tup H H' := by
  obtain ⟨a, b, c, rfl, _⟩ := hP.ex
  exact keep_tup k hp
theorem Keep.of_same {p : Addr} {H H' : Hp} (s : Same H H') : Keep p H H' := fun c v _ h => s c v h
theorem none_keep {p l : Addr} {H H' : Hp} {o : HO} (k : Keep p H H') (hp : H' p = some o) (h : H' l = none) : H l = none := by
  cases e : H l with
  | none => rfl
  | some v =>
    rw [k _ _ (ne_of_none hp h).symm e] at h
    cases h
/-- a box's tuple at t -/
abbrev Bx (H : Hp) (t : Addr) (x0 z0 x1 z1 : Int) : Prop := H t = some (.tup [.int x0, .int z0, .int x1, .int z1])
theorem shaped_pair (ab : Int × Int) : SeqAt.shaped (pairD ab) = true := by simp [pairD, SeqAt.shaped, PyData.canLay0, PyData.canLayAll0, PyData.depth, PyData.depthAll]
theorem dp_pair {K : PySem.W.Frag} {H : Hp} {t : Addr} {ab : Int × Int} (h : H t = some (.tup [.int ab.1, .int ab.2])) : Dp K H (.ref t) (pairD ab) := .tup (SqT.of h) (.cons (.int _) (.cons (.int _) .nil))
def spArea : Sp := fun vs H Q _ => ∃ (p : Addr) (wd dp m : Int) (o : HO), vs = [.ref p, .int wd, .int dp] ∧ H p = some o ∧ Purse m o ∧ m ≤ 10000000000000 ∧ 1 ≤ wd ∧ wd ≤ 3000 ∧ 1 ≤ dp ∧ dp ≤ 3000 ∧
  ∀ (x0 z0 x1 z1 : Int) (t : Addr) (o' : HO) (H' : Hp), onBox x0 z0 x1 z1 → Keep p H H' → H' p = some o' → Purse (m + 64) o' → Bx H' t x0 z0 x1 z1 → Q (.ref t) H'
/-! ### k22: fields put together -/
section
variable {K : PySem.W.Frag} {H : Hp} {Q : VK} {x y : V} {d : PyData}
theorem ne_same (hd : SeqAt.shaped d = true) (h1 : Dp K H x d) (h2 : Dp K H y d) (q : Q (.bl false) H) : rNeD K x y H Q := ⟨d, d, h1, h2, hd, hd, by
  rw [PySem.SeqAt.eqv_refl d (SeqAt.canLay_of_shaped hd)]
  exact q⟩
theorem eq_same (hd : SeqAt.shaped d = true) (h1 : Dp K H x d) (h2 : Dp K H y d) (q : Q (.bl true) H) : rEqD K x y H Q := ⟨d, d, h1, h2, hd, hd, by
  rw [PySem.SeqAt.eqv_refl d (SeqAt.canLay_of_shaped hd)]
  exact q⟩
end
theorem good_ne {F : Fd} {r : Int} {K c v : Nat} {B : Int} (b : Bnd F []) (o : OkF F) (d : dep F ≤ 18) (u : udep F [] ≤ 59) (k : Cok F []) (h : Ne (expand F []) r K c v B) (r0 : 0 ≤ r) (K0 : 40 ≤ K) (c0 : c ≤ 200) (v0 : v ≤ 200000) : Good F :=
  ⟨b, o, d, u, k, Nat.le_trans h.cn c0, Nat.le_trans (h.vb 40 (by decide) K0) v0, h.all _ _ _ _ ⟨by decide, by decide, by omega, by omega, by omega, by omega⟩⟩
structure Smp (F : Fd) : Prop where
  bnd : ∀ xs, Bnd F xs
  ok : OkF F
  dep : dep F ≤ 4
  ud : ∀ δ, udep F δ ≤ 8
  cok : ∀ r, Cok F r
  ne : Ne (expand F []) 10 50 12 300 2000000000000
theorem Smp.good {F : Fd} (h : Smp F) : Good F := good_ne (h.bnd []) h.ok (by have := h.dep; omega) (by have := h.ud []; omega) (h.cok []) h.ne (by decide) (by decide) (by decide) (by decide)
abbrev hillF (s l : Int) : Fd := .noise s l
abbrev lowF (s l n : Int) : Fd := .over (.noise s l) n
structure SN (s l n : Int) : Prop where
  h : (0 ≤ s ∧ s ≤ 1000000000) ∧ 0 ≤ l ∧ l ≤ 8
  n0 : 1 ≤ n
  n1 : n ≤ 1000000000
theorem ne_low {s l n r : Int} {K : Nat} (h : SN s l n) : Ne (.over (.noise s l) n) r K 2 17 65535 := ne_over (ne_noise h.h) h.n0 h.n1 (by decide) (by decide)
theorem smp0 {s l n : Int} (h : SN s l n) : Smp (.noise s l) := ⟨fun _ => True.intro, h.h, by simp [dep], fun _ => by simp [udep], fun _ => True.intro, ne_mono (ne_noise h.h) (Int.le_refl _) (Nat.le_refl _) (by decide) (by decide) (by decide)⟩
theorem smp1 {s l n : Int} (h : SN s l n) : Smp (.over (.noise s l) n) := ⟨fun _ => True.intro, ⟨h.h, h.n0, h.n1⟩, by simp [dep], fun _ => by simp [udep], fun _ => True.intro, ne_mono (ne_low h) (Int.le_refl _) (Nat.le_refl _) (by decide) (by decide) (by decide)⟩
theorem smp2 {s l n : Int} (h : SN s l n) : Smp (.two .plus .px (.over (.noise s l) n)) := ⟨fun _ => ⟨True.intro, True.intro⟩, ⟨True.intro, h.h, h.n0, h.n1⟩, by simp [dep], fun _ => by simp [udep], fun _ => ⟨True.intro, True.intro⟩, ne_mono (ne_two (w := .plus) (by decide) (ne_px (by decide)) (ne_low h) (by decide) (by decide) (by decide)) (Int.le_refl _) (Nat.le_refl _) (by decide) (by decide) (by decide)⟩
theorem smp3 {s l n : Int} (h : SN s l n) : Smp (.two .less (.two .times .px .pz) (.noise s l)) := ⟨fun _ => ⟨⟨True.intro, True.intro⟩, True.intro⟩, ⟨⟨True.intro, True.intro⟩, h.h⟩, by simp [dep], fun _ => by simp [udep], fun _ => ⟨⟨True.intro, True.intro⟩, True.intro⟩, ne_mono (ne_two (w := .less) (by decide) (ne_times (ne_px (by decide)) (ne_pz (by decide)) (by decide) (by decide) (by decide)) (ne_noise h.h) (by decide) (by decide) (by decide)) (Int.le_refl _) (Nat.le_refl _) (by decide) (by decide) (by decide)⟩
theorem smp4 {w : Int} (h : -1000 ≤ w ∧ w ≤ 1000) : Smp (.whole w) := ⟨fun _ => True.intro, ⟨by omega, by omega⟩, by simp [dep], fun _ => by simp [udep], fun _ => True.intro, ne_mono (ne_whole (B := 1000) ⟨by omega, by omega⟩ (by omega) (by omega)) (Int.le_refl _) (Nat.le_refl _) (by decide) (by decide) (by decide)⟩
theorem smp5 {s l n w : Int} (h : SN s l n) (hw : -1000 ≤ w ∧ w ≤ 1000) : Smp (.bel .px .pz (.over (.noise s l) n) (.whole w)) := ⟨fun _ => ⟨True.intro, True.intro, True.intro, True.intro⟩, ⟨True.intro, True.intro, ⟨h.h, h.n0, h.n1⟩, by omega, by omega⟩, by simp [dep], fun _ => by simp [udep], fun _ => ⟨True.intro, True.intro, True.intro, True.intro⟩, ne_mono (ne_bel (ne_px (by decide)) (ne_pz (by decide)) (ne_low h) (ne_whole (B := 1000) ⟨by omega, by omega⟩ (by omega) (by omega)) (by decide)) (Int.le_refl _) (Nat.le_refl _) (by decide) (by decide) (by decide)⟩
theorem smp6 {s l n w y : Int} (h : SN s l n) (hw : -1000 ≤ w ∧ w ≤ 1000) (hy : -1000 ≤ y ∧ y ≤ 1000) : Smp (.shift w y (.two .most (.over (.noise s l) n) .pz)) := ⟨fun _ => ⟨True.intro, True.intro⟩, ⟨hw, hy, ⟨h.h, h.n0, h.n1⟩, True.intro⟩, by simp [dep], fun _ => by simp [udep], fun _ => ⟨True.intro, True.intro⟩, ne_mono (ne_shift (r := 1010) (s := 1000) (K := 50) (ne_two (w := .most) (by decide) (ne_low h) (ne_pz (by decide)) (by decide) (by decide) (by decide)) hw hy (by decide) (by decide)) (by decide) (Nat.le_refl _) (by decide) (by decide) (by decide)⟩
theorem smp7 {s l n : Int} (h : SN s l n) : Smp (.lt "a" (.over (.noise s l) n) (.two .least (.nm "a") (.shift 3 1 (.two .plus (.nm "a") (.whole 1))))) := by
  have na : NameOk "a" := names4.1
  refine ⟨fun _ => ⟨True.intro, List.mem_cons_self, List.mem_cons_self, True.intro⟩, ⟨na, ⟨h.h, h.n0, h.n1⟩, na, ⟨by decide, by decide⟩, ⟨by decide, by decide⟩, na, by decide, by decide⟩, by simp [dep], fun _ => by simp [udep, List.lookup], fun r => ⟨by simp [expand, cn], True.intro, True.intro, True.intro, True.intro⟩, ?_⟩
  have e : expand (.lt "a" (.over (.noise s l) n) (.two .least (.nm "a") (.shift 3 1 (.two .plus (.nm "a") (.whole 1))))) [] = .two .least (.over (.noise s l) n) (.shift 3 1 (.two .plus (.over (.noise s l) n) (.whole 1))) := by simp [expand, look]
  rw [e]
  exact ne_mono (ne_two (w := .least) (by decide) (ne_low h) (ne_shift (r := 13) (s := 3) (K := 50) (ne_two (w := .plus) (by decide) (ne_low h) (ne_whole (B := 1) (n := 1) ⟨by decide, by decide⟩ (by decide) (by decide)) (by decide) (by decide) (by decide)) ⟨by decide, by decide⟩ ⟨by decide, by decide⟩ (by decide) (by decide)) (by decide) (by decide) (by decide)) (by decide) (Nat.le_refl _) (by decide) (by decide) (by decide)
def spSimple : Sp := fun vs H Q _ => ∃ (p : Addr) (m : Int) (o : HO), vs = [.ref p] ∧ H p = some o ∧ Purse m o ∧ m ≤ 100000000000 ∧
  ∀ u F H' o', FRep F H' u → Smp F → Keep p H H' → H' p = some o' → Purse (m + 60) o' → Q u H'
def SpotsOk (H : Hp) (ws : List V) : Prop := ∀ y ∈ ws, ∃ (t : Addr) (x z : Int), y = .ref t ∧ H t = some (.tup [.int x, .int z]) ∧ -1000000 ≤ x ∧ x ≤ 1000000 ∧ -1000000 ≤ z ∧ z ≤ 1000000
theorem SpotsOk.mono {H H' : Hp} {ws : List V} (t : Tup H H') (h : SpotsOk H ws) : SpotsOk H' ws := fun v hv => by
  obtain ⟨a, x, z, e, f, r⟩ := h v hv
  exact ⟨a, x, z, e, t _ _ f, r⟩
def spSame : Sp := fun vs H Q _ => ∃ (u v : V) (F G : Fd) (g : Int) (sp : Addr) (ws : List V), vs = [u, v, .int g, .ref sp] ∧ FRep F H u ∧ FRep G H v ∧ Good F ∧ Good G ∧ (∀ x z, valE (expand F []) g x z = valE (expand G []) g x z) ∧ H sp = some (.lst ws) ∧ SpotsOk H ws ∧ ∀ H', Same H H' → Q (.bl true) H'
/-! ### pairs of fields with the same values -/
theorem Inn.ne {F : Fd} (h : Inn F) : Ne (expand F []) 10 50 60 100000 1000000000000 := by
  refine ⟨h.ok, h.small.cn, h.vb, fun x0 z0 x1 z1 nb => ?_, fun x0 z0 x1 z1 nb => ?_, fun x0 z0 x1 z1 nb => ?_⟩
  · exact all_near h.ok h.small nb.hx nb.hz (by have := nb.a; omega) (by have := nb.b; omega) (by have := nb.c; omega) (by have := nb.d; omega)
  · have i := range_in wide_mono (expand F []) x0 z0 x1 z1 (-1000010) (-1000010) 1000010 1000010 h.ok nb.hx nb.hz (by have := nb.a; omega) (by have := nb.b; omega) (by have := nb.c; omega) (by have := nb.d; omega)
    have := i.1
    have := h.small.lo
    omega
  · have i := range_in wide_mono (expand F []) x0 z0 x1 z1 (-1000010) (-1000010) 1000010 1000010 h.ok nb.hx nb.hz (by have := nb.a; omega) (by have := nb.b; omega) (by have := nb.c; omega) (by have := nb.d; omega)
    have := i.2
    have := h.small.hi
    omega
theorem ex_let (F : Fd) (x : Str) : expand (.lt x F (.nm x)) [] = expand F [] := by simp [expand, look]
section
variable {F G : Fd} (hF : Inn F) (hG : Smp G)
include hF
theorem gd_one : Good F := good_of hF
theorem gd_let {x : Str} (hx : NameOk x) : Good (.lt x F (.nm x)) := by
  have h := hF.ne
  have hd := hF.dep
  have hu := hF.ud
  refine good_ne (r := 10) (K := 50) (c := 60) (v := 100000) (B := 1000000000000) ⟨hF.bnd, List.mem_cons_self⟩ ⟨hx, hF.okf, hx⟩ (by simp only [dep]; omega) (by simp [udep, List.lookup]; omega) ⟨by have := h.cn; omega, hF.cok, True.intro⟩ (by rw [ex_let]; exact h) (by decide) (by decide) (by decide) (by decide)
theorem gd_shift {a b : Int} (ha : -6 ≤ a ∧ a ≤ 6) (hb : -6 ≤ b ∧ b ≤ 6) : Good (.shift a b F) := by
  have hd := hF.dep
  have hu := hF.ud
  exact good_ne hF.bnd ⟨⟨by omega, by omega⟩, ⟨by omega, by omega⟩, hF.okf⟩ (by simp only [dep]; omega) (by simp only [udep]; omega) hF.cok (ne_shift (K := 49) (s := 6) hF.ne ha hb (by decide) (by decide)) (by decide) (by decide) (by decide) (by decide)
theorem gd_shift2 {a b c d : Int} (ha : -9 ≤ a ∧ a ≤ 9) (hb : -9 ≤ b ∧ b ≤ 9) (hc : -9 ≤ c ∧ c ≤ 9) (hd : -9 ≤ d ∧ d ≤ 9) (hx : -6 ≤ a + c ∧ a + c ≤ 6) (hz : -6 ≤ b + d ∧ b + d ≤ 6) : Good (.shift a b (.shift c d F)) := by
  have hd := hF.dep
  have hu := hF.ud
  exact good_ne hF.bnd ⟨⟨by omega, by omega⟩, ⟨by omega, by omega⟩, ⟨by omega, by omega⟩, ⟨by omega, by omega⟩, hF.okf⟩ (by simp only [dep]; omega) (by simp only [udep]; omega) hF.cok (ne_shift2 (K := 48) (s := 6) hF.ne ⟨by omega, by omega⟩ ⟨by omega, by omega⟩ ⟨by omega, by omega⟩ ⟨by omega, by omega⟩ hx hz (by decide)) (by decide) (by decide) (by decide) (by decide)
theorem gd_over : Good (.over (.two .times F (.whole 7)) 7) := by
  have hd := hF.dep
  have hu := hF.ud
  exact good_ne ⟨hF.bnd, True.intro⟩ ⟨⟨hF.okf, by decide, by decide⟩, by decide, by decide⟩ (by simp only [dep]; omega) (by simp only [udep]; omega) ⟨hF.cok, True.intro⟩ (ne_over (ne_times hF.ne (ne_whole (B := 7) (n := 7) ⟨by decide, by decide⟩ (by decide) (by decide)) (by decide) (by decide) (by decide)) (by decide) (by decide) (by decide) (by decide)) (by decide) (by decide) (by decide) (by decide)
theorem gd_twice : Good (.two .plus F F) := by
  have hd := hF.dep
  have hu := hF.ud
  exact good_ne ⟨hF.bnd, hF.bnd⟩ ⟨hF.okf, hF.okf⟩ (by simp only [dep]; omega) (by simp only [udep]; omega) ⟨hF.cok, hF.cok⟩ (ne_two (w := .plus) (by decide) hF.ne hF.ne (by decide) (by decide) (by decide)) (by decide) (by decide) (by decide) (by decide)
include hG
theorem ne_w {w : W2} (hw : w ≠ .times) : Ne (.two w (expand F []) (expand G [])) 10 50 73 100001 3000000000000 := ne_mono (ne_two hw hF.ne hG.ne (by decide) (by decide) (by decide)) (by decide) (by decide) (by decide) (by decide) (by decide)
theorem gd_two {w : W2} (hw : w ≠ .times) : Good (.two w F G) := by
  have hd := hF.dep
  have hu := hF.ud
  have gd := hG.dep
  have gu := hG.ud []
  exact good_ne ⟨hF.bnd, hG.bnd []⟩ ⟨hF.okf, hG.ok⟩ (by simp only [dep]; omega) (by simp only [udep]; omega) ⟨hF.cok, hG.cok []⟩ (ne_w hF hG hw) (by decide) (by decide) (by decide) (by decide)
theorem ex_letp : expand (.lt "a" F (.two .plus (.nm "a") G)) [] = .two .plus (expand F []) (expand G []) := by
  have e := expand_closed (hG.bnd []) [("a", expand F [])] []
  show Ex.two .plus (expand (.nm "a") [("a", expand F [])]) (expand G [("a", expand F [])]) = _
  rw [e]
  simp [expand, look]
theorem gd_letp : Good (.lt "a" F (.two .plus (.nm "a") G)) := by
  have na : NameOk "a" := names4.1
  have h := hF.ne
  have hd := hF.dep
  have hu := hF.ud
  have gd := hG.dep
  have gu := hG.ud [("a", udep F [])]
  refine good_ne (r := 10) (K := 50) (c := 73) (v := 100001) (B := 3000000000000) ⟨hF.bnd, List.mem_cons_self, hG.bnd _⟩ ⟨na, hF.okf, na, hG.ok⟩ (by simp only [dep]; omega) (by simp [udep, List.lookup]; omega) ⟨by have := h.cn; omega, hF.cok, True.intro, hG.cok _⟩ (by rw [ex_letp hF hG]; exact ne_w hF hG (by decide)) (by decide) (by decide) (by decide) (by decide)
theorem gd_less : Good (.two .less (.two .plus F G) G) := by
  have hd := hF.dep
  have hu := hF.ud
  have gd := hG.dep
  have gu := hG.ud []
  exact good_ne ⟨⟨hF.bnd, hG.bnd []⟩, hG.bnd []⟩ ⟨⟨hF.okf, hG.ok⟩, hG.ok⟩ (by simp only [dep]; omega) (by simp only [udep]; omega) ⟨⟨hF.cok, hG.cok []⟩, hG.cok []⟩ (ne_two (w := .less) (by decide) (ne_w hF hG (w := .plus) (by decide)) hG.ne (by decide) (by decide) (by decide)) (by decide) (by decide) (by decide) (by decide)
theorem gd_lm : Good (.two .plus (.two .least F G) (.two .most F G)) := by
  have hd := hF.dep
  have hu := hF.ud
  have gd := hG.dep
  have gu := hG.ud []
  exact good_ne ⟨⟨hF.bnd, hG.bnd []⟩, hF.bnd, hG.bnd []⟩ ⟨⟨hF.okf, hG.ok⟩, hF.okf, hG.ok⟩ (by simp only [dep]; omega) (by simp only [udep]; omega) ⟨⟨hF.cok, hG.cok []⟩, hF.cok, hG.cok []⟩ (ne_two (w := .plus) (by decide) (ne_w hF hG (w := .least) (by decide)) (ne_w hF hG (w := .most) (by decide)) (by decide) (by decide) (by decide)) (by decide) (by decide) (by decide) (by decide)
theorem gd_bel1 : Good (.bel F G F G) := by
  have hd := hF.dep
  have hu := hF.ud
  have gd := hG.dep
  have gu := hG.ud []
  exact good_ne ⟨hF.bnd, hG.bnd [], hF.bnd, hG.bnd []⟩ ⟨hF.okf, hG.ok, hF.okf, hG.ok⟩ (by simp only [dep]; omega) (by simp only [udep]; omega) ⟨hF.cok, hG.cok [], hF.cok, hG.cok []⟩ (ne_bel hF.ne hG.ne hF.ne hG.ne (by decide)) (by decide) (by decide) (by decide) (by decide)
theorem gd_bel2 : Good (.bel F F G F) := by
  have hd := hF.dep
  have hu := hF.ud
  have gd := hG.dep
  have gu := hG.ud []
  exact good_ne ⟨hF.bnd, hF.bnd, hG.bnd [], hF.bnd⟩ ⟨hF.okf, hF.okf, hG.ok, hF.okf⟩ (by simp only [dep]; omega) (by simp only [udep]; omega) ⟨hF.cok, hF.cok, hG.cok [], hF.cok⟩ (ne_bel hF.ne hF.ne hG.ne hF.ne (by decide)) (by decide) (by decide) (by decide) (by decide)
theorem gd_shb : Good (.shift 1 1 (.two .plus F G)) := by
  have hd := hF.dep
  have hu := hF.ud
  have gd := hG.dep
  have gu := hG.ud []
  exact good_ne ⟨hF.bnd, hG.bnd []⟩ ⟨⟨by decide, by decide⟩, ⟨by decide, by decide⟩, hF.okf, hG.ok⟩ (by simp only [dep]; omega) (by simp only [udep]; omega) ⟨hF.cok, hG.cok []⟩ (ne_shift (K := 49) (s := 1) (ne_w hF hG (w := .plus) (by decide)) ⟨by decide, by decide⟩ ⟨by decide, by decide⟩ (by decide) (by decide)) (by decide) (by decide) (by decide) (by decide)
theorem gd_shs : Good (.two .plus (.shift 1 1 F) (.shift 1 1 G)) := by
  have hd := hF.dep
  have hu := hF.ud
  have gd := hG.dep
  have gu := hG.ud []
  exact good_ne ⟨hF.bnd, hG.bnd []⟩ ⟨⟨⟨by decide, by decide⟩, ⟨by decide, by decide⟩, hF.okf⟩, ⟨by decide, by decide⟩, ⟨by decide, by decide⟩, hG.ok⟩ (by simp only [dep]; omega) (by simp only [udep]; omega) ⟨hF.cok, hG.cok []⟩ (ne_two (w := .plus) (by decide) (ne_shift (K := 49) (s := 1) hF.ne ⟨by decide, by decide⟩ ⟨by decide, by decide⟩ (by decide) (by decide)) (ne_shift (K := 49) (s := 1) hG.ne ⟨by decide, by decide⟩ ⟨by decide, by decide⟩ (by decide) (by decide)) (by decide) (by decide) (by decide)) (by decide) (by decide) (by decide) (by decide)
end
def PairV (g : Int) (H : Hp) (v : V) : Prop := ∃ (t : Addr) (a b : V) (A B : Fd), v = .ref t ∧ H t = some (.tup [a, b]) ∧ FRep A H a ∧ FRep B H b ∧ Good A ∧ Good B ∧ ∀ x z, valE (expand A []) g x z = valE (expand B []) g x z
theorem PairV.mono {g : Int} {H H' : Hp} {v : V} (h : PairV g H v) (t : Tup H H') : PairV g H' v := by
  obtain ⟨p, a, b, A, B, e, hp, ha, hb, r⟩ := h
  exact ⟨p, a, b, A, B, e, t _ _ hp, ha.mono t, hb.mono t, r⟩
section
variable {g x z : Int} (a b : Ex)
theorem v_back : valE (.shift 5 (-7) (.shift (-5) 7 a)) g x z = valE a g x z := by
  show valE a g (x + 5 + -5) (z + -7 + 7) = _
  rw [show x + 5 + -5 = x by omega, show z + -7 + 7 = z by omega]
theorem v_sum : valE (.shift 2 3 (.shift 4 (-9) a)) g x z = valE (.shift 6 (-6) a) g x z := by
  show valE a g (x + 2 + 4) (z + 3 + -9) = valE a g (x + 6) (z + -6)
  rw [show x + 2 + 4 = x + 6 by omega, show z + 3 + -9 = z + -6 by omega]
theorem v_less : valE (.two .less (.two .plus a b) b) g x z = valE a g x z := by simp only [valE, W2.op]; omega
theorem v_lm : valE (.two .plus (.two .least a b) (.two .most a b)) g x z = valE (.two .plus a b) g x z := by
  simp only [valE, W2.op]
  split <;> split <;> omega
theorem v_bel1 : valE (.bel a b a b) g x z = valE (.two .least a b) g x z := by
  simp only [valE, W2.op]
  split <;> split <;> omega
theorem v_over : valE (.over (.two .times a (.whole 7)) 7) g x z = valE a g x z := by
  simp only [valE, W2.op]
  exact Int.mul_ediv_cancel _ (by decide)
theorem v_bel2 : valE (.bel a a b a) g x z = valE a g x z := by
  simp only [valE]
  rw [if_neg (by omega)]
end
def spWords : Sp := fun vs H Q _ => ∃ (u v : V) (F G : Fd) (g : Int) (sp : Addr) (ws : List V), vs = [u, v, .int g, .ref sp] ∧ FRep F H u ∧ FRep G H v ∧ Inn F ∧ Smp G ∧ H sp = some (.lst ws) ∧ SpotsOk H ws ∧ ∀ H', Same H H' → Q (.bl true) H'
def spStepsR : Sp := fun vs H Q _ => ∃ (u : V) (F : Fd) (g : Int) (sp : Addr) (ws : List V), vs = [u, .int g, .ref sp] ∧ FRep F H u ∧ Inn F ∧ H sp = some (.lst ws) ∧ SpotsOk H ws ∧ ∀ H', Same H H' → Q (.bl true) H'
theorem min4_le {ks : List Int} {a b c d m : Int} (e : ks = [a, b, c, d]) (h : m ∈ ks) (k : ∀ y ∈ ks, m ≤ y) : m ≤ a ∧ m ≤ b ∧ m ≤ c ∧ m ≤ d := by
  subst e
  exact ⟨k a (by simp), k b (by simp), k c (by simp), k d (by simp)⟩
theorem max4_le {ks : List Int} {a b c d m : Int} (e : ks = [a, b, c, d]) (h : m ∈ ks) (k : ∀ y ∈ ks, y ≤ m) : a ≤ m ∧ b ≤ m ∧ c ≤ m ∧ d ≤ m := by
  subst e
  exact ⟨k a (by simp), k b (by simp), k c (by simp), k d (by simp)⟩
theorem noise_btw4 {g s x z S m M : Int} {n : Nat} (hS : (2 : Int) ^ n = S) (S0 : 0 < S) (ha : m ≤ knotL g s (x / S) (z / S) ∧ m ≤ knotL g s (x / S + 1) (z / S) ∧ m ≤ knotL g s (x / S) (z / S + 1) ∧ m ≤ knotL g s (x / S + 1) (z / S + 1))
    (hb : knotL g s (x / S) (z / S) ≤ M ∧ knotL g s (x / S + 1) (z / S) ≤ M ∧ knotL g s (x / S) (z / S + 1) ≤ M ∧ knotL g s (x / S + 1) (z / S + 1) ≤ M) : m ≤ noiseL g s n x z ∧ noiseL g s n x z ≤ M := by
  have h := mean4 (S := S) (p := x % S) (q := z % S) (a := knotL g s (x / S) (z / S)) (b := knotL g s (x / S + 1) (z / S)) (c := knotL g s (x / S) (z / S + 1)) (d := knotL g s (x / S + 1) (z / S + 1)) (m := m) (M := M) S0
    (Int.emod_nonneg _ (by omega)) (Int.le_of_lt (Int.emod_lt_of_pos _ S0)) (Int.emod_nonneg _ (by omega)) (Int.le_of_lt (Int.emod_lt_of_pos _ S0)) ha.1 hb.1 ha.2.1 hb.2.1 ha.2.2.1 hb.2.2.1 ha.2.2.2 hb.2.2.2
  rw [noise_of hS S0]
  have e : (S - x % S) * (S - z % S) * knotL g s (x / S) (z / S) + x % S * (S - z % S) * knotL g s (x / S + 1) (z / S) + (S - x % S) * (z % S) * knotL g s (x / S) (z / S + 1) + x % S * (z % S) * knotL g s (x / S + 1) (z / S + 1) = (S - z % S) * ((S - x % S) * knotL g s (x / S) (z / S) + x % S * knotL g s (x / S + 1) (z / S)) + z % S * ((S - x % S) * knotL g s (x / S) (z / S + 1) + x % S * knotL g s (x / S + 1) (z / S + 1)) := by grind
  rw [e] at h
  exact h
def cornV (g s i j : Int) (k : Nat) : Int := knotL g s (i + (k : Int) % 2) (j + (k : Int) / 2)
def spNoiseR : Sp := fun vs H Q _ => ∃ (p sp : Addr) (g m : Int) (o : HO) (ws : List V), vs = [.ref p, .int g, .ref sp] ∧ H p = some o ∧ Purse m o ∧ m ≤ 100000000000 ∧ H sp = some (.lst ws) ∧ SpotsOk H ws ∧ ∀ H' o', Keep p H H' → H' p = some o' → Purse (m + 10) o' → Q (.bl true) H'
theorem noise_good {s l : Int} (h : (0 ≤ s ∧ s ≤ 1000000000) ∧ 0 ≤ l ∧ l ≤ 8) : Good (.noise s l) := (smp0 (n := 1) ⟨h, by decide, by decide⟩).good
/-! ### boxes cut down to a point -/
abbrev quadD (a b c d : Int) : PyData := .tuple [.int a, .int b, .int c, .int d]
theorem shaped_quad (a b c d : Int) : SeqAt.shaped (quadD a b c d) = true := by simp [quadD, SeqAt.shaped, PyData.canLay0, PyData.canLayAll0, PyData.depth, PyData.depthAll]
theorem dp_quad {K : PySem.W.Frag} {H : Hp} {t : Addr} {a b c d : Int} (h : Bx H t a b c d) : Dp K H (.ref t) (quadD a b c d) := .tup (SqT.of h) (.cons (.int _) (.cons (.int _) (.cons (.int _) (.cons (.int _) .nil))))
theorem eqv_quad (a b c d a' b' c' d' : Int) : PyData.eqv (quadD a b c d) (quadD a' b' c' d') = decide (a = a' ∧ b = b' ∧ c = c' ∧ d = d') := by
  simp only [quadD, PyData.eqv, PyData.eqvAll, Bool.and_true, Bool.decide_and]
  rfl
theorem eqv_pair (a b a' b' : Int) : PyData.eqv (pairD (a, b)) (pairD (a', b')) = decide (a = a' ∧ b = b') := by
  simp only [pairD, PyData.eqv, PyData.eqvAll, Bool.and_true, Bool.decide_and]
  rfl
theorem cut2a {a b c d : V} : cutV [a, b, c, d] none (some 2) = [a, b] := rfl
theorem cut2b {a b c d : V} : cutV [a, b, c, d] (some 2) none = [c, d] := rfl
theorem cut2a_ok {a b c d : V} : ¬ (HT.sIx [a, b, c, d].length 0 none = 0 ∧ HT.sIx [a, b, c, d].length [a, b, c, d].length (some 2) = [a, b, c, d].length) := by
  show ¬ (HT.sIx 4 0 none = 0 ∧ HT.sIx 4 4 (some 2) = 4)
  decide +kernel
theorem cut2b_ok {a b c d : V} : ¬ (HT.sIx [a, b, c, d].length 0 (some 2) = 0 ∧ HT.sIx [a, b, c, d].length [a, b, c, d].length none = [a, b, c, d].length) := by
  show ¬ (HT.sIx 4 0 (some 2) = 0 ∧ HT.sIx 4 4 none = 4)
  decide +kernel
/-- a part of a box, smaller than it -/
structure Part (x0 z0 x1 z1 a0 b0 a1 b1 : Int) : Prop where
  ob : onBox a0 b0 a1 b1
  h1 : x0 ≤ a0
  h2 : a1 ≤ x1
  h3 : z0 ≤ b0
  h4 : b1 ≤ z1
def msr (x0 z0 x1 z1 : Int) : Nat := (x1 - x0 + (z1 - z0)).toNat
def spDown : Sp := fun vs H Q _ => ∃ (p : Addr) (u : V) (F : Fd) (g x0 z0 x1 z1 m : Int) (b : Addr) (o : HO), vs = [.ref p, u, .int g, .ref b] ∧ H p = some o ∧ Purse m o ∧ m ≤ 100000000000 ∧ FRep F H u ∧ Good F ∧ Bx H b x0 z0 x1 z1 ∧ onBox x0 z0 x1 z1 ∧
  ∀ H' o', Keep p H H' → H' p = some o' → Purse (m + 20000000) o' → Q (.bl true) H'
def spLaw (K : PySem.W.Frag) : Sp := fun vs H Q _ => ∃ (a : Addr) (ns : List Int), vs = [.ref a] ∧ SqL K H a (ns.map V.int) ∧ ∀ H', Q (.bl true) H'
section
variable {P : Program} {w : World} {K : PySem.W.Frag} {mg : Str → Option Value} {base : Heap} {f : Addr} {fd : FuncData}
abbrev N_is_from : List Str := ["thing", "low", "high"]
theorem sc_is_from : FnScope N_is_from ["thing", "low", "high"] (defScope s_is_from) := ⟨rfl, rfl, rfl, by decide +kernel, rfl, by decide +kernel, by decide +kernel⟩
theorem ok_is_from (F : FnP K "is_from" s_is_from f fd) (T : Bi mg) (G : Kn K mg)  : FnOk P w K mg base CX0 1 f fd ["thing", "low", "high"] spFrom := by
  refine F.ok sc_is_from (fun vs H Q E h => ?_) (fun cdv A outer s H vs Q E hr h => ⟨_, PSs.nox
(pss_one (ps_ret (pe_and (pe_callB call_isi (by rfl) T.isinstance (by decide +kernel) (pa_cons (pv 0) (pa_cons (pe_bltn (v := .ty "int") (by rfl) T.int boot_int rfl) pa_nil))) (pe_and (pe_chain op_le op_le (pv 1) (pv 0) (pv 2)) (pe_one (pe_not (pe_callB call_isi (by rfl) T.isinstance (by decide +kernel) (pa_cons (pv 0) (pa_cons (pe_bltn (v := .ty "bool") (by rfl) T.bool boot_bool rfl) pa_nil))))))))), ?_⟩)
  · obtain ⟨a, lo, hi, rfl, _⟩ := h
    rfl
  · obtain ⟨a, lo, hi, rfl, h0, h1, q⟩ := h
    walk_at "lw i0"
    walk_at "lw go"
    refine ⟨_, _, _, _, true, rfl, .ty "int", .base (.int _), kit_ty (by decide +kernel), ?_⟩
    walk_at "lw go"
    refine iteS h0 ?_
    walk_at "lw go"
    rw [decide_eq_true h1]
    walk_at "lw go"
    refine ⟨_, _, _, _, false, rfl, .ty "bool", .base (.int _), kit_ty (by decide +kernel), ?_⟩
    walk_at "lw go"
    exact q
abbrev N_is_name : List Str := ["thing"]
theorem sc_is_name : FnScope N_is_name ["thing"] (defScope s_is_name) := ⟨rfl, rfl, rfl, by decide +kernel, rfl, by decide +kernel, by decide +kernel⟩
theorem ok_is_name (F : FnP K "is_name" s_is_name f fd) (T : Bi mg) (G : Kn K mg)  : FnOk P w K mg base CX0 1 f fd ["thing"] spName := by
  refine F.ok sc_is_name (fun vs H Q E h => ?_) (fun cdv A outer s H vs Q E hr h => ⟨_, PSs.nox
(pss_one (ps_ret (pe_and (pe_callB call_isi (by rfl) T.isinstance (by decide +kernel) (pa_cons (pv 0) (pa_cons (pe_bltn (v := .ty "str") (by rfl) T.str boot_str rfl) pa_nil))) (pe_and (pe_bm0 PySem.F.plainAttrs_str PySem.F.slot_str_isascii PySem.F.type_str_isascii mt_isascii (pv 0)) (pe_and (pe_bm0 PySem.F.plainAttrs_str PySem.F.slot_str_isalpha PySem.F.type_str_isalpha mt_isalpha (pv 0)) (pe_and (pe_bm0 PySem.F.plainAttrs_str PySem.F.slot_str_islower PySem.F.type_str_islower mt_islower (pv 0)) (pe_one (pe_cmpR op_le (pe_callB call_len_str (by rfl) T.len (by decide +kernel) (pa_cons (pv 0) pa_nil)) (pe_gI (by rfl) G.c_LONGEST_NAME) (nomark _))))))))), ?_⟩)
  · obtain ⟨x, rfl, _⟩ := h
    rfl
  · obtain ⟨x, rfl, hx, q⟩ := h
    walk_at "lw i0"
    obtain ⟨n1, n2, n3⟩ := name_signs hx
    walk_at "lw go"
    refine ⟨_, _, _, _, true, rfl, .ty "str", .base (.str _), kit_ty (by decide +kernel), ?_⟩
    walk_at "lw go"
    refine ⟨rfl, x, rfl, rfl, True.intro, true, by rw [n1], ?_⟩
    walk_at "lw go"
    refine ⟨rfl, x, rfl, rfl, True.intro, true, by rw [n2], ?_⟩
    walk_at "lw go"
    refine ⟨rfl, x, rfl, rfl, True.intro, true, by rw [n3], ?_⟩
    walk_at "lw go"
    refine ⟨x, rfl, by have := hx.2.1; rw [sizeLine_eq]; omega, ?_⟩
    walk_at "lw go"
    rw [decide_eq_true (show ((x.length : Nat) : Int) ≤ 8 by have := hx.2.1; omega)]
    exact q
abbrev N_is_point : List Str := ["x", "z"]
theorem sc_is_point : FnScope N_is_point ["x", "z"] (defScope s_is_point) := ⟨rfl, rfl, rfl, by decide +kernel, rfl, by decide +kernel, by decide +kernel⟩
theorem ok_is_point (F : FnP K "is_point" s_is_point f fd) (T : Bi mg) (G : Kn K mg)  : FnOk P w K mg base CX0 1 f fd ["x", "z"] spPt := by
  refine F.ok sc_is_point (fun vs H Q E h => ?_) (fun cdv A outer s H vs Q E hr h => ⟨_, PSs.nox
(pss_one (ps_ret (pe_and (pe_callB call_isi (by rfl) T.isinstance (by decide +kernel) (pa_cons (pv 0) (pa_cons (pe_bltn (v := .ty "int") (by rfl) T.int boot_int rfl) pa_nil))) (pe_and (pe_callB call_isi (by rfl) T.isinstance (by decide +kernel) (pa_cons (pv 1) (pa_cons (pe_bltn (v := .ty "int") (by rfl) T.int boot_int rfl) pa_nil))) (pe_and (pe_chain op_le op_le (pe_un un_neg (pe_gI (by rfl) G.c_EDGE)) (pv 0) (pe_gI (by rfl) G.c_EDGE)) (pe_and (pe_chain op_le op_le (pe_un un_neg (pe_gI (by rfl) G.c_EDGE)) (pv 1) (pe_gI (by rfl) G.c_EDGE)) (pe_and (pe_not (pe_callB call_isi (by rfl) T.isinstance (by decide +kernel) (pa_cons (pv 0) (pa_cons (pe_bltn (v := .ty "bool") (by rfl) T.bool boot_bool rfl) pa_nil)))) (pe_one (pe_not (pe_callB call_isi (by rfl) T.isinstance (by decide +kernel) (pa_cons (pv 1) (pa_cons (pe_bltn (v := .ty "bool") (by rfl) T.bool boot_bool rfl) pa_nil)))))))))))), ?_⟩)
  · obtain ⟨x, z, rfl, _⟩ := h
    rfl
  · obtain ⟨x, z, rfl, x0, x1, z0, z1, q⟩ := h
    walk_at "lw i0"
    walk_at "lw go"
    refine ⟨_, _, _, _, true, rfl, .ty "int", .base (.int _), kit_ty (by decide +kernel), ?_⟩
    walk_at "lw go"
    refine ⟨_, _, _, _, true, rfl, .ty "int", .base (.int _), kit_ty (by decide +kernel), ?_⟩
    walk_at "lw go"
    refine iteS x0 ?_
    walk_at "lw go"
    rw [decide_eq_true x1]
    walk_at "lw go"
    refine iteS z0 ?_
    walk_at "lw go"
    rw [decide_eq_true z1]
    walk_at "lw go"
    refine ⟨_, _, _, _, false, rfl, .ty "bool", .base (.int _), kit_ty (by decide +kernel), ?_⟩
    walk_at "lw go"
    refine ⟨_, _, _, _, false, rfl, .ty "bool", .base (.int _), kit_ty (by decide +kernel), ?_⟩
    walk_at "lw go"
    exact q
abbrev N_must_point : List Str := ["x", "z"]
theorem sc_must_point : FnScope N_must_point ["x", "z"] (defScope s_must_point) := ⟨rfl, rfl, rfl, by decide +kernel, rfl, by decide +kernel, by decide +kernel⟩
theorem ok_must_point (F : FnP K "must_point" s_must_point f fd) (T : Bi mg) (G : Kn K mg) (D_is_point : Df P w K mg base "is_point" ["x", "z"] 1 spPt) : FnOk P w K mg base CX0 2 f fd ["x", "z"] spMustPt := by
  refine F.ok sc_must_point (fun vs H Q E h => ?_) (fun cdv A outer s H vs Q E hr h => ⟨_, PSs.nox
(pss_one (ps_if (pt_not (pt_val (pe_df D_is_point (hr.mono (by first | decide | omega)) (pa_cons (pv 0) (pa_cons (pv 1) pa_nil)))))
  pss_never
  pss_nil)), ?_⟩)
  · obtain ⟨x, z, rfl, _⟩ := h
    rfl
  · obtain ⟨x, z, rfl, x0, x1, z0, z1, q⟩ := h
    walk_at "lw i0"
    walk_at "lw go"
    refine ⟨x, z, rfl, x0, x1, z0, z1, ?_⟩
    walk_at "lw go"
    exact q
abbrev N_is_box : List Str := ["thing"]
theorem sc_is_box : FnScope N_is_box ["thing"] (defScope s_is_box) := ⟨rfl, rfl, rfl, by decide +kernel, rfl, by decide +kernel, by decide +kernel⟩
theorem ok_is_box (F : FnP K "is_box" s_is_box f fd) (T : Bi mg) (G : Kn K mg) (D_is_point : Df P w K mg base "is_point" ["x", "z"] 1 spPt) : FnOk P w K mg base CX0 2 f fd ["thing"] spIsBox := by
  refine F.ok sc_is_box (fun vs H Q E h => ?_) (fun cdv A outer s H vs Q E hr h => ⟨_, PSs.nox
(pss_cons (ps_if (PW.pt (pw_or (pt_not (pt_val (pe_callB call_isi (by rfl) T.isinstance (by decide +kernel) (pa_cons (pv 0) (pa_cons (pe_bltn (v := .ty "tuple") (by rfl) T.tuple boot_tuple rfl) pa_nil))))) (pw_or1 (pt_cmpR op_ne (pe_callB call_len_seq (by rfl) T.len (by decide +kernel) (pa_cons (pv 0) pa_nil)) pe_int (nomark _)))))
  (pss_one (ps_ret pe_bl))
  pss_nil)
  (pss_cons (ps_if (PW.pt (pw_or (pt_not (pt_val (pe_df D_is_point (hr.mono (by first | decide | omega)) (pa_cons (pe_ix ix_tup (pv 0) pe_int (fun _ _ => rfl)) (pa_cons (pe_ix ix_tup (pv 0) pe_int (fun _ _ => rfl)) pa_nil))))) (pw_or1 (pt_not (pt_val (pe_df D_is_point (hr.mono (by first | decide | omega)) (pa_cons (pe_ix ix_tup (pv 0) pe_int (fun _ _ => rfl)) (pa_cons (pe_ix ix_tup (pv 0) pe_int (fun _ _ => rfl)) pa_nil))))))))
  (pss_one (ps_ret pe_bl))
  pss_nil)
  (pss_one (ps_ret (pe_and (pe_cmpR op_le (pe_ix ix_tup (pv 0) pe_int (fun _ _ => rfl)) (pe_ix ix_tup (pv 0) pe_int (fun _ _ => rfl)) (nomark _)) (pe_one (pe_cmpR op_le (pe_ix ix_tup (pv 0) pe_int (fun _ _ => rfl)) (pe_ix ix_tup (pv 0) pe_int (fun _ _ => rfl)) (nomark _)))))))), ?_⟩)
  · obtain ⟨p, x0, z0, x1, z1, rfl, _⟩ := h
    rfl
  · obtain ⟨p, x0, z0, x1, z1, rfl, hp, ⟨hx, hz⟩, q⟩ := h
    walk_at "lw i0"
    walk_at "lw go"
    refine ⟨_, _, _, _, true, rfl, .ty "tuple", .base (.tup hp), kit_ty (by decide +kernel), ?_⟩
    walk_at "lw go"
    refine ⟨p, _, rfl, .inr (SqT.of hp), ?_⟩
    walk_at "lw go"
    refine iteNS rfl ?_
    walk_at "lw go"
    refine g_ixT (SqT.of hp) (v := .int x0) (atI_nat (j := 0) (by rfl)) ?_
    walk_at "lw go"
    refine g_ixT (SqT.of hp) (v := .int z0) (atI_nat (j := 1) (by rfl)) ?_
    walk_at "lw go"
    refine ⟨x0, z0, rfl, by omega, by omega, by omega, by omega, ?_⟩
    walk_at "lw go"
    refine g_ixT (SqT.of hp) (v := .int x1) (atI_nat (j := 2) (by rfl)) ?_
    walk_at "lw go"
    refine g_ixT (SqT.of hp) (v := .int z1) (atI_nat (j := 3) (by rfl)) ?_
    walk_at "lw go"
    refine ⟨x1, z1, rfl, by omega, by omega, by omega, by omega, ?_⟩
    walk_at "lw go"
    refine g_ixT (SqT.of hp) (v := .int x0) (atI_nat (j := 0) (by rfl)) ?_
    walk_at "lw go"
    refine g_ixT (SqT.of hp) (v := .int x1) (atI_nat (j := 2) (by rfl)) ?_
    walk_at "lw go"
    refine iteS hx.2.1 ?_
    walk_at "lw go"
    refine g_ixT (SqT.of hp) (v := .int z0) (atI_nat (j := 1) (by rfl)) ?_
    walk_at "lw go"
    refine g_ixT (SqT.of hp) (v := .int z1) (atI_nat (j := 3) (by rfl)) ?_
    walk_at "lw go"
    rw [decide_eq_true hz.2.1]
    exact q
abbrev N_must_box : List Str := ["box"]
theorem sc_must_box : FnScope N_must_box ["box"] (defScope s_must_box) := ⟨rfl, rfl, rfl, by decide +kernel, rfl, by decide +kernel, by decide +kernel⟩
theorem ok_must_box (F : FnP K "must_box" s_must_box f fd) (T : Bi mg) (G : Kn K mg) (D_is_box : Df P w K mg base "is_box" ["thing"] 2 spIsBox) : FnOk P w K mg base CX0 3 f fd ["box"] spMustBox := by
  refine F.ok sc_must_box (fun vs H Q E h => ?_) (fun cdv A outer s H vs Q E hr h => ⟨_, PSs.nox
(pss_one (ps_if (pt_not (pt_val (pe_df D_is_box (hr.mono (by first | decide | omega)) (pa_cons (pv 0) pa_nil))))
  pss_never
  pss_nil)), ?_⟩)
  · obtain ⟨p, x0, z0, x1, z1, rfl, _⟩ := h
    rfl
  · obtain ⟨p, x0, z0, x1, z1, rfl, hp, ho, q⟩ := h
    walk_at "lw i0"
    walk_at "lw go"
    refine ⟨p, x0, z0, x1, z1, rfl, hp, ho, ?_⟩
    walk_at "lw go"
    exact q
abbrev N_knot : List Str := ["seed", "salt", "i", "j", "first", "second", "third"]
theorem sc_knot : FnScope N_knot ["seed", "salt", "i", "j"] (defScope s_knot) := ⟨rfl, rfl, rfl, by decide +kernel, rfl, by decide +kernel, by decide +kernel⟩
theorem ok_knot (F : FnP K "knot" s_knot f fd) (T : Bi mg) (G : Kn K mg)  : FnOk P w K mg base CX0 1 f fd ["seed", "salt", "i", "j"] spKnot := by
  refine F.ok sc_knot (fun vs H Q E h => ?_) (fun cdv A outer s H vs Q E hr h => ⟨_, PSs.nox
(pss_cons (ps_set (i := 4) sc_knot.nd rfl (Or.inl rfl) (pe_op op_mod (pe_op op_add (pe_op op_add (pv 0) (pe_op op_mul pe_int (pv 1))) pe_int) pe_int))
  (pss_cons (ps_set (i := 5) sc_knot.nd rfl (Or.inl rfl) (pe_op op_mod (pe_op op_add (pe_op op_add (pe_op op_mul (pv 4) (pv 4)) (pe_op op_mul pe_int (pv 2))) pe_int) pe_int))
  (pss_cons (ps_set (i := 6) sc_knot.nd rfl (Or.inl rfl) (pe_op op_mod (pe_op op_add (pe_op op_add (pe_op op_mul (pv 5) (pv 5)) (pe_op op_mul pe_int (pv 3))) pe_int) pe_int))
  (pss_one (ps_ret (pe_op op_mod (pe_op op_mod (pe_op op_add (pe_op op_mul (pv 6) (pv 6)) (pv 6)) pe_int) pe_int)))))), ?_⟩)
  · obtain ⟨a, b, c, d, rfl, _⟩ := h
    rfl
  · obtain ⟨a, b, c, d, rfl, q⟩ := h
    walk_at "lw i0"
    walk_at "lw go"
    exact q
abbrev N_four_knots : List Str := ["seed", "salt", "i", "j", "first", "start", "second", "beside", "turn", "one", "three", "two", "four"]
theorem sc_four_knots : FnScope N_four_knots ["seed", "salt", "i", "j"] (defScope s_four_knots) := ⟨rfl, rfl, rfl, by decide +kernel, rfl, by decide +kernel, by decide +kernel⟩
theorem ok_four_knots (F : FnP K "four_knots" s_four_knots f fd) (T : Bi mg) (G : Kn K mg)  : FnOk P w K mg base CX0 1 f fd ["seed", "salt", "i", "j"] spFour := by
  refine F.ok sc_four_knots (fun vs H Q E h => ?_) (fun cdv A outer s H vs Q E hr h => ⟨_, PSs.nox
(pss_cons (ps_set (i := 4) sc_four_knots.nd rfl (Or.inl rfl) (pe_op op_mod (pe_op op_add (pe_op op_add (pv 0) (pe_op op_mul pe_int (pv 1))) pe_int) pe_int))
  (pss_cons (ps_set (i := 5) sc_four_knots.nd rfl (Or.inl rfl) (pe_op op_add (pe_op op_add (pe_op op_mul (pv 4) (pv 4)) (pe_op op_mul pe_int (pv 2))) pe_int))
  (pss_cons (ps_set (i := 6) sc_four_knots.nd rfl (Or.inl rfl) (pe_op op_mod (pv 5) pe_int))
  (pss_cons (ps_set (i := 7) sc_four_knots.nd rfl (Or.inl rfl) (pe_op op_mod (pe_op op_add (pv 5) pe_int) pe_int))
  (pss_cons (ps_set (i := 8) sc_four_knots.nd rfl (Or.inl rfl) (pe_op op_add (pe_op op_mul pe_int (pv 3)) pe_int))
  (pss_cons (ps_set (i := 5) sc_four_knots.nd rfl (Or.inl rfl) (pe_op op_add (pe_op op_mul (pv 6) (pv 6)) (pv 8)))
  (pss_cons (ps_set (i := 9) sc_four_knots.nd rfl (Or.inl rfl) (pe_op op_mod (pv 5) pe_int))
  (pss_cons (ps_set (i := 10) sc_four_knots.nd rfl (Or.inl rfl) (pe_op op_mod (pe_op op_add (pv 5) pe_int) pe_int))
  (pss_cons (ps_set (i := 5) sc_four_knots.nd rfl (Or.inl rfl) (pe_op op_add (pe_op op_mul (pv 7) (pv 7)) (pv 8)))
  (pss_cons (ps_set (i := 11) sc_four_knots.nd rfl (Or.inl rfl) (pe_op op_mod (pv 5) pe_int))
  (pss_cons (ps_set (i := 12) sc_four_knots.nd rfl (Or.inl rfl) (pe_op op_mod (pe_op op_add (pv 5) pe_int) pe_int))
  (pss_one (ps_ret (pe_tup (pa_cons (pe_op op_mod (pe_op op_mod (pe_op op_add (pe_op op_mul (pv 9) (pv 9)) (pv 9)) pe_int) pe_int) (pa_cons (pe_op op_mod (pe_op op_mod (pe_op op_add (pe_op op_mul (pv 11) (pv 11)) (pv 11)) pe_int) pe_int) (pa_cons (pe_op op_mod (pe_op op_mod (pe_op op_add (pe_op op_mul (pv 10) (pv 10)) (pv 10)) pe_int) pe_int) (pa_cons (pe_op op_mod (pe_op op_mod (pe_op op_add (pe_op op_mul (pv 12) (pv 12)) (pv 12)) pe_int) pe_int) pa_nil)))))))))))))))))), ?_⟩)
  · obtain ⟨g, s, i, j, rfl, _⟩ := h
    rfl
  · obtain ⟨g, s0, i, j, rfl, q⟩ := h
    walk_at "lw i0"
    obtain ⟨a, hA, a0, a1⟩ : ∃ a, (g + 48271 * s0 + 7) % 2147483647 = a ∧ 0 ≤ a ∧ a < 2147483647 := ⟨_, rfl, by omega, by omega⟩
    obtain ⟨b, hB, b0, b1⟩ : ∃ b, (a * a + 69621 * i + 1) % 2147483629 = b ∧ 0 ≤ b ∧ b < 2147483629 := ⟨_, rfl, by omega, by omega⟩
    obtain ⟨c, hC, c0, c1⟩ : ∃ c, (a * a + 69621 * i + 1 + 69621) % 2147483629 = c ∧ 0 ≤ c ∧ c < 2147483629 := ⟨_, rfl, by omega, by omega⟩
    obtain ⟨k1, h1, k10, k11⟩ : ∃ k, (b * b + (16807 * j + 1)) % 2147483587 = k ∧ 0 ≤ k ∧ k < 2147483587 := ⟨_, rfl, by omega, by omega⟩
    obtain ⟨k2, h2, k20, k21⟩ : ∃ k, (c * c + (16807 * j + 1)) % 2147483587 = k ∧ 0 ≤ k ∧ k < 2147483587 := ⟨_, rfl, by omega, by omega⟩
    obtain ⟨k3, h3, k30, k31⟩ : ∃ k, (b * b + (16807 * j + 1) + 16807) % 2147483587 = k ∧ 0 ≤ k ∧ k < 2147483587 := ⟨_, rfl, by omega, by omega⟩
    obtain ⟨k4, h4, k40, k41⟩ : ∃ k, (c * c + (16807 * j + 1) + 16807) % 2147483587 = k ∧ 0 ≤ k ∧ k < 2147483587 := ⟨_, rfl, by omega, by omega⟩
    have hq : fourV g s0 i j = [.int ((k1 * k1 + k1) % 2147483579 % 65536), .int ((k2 * k2 + k2) % 2147483579 % 65536), .int ((k3 * k3 + k3) % 2147483579 % 65536), .int ((k4 * k4 + k4) % 2147483579 % 65536)] := by
      rw [← four_eq]
      subst hA hB hC h1 h2 h3 h4
      rfl
    rw [hq] at q
    clear hq
    with_reducible refine' g_seq ?_
    walk_at "lw st"
    rw [hA]
    clear hA
    with_reducible refine' g_seq ?_
    walk_at "lw st"
    with_reducible refine' g_seq ?_
    walk_at "lw st"
    rw [hB]
    with_reducible refine' g_seq ?_
    walk_at "lw st"
    rw [hC]
    clear hB hC
    with_reducible refine' g_seq ?_
    walk_at "lw st"
    with_reducible refine' g_seq ?_
    walk_at "lw st"
    with_reducible refine' g_seq ?_
    walk_at "lw st"
    rw [h1]
    with_reducible refine' g_seq ?_
    walk_at "lw st"
    rw [h3]
    clear h1 h3
    with_reducible refine' g_seq ?_
    walk_at "lw st"
    with_reducible refine' g_seq ?_
    walk_at "lw st"
    rw [h2]
    with_reducible refine' g_seq ?_
    walk_at "lw st"
    rw [h4]
    clear h2 h4
    walk_at "lw go"
    exact ⟨by show 4 ≤ sizeLine; decide, fun p hp => q p hp⟩
abbrev N_knot_row : List Str := ["seed", "salt", "i", "places", "first", "second", "start", "thirds", "j", "third"]
theorem sc_knot_row : FnScope N_knot_row ["seed", "salt", "i", "places"] (defScope s_knot_row) := ⟨rfl, rfl, rfl, by decide +kernel, rfl, by decide +kernel, by decide +kernel⟩
theorem ok_knot_row (F : FnP K "knot_row" s_knot_row f fd) (T : Bi mg) (G : Kn K mg)  : FnOk P w K mg base CX0 1 f fd ["seed", "salt", "i", "places"] spKrow := by
  refine F.ok sc_knot_row (fun vs H Q E h => ?_) (fun cdv A outer s H vs Q E hr h => ⟨_, PSs.nox
(pss_cons (ps_set (i := 4) sc_knot_row.nd rfl (Or.inl rfl) (pe_op op_mod (pe_op op_add (pe_op op_add (pv 0) (pe_op op_mul pe_int (pv 1))) pe_int) pe_int))
  (pss_cons (ps_set (i := 5) sc_knot_row.nd rfl (Or.inl rfl) (pe_op op_mod (pe_op op_add (pe_op op_add (pe_op op_mul (pv 4) (pv 4)) (pe_op op_mul pe_int (pv 2))) pe_int) pe_int))
  (pss_cons (ps_set (i := 6) sc_knot_row.nd rfl (Or.inr rfl) (pe_op op_add (pe_op op_mul (pv 5) (pv 5)) pe_int))
  (pss_cons (ps_setLc (i := 7) (own := [("j", 8)]) (g := gName 8) (tt := tYes) rfl sc_knot_row.nd rfl rfl (sw_true rfl rfl rfl (by decide +kernel)) (pi_list (pv 3)) (blkOk_by (N := N_knot_row) (sc := defScope s_knot_row) (by decide +kernel)) (fun _ _ _ _ _ => pg_name (i := 8) sc_knot_row.nd rfl (Or.inl rfl)) (fun _ _ _ _ _ => pts_nil) (fun _ _ _ _ _ => (pe_op op_mod (pe_op op_add (pv 6) (pe_op op_mul pe_int (pv 8))) pe_int)))
  (pss_one (ps_ret (pe_lc (own := [("third", 9)]) (g := gName 9) (tt := tYes) rfl sc_knot_row.nd (pi_list (pv 7)) (blkOk_by (N := N_knot_row) (sc := defScope s_knot_row) (by decide +kernel)) (fun _ _ _ _ _ => pg_name (i := 9) sc_knot_row.nd rfl (Or.inl rfl)) (fun _ _ _ _ _ => pts_nil) (fun _ _ _ _ _ => (pe_op op_mod (pe_op op_mod (pe_op op_add (pe_op op_mul (pv 9) (pv 9)) (pv 9)) pe_int) pe_int))))))))), ?_⟩)
  · obtain ⟨g, s, i, pl, ps, rfl, _⟩ := h
    rfl
  · obtain ⟨g, s, i, pl, ps, rfl, hp, hpn, q⟩ := h
    walk_at "lw i0"
    obtain ⟨A, eA⟩ : ∃ A, (g + 48271 * s + 7) % 2147483647 = A := ⟨_, rfl⟩
    obtain ⟨B, eB⟩ : ∃ B, (A * A + 69621 * i + 1) % 2147483629 = B := ⟨_, rfl⟩
    walk_at "lw go"
    rw [eA, eB]
    refine ⟨pl, rfl, ⟨_, SqL.of hp⟩, fun D hD => lc_list (xs := ps.map V.int) (fun i H' => Same H H' ∧ H' D = some (.lst ((ps.take i).map fun j => V.int ((B * B + 1 + 16807 * j) % 2147483587)))) ⟨same_new hD, upd_same⟩ (fun i H' _ ⟨s, _⟩ => SqL.of (s _ _ hp)) ?_ ?_⟩
    · rintro k y H' hk ⟨s1, hd⟩
      obtain ⟨j, hj, rfl⟩ : ∃ j, ps[k]? = some j ∧ y = .int j := by
        rw [List.getElem?_map] at hk
        cases e : ps[k]? with
        | none => rw [e] at hk; cases hk
        | some j => rw [e] at hk; exact ⟨j, rfl, by cases hk; rfl⟩
      walk_at "lw go"
      refine ⟨rfl, g_yes (iteT ?_)⟩
      walk_at "lw go"
      have hk2 : k < ps.length := by
        rcases Nat.lt_or_ge k ps.length with h | h
        · exact h
        · rw [List.getElem?_eq_none h] at hj; cases hj
      refine ⟨_, hd, small_size (by simp; omega), same_put s1 hD, ?_⟩
      rw [upd_same, List.take_succ, hj, List.map_append]
      rfl
    · rintro H' ⟨s1, hd⟩
      have hd : H' D = some (.lst (ps.map fun j => V.int ((B * B + 1 + 16807 * j) % 2147483587))) := by
        rw [hd, List.length_map, List.take_length]
      walk_at "lw go"
      refine ⟨D, rfl, ⟨_, SqL.of hd⟩, fun D2 hD2 => lc_list (xs := ps.map fun j => V.int ((B * B + 1 + 16807 * j) % 2147483587)) (fun i' H'' => Same H' H'' ∧ H'' D2 = some (.lst ((ps.take i').map fun j => V.int (knotL g s i j)))) ⟨same_new hD2, upd_same⟩ (fun i H'' _ ⟨s2, _⟩ => SqL.of (s2 _ _ hd)) ?_ ?_⟩
      · rintro k y H'' hk ⟨s2, hd2⟩
        obtain ⟨j, hj, rfl⟩ : ∃ j, ps[k]? = some j ∧ y = .int ((B * B + 1 + 16807 * j) % 2147483587) := by
          rw [List.getElem?_map] at hk
          cases e : ps[k]? with
          | none => rw [e] at hk; cases hk
          | some j => rw [e] at hk; exact ⟨j, rfl, by cases hk; rfl⟩
        have hk2 : k < ps.length := by
          rcases Nat.lt_or_ge k ps.length with h | h
          · exact h
          · rw [List.getElem?_eq_none h] at hj; cases hj
        walk_at "lw go"
        refine ⟨rfl, g_yes (iteT ?_)⟩
        walk_at "lw go"
        refine ⟨_, hd2, small_size (by simp; omega), same_put s2 hD2, ?_⟩
        rw [upd_same, List.take_succ, hj, List.map_append]
        have e : knotL g s i j = ((B * B + 1 + 16807 * j) % 2147483587 * ((B * B + 1 + 16807 * j) % 2147483587) + (B * B + 1 + 16807 * j) % 2147483587) % 2147483579 % 65536 := by
          rw [← eB, ← eA, knot_row_eq]
        rw [← e]
        rfl
      · rintro H'' ⟨s2, hd2⟩
        rw [List.length_map, List.take_length] at hd2
        exact q D2 H'' (by cases e : H D2 with | none => rfl | some u => rw [s1 _ _ e] at hD2; cases hD2) (s1.trans s2) (by rw [hd2, List.map_map]; rfl)
abbrev N_noise_value : List Str := ["seed", "salt", "log", "x", "z", "known", "size", "i", "j", "p", "q", "knots", "one", "two", "three", "four", "near", "far"]
theorem sc_noise_value : FnScope N_noise_value ["seed", "salt", "log", "x", "z", "known"] (defScope s_noise_value) := ⟨rfl, rfl, rfl, by decide +kernel, rfl, by decide +kernel, by decide +kernel⟩
theorem ok_noise_value (F : FnP K "noise_value" s_noise_value f fd) (T : Bi mg) (G : Kn K mg) (D_knot : Df P w K mg base "knot" ["seed", "salt", "i", "j"] 1 spKnot) (D_four_knots : Df P w K mg base "four_knots" ["seed", "salt", "i", "j"] 1 spFour) : FnOk P w K mg base CX0 2 f fd ["seed", "salt", "log", "x", "z", "known"] spNV := by
  refine F.ok sc_noise_value (fun vs H Q E h => ?_) (fun cdv A outer s H vs Q E hr h => ⟨_, PSs.nox
(pss_cons (ps_set (i := 6) sc_noise_value.nd rfl (Or.inl rfl) (pe_op op_shl pe_int (pv 2)))
  (pss_cons (ps_par (i := 7) (j := 8) rfl sc_noise_value.nd rfl rfl (by decide) rfl rfl (pa_cons (pe_op op_shrN (pv 3) (pv 2)) (pa_cons (pe_op op_shrN (pv 4) (pv 2)) pa_nil)) rfl)
  (pss_cons (ps_par (i := 9) (j := 10) rfl sc_noise_value.nd rfl rfl (by decide) rfl rfl (pa_cons (pe_op op_andM (pv 3) (pe_op op_sub (pv 6) pe_int)) (pa_cons (pe_op op_andM (pv 4) (pe_op op_sub (pv 6) pe_int)) pa_nil)) rfl)
  (pss_cons (ps_if (PW.pt (pw_and (pt_cmpR op_eq (pv 9) pe_int (nomark _)) (pw_and1 (pt_cmpR op_eq (pv 10) pe_int (nomark _)))))
  (pss_one (ps_ret (pe_df D_knot (hr.mono (by first | decide | omega)) (pa_cons (pv 0) (pa_cons (pv 1) (pa_cons (pv 7) (pa_cons (pv 8) pa_nil)))))))
  pss_nil)
  (pss_cons (ps_if (pt_cmpR op_isN (pv 5) pe_non (nomark _))
  (pss_one (ps_set (i := 11) sc_noise_value.nd rfl (Or.inl rfl) (pe_df D_four_knots (hr.mono (by first | decide | omega)) (pa_cons (pv 0) (pa_cons (pv 1) (pa_cons (pv 7) (pa_cons (pv 8) pa_nil)))))))
  pss_never)
  (pss_cons (ps_asg (pv 11) (pg_tup (by rfl) (pgs_cons (pg_name (i := 12) sc_noise_value.nd rfl (Or.inl rfl)) (pgs_cons (pg_name (i := 13) sc_noise_value.nd rfl (Or.inl rfl)) (pgs_cons (pg_name (i := 14) sc_noise_value.nd rfl (Or.inl rfl)) (pgs_cons (pg_name (i := 15) sc_noise_value.nd rfl (Or.inl rfl)) pgs_nil))))))
  (pss_cons (ps_set (i := 16) sc_noise_value.nd rfl (Or.inl rfl) (pe_op op_add (pe_op op_mul (pe_op op_sub (pv 6) (pv 9)) (pv 12)) (pe_op op_mul (pv 9) (pv 13))))
  (pss_cons (ps_set (i := 17) sc_noise_value.nd rfl (Or.inl rfl) (pe_op op_add (pe_op op_mul (pe_op op_sub (pv 6) (pv 9)) (pv 14)) (pe_op op_mul (pv 9) (pv 15))))
  (pss_one (ps_ret (pe_op op_shrN (pe_op op_add (pe_op op_mul (pe_op op_sub (pv 6) (pv 10)) (pv 16)) (pe_op op_mul (pv 10) (pv 17))) (pe_op op_add (pv 2) (pv 2))))))))))))), ?_⟩)
  · obtain ⟨g, s, l, x, z, rfl, _⟩ := h
    rfl
  · obtain ⟨g, s0, l, x, z, rfl, h0, h8, q⟩ := h
    walk_at "lw i0"
    obtain ⟨k, rfl⟩ : ∃ k : Nat, l = (k : Int) := ⟨l.toNat, by omega⟩
    obtain ⟨S, e1, e2, S0, S1, SS0, SS1⟩ := log_pow h0 h8
    have hS : (2 : Int) ^ k = S := by rw [← e2, Int.toNat_natCast]
    have p0 := Int.emod_nonneg x (show S ≠ 0 by omega)
    have p1 := Int.emod_lt_of_pos x S0
    have q0 := Int.emod_nonneg z (show S ≠ 0 by omega)
    have q1 := Int.emod_lt_of_pos z S0
    walk_at "lw go"
    refine g_I ⟨h0, by omega, by decide⟩ ?_
    rw [e1]
    walk_at "lw go"
    with_reducible refine' g_par ?_
    walk_at "lw st"
    refine ⟨x, k, rfl, rfl, ?_⟩
    walk_at "lw st"
    refine ⟨z, k, rfl, rfl, ?_⟩
    walk_at "lw st"
    refine ⟨_, _, rfl, ?_⟩
    walk_at "lw ns"
    with_reducible refine' g_seq ?_
    with_reducible refine' g_par ?_
    walk_at "lw st"
    refine ⟨x, k, rfl, by rw [hS], ?_⟩
    walk_at "lw st"
    refine ⟨z, k, rfl, by rw [hS], ?_⟩
    walk_at "lw st"
    refine ⟨_, _, rfl, ?_⟩
    walk_at "lw ns"
    rw [hS]
    obtain ⟨i, hi⟩ : ∃ i, x / S = i := ⟨_, rfl⟩
    obtain ⟨j, hj⟩ : ∃ j, z / S = j := ⟨_, rfl⟩
    obtain ⟨p, hp⟩ : ∃ p, x % S = p := ⟨_, rfl⟩
    obtain ⟨r, hr'⟩ : ∃ r, z % S = r := ⟨_, rfl⟩
    rw [hi, hj, hp, hr']
    rw [hp] at p0 p1
    rw [hr'] at q0 q1
    have fin : ∀ H', Same H H' → Q (.int (((S - r) * ((S - p) * knotL g s0 i j + p * knotL g s0 (i + 1) j) + r * ((S - p) * knotL g s0 i (j + 1) + p * knotL g s0 (i + 1) (j + 1))) / 2 ^ (k + k))) H' := fun H' s' => by
      have h := q H' s'
      rw [noise_of hS S0, hi, hj, hp, hr', ← shift_eq hS] at h
      exact h
    have atk : p = 0 → r = 0 → Q (.int (knotL g s0 i j)) H := fun e1 e2 => by
      have h := q H (Same.refl H)
      rw [noise_knot hS S0 (by rw [hp]; exact e1) (by rw [hr']; exact e2), hi, hj] at h
      exact h
    clear hi hj hp hr' q
    clear e1 e2
    walk_at "lw go"
    refine g_ite (fun h1 => ?g1) (fun h1 => ?g2)
    case' g1 => (walk_at "lw go"; refine g_ite (fun h2 => ?g3) (fun h2 => ?g4))
    case g3 => (walk_at "lw go"; exact ⟨g, s0, i, j, rfl, atk (V.int.inj h1) (V.int.inj h2)⟩)
    all_goals
      walk_at "lw go"
      refine ⟨rfl, ?_⟩
      walk_at "lw go"
      refine iteS rfl ?_
      walk_at "lw go"
      refine ⟨g, s0, i, j, rfl, fun t ht => ?_⟩
      walk_at "lw go"
      refine g_tupT (SqT.of upd_same) rfl ?_
      walk_at "lw go"
      refine ⟨_, k + k, rfl, rfl, ?_⟩
      exact fin _ (same_new ht)
abbrev N_knots_beside : List Str := ["log", "zs", "size", "places", "spots", "z", "j", "q", "low"]
theorem sc_knots_beside : FnScope N_knots_beside ["log", "zs"] (defScope s_knots_beside) := ⟨rfl, rfl, rfl, by decide +kernel, rfl, by decide +kernel, by decide +kernel⟩
theorem ok_knots_beside (F : FnP K "knots_beside" s_knots_beside f fd) (T : Bi mg) (G : Kn K mg)  : FnOk P w K mg base CX0 1 f fd ["log", "zs"] spBeside := by
  refine F.ok sc_knots_beside (fun vs H Q E h => ?_) (fun cdv A outer s H vs Q E hr h => ⟨_, PSs.nox
(pss_cons (ps_set (i := 2) sc_knots_beside.nd rfl (Or.inl rfl) (pe_op op_shl pe_int (pv 0)))
  (pss_cons (ps_set (i := 3) sc_knots_beside.nd rfl (Or.inl rfl) (pe_lst pa_nil))
  (pss_cons (ps_set (i := 4) sc_knots_beside.nd rfl (Or.inl rfl) (pe_lst pa_nil))
  (pss_cons (ps_for PassesOwn.never rfl (pi_list (pv 1)) (pg_name (i := 5) sc_knots_beside.nd rfl (Or.inl rfl))
  (pss_cons (ps_par (i := 6) (j := 7) rfl sc_knots_beside.nd rfl rfl (by decide) rfl rfl (pa_cons (pe_op op_shrN (pv 5) (pv 0)) (pa_cons (pe_op op_andM (pv 5) (pe_op op_sub (pv 2) pe_int)) pa_nil)) rfl)
  (pss_cons (ps_if (PW.pt (pw_or (pt_not (pt_truth (pv 3) (by intro _; rfl))) (pw_or1 (pt_cmpR op_lt (pe_ix ix_list (pv 3) (pe_un un_neg pe_int) (fun _ _ => rfl)) (pv 6) (nomark _)))))
  (pss_one (ps_expr (pe_bm PySem.F.plainAttrs_list PySem.F.slot_list_append PySem.F.type_list_append mt_append (pv 3) (pa_cons (pv 6) pa_nil))))
  pss_nil)
  (pss_cons (ps_set (i := 8) sc_knots_beside.nd rfl (Or.inl rfl) (pe_op op_sub (pe_op op_sub (pe_callB call_len_seq (by rfl) T.len (by decide +kernel) (pa_cons (pv 3) pa_nil)) pe_int) (pe_op op_sub (pe_ix ix_list (pv 3) (pe_un un_neg pe_int) (fun _ _ => rfl)) (pv 6))))
  (pss_cons (ps_if (PW.pt (pw_and (pt_truth (pv 7) (by intro _; rfl)) (pw_and1 (pt_cmpR op_eq (pe_ix ix_list (pv 3) (pe_un un_neg pe_int) (fun _ _ => rfl)) (pv 6) (nomark _)))))
  (pss_one (ps_expr (pe_bm PySem.F.plainAttrs_list PySem.F.slot_list_append PySem.F.type_list_append mt_append (pv 3) (pa_cons (pe_op op_add (pv 6) pe_int) pa_nil))))
  pss_nil)
  (pss_one (ps_expr (pe_bm PySem.F.plainAttrs_list PySem.F.slot_list_append PySem.F.type_list_append mt_append (pv 4) (pa_cons (pe_tup (pa_cons (pv 8) (pa_cons (pv 7) pa_nil))) pa_nil)))))))))
  (pss_one (ps_ret (pe_tup (pa_cons (pv 3) (pa_cons (pv 4) pa_nil))))))))), ?_⟩)
  · obtain ⟨n, zl, zs, rfl, _⟩ := h
    rfl
  · obtain ⟨n, zl, zs, rfl, hn, hz, hs, hzn, q⟩ := h
    walk_at "lw i0"
    obtain ⟨S, e1, e2, S0, S1, SS0, SS1⟩ := log_pow (show (0 : Int) ≤ (n : Int) by omega) (show (n : Int) ≤ 8 by omega)
    have hS : (2 : Int) ^ n = S := by rw [← e2, Int.toNat_natCast]
    rw [hS] at q
    walk_at "lw go"
    refine g_I ⟨by omega, by omega, by decide⟩ ?_
    rw [e1]
    walk_at "lw go"
    refine ⟨by show 0 ≤ sizeLine; decide, fun l3 hl3 => ?_⟩
    have s3 := same_new (o := .lst []) hl3
    walk_at "lw go"
    refine ⟨by show 0 ≤ sizeLine; decide, fun l4 hl4 => ?_⟩
    have s4 := same_new (o := .lst []) hl4
    obtain ⟨H2, eH2⟩ : ∃ X, upd (upd H l3 (.lst [])) l4 (.lst []) = X := ⟨_, rfl⟩
    have fp : H2 l3 = some (.lst []) := eH2 ▸ s4 _ _ upd_same
    have fw : H2 l4 = some (.lst []) := eH2 ▸ upd_same
    have sH : Same H H2 := eH2 ▸ s3.trans s4
    have n34 : l4 ≠ l3 := ne_of_none2 upd_same hl4
    have hl3' := hl3
    have hl4' : H l4 = none := by
      cases e : H l4 with
      | none => rfl
      | some u => rw [s3 _ _ e] at hl4; cases hl4
    rw [eH2]
    clear eH2 s3 s4
    walk_at "lw go"
    refine ⟨zl, rfl, ⟨_, SqL.of (sH _ _ hz)⟩, for_list (xs := zs.map V.int) (fun i σ H' => ∃ (ps : List Int) (ws : List V) (o5 o6 o7 o8 : Option V), σ = [some (.int n), some (.ref zl), some (.int S), some (.ref l3), some (.ref l4), o5, o6, o7, o8] ∧ Same H H' ∧ H' l3 = some (.lst (ps.map V.int)) ∧ H' l4 = some (.lst ws) ∧ SpotsK H' S (zs.take i) ps ws ∧ ps.length ≤ 2 * i ∧ TailK S zs i ps)
      ⟨[], [], _, _, _, _, rfl, sH, fp, fw, ⟨rfl, fun k z h => by simp at h⟩, Nat.le_refl _, .inl ⟨rfl, rfl⟩⟩ (fun _ σ H' _ ⟨_, _, _, _, _, _, _, s, _⟩ => SqL.of (s _ _ hz)) ?_ ?_⟩
    · rintro i y σ H3 hi ⟨ps, ws, o5, o6, o7, o8, rfl, s3, f3, f4, hK, hn2, hT⟩
      obtain ⟨z, hz2, rfl⟩ : ∃ z, zs[i]? = some z ∧ y = .int z := by
        rw [List.getElem?_map] at hi
        cases e : zs[i]? with
        | none => rw [e] at hi; cases hi
        | some j => rw [e] at hi; exact ⟨j, rfl, by cases hi; rfl⟩
      walk_at "lw go"
      with_reducible refine' g_par ?_
      walk_at "lw st"
      refine ⟨z, n, rfl, rfl, ?_⟩
      walk_at "lw st"
      refine ⟨z, n, rfl, by rw [hS], ?_⟩
      walk_at "lw st"
      refine ⟨_, _, rfl, ?_⟩
      walk_at "lw ns"
      rw [hS]
      walk_at "lw go"
      have hi2 : i < zs.length := by
        rcases Nat.lt_or_ge i zs.length with h | h
        · exact h
        · rw [List.getElem?_eq_none h] at hz2; cases hz2
      have last1 : ∀ b : List Int, (b ++ [z / S]).getD b.length 0 = z / S := fun b => by simp [List.getD]
      have len1 : ∀ b : List Int, (((b ++ [z / S]).map V.int).length : Int) - 1 - (z / S - z / S) = (b.length : Nat) := fun b => by simp
      have last2 : ∀ b : List Int, (b ++ [z / S, z / S + 1]).getD (b.length + 1) 0 = z / S + 1 := fun b => by simp [List.getD]
      have len2 : ∀ b : List Int, (((b ++ [z / S, z / S + 1]).map V.int).length : Int) - 1 - (z / S + 1 - z / S) = (b.length : Nat) := fun b => by simp; omega
      rcases hT with ⟨rfl, rfl⟩ | ⟨m, z', base, rfl, hz', hps⟩
      · refine ⟨false, .inl ⟨_, SqL.of f3, rfl⟩, ?_⟩
        dsimp only
        walk_at "lw go"
        refine ⟨tyL f3, ?_⟩
        walk_at "lw go"
        refine g_append f3 (small_size (by have := hn2; simp at this ⊢ <;> omega)) ?_
        have e1 : (([] : List Int)).map V.int ++ [V.int (z / S)] = ((([] : List Int)) ++ [z / S]).map V.int := by simp
        rw [e1]
        obtain ⟨H4, e4⟩ : ∃ X, upd H3 l3 (.lst (((([] : List Int)) ++ [z / S]).map V.int)) = X := ⟨_, rfl⟩
        have f3' : H4 l3 = some (.lst (((([] : List Int)) ++ [z / S]).map V.int)) := e4 ▸ upd_same
        have f4' : H4 l4 = some (.lst ws) := by rw [← e4, upd_ne n34]; exact f4
        have s4 : Same H H4 := e4 ▸ same_put s3 hl3
        have hK' : SpotsK H4 S (zs.take 0) ((([] : List Int)) ++ [z / S]) ws := by
          have h := (hK.more [z / S]).mono (tup_putL (o := .lst (((([] : List Int)) ++ [z / S]).map V.int)) f3)
          rw [e4] at h
          exact h
        rw [e4]
        clear e4
        walk_at "lw go"
        refine ⟨l3, _, rfl, .inl (SqL.of f3'), ?_⟩
        walk_at "lw go"
        refine g_ixL (SqL.of f3') (at_last (n := (([] : List Int)).length) (by simp)) ?_
        rw [last1]
        walk_at "lw go"
        rw [len1]
        refine ⟨z % S != 0, rfl, ?_⟩
        by_cases hq0 : z % S = 0
        · rw [show (z % S != 0) = false by simp [hq0]]
          dsimp only
          walk_at "lw go"
          refine ⟨tyL f4', ?_⟩
          walk_at "lw go"
          refine ⟨by show 2 ≤ sizeLine; decide, fun t ht => ?_⟩
          walk_at "lw go"
          refine g_append (same_new ht _ _ f4') (small_size (by have := hK.1; rw [List.length_take] at this; simp <;> omega)) ?_
          walk_at "lw go"
          exact ⟨(([] : List Int) ++ [z / S]), _, _, _, _, _, rfl, beside_fin s4 hl4' n34 f3' f4' ht hK' hz2 (.inl ⟨rfl, hq0⟩) (by have := hn2; simp at this ⊢ <;> omega)⟩
        · rw [show (z % S != 0) = true by simp [hq0]]
          dsimp only
          walk_at "lw go"
          refine g_ixL (SqL.of f3') (at_last (n := (([] : List Int)).length) (by simp)) ?_
          rw [last1]
          walk_at "lw go"
          refine iteS rfl ?_
          walk_at "lw go"
          refine ⟨tyL f3', ?_⟩
          walk_at "lw go"
          refine g_append f3' (small_size (by have := hn2; simp at this ⊢ <;> omega)) ?_
          have e2 : (([] : List Int) ++ [z / S]).map V.int ++ [V.int (z / S + 1)] = (([] : List Int) ++ [z / S, z / S + 1]).map V.int := by simp
          rw [e2]
          have f3'' : (upd H4 l3 (.lst ((([] : List Int) ++ [z / S, z / S + 1]).map V.int))) l3 = some (.lst ((([] : List Int) ++ [z / S, z / S + 1]).map V.int)) := upd_same
          have f4'' : (upd H4 l3 (.lst ((([] : List Int) ++ [z / S, z / S + 1]).map V.int))) l4 = some (.lst ws) := by rw [upd_ne n34]; exact f4'
          have hK2 : SpotsK (upd H4 l3 (.lst ((([] : List Int) ++ [z / S, z / S + 1]).map V.int))) S (zs.take 0) (([] : List Int) ++ [z / S, z / S + 1]) ws := by
            have h := (hK').more [z / S + 1]
            rw [show (([] : List Int) ++ [z / S]) ++ [z / S + 1] = (([] : List Int) ++ [z / S, z / S + 1]) by simp] at h
            exact h.mono (tup_putL f3')
          walk_at "lw go"
          refine ⟨tyL f4'', ?_⟩
          walk_at "lw go"
          refine ⟨by show 2 ≤ sizeLine; decide, fun t ht => ?_⟩
          walk_at "lw go"
          refine g_append (same_new ht _ _ f4'') (small_size (by have := hK.1; rw [List.length_take] at this; simp <;> omega)) ?_
          walk_at "lw go"
          exact ⟨(([] : List Int) ++ [z / S, z / S + 1]), _, _, _, _, _, rfl, beside_fin (same_put s4 hl3) hl4' n34 f3'' f4'' ht hK2 hz2 (.inr rfl) (by have := hn2; simp at this ⊢ <;> omega)⟩
      · have hmn : z' ≤ z := by
          have := List.pairwise_iff_getElem.mp hs m (m + 1) (by omega) hi2 (by omega)
          rw [List.getElem?_eq_getElem (by omega)] at hz' hz2
          injection hz' with e1
          injection hz2 with e2
          omega
        have hj : z' / S ≤ z / S := Int.ediv_le_ediv S0 hmn
        refine ⟨true, .inl ⟨_, SqL.of f3, by rcases hps with rfl | rfl <;> simp⟩, ?_⟩
        rcases hps with rfl | rfl
        · dsimp only
          walk_at "lw go"
          refine g_ixL (SqL.of f3) (at_last (n := base.length) (by simp)) ?_
          rw [show (base ++ [z' / S]).getD base.length 0 = z' / S by simp [List.getD]]
          walk_at "lw go"
          refine g_ite (fun c => ?_) (fun c => ?_)
          · walk_at "lw go"
            refine ⟨tyL f3, ?_⟩
            walk_at "lw go"
            refine g_append f3 (small_size (by have := hn2; simp at this ⊢ <;> omega)) ?_
            have e1 : (base ++ [z' / S]).map V.int ++ [V.int (z / S)] = ((base ++ [z' / S]) ++ [z / S]).map V.int := by simp
            rw [e1]
            obtain ⟨H4, e4⟩ : ∃ X, upd H3 l3 (.lst (((base ++ [z' / S]) ++ [z / S]).map V.int)) = X := ⟨_, rfl⟩
            have f3' : H4 l3 = some (.lst (((base ++ [z' / S]) ++ [z / S]).map V.int)) := e4 ▸ upd_same
            have f4' : H4 l4 = some (.lst ws) := by rw [← e4, upd_ne n34]; exact f4
            have s4 : Same H H4 := e4 ▸ same_put s3 hl3
            have hK' : SpotsK H4 S (zs.take (m + 1)) ((base ++ [z' / S]) ++ [z / S]) ws := by
              have h := (hK.more [z / S]).mono (tup_putL (o := .lst (((base ++ [z' / S]) ++ [z / S]).map V.int)) f3)
              rw [e4] at h
              exact h
            rw [e4]
            clear e4
            walk_at "lw go"
            refine ⟨l3, _, rfl, .inl (SqL.of f3'), ?_⟩
            walk_at "lw go"
            refine g_ixL (SqL.of f3') (at_last (n := ((base ++ [z' / S])).length) (by simp)) ?_
            rw [last1]
            walk_at "lw go"
            rw [len1]
            refine ⟨z % S != 0, rfl, ?_⟩
            by_cases hq0 : z % S = 0
            · rw [show (z % S != 0) = false by simp [hq0]]
              dsimp only
              walk_at "lw go"
              refine ⟨tyL f4', ?_⟩
              walk_at "lw go"
              refine ⟨by show 2 ≤ sizeLine; decide, fun t ht => ?_⟩
              walk_at "lw go"
              refine g_append (same_new ht _ _ f4') (small_size (by have := hK.1; rw [List.length_take] at this; simp <;> omega)) ?_
              walk_at "lw go"
              exact ⟨((base ++ [z' / S]) ++ [z / S]), _, _, _, _, _, rfl, beside_fin s4 hl4' n34 f3' f4' ht hK' hz2 (.inl ⟨rfl, hq0⟩) (by have := hn2; simp at this ⊢ <;> omega)⟩
            · rw [show (z % S != 0) = true by simp [hq0]]
              dsimp only
              walk_at "lw go"
              refine g_ixL (SqL.of f3') (at_last (n := ((base ++ [z' / S])).length) (by simp)) ?_
              rw [last1]
              walk_at "lw go"
              refine iteS rfl ?_
              walk_at "lw go"
              refine ⟨tyL f3', ?_⟩
              walk_at "lw go"
              refine g_append f3' (small_size (by have := hn2; simp at this ⊢ <;> omega)) ?_
              have e2 : ((base ++ [z' / S]) ++ [z / S]).map V.int ++ [V.int (z / S + 1)] = ((base ++ [z' / S]) ++ [z / S, z / S + 1]).map V.int := by simp
              rw [e2]
              have f3'' : (upd H4 l3 (.lst (((base ++ [z' / S]) ++ [z / S, z / S + 1]).map V.int))) l3 = some (.lst (((base ++ [z' / S]) ++ [z / S, z / S + 1]).map V.int)) := upd_same
              have f4'' : (upd H4 l3 (.lst (((base ++ [z' / S]) ++ [z / S, z / S + 1]).map V.int))) l4 = some (.lst ws) := by rw [upd_ne n34]; exact f4'
              have hK2 : SpotsK (upd H4 l3 (.lst (((base ++ [z' / S]) ++ [z / S, z / S + 1]).map V.int))) S (zs.take (m + 1)) ((base ++ [z' / S]) ++ [z / S, z / S + 1]) ws := by
                have h := (hK').more [z / S + 1]
                rw [show ((base ++ [z' / S]) ++ [z / S]) ++ [z / S + 1] = ((base ++ [z' / S]) ++ [z / S, z / S + 1]) by simp] at h
                exact h.mono (tup_putL f3')
              walk_at "lw go"
              refine ⟨tyL f4'', ?_⟩
              walk_at "lw go"
              refine ⟨by show 2 ≤ sizeLine; decide, fun t ht => ?_⟩
              walk_at "lw go"
              refine g_append (same_new ht _ _ f4'') (small_size (by have := hK.1; rw [List.length_take] at this; simp <;> omega)) ?_
              walk_at "lw go"
              exact ⟨((base ++ [z' / S]) ++ [z / S, z / S + 1]), _, _, _, _, _, rfl, beside_fin (same_put s4 hl3) hl4' n34 f3'' f4'' ht hK2 hz2 (.inr rfl) (by have := hn2; simp at this ⊢ <;> omega)⟩
          · obtain e0 : z' / S = z / S := by omega
            rw [e0] at f3 hK hn2
            have f3' := f3
            have f4' := f4
            have hK' := hK
            have s4 := s3
            walk_at "lw go"
            refine ⟨l3, _, rfl, .inl (SqL.of f3'), ?_⟩
            walk_at "lw go"
            refine g_ixL (SqL.of f3') (at_last (n := (base).length) (by simp)) ?_
            rw [last1]
            walk_at "lw go"
            rw [len1]
            refine ⟨z % S != 0, rfl, ?_⟩
            by_cases hq0 : z % S = 0
            · rw [show (z % S != 0) = false by simp [hq0]]
              dsimp only
              walk_at "lw go"
              refine ⟨tyL f4', ?_⟩
              walk_at "lw go"
              refine ⟨by show 2 ≤ sizeLine; decide, fun t ht => ?_⟩
              walk_at "lw go"
              refine g_append (same_new ht _ _ f4') (small_size (by have := hK.1; rw [List.length_take] at this; simp <;> omega)) ?_
              walk_at "lw go"
              exact ⟨(base ++ [z / S]), _, _, _, _, _, rfl, beside_fin s4 hl4' n34 f3' f4' ht hK' hz2 (.inl ⟨rfl, hq0⟩) (by have := hn2; simp at this ⊢ <;> omega)⟩
            · rw [show (z % S != 0) = true by simp [hq0]]
              dsimp only
              walk_at "lw go"
              refine g_ixL (SqL.of f3') (at_last (n := (base).length) (by simp)) ?_
              rw [last1]
              walk_at "lw go"
              refine iteS rfl ?_
              walk_at "lw go"
              refine ⟨tyL f3', ?_⟩
              walk_at "lw go"
              refine g_append f3' (small_size (by have := hn2; simp at this ⊢ <;> omega)) ?_
              have e2 : (base ++ [z / S]).map V.int ++ [V.int (z / S + 1)] = (base ++ [z / S, z / S + 1]).map V.int := by simp
              rw [e2]
              have f3'' : (upd H3 l3 (.lst ((base ++ [z / S, z / S + 1]).map V.int))) l3 = some (.lst ((base ++ [z / S, z / S + 1]).map V.int)) := upd_same
              have f4'' : (upd H3 l3 (.lst ((base ++ [z / S, z / S + 1]).map V.int))) l4 = some (.lst ws) := by rw [upd_ne n34]; exact f4'
              have hK2 : SpotsK (upd H3 l3 (.lst ((base ++ [z / S, z / S + 1]).map V.int))) S (zs.take (m + 1)) (base ++ [z / S, z / S + 1]) ws := by
                have h := (hK').more [z / S + 1]
                rw [show (base ++ [z / S]) ++ [z / S + 1] = (base ++ [z / S, z / S + 1]) by simp] at h
                exact h.mono (tup_putL f3')
              walk_at "lw go"
              refine ⟨tyL f4'', ?_⟩
              walk_at "lw go"
              refine ⟨by show 2 ≤ sizeLine; decide, fun t ht => ?_⟩
              walk_at "lw go"
              refine g_append (same_new ht _ _ f4'') (small_size (by have := hK.1; rw [List.length_take] at this; simp <;> omega)) ?_
              walk_at "lw go"
              exact ⟨(base ++ [z / S, z / S + 1]), _, _, _, _, _, rfl, beside_fin (same_put s4 hl3) hl4' n34 f3'' f4'' ht hK2 hz2 (.inr rfl) (by have := hn2; simp at this ⊢ <;> omega)⟩
        · dsimp only
          walk_at "lw go"
          refine g_ixL (SqL.of f3) (at_last (n := base.length + 1) (by simp)) ?_
          rw [show (base ++ [z' / S, z' / S + 1]).getD (base.length + 1) 0 = z' / S + 1 by simp [List.getD]]
          walk_at "lw go"
          refine g_ite (fun c => ?_) (fun c => ?_)
          · walk_at "lw go"
            refine ⟨tyL f3, ?_⟩
            walk_at "lw go"
            refine g_append f3 (small_size (by have := hn2; simp at this ⊢ <;> omega)) ?_
            have e1 : (base ++ [z' / S, z' / S + 1]).map V.int ++ [V.int (z / S)] = ((base ++ [z' / S, z' / S + 1]) ++ [z / S]).map V.int := by simp
            rw [e1]
            obtain ⟨H4, e4⟩ : ∃ X, upd H3 l3 (.lst (((base ++ [z' / S, z' / S + 1]) ++ [z / S]).map V.int)) = X := ⟨_, rfl⟩
            have f3' : H4 l3 = some (.lst (((base ++ [z' / S, z' / S + 1]) ++ [z / S]).map V.int)) := e4 ▸ upd_same
            have f4' : H4 l4 = some (.lst ws) := by rw [← e4, upd_ne n34]; exact f4
            have s4 : Same H H4 := e4 ▸ same_put s3 hl3
            have hK' : SpotsK H4 S (zs.take (m + 1)) ((base ++ [z' / S, z' / S + 1]) ++ [z / S]) ws := by
              have h := (hK.more [z / S]).mono (tup_putL (o := .lst (((base ++ [z' / S, z' / S + 1]) ++ [z / S]).map V.int)) f3)
              rw [e4] at h
              exact h
            rw [e4]
            clear e4
            walk_at "lw go"
            refine ⟨l3, _, rfl, .inl (SqL.of f3'), ?_⟩
            walk_at "lw go"
            refine g_ixL (SqL.of f3') (at_last (n := ((base ++ [z' / S, z' / S + 1])).length) (by simp)) ?_
            rw [last1]
            walk_at "lw go"
            rw [len1]
            refine ⟨z % S != 0, rfl, ?_⟩
            by_cases hq0 : z % S = 0
            · rw [show (z % S != 0) = false by simp [hq0]]
              dsimp only
              walk_at "lw go"
              refine ⟨tyL f4', ?_⟩
              walk_at "lw go"
              refine ⟨by show 2 ≤ sizeLine; decide, fun t ht => ?_⟩
              walk_at "lw go"
              refine g_append (same_new ht _ _ f4') (small_size (by have := hK.1; rw [List.length_take] at this; simp <;> omega)) ?_
              walk_at "lw go"
              exact ⟨((base ++ [z' / S, z' / S + 1]) ++ [z / S]), _, _, _, _, _, rfl, beside_fin s4 hl4' n34 f3' f4' ht hK' hz2 (.inl ⟨rfl, hq0⟩) (by have := hn2; simp at this ⊢ <;> omega)⟩
            · rw [show (z % S != 0) = true by simp [hq0]]
              dsimp only
              walk_at "lw go"
              refine g_ixL (SqL.of f3') (at_last (n := ((base ++ [z' / S, z' / S + 1])).length) (by simp)) ?_
              rw [last1]
              walk_at "lw go"
              refine iteS rfl ?_
              walk_at "lw go"
              refine ⟨tyL f3', ?_⟩
              walk_at "lw go"
              refine g_append f3' (small_size (by have := hn2; simp at this ⊢ <;> omega)) ?_
              have e2 : ((base ++ [z' / S, z' / S + 1]) ++ [z / S]).map V.int ++ [V.int (z / S + 1)] = ((base ++ [z' / S, z' / S + 1]) ++ [z / S, z / S + 1]).map V.int := by simp
              rw [e2]
              have f3'' : (upd H4 l3 (.lst (((base ++ [z' / S, z' / S + 1]) ++ [z / S, z / S + 1]).map V.int))) l3 = some (.lst (((base ++ [z' / S, z' / S + 1]) ++ [z / S, z / S + 1]).map V.int)) := upd_same
              have f4'' : (upd H4 l3 (.lst (((base ++ [z' / S, z' / S + 1]) ++ [z / S, z / S + 1]).map V.int))) l4 = some (.lst ws) := by rw [upd_ne n34]; exact f4'
              have hK2 : SpotsK (upd H4 l3 (.lst (((base ++ [z' / S, z' / S + 1]) ++ [z / S, z / S + 1]).map V.int))) S (zs.take (m + 1)) ((base ++ [z' / S, z' / S + 1]) ++ [z / S, z / S + 1]) ws := by
                have h := (hK').more [z / S + 1]
                rw [show ((base ++ [z' / S, z' / S + 1]) ++ [z / S]) ++ [z / S + 1] = ((base ++ [z' / S, z' / S + 1]) ++ [z / S, z / S + 1]) by simp] at h
                exact h.mono (tup_putL f3')
              walk_at "lw go"
              refine ⟨tyL f4'', ?_⟩
              walk_at "lw go"
              refine ⟨by show 2 ≤ sizeLine; decide, fun t ht => ?_⟩
              walk_at "lw go"
              refine g_append (same_new ht _ _ f4'') (small_size (by have := hK.1; rw [List.length_take] at this; simp <;> omega)) ?_
              walk_at "lw go"
              exact ⟨((base ++ [z' / S, z' / S + 1]) ++ [z / S, z / S + 1]), _, _, _, _, _, rfl, beside_fin (same_put s4 hl3) hl4' n34 f3'' f4'' ht hK2 hz2 (.inr rfl) (by have := hn2; simp at this ⊢ <;> omega)⟩
          · rcases (show z / S = z' / S ∨ z / S = z' / S + 1 by omega) with e0 | e0
            · rw [← e0] at f3 hK hn2
              have f3' := f3
              have hK' := hK
              walk_at "lw go"
              refine ⟨l3, _, rfl, .inl (SqL.of f3'), ?_⟩
              walk_at "lw go"
              refine g_ixL (SqL.of f3') (at_last (n := (base).length + 1) (by simp)) ?_
              rw [last2]
              walk_at "lw go"
              rw [len2]
              refine ⟨z % S != 0, rfl, ?_⟩
              by_cases hq0 : z % S = 0
              · rw [show (z % S != 0) = false by simp [hq0]]
                dsimp only
                walk_at "lw go"
                refine ⟨tyL f4, ?_⟩
                walk_at "lw go"
                refine ⟨by show 2 ≤ sizeLine; decide, fun t ht => ?_⟩
                walk_at "lw go"
                refine g_append (same_new ht _ _ f4) (small_size (by have := hK.1; rw [List.length_take] at this; simp <;> omega)) ?_
                walk_at "lw go"
                exact ⟨(base ++ [z / S, z / S + 1]), _, _, _, _, _, rfl, beside_fin s3 hl4' n34 f3' f4 ht hK' hz2 (.inr rfl) (by have := hn2; simp at this ⊢ <;> omega)⟩
              · rw [show (z % S != 0) = true by simp [hq0]]
                dsimp only
                walk_at "lw go"
                refine g_ixL (SqL.of f3') (at_last (n := (base).length + 1) (by simp)) ?_
                rw [last2]
                walk_at "lw go"
                refine iteNo (fun e => by injection e; omega) ?_
                walk_at "lw go"
                refine ⟨tyL f4, ?_⟩
                walk_at "lw go"
                refine ⟨by show 2 ≤ sizeLine; decide, fun t ht => ?_⟩
                walk_at "lw go"
                refine g_append (same_new ht _ _ f4) (small_size (by have := hK.1; rw [List.length_take] at this; simp <;> omega)) ?_
                walk_at "lw go"
                exact ⟨(base ++ [z / S, z / S + 1]), _, _, _, _, _, rfl, beside_fin s3 hl4' n34 f3' f4 ht hK' hz2 (.inr rfl) (by have := hn2; simp at this ⊢ <;> omega)⟩
            · have eL : base ++ [z' / S, z' / S + 1] = (base ++ [z' / S]) ++ [z / S] := by rw [e0]; simp
              rw [eL] at f3 hK hn2
              have f3' := f3
              have f4' := f4
              have hK' := hK
              have s4 := s3
              walk_at "lw go"
              refine ⟨l3, _, rfl, .inl (SqL.of f3'), ?_⟩
              walk_at "lw go"
              refine g_ixL (SqL.of f3') (at_last (n := ((base ++ [z' / S])).length) (by simp)) ?_
              rw [last1]
              walk_at "lw go"
              rw [len1]
              refine ⟨z % S != 0, rfl, ?_⟩
              by_cases hq0 : z % S = 0
              · rw [show (z % S != 0) = false by simp [hq0]]
                dsimp only
                walk_at "lw go"
                refine ⟨tyL f4', ?_⟩
                walk_at "lw go"
                refine ⟨by show 2 ≤ sizeLine; decide, fun t ht => ?_⟩
                walk_at "lw go"
                refine g_append (same_new ht _ _ f4') (small_size (by have := hK.1; rw [List.length_take] at this; simp <;> omega)) ?_
                walk_at "lw go"
                exact ⟨((base ++ [z' / S]) ++ [z / S]), _, _, _, _, _, rfl, beside_fin s4 hl4' n34 f3' f4' ht hK' hz2 (.inl ⟨rfl, hq0⟩) (by have := hn2; simp at this ⊢ <;> omega)⟩
              · rw [show (z % S != 0) = true by simp [hq0]]
                dsimp only
                walk_at "lw go"
                refine g_ixL (SqL.of f3') (at_last (n := ((base ++ [z' / S])).length) (by simp)) ?_
                rw [last1]
                walk_at "lw go"
                refine iteS rfl ?_
                walk_at "lw go"
                refine ⟨tyL f3', ?_⟩
                walk_at "lw go"
                refine g_append f3' (small_size (by have := hn2; simp at this ⊢ <;> omega)) ?_
                have e2 : ((base ++ [z' / S]) ++ [z / S]).map V.int ++ [V.int (z / S + 1)] = ((base ++ [z' / S]) ++ [z / S, z / S + 1]).map V.int := by simp
                rw [e2]
                have f3'' : (upd H3 l3 (.lst (((base ++ [z' / S]) ++ [z / S, z / S + 1]).map V.int))) l3 = some (.lst (((base ++ [z' / S]) ++ [z / S, z / S + 1]).map V.int)) := upd_same
                have f4'' : (upd H3 l3 (.lst (((base ++ [z' / S]) ++ [z / S, z / S + 1]).map V.int))) l4 = some (.lst ws) := by rw [upd_ne n34]; exact f4'
                have hK2 : SpotsK (upd H3 l3 (.lst (((base ++ [z' / S]) ++ [z / S, z / S + 1]).map V.int))) S (zs.take (m + 1)) ((base ++ [z' / S]) ++ [z / S, z / S + 1]) ws := by
                  have h := (hK').more [z / S + 1]
                  rw [show ((base ++ [z' / S]) ++ [z / S]) ++ [z / S + 1] = ((base ++ [z' / S]) ++ [z / S, z / S + 1]) by simp] at h
                  exact h.mono (tup_putL f3')
                walk_at "lw go"
                refine ⟨tyL f4'', ?_⟩
                walk_at "lw go"
                refine ⟨by show 2 ≤ sizeLine; decide, fun t ht => ?_⟩
                walk_at "lw go"
                refine g_append (same_new ht _ _ f4'') (small_size (by have := hK.1; rw [List.length_take] at this; simp <;> omega)) ?_
                walk_at "lw go"
                exact ⟨((base ++ [z' / S]) ++ [z / S, z / S + 1]), _, _, _, _, _, rfl, beside_fin (same_put s4 hl3) hl4' n34 f3'' f4'' ht hK2 hz2 (.inr rfl) (by have := hn2; simp at this ⊢ <;> omega)⟩
    · rintro σ H3 ⟨ps, ws, o5, o6, o7, o8, rfl, s3, f3, f4, hK, hn2, hT⟩
      walk_at "lw go"
      refine ⟨by show 2 ≤ sizeLine; decide, fun t ht => ?_⟩
      have s5 := same_new (o := .tup [.ref l3, .ref l4]) ht
      rw [List.length_map, List.take_length] at hK
      exact q l3 l4 t ps ws _ (s3.trans s5) upd_same (s5 _ _ f3) (s5 _ _ f4) (hK.mono (same_tup s5)) (by rw [List.length_map] at hn2; exact hn2)
abbrev N_noise_grid : List Str := ["seed", "salt", "log", "xs", "zs", "x", "value", "size", "twice", "places", "spots", "rows", "values", "i", "p", "near", "one", "two", "slopes", "low", "high", "starts", "at", "q"]
theorem sc_noise_grid : FnScope N_noise_grid ["seed", "salt", "log", "xs", "zs"] (defScope s_noise_grid) := ⟨rfl, rfl, rfl, by decide +kernel, rfl, by decide +kernel, by decide +kernel⟩
theorem ok_noise_grid (F : FnP K "noise_grid" s_noise_grid f fd) (T : Bi mg) (G : Kn K mg) (D_knots_beside : Df P w K mg base "knots_beside" ["log", "zs"] 1 spBeside) (D_knot_row : Df P w K mg base "knot_row" ["seed", "salt", "i", "places"] 1 spKrow) : FnOk P w K mg base CX0 2 f fd ["seed", "salt", "log", "xs", "zs"] spGrid := by
  refine F.ok sc_noise_grid (fun vs H Q E h => ?_) (fun cdv A outer s H vs Q E hr h => ⟨_, PSs.nox
(pss_cons (ps_if (pt_cmpR op_eq (pv 2) pe_int (nomark _))
  (pss_one (ps_ret (pe_lc2 (own := [("x", 5), ("value", 6)]) (vs1 := [6]) (g := gName 5) (g1 := gName 6) (tt := tYes) (tt1 := tYes) rfl sc_noise_grid.nd (pi_list (pv 3)) (blkOk_by (N := N_noise_grid) (sc := defScope s_noise_grid) (by decide +kernel)) (by decide) (fun _ _ _ _ _ => pg_name (i := 5) sc_noise_grid.nd rfl (Or.inl rfl)) (fun _ _ _ _ _ => pts_nil) (fun _ _ _ _ _ => (show PI _ _ _ (iList K _) from (pi_list (pe_df D_knot_row (hr.mono (by first | decide | omega)) (pa_cons (pv 0) (pa_cons (pv 1) (pa_cons (pv 5) (pa_cons (pv 4) pa_nil)))))))) (fun _ _ _ _ _ => pg_name (i := 6) sc_noise_grid.nd rfl (Or.inl rfl)) (fun _ _ _ _ _ => pts_nil) (fun _ _ _ _ _ => (pv 6)))))
  pss_nil)
  (pss_cons (ps_set (i := 7) sc_noise_grid.nd rfl (Or.inl rfl) (pe_op op_shl pe_int (pv 2)))
  (pss_cons (ps_set (i := 8) sc_noise_grid.nd rfl (Or.inr rfl) (pe_op op_add (pv 2) (pv 2)))
  (pss_cons (ps_asg (pe_df D_knots_beside (hr.mono (by first | decide | omega)) (pa_cons (pv 2) (pa_cons (pv 4) pa_nil))) (pg_tup (by rfl) (pgs_cons (pg_name (i := 9) sc_noise_grid.nd rfl (Or.inl rfl)) (pgs_cons (pg_name (i := 10) sc_noise_grid.nd rfl (Or.inl rfl)) pgs_nil))))
  (pss_cons (ps_set (i := 11) sc_noise_grid.nd rfl (Or.inl rfl) pe_dnewK)
  (pss_cons (ps_set (i := 12) sc_noise_grid.nd rfl (Or.inl rfl) (pe_lst pa_nil))
  (pss_cons (ps_for PassesOwn.never rfl (pi_list (pv 3)) (pg_name (i := 5) sc_noise_grid.nd rfl (Or.inl rfl))
  (pss_cons (ps_asg (pe_tup (pa_cons (pe_op op_shrN (pv 5) (pv 2)) (pa_cons (pe_op op_andM (pv 5) (pe_op op_sub (pv 7) pe_int)) pa_nil))) (pg_tup (by rfl) (pgs_cons (pg_name (i := 13) sc_noise_grid.nd rfl (Or.inl rfl)) (pgs_cons (pg_name (i := 14) sc_noise_grid.nd rfl (Or.inr rfl)) pgs_nil))))
  (pss_cons (ps_if (pt_cmp (pc_dnotin (hu_of hr) (pv 13) (pv 11)))
  (pss_one (ps_dput (hu_of hr) (pv 11) (pv 13) (pe_df D_knot_row (hr.mono (by first | decide | omega)) (pa_cons (pv 0) (pa_cons (pv 1) (pa_cons (pv 13) (pa_cons (pv 9) pa_nil))))) rfl))
  pss_nil)
  (pss_cons (ps_set (i := 15) sc_noise_grid.nd rfl (Or.inl rfl) (pe_dget (hu_of hr) (pv 11) (pv 13) (fun _ _ => rfl)))
  (pss_cons (ps_if (pt_cmpR op_eq (pv 14) pe_int (nomark _))
  (pss_one (ps_setLc (i := 15) (own := [("one", 16)]) (g := gName 16) (tt := tYes) rfl sc_noise_grid.nd rfl rfl (sw_true rfl rfl rfl (by decide +kernel)) (pi_list (pv 15)) (blkOk_by (N := N_noise_grid) (sc := defScope s_noise_grid) (by decide +kernel)) (fun _ _ _ _ _ => pg_name (i := 16) sc_noise_grid.nd rfl (Or.inl rfl)) (fun _ _ _ _ _ => pts_nil) (fun _ _ _ _ _ => (pe_op op_shl (pv 16) (pv 2)))))
  (pss_cons (ps_if (pt_cmp (pc_dnotin (hu_of hr) (pe_op op_add (pv 13) pe_int) (pv 11)))
  (pss_one (ps_dput (hu_of hr) (pv 11) (pe_op op_add (pv 13) pe_int) (pe_df D_knot_row (hr.mono (by first | decide | omega)) (pa_cons (pv 0) (pa_cons (pv 1) (pa_cons (pe_op op_add (pv 13) pe_int) (pa_cons (pv 9) pa_nil))))) rfl))
  pss_nil)
  (pss_one (ps_setLc (i := 15) (own := [("one", 16), ("two", 17)]) (g := (gTup K 2 (gCons (gName 16) (gCons (gName 17) gNil)))) (tt := tYes) rfl sc_noise_grid.nd rfl rfl (sw_true rfl rfl rfl (by decide +kernel)) (pi_zip (by rfl) T.zip (pa_cons (pv 15) (pa_cons (pe_dget (hu_of hr) (pv 11) (pe_op op_add (pv 13) pe_int) (fun _ _ => rfl)) pa_nil))) (blkOk_by (N := N_noise_grid) (sc := defScope s_noise_grid) (by decide +kernel)) (fun _ _ _ _ _ => pg_tup (by rfl) (pgs_cons (pg_name (i := 16) sc_noise_grid.nd rfl (Or.inl rfl)) (pgs_cons (pg_name (i := 17) sc_noise_grid.nd rfl (Or.inl rfl)) pgs_nil))) (fun _ _ _ _ _ => pts_nil) (fun _ _ _ _ _ => (pe_op op_add (pe_op op_shl (pv 16) (pv 2)) (pe_op op_mul (pv 14) (pe_op op_sub (pv 17) (pv 16)))))))))
  (pss_cons (ps_set (i := 18) sc_noise_grid.nd rfl (Or.inr rfl) (pe_op op_cat (pe_lc (own := [("low", 19), ("high", 20)]) (g := gTup K 2 (gCons (gName 19) (gCons (gName 20) gNil))) (tt := tYes) rfl sc_noise_grid.nd (pi_zip (by rfl) T.zip (pa_cons (pv 15) (pa_cons (pe_slice sl_list (pv 15) (po_some pe_int) po_none) pa_nil))) (blkOk_by (N := N_noise_grid) (sc := defScope s_noise_grid) (by decide +kernel)) (fun _ _ _ _ _ => pg_tup (by rfl) (pgs_cons (pg_name (i := 19) sc_noise_grid.nd rfl (Or.inl rfl)) (pgs_cons (pg_name (i := 20) sc_noise_grid.nd rfl (Or.inl rfl)) pgs_nil))) (fun _ _ _ _ _ => pts_nil) (fun _ _ _ _ _ => (pe_op op_sub (pv 20) (pv 19)))) (pe_lst (pa_cons pe_int pa_nil))))
  (pss_cons (ps_set (i := 21) sc_noise_grid.nd rfl (Or.inr rfl) (pe_lc (own := [("low", 19)]) (g := gName 19) (tt := tYes) rfl sc_noise_grid.nd (pi_list (pv 15)) (blkOk_by (N := N_noise_grid) (sc := defScope s_noise_grid) (by decide +kernel)) (fun _ _ _ _ _ => pg_name (i := 19) sc_noise_grid.nd rfl (Or.inl rfl)) (fun _ _ _ _ _ => pts_nil) (fun _ _ _ _ _ => (pe_op op_shl (pv 19) (pv 2)))))
  (pss_one (ps_aug (i := 12) sc_noise_grid.nd rfl (Or.inl rfl) (pe_lc (own := [("at", 22), ("q", 23)]) (g := gTup K 2 (gCons (gName 22) (gCons (gName 23) gNil))) (tt := tYes) rfl sc_noise_grid.nd (pi_list (pv 10)) (blkOk_by (N := N_noise_grid) (sc := defScope s_noise_grid) (by decide +kernel)) (fun _ _ _ _ _ => pg_tup (by rfl) (pgs_cons (pg_name (i := 22) sc_noise_grid.nd rfl (Or.inl rfl)) (pgs_cons (pg_name (i := 23) sc_noise_grid.nd rfl (Or.inl rfl)) pgs_nil))) (fun _ _ _ _ _ => pts_nil) (fun _ _ _ _ _ => (pe_op op_shrN (pe_op op_add (pe_ix (ix_listK (K := K)) (pv 21) (pv 22) (fun _ _ => rfl)) (pe_op op_mul (pv 23) (pe_ix (ix_listK (K := K)) (pv 18) (pv 22) (fun _ _ => rfl)))) (pv 8)))) iop_ext)))))))))
  (pss_one (ps_ret (pv 12)))))))))), ?_⟩)
  · obtain ⟨g, s, n, xl, zl, xs, zs, rfl, _⟩ := h
    rfl
  · obtain ⟨g, s, n, xl, zl, xs, zs, rfl, hn, hx, hz, hs, hxn, hzn, q⟩ := h
    walk_at "lw i0"
    walk_at "lw go"
    refine g_ite (fun h0 => ?_) (fun h0 => ?_)
    · obtain rfl : n = 0 := by first | omega | (injection h0; omega)
      walk_at "lw go"
      unfold tLc2
      walk_at "lw go"
      refine ⟨xl, rfl, ⟨_, SqL.of hx⟩, fun D hD => it_list (xs := xs.map V.int) (fun k H' => Same H H' ∧ H' D = some (.lst ((gridL g s 0 (xs.take k) zs).map V.int))) ⟨same_new hD, upd_same⟩ (fun k H' _ ⟨s1, _⟩ => SqL.of (s1 _ _ hx)) ?_ ?_⟩
      · rintro k y H' hk ⟨s1, hd⟩
        obtain ⟨x, hx2, rfl, hkl⟩ := int_at hk
        walk_at "lw go"
        refine ⟨rfl, g_yes (iteT ?_)⟩
        walk_at "lw go"
        refine ⟨g, s, x, zl, zs, rfl, s1 _ _ hz, by omega, fun l H2 hln s2 hl => ?_⟩
        have hd2 := s2 _ _ hd
        have nlD : l ≠ D := fun e => by rw [e, hd] at hln; cases hln
        refine ⟨l, rfl, ⟨_, SqL.of hl⟩, it_list (xs := (zs.map fun j => knotL g s x j).map V.int) (fun j G => Same H G ∧ G l = some (.lst ((zs.map fun j => knotL g s x j).map V.int)) ∧ G D = some (.lst ((gridL g s 0 (xs.take k) zs ++ (zs.take j).map fun z => noiseL g s 0 x z).map V.int)))
          ⟨s1.trans s2, hl, by simpa using hd2⟩ (fun j G _ ⟨_, h, _⟩ => SqL.of h) ?_ ?_⟩
        · rintro j y G hj ⟨s3, hl3, hd3⟩
          obtain ⟨v, hv, rfl, hjl⟩ := int_at hj
          rw [List.length_map] at hjl
          obtain ⟨z, hz2, rfl⟩ : ∃ z, zs[j]? = some z ∧ v = knotL g s x z := by
            rw [List.getElem?_map, List.getElem?_eq_getElem hjl] at hv
            exact ⟨_, List.getElem?_eq_getElem hjl, by cases hv; rfl⟩
          walk_at "lw go"
          refine ⟨rfl, g_yes (iteT ?_)⟩
          walk_at "lw go"
          have hlen : (gridL g s 0 (xs.take k) zs).length ≤ 40000 := by
            rw [gridL_len]
            exact Nat.mul_le_mul (show (xs.take k).length ≤ 200 by rw [List.length_take]; omega) hzn
          refine ⟨_, hd3, small_size (by rw [List.length_map, List.length_append, List.length_map, List.length_take]; omega), same_put s3 hD, by rw [upd_ne nlD]; exact hl3, ?_⟩
          rw [upd_same, take_at hz2, List.map_append, List.map_append, List.map_append, List.append_assoc]
          simp [noise_zero]
        · rintro G ⟨s3, hl3, hd3⟩
          rw [List.length_map, List.length_map, List.take_length, ← gridL_take hx2] at hd3
          exact ⟨s3, hd3⟩
      · rintro H' ⟨s1, hd⟩
        rw [List.length_map, List.take_length] at hd
        exact q D H' hD s1 hd
    · obtain ⟨S, e1, e2, S0, S1, SS0, SS1⟩ := log_pow (show (0 : Int) ≤ (n : Int) by omega) (show (n : Int) ≤ 8 by omega)
      have hS : (2 : Int) ^ n = S := by rw [← e2, Int.toNat_natCast]
      have p0 : (2 : Int) ^ ((n : Nat) : Int).toNat = S := e2
      walk_at "lw go"
      refine g_I ⟨by omega, by omega, by decide⟩ ?_
      rw [e1]
      walk_at "lw go"
      refine ⟨n, zl, zs, rfl, hn, hz, hs, hzn, fun pl sl t ps ws H1 s1 ht hpl hsl hK hpn => ?_⟩
      rw [hS] at hK
      walk_at "lw go"
      refine g_tupT (SqT.of ht) rfl ?_
      walk_at "lw go"
      refine g_dnew fun r hr => ?_
      have s2 := same_new (o := .dK []) hr
      walk_at "lw go"
      refine ⟨by show 0 ≤ sizeLine; decide, fun v hv => ?_⟩
      have s3 := same_new (o := .lst []) hv
      obtain ⟨H3, e3⟩ : ∃ X, upd (upd H1 r (.dK [])) v (.lst []) = X := ⟨_, rfl⟩
      have fr : H3 r = some (.dK []) := e3 ▸ s3 _ _ upd_same
      have fv : H3 v = some (.lst []) := e3 ▸ upd_same
      have s13 : Same H1 H3 := e3 ▸ s2.trans s3
      have hv1 : H1 v = none := by
        cases e : H1 v with
        | none => rfl
        | some u => rw [s2 _ _ e] at hv; cases hv
      have nvr : v ≠ r := ne_of_none2 upd_same hv
      rw [e3]
      clear e3 s2 s3
      walk_at "lw go"
      refine ⟨xl, rfl, ⟨_, SqL.of (s13 _ _ (s1 _ _ hx))⟩, for_list (xs := xs.map V.int) (fun k σ G => ∃ (o5 o6 o13 o14 o15 o16 o17 o18 o19 o20 o21 o22 o23 : Option V) (kvs : List (Key × V)), σ = [some (.int g), some (.int s), some (.int n), some (.ref xl), some (.ref zl), o5, o6, some (.int S), some (.int (n + n)), some (.ref pl), some (.ref sl), some (.ref r), some (.ref v), o13, o14, o15, o16, o17, o18, o19, o20, o21, o22, o23] ∧
          Same H1 G ∧ G r = some (.dK kvs) ∧ G v = some (.lst ((gridL g s n (xs.take k) zs).map V.int)) ∧ RowsOk g s ps v G kvs ∧ kvs.length ≤ 2 * k)
        ⟨_, _, _, _, _, _, _, _, _, _, _, _, _, [], rfl, s13, fr, fv, (fun i w h => by cases h), Nat.le_refl _⟩ (fun k σ G _ ⟨_, _, _, _, _, _, _, _, _, _, _, _, _, _, _, s4, _⟩ => SqL.of (s4 _ _ (s1 _ _ hx))) ?_ ?_⟩
      · rintro k y σ G hk ⟨o5, o6, o13, o14, o15, o16, o17, o18, o19, o20, o21, o22, o23, kvs, rfl, s4, fr4, fv4, hR, hkn⟩
        obtain ⟨x, hx2, rfl, hkl⟩ := int_at hk
        walk_at "lw go"
        refine ⟨x, n, rfl, rfl, ?_⟩
        walk_at "lw go"
        refine ⟨x, n, rfl, by rw [hS], ?_⟩
        rw [hS]
        walk_at "lw go"
        refine ⟨by show 2 ≤ sizeLine; decide, fun tp htp => ?_⟩
        have s5 := same_new (o := .tup [.int (x / S), .int (x % S)]) htp
        obtain ⟨G1, e5⟩ : ∃ X, upd G tp (.tup [.int (x / S), .int (x % S)]) = X := ⟨_, rfl⟩
        have ftp : G1 tp = some (.tup [.int (x / S), .int (x % S)]) := e5 ▸ upd_same
        rw [e5] at s5 ⊢
        clear e5
        have fr5 := s5 _ _ fr4
        have fv5 := s5 _ _ fv4
        have hR5 := hR.later s5
        have s15 := s4.trans s5
        clear fr4 fv4 hR s4 s5
        walk_at "lw go"
        refine g_tupT (SqT.of ftp) rfl ?_
        walk_at "lw go"
        have x0 := Int.emod_nonneg x (show S ≠ 0 by omega)
        have x1 := Int.emod_lt_of_pos x S0
        obtain ⟨I, eI⟩ : ∃ I, x / S = I := ⟨_, rfl⟩
        obtain ⟨p, ep⟩ : ∃ p, x % S = p := ⟨_, rfl⟩
        rw [eI, ep]
        rw [ep] at x0 x1
        refine g_dnotin ?_
        walk_at "lw go"
        refine ⟨r, _, rfl, DGet.k (k := Sum.inl I) fr5, ?_⟩
        walk_at "lw go"
        refine ite_keyH (fun G2 => ∃ kvs2 a, Same H1 G2 ∧ G2 r = some (.dK kvs2) ∧ G2 v = some (.lst ((gridL g s n (xs.take k) zs).map V.int)) ∧ RowsOk g s ps v G2 kvs2 ∧ kvs2.length ≤ 2 * k + 1 ∧ valV kvs2 (Sum.inl I) = some (.ref a)) ?_ (fun hb => ?_) (fun hb key => ?_)
        · rintro G2 ⟨kvs2, a, s6, fr6, fv6, hR6, hkn6, ha⟩
          obtain ⟨_, e, hav, fa⟩ := hR6 I _ ha
          cases e
          walk_at "lw go"
          refine ⟨r, _, rfl, (by have h := DGet.k (k := (Sum.inl I : Key)) fr6; rw [ha] at h; exact h), ?_⟩
          walk_at "lw go"
          refine g_ite (fun hp0 => ?_) (fun hp0 => ?_)
          · obtain rfl : p = 0 := by first | omega | (injection hp0)
            walk_at "lw go"
            refine ⟨a, rfl, ⟨_, SqL.of fa⟩, fun D hD => lc_list (xs := (ps.map fun j => knotL g s I j).map V.int) (fun j G => Same G2 G ∧ G D = some (.lst (((ps.take j).map fun j => nearV g s I 0 S j).map V.int))) ⟨same_new hD, upd_same⟩ (fun j G _ ⟨s7, _⟩ => SqL.of (s7 _ _ fa)) ?_ ?_⟩
            · rintro j y G3 hj ⟨s7, hd⟩
              obtain ⟨u, hu, rfl, hjl⟩ := int_at hj
              rw [List.length_map] at hjl
              obtain ⟨c, hc, rfl⟩ : ∃ c, ps[j]? = some c ∧ u = knotL g s I c := by
                rw [List.getElem?_map, List.getElem?_eq_getElem hjl] at hu
                exact ⟨_, List.getElem?_eq_getElem hjl, by cases hu; rfl⟩
              walk_at "lw go"
              refine ⟨rfl, g_yes (iteT ?_)⟩
              walk_at "lw st"
              have kn := knot_in g s I c
              refine g_I ⟨by omega, by omega, by omega⟩ ?_
              rw [p0]
              refine ⟨_, hd, small_size (by simp; omega), same_put s7 hD, ?_⟩
              rw [upd_same, take_at hc, List.map_append, List.map_append]
              simp [nearV]
            · rintro G3 ⟨s7, hd⟩
              rw [List.length_map, List.length_map, List.take_length] at hd
              have sX : Same H1 G3 := s6.trans s7
              have frX := s7 _ _ fr6
              have fvX := s7 _ _ fv6
              have hRX := hR6.later s7
              have hkX : kvs2.length ≤ 2 * (k + 1) := by omega
              walk_at "lw go"
              refine g_izip ?_
              walk_at "lw go"
              refine g_slL (SqL.of hd) fun c hc => ?_
              rw [cut_one]
              obtain ⟨G5, e5⟩ : ∃ X, upd G3 c (.lst (((ps.map fun j => nearV g s I 0 S j).map V.int).drop 1)) = X := ⟨_, rfl⟩
              have s11 : Same G3 G5 := e5 ▸ same_new hc
              have fc : G5 c = some (.lst (((ps.map fun j => nearV g s I 0 S j).map V.int).drop 1)) := e5 ▸ upd_same
              rw [e5]
              clear e5
              walk_at "lw go"
              refine ⟨D, c, _, _, rfl, SqL.of (s11 _ _ hd), SqL.of fc, fun D2 hD2 => it_zip (n := ps.length - 1) (by simp) (fun j G => Same G5 G ∧ G D2 = some (.lst (((List.range j).map fun t => nearV g s I 0 S (ps.getD (t + 1) 0) - nearV g s I 0 S (ps.getD t 0)).map V.int))) ⟨same_new hD2, upd_same⟩ (fun j G ⟨s12, _⟩ => ⟨SqL.of (s12 _ _ (s11 _ _ hd)), SqL.of (s12 _ _ fc)⟩) ?_ ?_⟩
              · rintro j y1 y2 T G6 h1 h2 ⟨s12, hd2⟩ hT
                rw [List.getElem?_drop] at h2
                obtain ⟨u1, hu1, rfl, hj1⟩ := int_at h1
                obtain ⟨u2, hu2, rfl, hj2⟩ := int_at h2
                rw [List.length_map] at hj1 hj2
                obtain ⟨c1, hc1, rfl⟩ : ∃ c1, ps[j]? = some c1 ∧ u1 = nearV g s I 0 S c1 := by
                  rw [List.getElem?_map, List.getElem?_eq_getElem hj1] at hu1
                  exact ⟨_, List.getElem?_eq_getElem hj1, by cases hu1; rfl⟩
                obtain ⟨c2, hc2, rfl⟩ : ∃ c2, ps[1 + j]? = some c2 ∧ u2 = nearV g s I 0 S c2 := by
                  rw [List.getElem?_map, List.getElem?_eq_getElem hj2] at hu2
                  exact ⟨_, List.getElem?_eq_getElem hj2, by cases hu2; rfl⟩
                have s13' := same_new (o := .tup [.int (nearV g s I 0 S c1), .int (nearV g s I 0 S c2)]) hT
                walk_at "lw go"
                refine g_tupT (SqT.of upd_same) rfl ?_
                walk_at "lw go"
                refine ⟨rfl, g_yes (iteT ?_)⟩
                walk_at "lw go"
                refine ⟨_, s13' _ _ hd2, small_size (by simp; omega), same_put (s12.trans s13') hD2, ?_⟩
                rw [upd_same, List.range_succ, List.map_append, List.map_append]
                rw [Nat.add_comm 1 j] at hc2
                simp [List.getD, hc1, hc2]
              · rintro G6 ⟨s12, hd2⟩
                walk_at "lw go"
                refine ⟨by show 1 ≤ sizeLine; decide, fun l1 hl1 => ?_⟩
                have s14 := same_new (o := .lst [.int 0]) hl1
                refine g_cat (s14 _ _ hd2) upd_same (small_size (by simp; omega)) fun l2 hl2 => ?_
                have s15' := same_new (o := .lst (((List.range (ps.length - 1)).map fun t => nearV g s I 0 S (ps.getD (t + 1) 0) - nearV g s I 0 S (ps.getD t 0)).map V.int ++ [.int 0])) hl2
                obtain ⟨G7, e7⟩ : ∃ X, upd (upd G6 l1 (.lst [.int 0])) l2 (.lst (((List.range (ps.length - 1)).map fun t => nearV g s I 0 S (ps.getD (t + 1) 0) - nearV g s I 0 S (ps.getD t 0)).map V.int ++ [.int 0])) = X := ⟨_, rfl⟩
                have fs : G7 l2 = some (.lst (((List.range (ps.length - 1)).map fun t => nearV g s I 0 S (ps.getD (t + 1) 0) - nearV g s I 0 S (ps.getD t 0)).map V.int ++ [.int 0])) := e7 ▸ upd_same
                have sZ : Same G3 G7 := e7 ▸ ((s11.trans s12).trans s14).trans s15'
                rw [e7]
                clear e7 s14 s15'
                walk_at "lw go"
                refine ⟨D, rfl, ⟨_, SqL.of (sZ _ _ hd)⟩, fun D3 hD3 => lc_list (xs := (ps.map fun j => nearV g s I 0 S j).map V.int) (fun j G => Same G7 G ∧ G D3 = some (.lst (((ps.take j).map fun j => nearV g s I 0 S j * S).map V.int))) ⟨same_new hD3, upd_same⟩ (fun j G _ ⟨s16, _⟩ => SqL.of (s16 _ _ (sZ _ _ hd))) ?_ ?_⟩
                · rintro j y G8 hj ⟨s16, hd3⟩
                  obtain ⟨u, hu, rfl, hjl⟩ := int_at hj
                  rw [List.length_map] at hjl
                  obtain ⟨c1, hc1, rfl⟩ : ∃ c1, ps[j]? = some c1 ∧ u = nearV g s I 0 S c1 := by
                    rw [List.getElem?_map, List.getElem?_eq_getElem hjl] at hu
                    exact ⟨_, List.getElem?_eq_getElem hjl, by cases hu; rfl⟩
                  walk_at "lw go"
                  refine ⟨rfl, g_yes (iteT ?_)⟩
                  walk_at "lw st"
                  refine g_I ⟨by omega, by omega, nearV_small S0 S1 x0 x1⟩ ?_
                  rw [p0]
                  refine ⟨_, hd3, small_size (by simp; omega), same_put s16 hD3, ?_⟩
                  rw [upd_same, take_at hc1, List.map_append, List.map_append]
                  rfl
                · rintro G8 ⟨s16, hd3⟩
                  rw [List.length_map, List.length_map, List.take_length] at hd3
                  walk_at "lw go"
                  have fs2 : G8 l2 = some (.lst ((((List.range (ps.length - 1)).map fun t => nearV g s I 0 S (ps.getD (t + 1) 0) - nearV g s I 0 S (ps.getD t 0)) ++ [0]).map V.int)) := by rw [List.map_append]; exact s16 _ _ fs
                  refine ⟨_, rfl, ?_⟩
                  walk_at "lw go"
                  have sW : Same H1 G8 := (sX.trans sZ).trans s16
                  refine ⟨sl, rfl, ⟨_, SqL.of (sW _ _ hsl)⟩, fun D4 hD4 => lc_list (xs := ws) (fun j G => Same G8 G ∧ G D4 = some (.lst (((zs.take j).map fun z => noiseL g s n x z).map V.int))) ⟨same_new hD4, upd_same⟩ (fun j G _ ⟨s17, _⟩ => SqL.of (s17 _ _ (sW _ _ hsl))) ?_ ?_⟩
                  · rintro j y G9 hj ⟨s17, hd4⟩
                    have hjz : j < zs.length := by
                      rw [← hK.1]
                      rcases Nat.lt_or_ge j ws.length with h | h
                      · exact h
                      · rw [List.getElem?_eq_none h] at hj; cases hj
                    obtain ⟨z, hz2⟩ : ∃ z, zs[j]? = some z := ⟨_, List.getElem?_eq_getElem hjz⟩
                    obtain ⟨tw, lo, ew, htw, hlo, hlo1⟩ := hK.2 j z hz2
                    obtain rfl : V.ref tw = y := by rw [ew] at hj; exact Option.some.inj hj
                    have hll : lo < ps.length := by
                      rcases Nat.lt_or_ge lo ps.length with h | h
                      · exact h
                      · rw [List.getElem?_eq_none h] at hlo; cases hlo
                    have z0 := Int.emod_nonneg z (show S ≠ 0 by omega)
                    have z1 := Int.emod_lt_of_pos z S0
                    have gv := grid_val (g := g) (s := s) (x := x) (z := z) hS S0
                    rw [eI, ep] at gv
                    have st1 : ((ps.map fun j => nearV g s I 0 S j * S)).getD lo 0 = nearV g s I 0 S (z / S) * S := by simp [List.getD, hlo]
                    have sl1 : z % S * (((List.range (ps.length - 1)).map fun t => nearV g s I 0 S (ps.getD (t + 1) 0) - nearV g s I 0 S (ps.getD t 0)) ++ [0]).getD lo 0 = z % S * (nearV g s I 0 S (z / S + 1) - nearV g s I 0 S (z / S)) := by
                      by_cases hq : z % S = 0
                      · rw [hq, Int.zero_mul, Int.zero_mul]
                      · have h1 := hlo1 hq
                        have hl1 : lo + 1 < ps.length := by
                          rcases Nat.lt_or_ge (lo + 1) ps.length with h | h
                          · exact h
                          · rw [List.getElem?_eq_none h] at h1; cases h1
                        congr 1
                        simp [List.getD, List.getElem?_append, hlo, h1, show lo < ps.length - 1 by omega]
                    walk_at "lw go"
                    refine g_tupT (SqT.of (s17 _ _ (sW _ _ htw))) rfl ?_
                    walk_at "lw go"
                    refine ⟨rfl, g_yes (iteT ?_)⟩
                    walk_at "lw go"
                    refine g_ixL (SqL.of (s17 _ _ hd3)) (at_ints (by rw [List.length_map]; exact hll)) ?_
                    rw [st1]
                    walk_at "lw go"
                    refine g_ixL (SqL.of (s17 _ _ fs2)) (at_ints (by simp; omega)) ?_
                    obtain ⟨q', eq'⟩ : ∃ q', z % S = q' := ⟨_, rfl⟩
                    rw [eq'] at z0 z1 sl1 gv ⊢
                    walk_at "lw go"
                    rw [sl1]
                    refine ⟨_, n + n, rfl, rfl, ?_⟩
                    rw [gv]
                    refine ⟨_, hd4, small_size (by simp; omega), same_put s17 hD4, ?_⟩
                    rw [upd_same, take_at hz2, List.map_append, List.map_append]
                    rfl
                  · rintro G9 ⟨s17, hd4⟩
                    rw [hK.1, List.take_length] at hd4
                    have hlen : (gridL g s n (xs.take k) zs).length ≤ 40000 := by
                      rw [gridL_len]
                      exact Nat.mul_le_mul (show (xs.take k).length ≤ 200 by rw [List.length_take]; omega) hzn
                    have sV : Same G3 G9 := (sZ.trans s16).trans s17
                    refine ⟨v, D4, _, _, rfl, rfl, sV _ _ fvX, hd4, Nat.le_of_lt (small_size (by simp; omega)), ?_⟩
                    refine ⟨_, _, _, _, _, _, _, _, _, _, _, _, _, kvs2, rfl, same_put (sX.trans sV) hv1, by rw [upd_ne nvr.symm]; exact sV _ _ frX, ?_, (hRX.later sV).vset, hkX⟩
                    rw [upd_same, gridL_take hx2, List.map_append]
          · have hp1 : p ≠ 0 := by first | omega | (intro e; exact hp0 (by rw [e]))
            walk_at "lw go"
            refine g_dnotin ?_
            walk_at "lw go"
            refine ⟨r, _, rfl, DGet.k (k := Sum.inl (I + 1)) fr6, ?_⟩
            walk_at "lw go"
            refine ite_keyH (fun G4 => ∃ kvs4 b, Same H1 G4 ∧ G4 r = some (.dK kvs4) ∧ G4 v = some (.lst ((gridL g s n (xs.take k) zs).map V.int)) ∧ RowsOk g s ps v G4 kvs4 ∧ kvs4.length ≤ 2 * k + 2 ∧ valV kvs4 (Sum.inl (I + 1)) = some (.ref b) ∧ G4 a = some (.lst ((ps.map fun j => knotL g s I j).map V.int))) ?_ (fun hb => ?_) (fun hb key => ?_)
            · rintro G4 ⟨kvs4, b, s8, fr8, fv8, hR8, hkn8, hb8, fa8⟩
              obtain ⟨_, e, hbv, fb⟩ := hR8 (I + 1) _ hb8
              cases e
              walk_at "lw go"
              refine g_izip ?_
              walk_at "lw go"
              refine ⟨r, _, rfl, (by have h := DGet.k (k := (Sum.inl (I + 1) : Key)) fr8; rw [hb8] at h; exact h), ?_⟩
              walk_at "lw go"
              refine ⟨a, b, _, _, rfl, SqL.of fa8, SqL.of fb, fun D hD => it_zip (n := ps.length) (by simp) (fun j G => Same G4 G ∧ G D = some (.lst (((ps.take j).map fun j => nearV g s I p S j).map V.int))) ⟨same_new hD, upd_same⟩ (fun j G ⟨s9, _⟩ => ⟨SqL.of (s9 _ _ fa8), SqL.of (s9 _ _ fb)⟩) ?_ ?_⟩
              · rintro j y1 y2 T G5 h1 h2 ⟨s9, hd⟩ hT
                obtain ⟨u1, hu1, rfl, hjl⟩ := int_at h1
                obtain ⟨u2, hu2, rfl, _⟩ := int_at h2
                rw [List.length_map] at hjl
                obtain ⟨c, hc, rfl, rfl⟩ : ∃ c, ps[j]? = some c ∧ u1 = knotL g s I c ∧ u2 = knotL g s (I + 1) c := by
                  rw [List.getElem?_map, List.getElem?_eq_getElem hjl] at hu1 hu2
                  exact ⟨_, List.getElem?_eq_getElem hjl, by cases hu1; rfl, by cases hu2; rfl⟩
                have s10 := same_new (o := .tup [.int (knotL g s I c), .int (knotL g s (I + 1) c)]) hT
                have hDT : D ≠ T := fun e => by rw [← e, hd] at hT; cases hT
                walk_at "lw go"
                refine g_tupT (SqT.of upd_same) rfl ?_
                walk_at "lw go"
                refine ⟨rfl, g_yes (iteT ?_)⟩
                walk_at "lw st"
                have kn := knot_in g s I c
                refine g_I ⟨by omega, by omega, by omega⟩ ?_
                rw [p0]
                walk_at "lw go"
                refine ⟨_, s10 _ _ hd, small_size (by simp; omega), same_put (s9.trans s10) hD, ?_⟩
                rw [upd_same, take_at hc, List.map_append, List.map_append]
                simp [nearV]
              · rintro G3 ⟨s9, hd⟩
                rw [List.take_length] at hd
                have sX : Same H1 G3 := s8.trans s9
                have frX := s9 _ _ fr8
                have fvX := s9 _ _ fv8
                have hRX := hR8.later s9
                have hkX : kvs4.length ≤ 2 * (k + 1) := by omega
                walk_at "lw go"
                refine g_izip ?_
                walk_at "lw go"
                refine g_slL (SqL.of hd) fun c hc => ?_
                rw [cut_one]
                obtain ⟨G5, e5⟩ : ∃ X, upd G3 c (.lst (((ps.map fun j => nearV g s I p S j).map V.int).drop 1)) = X := ⟨_, rfl⟩
                have s11 : Same G3 G5 := e5 ▸ same_new hc
                have fc : G5 c = some (.lst (((ps.map fun j => nearV g s I p S j).map V.int).drop 1)) := e5 ▸ upd_same
                rw [e5]
                clear e5
                walk_at "lw go"
                refine ⟨D, c, _, _, rfl, SqL.of (s11 _ _ hd), SqL.of fc, fun D2 hD2 => it_zip (n := ps.length - 1) (by simp) (fun j G => Same G5 G ∧ G D2 = some (.lst (((List.range j).map fun t => nearV g s I p S (ps.getD (t + 1) 0) - nearV g s I p S (ps.getD t 0)).map V.int))) ⟨same_new hD2, upd_same⟩ (fun j G ⟨s12, _⟩ => ⟨SqL.of (s12 _ _ (s11 _ _ hd)), SqL.of (s12 _ _ fc)⟩) ?_ ?_⟩
                · rintro j y1 y2 T G6 h1 h2 ⟨s12, hd2⟩ hT
                  rw [List.getElem?_drop] at h2
                  obtain ⟨u1, hu1, rfl, hj1⟩ := int_at h1
                  obtain ⟨u2, hu2, rfl, hj2⟩ := int_at h2
                  rw [List.length_map] at hj1 hj2
                  obtain ⟨c1, hc1, rfl⟩ : ∃ c1, ps[j]? = some c1 ∧ u1 = nearV g s I p S c1 := by
                    rw [List.getElem?_map, List.getElem?_eq_getElem hj1] at hu1
                    exact ⟨_, List.getElem?_eq_getElem hj1, by cases hu1; rfl⟩
                  obtain ⟨c2, hc2, rfl⟩ : ∃ c2, ps[1 + j]? = some c2 ∧ u2 = nearV g s I p S c2 := by
                    rw [List.getElem?_map, List.getElem?_eq_getElem hj2] at hu2
                    exact ⟨_, List.getElem?_eq_getElem hj2, by cases hu2; rfl⟩
                  have s13' := same_new (o := .tup [.int (nearV g s I p S c1), .int (nearV g s I p S c2)]) hT
                  walk_at "lw go"
                  refine g_tupT (SqT.of upd_same) rfl ?_
                  walk_at "lw go"
                  refine ⟨rfl, g_yes (iteT ?_)⟩
                  walk_at "lw go"
                  refine ⟨_, s13' _ _ hd2, small_size (by simp; omega), same_put (s12.trans s13') hD2, ?_⟩
                  rw [upd_same, List.range_succ, List.map_append, List.map_append]
                  rw [Nat.add_comm 1 j] at hc2
                  simp [List.getD, hc1, hc2]
                · rintro G6 ⟨s12, hd2⟩
                  walk_at "lw go"
                  refine ⟨by show 1 ≤ sizeLine; decide, fun l1 hl1 => ?_⟩
                  have s14 := same_new (o := .lst [.int 0]) hl1
                  refine g_cat (s14 _ _ hd2) upd_same (small_size (by simp; omega)) fun l2 hl2 => ?_
                  have s15' := same_new (o := .lst (((List.range (ps.length - 1)).map fun t => nearV g s I p S (ps.getD (t + 1) 0) - nearV g s I p S (ps.getD t 0)).map V.int ++ [.int 0])) hl2
                  obtain ⟨G7, e7⟩ : ∃ X, upd (upd G6 l1 (.lst [.int 0])) l2 (.lst (((List.range (ps.length - 1)).map fun t => nearV g s I p S (ps.getD (t + 1) 0) - nearV g s I p S (ps.getD t 0)).map V.int ++ [.int 0])) = X := ⟨_, rfl⟩
                  have fs : G7 l2 = some (.lst (((List.range (ps.length - 1)).map fun t => nearV g s I p S (ps.getD (t + 1) 0) - nearV g s I p S (ps.getD t 0)).map V.int ++ [.int 0])) := e7 ▸ upd_same
                  have sZ : Same G3 G7 := e7 ▸ ((s11.trans s12).trans s14).trans s15'
                  rw [e7]
                  clear e7 s14 s15'
                  walk_at "lw go"
                  refine ⟨D, rfl, ⟨_, SqL.of (sZ _ _ hd)⟩, fun D3 hD3 => lc_list (xs := (ps.map fun j => nearV g s I p S j).map V.int) (fun j G => Same G7 G ∧ G D3 = some (.lst (((ps.take j).map fun j => nearV g s I p S j * S).map V.int))) ⟨same_new hD3, upd_same⟩ (fun j G _ ⟨s16, _⟩ => SqL.of (s16 _ _ (sZ _ _ hd))) ?_ ?_⟩
                  · rintro j y G8 hj ⟨s16, hd3⟩
                    obtain ⟨u, hu, rfl, hjl⟩ := int_at hj
                    rw [List.length_map] at hjl
                    obtain ⟨c1, hc1, rfl⟩ : ∃ c1, ps[j]? = some c1 ∧ u = nearV g s I p S c1 := by
                      rw [List.getElem?_map, List.getElem?_eq_getElem hjl] at hu
                      exact ⟨_, List.getElem?_eq_getElem hjl, by cases hu; rfl⟩
                    walk_at "lw go"
                    refine ⟨rfl, g_yes (iteT ?_)⟩
                    walk_at "lw st"
                    refine g_I ⟨by omega, by omega, nearV_small S0 S1 x0 x1⟩ ?_
                    rw [p0]
                    refine ⟨_, hd3, small_size (by simp; omega), same_put s16 hD3, ?_⟩
                    rw [upd_same, take_at hc1, List.map_append, List.map_append]
                    rfl
                  · rintro G8 ⟨s16, hd3⟩
                    rw [List.length_map, List.length_map, List.take_length] at hd3
                    walk_at "lw go"
                    have fs2 : G8 l2 = some (.lst ((((List.range (ps.length - 1)).map fun t => nearV g s I p S (ps.getD (t + 1) 0) - nearV g s I p S (ps.getD t 0)) ++ [0]).map V.int)) := by rw [List.map_append]; exact s16 _ _ fs
                    refine ⟨_, rfl, ?_⟩
                    walk_at "lw go"
                    have sW : Same H1 G8 := (sX.trans sZ).trans s16
                    refine ⟨sl, rfl, ⟨_, SqL.of (sW _ _ hsl)⟩, fun D4 hD4 => lc_list (xs := ws) (fun j G => Same G8 G ∧ G D4 = some (.lst (((zs.take j).map fun z => noiseL g s n x z).map V.int))) ⟨same_new hD4, upd_same⟩ (fun j G _ ⟨s17, _⟩ => SqL.of (s17 _ _ (sW _ _ hsl))) ?_ ?_⟩
                    · rintro j y G9 hj ⟨s17, hd4⟩
                      have hjz : j < zs.length := by
                        rw [← hK.1]
                        rcases Nat.lt_or_ge j ws.length with h | h
                        · exact h
                        · rw [List.getElem?_eq_none h] at hj; cases hj
                      obtain ⟨z, hz2⟩ : ∃ z, zs[j]? = some z := ⟨_, List.getElem?_eq_getElem hjz⟩
                      obtain ⟨tw, lo, ew, htw, hlo, hlo1⟩ := hK.2 j z hz2
                      obtain rfl : V.ref tw = y := by rw [ew] at hj; exact Option.some.inj hj
                      have hll : lo < ps.length := by
                        rcases Nat.lt_or_ge lo ps.length with h | h
                        · exact h
                        · rw [List.getElem?_eq_none h] at hlo; cases hlo
                      have z0 := Int.emod_nonneg z (show S ≠ 0 by omega)
                      have z1 := Int.emod_lt_of_pos z S0
                      have gv := grid_val (g := g) (s := s) (x := x) (z := z) hS S0
                      rw [eI, ep] at gv
                      have st1 : ((ps.map fun j => nearV g s I p S j * S)).getD lo 0 = nearV g s I p S (z / S) * S := by simp [List.getD, hlo]
                      have sl1 : z % S * (((List.range (ps.length - 1)).map fun t => nearV g s I p S (ps.getD (t + 1) 0) - nearV g s I p S (ps.getD t 0)) ++ [0]).getD lo 0 = z % S * (nearV g s I p S (z / S + 1) - nearV g s I p S (z / S)) := by
                        by_cases hq : z % S = 0
                        · rw [hq, Int.zero_mul, Int.zero_mul]
                        · have h1 := hlo1 hq
                          have hl1 : lo + 1 < ps.length := by
                            rcases Nat.lt_or_ge (lo + 1) ps.length with h | h
                            · exact h
                            · rw [List.getElem?_eq_none h] at h1; cases h1
                          congr 1
                          simp [List.getD, List.getElem?_append, hlo, h1, show lo < ps.length - 1 by omega]
                      walk_at "lw go"
                      refine g_tupT (SqT.of (s17 _ _ (sW _ _ htw))) rfl ?_
                      walk_at "lw go"
                      refine ⟨rfl, g_yes (iteT ?_)⟩
                      walk_at "lw go"
                      refine g_ixL (SqL.of (s17 _ _ hd3)) (at_ints (by rw [List.length_map]; exact hll)) ?_
                      rw [st1]
                      walk_at "lw go"
                      refine g_ixL (SqL.of (s17 _ _ fs2)) (at_ints (by simp; omega)) ?_
                      obtain ⟨q', eq'⟩ : ∃ q', z % S = q' := ⟨_, rfl⟩
                      rw [eq'] at z0 z1 sl1 gv ⊢
                      walk_at "lw go"
                      rw [sl1]
                      refine ⟨_, n + n, rfl, rfl, ?_⟩
                      rw [gv]
                      refine ⟨_, hd4, small_size (by simp; omega), same_put s17 hD4, ?_⟩
                      rw [upd_same, take_at hz2, List.map_append, List.map_append]
                      rfl
                    · rintro G9 ⟨s17, hd4⟩
                      rw [hK.1, List.take_length] at hd4
                      have hlen : (gridL g s n (xs.take k) zs).length ≤ 40000 := by
                        rw [gridL_len]
                        exact Nat.mul_le_mul (show (xs.take k).length ≤ 200 by rw [List.length_take]; omega) hzn
                      have sV : Same G3 G9 := (sZ.trans s16).trans s17
                      refine ⟨v, D4, _, _, rfl, rfl, sV _ _ fvX, hd4, Nat.le_of_lt (small_size (by simp; omega)), ?_⟩
                      refine ⟨_, _, _, _, _, _, _, _, _, _, _, _, _, kvs4, rfl, same_put (sX.trans sV) hv1, by rw [upd_ne nvr.symm]; exact sV _ _ frX, ?_, (hRX.later sV).vset, hkX⟩
                      rw [upd_same, gridL_take hx2, List.map_append]
            · obtain ⟨w, ew⟩ : ∃ w, valV kvs2 (Sum.inl (I + 1)) = some w := by
                cases e : valV kvs2 (Sum.inl (I + 1)) with
                | none => rw [e] at hb; cases hb
                | some w => exact ⟨w, rfl⟩
              obtain ⟨b, rfl, _, _⟩ := hR6 (I + 1) w ew
              exact ⟨kvs2, b, s6, fr6, fv6, hR6, by omega, ew, fa⟩
            · walk_at "lw go"
              refine ⟨g, s, I + 1, pl, ps, rfl, s6 _ _ hpl, by omega, fun l G4 hln s8 fl => ?_⟩
              walk_at "lw go"
              refine ⟨r, _, rfl, DPut.k (k := Sum.inl (I + 1)) (s8 _ _ fr6) (small_size (by omega)), ?_⟩
              have hlv : l ≠ v := fun e => by rw [e, fv6] at hln; cases hln
              have := length_putK kvs2 (Sum.inl (I + 1) : Key) (V.ref l)
              exact key _ ⟨putK kvs2 (Sum.inl (I + 1)) (.ref l), l, same_put (s6.trans s8) hr, upd_same, by rw [upd_ne nvr]; exact s8 _ _ fv6, (hR6.later s8).put fl hlv (s8 _ _ fr6), by omega, by rw [valV_put, if_pos rfl],
                by rw [upd_ne (fun c => by rw [c, fr6] at fa; cases fa)]; exact s8 _ _ fa⟩
        · obtain ⟨w, ew⟩ : ∃ w, valV kvs (Sum.inl I) = some w := by
            cases e : valV kvs (Sum.inl I) with
            | none => rw [e] at hb; cases hb
            | some w => exact ⟨w, rfl⟩
          obtain ⟨a, rfl, _, _⟩ := hR5 I w ew
          exact ⟨kvs, a, s15, fr5, fv5, hR5, by omega, ew⟩
        · walk_at "lw go"
          refine ⟨g, s, I, pl, ps, rfl, s15 _ _ hpl, by omega, fun l G2 hln s6 fl => ?_⟩
          walk_at "lw go"
          refine ⟨r, _, rfl, DPut.k (k := Sum.inl I) (s6 _ _ fr5) (small_size (by omega)), ?_⟩
          have hlv : l ≠ v := fun e => by rw [e, fv5] at hln; cases hln
          have := length_putK kvs (Sum.inl I : Key) (V.ref l)
          exact key _ ⟨putK kvs (Sum.inl I) (.ref l), l, same_put (s15.trans s6) hr, upd_same, by rw [upd_ne nvr]; exact s6 _ _ fv5, (hR5.later s6).put fl hlv (s6 _ _ fr5), by omega, by rw [valV_put, if_pos rfl]⟩
      · rintro σ G ⟨o5, o6, o13, o14, o15, o16, o17, o18, o19, o20, o21, o22, o23, kvs, rfl, s4, fr4, fv4, hR, hkn⟩
        walk_at "lw go"
        rw [List.length_map, List.take_length] at fv4
        exact q v G (by cases e : H v with | none => rfl | some u => rw [s1 _ _ e] at hv1; cases hv1) (s1.trans s4) fv4
abbrev N_corner_values : List Str := ["seed", "salt", "log", "box", "size", "x0", "z0", "x1", "z1", "one", "two", "three", "four", "q0", "q1", "values", "p", "near", "slope"]
theorem sc_corner_values : FnScope N_corner_values ["seed", "salt", "log", "box"] (defScope s_corner_values) := ⟨rfl, rfl, rfl, by decide +kernel, rfl, by decide +kernel, by decide +kernel⟩
theorem ok_corner_values (F : FnP K "corner_values" s_corner_values f fd) (T : Bi mg) (G : Kn K mg) (D_four_knots : Df P w K mg base "four_knots" ["seed", "salt", "i", "j"] 1 spFour) : FnOk P w K mg base CX0 2 f fd ["seed", "salt", "log", "box"] spCorner := by
  refine F.ok sc_corner_values (fun vs H Q E h => ?_) (fun cdv A outer s H vs Q E hr h => ⟨_, PSs.nox
(pss_cons (ps_set (i := 4) sc_corner_values.nd rfl (Or.inl rfl) (pe_op op_shl pe_int (pv 2)))
  (pss_cons (ps_asg (pv 3) (pg_tup (by rfl) (pgs_cons (pg_name (i := 5) sc_corner_values.nd rfl (Or.inl rfl)) (pgs_cons (pg_name (i := 6) sc_corner_values.nd rfl (Or.inl rfl)) (pgs_cons (pg_name (i := 7) sc_corner_values.nd rfl (Or.inl rfl)) (pgs_cons (pg_name (i := 8) sc_corner_values.nd rfl (Or.inl rfl)) pgs_nil))))))
  (pss_cons (ps_asg (pe_df D_four_knots (hr.mono (by first | decide | omega)) (pa_cons (pv 0) (pa_cons (pv 1) (pa_cons (pe_op op_shrN (pv 5) (pv 2)) (pa_cons (pe_op op_shrN (pv 6) (pv 2)) pa_nil))))) (pg_tup (by rfl) (pgs_cons (pg_name (i := 9) sc_corner_values.nd rfl (Or.inl rfl)) (pgs_cons (pg_name (i := 10) sc_corner_values.nd rfl (Or.inl rfl)) (pgs_cons (pg_name (i := 11) sc_corner_values.nd rfl (Or.inl rfl)) (pgs_cons (pg_name (i := 12) sc_corner_values.nd rfl (Or.inl rfl)) pgs_nil))))))
  (pss_cons (ps_par (i := 13) (j := 14) rfl sc_corner_values.nd rfl rfl (by decide) rfl rfl (pa_cons (pe_op op_andM (pv 6) (pe_op op_sub (pv 4) pe_int)) (pa_cons (pe_op op_andM (pv 8) (pe_op op_sub (pv 4) pe_int)) pa_nil)) rfl)
  (pss_cons (ps_set (i := 15) sc_corner_values.nd rfl (Or.inl rfl) (pe_lst pa_nil))
  (pss_cons (ps_for PassesOwn.never rfl (pi_tup (pe_tup (pa_cons (pe_op op_andM (pv 5) (pe_op op_sub (pv 4) pe_int)) (pa_cons (pe_op op_andM (pv 7) (pe_op op_sub (pv 4) pe_int)) pa_nil)))) (pg_name (i := 16) sc_corner_values.nd rfl (Or.inl rfl))
  (pss_cons (ps_set (i := 17) sc_corner_values.nd rfl (Or.inl rfl) (pe_op op_mul (pe_op op_add (pe_op op_mul (pe_op op_sub (pv 4) (pv 16)) (pv 9)) (pe_op op_mul (pv 16) (pv 10))) (pv 4)))
  (pss_cons (ps_set (i := 18) sc_corner_values.nd rfl (Or.inl rfl) (pe_op op_sub (pe_op op_sub (pe_op op_add (pe_op op_mul (pe_op op_sub (pv 4) (pv 16)) (pv 11)) (pe_op op_mul (pv 16) (pv 12))) (pe_op op_mul (pe_op op_sub (pv 4) (pv 16)) (pv 9))) (pe_op op_mul (pv 16) (pv 10))))
  (pss_cons (ps_expr (pe_bm PySem.F.plainAttrs_list PySem.F.slot_list_append PySem.F.type_list_append mt_append (pv 15) (pa_cons (pe_op op_shrN (pe_op op_add (pv 17) (pe_op op_mul (pv 13) (pv 18))) (pe_op op_add (pv 2) (pv 2))) pa_nil)))
  (pss_one (ps_expr (pe_bm PySem.F.plainAttrs_list PySem.F.slot_list_append PySem.F.type_list_append mt_append (pv 15) (pa_cons (pe_op op_shrN (pe_op op_add (pv 17) (pe_op op_mul (pv 14) (pv 18))) (pe_op op_add (pv 2) (pv 2))) pa_nil))))))))
  (pss_one (ps_ret (pv 15))))))))), ?_⟩)
  · obtain ⟨g, s, x0, z0, x1, z1, n, b, rfl, _⟩ := h
    rfl
  · obtain ⟨g, s, x0, z0, x1, z1, n, b, rfl, hn, hb, ex, ez, q⟩ := h
    walk_at "lw i0"
    obtain ⟨S, e1, e2, S0, S1, SS0, SS1⟩ := log_pow (show (0 : Int) ≤ (n : Int) by omega) (show (n : Int) ≤ 8 by omega)
    have hS : (2 : Int) ^ n = S := by rw [← e2, Int.toNat_natCast]
    rw [hS] at ex ez
    walk_at "lw go"
    refine g_I ⟨by omega, by omega, by decide⟩ ?_
    rw [e1]
    walk_at "lw go"
    refine g_tupT (SqT.of hb) rfl ?_
    walk_at "lw go"
    refine ⟨x0, n, rfl, rfl, ?_⟩
    walk_at "lw go"
    refine ⟨z0, n, rfl, rfl, ?_⟩
    rw [hS]
    walk_at "lw go"
    refine ⟨g, s, x0 / S, z0 / S, rfl, fun t ht => ?_⟩
    have s1 := same_new (o := .tup (fourV g s (x0 / S) (z0 / S))) ht
    obtain ⟨H1, eH⟩ : ∃ X, upd H t (.tup (fourV g s (x0 / S) (z0 / S))) = X := ⟨_, rfl⟩
    have f1 : H1 t = some (.tup (fourV g s (x0 / S) (z0 / S))) := eH ▸ upd_same
    rw [eH] at s1 ⊢
    clear eH
    walk_at "lw go"
    refine g_tupT (SqT.of f1) rfl ?_
    walk_at "lw go"
    with_reducible refine' g_par ?_
    walk_at "lw st"
    refine ⟨z0, n, rfl, by rw [hS], ?_⟩
    walk_at "lw st"
    refine ⟨z1, n, rfl, by rw [hS], ?_⟩
    walk_at "lw st"
    refine ⟨_, _, rfl, ?_⟩
    walk_at "lw ns"
    rw [hS]
    walk_at "lw go"
    refine ⟨by show 0 ≤ sizeLine; decide, fun l hl => ?_⟩
    have s2 := s1.trans (same_new (o := .lst []) hl)
    walk_at "lw go"
    refine ⟨x0, n, rfl, by rw [hS], ?_⟩
    walk_at "lw go"
    refine ⟨x1, n, rfl, by rw [hS], ?_⟩
    rw [hS]
    walk_at "lw go"
    refine ⟨by show 2 ≤ sizeLine; decide, fun tp htp => ?_⟩
    have s3 := same_new (o := .tup [.int (x0 % S), .int (x1 % S)]) htp
    obtain ⟨H2, eH2⟩ : ∃ X, upd (upd H1 l (.lst [])) tp (.tup [.int (x0 % S), .int (x1 % S)]) = X := ⟨_, rfl⟩
    have ftp : H2 tp = some (.tup [.int (x0 % S), .int (x1 % S)]) := eH2 ▸ upd_same
    have fl : H2 l = some (.lst []) := eH2 ▸ s3 _ _ upd_same
    have sH : Same H H2 := eH2 ▸ s2.trans s3
    have ntl : tp ≠ l := ne_of_none2 upd_same htp
    have hl1 : H l = none := by
      cases e : H l with
      | none => rfl
      | some u => rw [s1 _ _ e] at hl; cases hl
    rw [eH2]
    clear eH2 s2 s3
    have q00 := Int.emod_nonneg z0 (show S ≠ 0 by omega)
    have q01 := Int.emod_lt_of_pos z0 S0
    have q10 := Int.emod_nonneg z1 (show S ≠ 0 by omega)
    have q11 := Int.emod_lt_of_pos z1 S0
    have hv0 : ∀ x, x / S = x0 / S → noiseL g s n x z0 = (((S - x % S) * knotL g s (x0 / S) (z0 / S) + x % S * knotL g s (x0 / S + 1) (z0 / S)) * S + z0 % S * ((S - x % S) * knotL g s (x0 / S) (z0 / S + 1) + x % S * knotL g s (x0 / S + 1) (z0 / S + 1) - (S - x % S) * knotL g s (x0 / S) (z0 / S) - x % S * knotL g s (x0 / S + 1) (z0 / S))) / 2 ^ (n + n) := fun x e => by
      rw [← e]; exact (corner_eq hS S0).symm
    have hv1 : ∀ x, x / S = x0 / S → noiseL g s n x z1 = (((S - x % S) * knotL g s (x0 / S) (z0 / S) + x % S * knotL g s (x0 / S + 1) (z0 / S)) * S + z1 % S * ((S - x % S) * knotL g s (x0 / S) (z0 / S + 1) + x % S * knotL g s (x0 / S + 1) (z0 / S + 1) - (S - x % S) * knotL g s (x0 / S) (z0 / S) - x % S * knotL g s (x0 / S + 1) (z0 / S))) / 2 ^ (n + n) := fun x e => by
      rw [← e, ez]; exact (corner_eq hS S0).symm
    refine ⟨tp, rfl, ⟨_, SqT.of ftp⟩, for_tup (xs := [V.int (x0 % S), V.int (x1 % S)]) (fun i σ H' => ∃ o16 o17 o18, σ = [some (V.int g), some (V.int s), some (V.int n), some (V.ref b), some (V.int S), some (V.int x0),
                        some (V.int z0), some (V.int x1), some (V.int z1), some (V.int (knotL g s (x0 / S) (z0 / S))),
                        some (V.int (knotL g s (x0 / S + 1) (z0 / S))), some (V.int (knotL g s (x0 / S) (z0 / S + 1))),
                        some (V.int (knotL g s (x0 / S + 1) (z0 / S + 1))), some (V.int (z0 % S)),
                        some (V.int (z1 % S)), some (V.ref l), o16, o17, o18] ∧ Same H H' ∧ H' tp = H2 tp ∧ H' l = some (.lst (([noiseL g s n x0 z0, noiseL g s n x0 z1, noiseL g s n x1 z0, noiseL g s n x1 z1].take (2 * i)).map V.int)))
      ⟨_, _, _, rfl, sH, rfl, fl⟩ (fun _ σ H' _ ⟨_, _, _, _, _, e, _⟩ => SqT.of (e.trans ftp)) ?_ ?_⟩
    · rintro i y σ H3 hi ⟨o16, o17, o18, rfl, s3, ft3, fl3⟩
      obtain ⟨x, rfl, ex2, hk⟩ : ∃ x, y = .int (x % S) ∧ x / S = x0 / S ∧ [noiseL g s n x0 z0, noiseL g s n x0 z1, noiseL g s n x1 z0, noiseL g s n x1 z1].take (2 * (i + 1)) = [noiseL g s n x0 z0, noiseL g s n x0 z1, noiseL g s n x1 z0, noiseL g s n x1 z1].take (2 * i) ++ [noiseL g s n x z0, noiseL g s n x z1] := by
        have hi2 : i < 2 := by
          rcases Nat.lt_or_ge i 2 with h | h
          · exact h
          · rw [List.getElem?_eq_none h] at hi; cases hi
        rcases (show i = 0 ∨ i = 1 by omega) with rfl | rfl
        · exact ⟨x0, by cases hi; rfl, rfl, rfl⟩
        · exact ⟨x1, by cases hi; rfl, ex.symm, rfl⟩
      have e0 := hv0 x ex2
      have e1' := hv1 x ex2
      have p0 := Int.emod_nonneg x (show S ≠ 0 by omega)
      have p1 := Int.emod_lt_of_pos x S0
      obtain ⟨p, hp⟩ : ∃ p, x % S = p := ⟨_, rfl⟩
      rw [hp] at p0 p1 e0 e1' ⊢
      walk_at "lw go"
      refine ⟨tyL fl3, ?_⟩
      walk_at "lw go"
      refine ⟨_, n + n, rfl, rfl, ?_⟩
      rw [← e0]
      walk_at "lw go"
      refine g_append fl3 (small_size (by simp; omega)) ?_
      walk_at "lw go"
      refine ⟨tyL upd_same, ?_⟩
      walk_at "lw go"
      refine ⟨_, n + n, rfl, rfl, ?_⟩
      rw [← e1']
      walk_at "lw go"
      refine g_append upd_same (small_size (by simp; omega)) ?_
      walk_at "lw go"
      refine ⟨_, _, _, rfl, same_put (same_put s3 hl1) hl1, ?_, ?_⟩
      · rw [upd_ne ntl, upd_ne ntl, ft3]
      · rw [upd_same, hk, List.map_append]
        simp
    · rintro σ H3 ⟨o16, o17, o18, rfl, s3, ft3, fl3⟩
      walk_at "lw go"
      exact q l H3 hl1 s3 fl3
abbrev N_turns : List Str := ["low", "high", "log", "size", "found", "begin"]
theorem sc_turns : FnScope N_turns ["low", "high", "log"] (defScope s_turns) := ⟨rfl, rfl, rfl, by decide +kernel, rfl, by decide +kernel, by decide +kernel⟩
theorem ok_turns (F : FnP K "turns" s_turns f fd) (T : Bi mg) (G : Kn K mg)  : FnOk P w K mg base CX0 1 f fd ["low", "high", "log"] spTurns := by
  refine F.ok sc_turns (fun vs H Q E h => ?_) (fun cdv A outer s H vs Q E hr h => ⟨_, PSs.nox
(pss_cons (ps_set (i := 3) sc_turns.nd rfl (Or.inl rfl) (pe_op op_shl pe_int (pv 2)))
  (pss_cons (ps_set (i := 4) sc_turns.nd rfl (Or.inl rfl) (pe_lst (pa_cons (pv 0) pa_nil)))
  (pss_cons (ps_for PassesOwn.never rfl (pi_range3 (by rfl) T.range (pa_cons (pe_op op_shl (pe_op op_add (pe_op op_shrN (pv 0) (pv 2)) pe_int) (pv 2)) (pa_cons (pv 1) (pa_cons (pv 3) pa_nil)))) (pg_name (i := 5) sc_turns.nd rfl (Or.inl rfl))
  (pss_one (ps_expr (pe_bm PySem.F.plainAttrs_list PySem.F.slot_list_append PySem.F.type_list_append mt_append (pv 4) (pa_cons (pv 5) pa_nil)))))
  (pss_cons (ps_if (pt_cmpR op_gt (pv 1) (pv 0) (nomark _))
  (pss_one (ps_expr (pe_bm PySem.F.plainAttrs_list PySem.F.slot_list_append PySem.F.type_list_append mt_append (pv 4) (pa_cons (pv 1) pa_nil))))
  pss_nil)
  (pss_one (ps_ret (pv 4))))))), ?_⟩)
  · obtain ⟨lo, hi, n, rfl, _⟩ := h
    rfl
  · obtain ⟨lo, hi, n, rfl, hn, hl, hh, hlh, hc, q⟩ := h
    walk_at "lw i0"
    obtain ⟨S, e1, e2, S0, S1, SS0, SS1⟩ := log_pow (show (0 : Int) ≤ (n : Int) by omega) (show (n : Int) ≤ 8 by omega)
    have hS : (2 : Int) ^ n = S := by rw [← e2, Int.toNat_natCast]
    rw [hS] at hc q
    walk_at "lw go"
    refine g_I ⟨by omega, by omega, by decide⟩ ?_
    rw [e1]
    walk_at "lw go"
    refine ⟨by show 1 ≤ sizeLine; decide, fun l hl0 => ?_⟩
    walk_at "lw go"
    refine g_rng3 ?_
    walk_at "lw go"
    refine ⟨lo, n, rfl, rfl, ?_⟩
    rw [hS]
    have b1 := natAbs_div_le lo (show 1 ≤ S by omega)
    have p0 : (2 : Int) ^ ((n : Nat) : Int).toNat = S := e2
    walk_at "lw st"
    refine g_I ⟨by omega, by omega, by omega⟩ ?_
    rw [p0]
    walk_at "lw st"
    refine ⟨_, _, _, turnC S lo hi, rfl, rg_up S0 S1 (by omega) (by omega) (by have d := lo_div (lo := lo) S0; have e : (lo / S + 1) * S = lo / S * S + S := (by rw [Int.add_mul, Int.one_mul]); omega), for_rangeC (fun i σ H' => ∃ o5, σ = [some (.int lo), some (.int hi), some (.int n), some (.int S), some (.ref l), o5] ∧ Same H H' ∧ H' l = some (.lst ((lo :: (List.range i).map fun (k : Nat) => (lo / S + 1) * S + k * S).map V.int)))
      ⟨_, rfl, same_new hl0, upd_same⟩ ?_ ?_⟩
    · rintro i σ H1 hi2 ⟨o5, rfl, s1, h1⟩
      walk_at "lw go"
      refine ⟨tyL h1, ?_⟩
      walk_at "lw go"
      refine g_append h1 (small_size (by simp; omega)) ?_
      walk_at "lw go"
      refine ⟨_, rfl, same_put s1 hl0, ?_⟩
      rw [upd_same, List.range_succ, List.map_append]
      simp
    · rintro σ H1 ⟨o5, rfl, s1, h1⟩
      walk_at "lw go"
      refine g_ite (fun c => ?_) (fun c => ?_)
      · walk_at "lw go"
        refine ⟨tyL h1, ?_⟩
        walk_at "lw go"
        refine g_append h1 (small_size (by simp; omega)) ?_
        walk_at "lw go"
        refine q l _ hl0 (same_put s1 hl0) ?_
        rw [upd_same]
        unfold turnsL
        rw [if_pos c]
        simp
      · walk_at "lw go"
        refine q l _ hl0 s1 ?_
        rw [h1]
        unfold turnsL
        rw [if_neg c, List.append_nil]
abbrev N_noise_range : List Str := ["seed", "salt", "log", "box", "x0", "z0", "x1", "z1", "squares", "values"]
theorem sc_noise_range : FnScope N_noise_range ["seed", "salt", "log", "box"] (defScope s_noise_range) := ⟨rfl, rfl, rfl, by decide +kernel, rfl, by decide +kernel, by decide +kernel⟩
theorem ok_noise_range (F : FnP K "noise_range" s_noise_range f fd) (T : Bi mg) (G : Kn K mg) (D_corner_values : Df P w K mg base "corner_values" ["seed", "salt", "log", "box"] 2 spCorner) (D_noise_grid : Df P w K mg base "noise_grid" ["seed", "salt", "log", "xs", "zs"] 2 spGrid) (D_turns : Df P w K mg base "turns" ["low", "high", "log"] 1 spTurns) : FnOk P w K mg base CX0 3 f fd ["seed", "salt", "log", "box"] spNRx := by
  refine F.ok sc_noise_range (fun vs H Q E h => ?_) (fun cdv A outer s H vs Q E hr h => ⟨_, PSs.nox
(pss_cons (ps_asg (pv 3) (pg_tup (by rfl) (pgs_cons (pg_name (i := 4) sc_noise_range.nd rfl (Or.inl rfl)) (pgs_cons (pg_name (i := 5) sc_noise_range.nd rfl (Or.inl rfl)) (pgs_cons (pg_name (i := 6) sc_noise_range.nd rfl (Or.inl rfl)) (pgs_cons (pg_name (i := 7) sc_noise_range.nd rfl (Or.inl rfl)) pgs_nil))))))
  (pss_cons (ps_set (i := 8) sc_noise_range.nd rfl (Or.inl rfl) (pe_op op_mul (pe_op op_add (pe_op op_sub (pe_op op_shrN (pv 6) (pv 2)) (pe_op op_shrN (pv 4) (pv 2))) pe_int) (pe_op op_add (pe_op op_sub (pe_op op_shrN (pv 7) (pv 2)) (pe_op op_shrN (pv 5) (pv 2))) pe_int)))
  (pss_cons (ps_if (pt_cmpR op_gt (pv 8) (pe_gI (by rfl) G.c_MOST_SQUARES) (nomark _))
  (pss_one (ps_ret (pe_tup (pa_cons pe_int (pa_cons (pe_gI (by rfl) G.c_GREATEST_KNOT) pa_nil)))))
  pss_nil)
  (pss_cons (ps_if (pt_cmpR op_eq (pv 8) pe_int (nomark _))
  (pss_one (ps_set (i := 9) sc_noise_range.nd rfl (Or.inl rfl) (pe_df D_corner_values (hr.mono (by first | decide | omega)) (pa_cons (pv 0) (pa_cons (pv 1) (pa_cons (pv 2) (pa_cons (pv 3) pa_nil)))))))
  (pss_one (ps_set (i := 9) sc_noise_range.nd rfl (Or.inl rfl) (pe_df D_noise_grid (hr.mono (by first | decide | omega)) (pa_cons (pv 0) (pa_cons (pv 1) (pa_cons (pv 2) (pa_cons (pe_df D_turns (hr.mono (by first | decide | omega)) (pa_cons (pv 4) (pa_cons (pv 6) (pa_cons (pv 2) pa_nil)))) (pa_cons (pe_df D_turns (hr.mono (by first | decide | omega)) (pa_cons (pv 5) (pa_cons (pv 7) (pa_cons (pv 2) pa_nil)))) pa_nil)))))))))
  (pss_one (ps_ret (pe_tup (pa_cons (pe_callB (cr_min rfl) (by rfl) T.min (by decide +kernel) (pa_cons (pv 9) pa_nil)) (pa_cons (pe_callB (cr_max rfl) (by rfl) T.max (by decide +kernel) (pa_cons (pv 9) pa_nil)) pa_nil))))))))), ?_⟩)
  · obtain ⟨g, s, x0, z0, x1, z1, n, b, rfl, _⟩ := h
    rfl
  · obtain ⟨g, s, x0, z0, x1, z1, n, b, rfl, hn, hb, hx, hz, bx0, bx1, bz0, bz1, q⟩ := h
    walk_at "lw i0"
    obtain ⟨S, e1, e2, S0, S1, SS0, SS1⟩ := log_pow (show (0 : Int) ≤ (n : Int) by omega) (show (n : Int) ≤ 8 by omega)
    have hS : (2 : Int) ^ n = S := by rw [← e2, Int.toNat_natCast]
    have d0 := natAbs_div_le x0 (show 1 ≤ S by omega)
    have d1 := natAbs_div_le x1 (show 1 ≤ S by omega)
    walk_at "lw go"
    refine g_tupT (SqT.of hb) rfl ?_
    walk_at "lw go"
    refine ⟨x1, n, rfl, rfl, ?_⟩
    walk_at "lw go"
    refine ⟨x0, n, rfl, rfl, ?_⟩
    walk_at "lw go"
    refine ⟨z1, n, rfl, rfl, ?_⟩
    walk_at "lw go"
    refine ⟨z0, n, rfl, rfl, ?_⟩
    rw [hS]
    walk_at "lw go"
    refine g_ite (fun c => ?_) (fun c => ?_)
    · have ex : exactN g s n x0 z0 x1 z1 = (0, 65535) := by
        unfold exactN
        simp only
        rw [e2]
        exact if_pos c
      walk_at "lw go"
      exact q.new (by rw [ex]) (by rw [ex]) (Same.refl H)
    · have few : sqs (2 ^ ((n : Nat) : Int).toNat) x0 z0 x1 z1 ≤ 64 := by rw [e2]; unfold sqs; omega
      have lx : x0 / S ≤ x1 / S := Int.ediv_le_ediv S0 hx
      have lz : z0 / S ≤ z1 / S := Int.ediv_le_ediv S0 hz
      walk_at "lw go"
      refine g_ite (fun c1 => ?_) (fun c1 => ?_)
      · have c1' : (x1 / S - x0 / S + 1) * (z1 / S - z0 / S + 1) = 1 := by injection c1
        obtain ⟨ax, az⟩ := one_one (show 1 ≤ x1 / S - x0 / S + 1 by omega) (show 1 ≤ z1 / S - z0 / S + 1 by omega) c1'
        walk_at "lw go"
        refine ⟨g, s, x0, z0, x1, z1, n, b, rfl, hn, hb, by rw [hS]; omega, by rw [hS]; omega, fun l H1 _ s1 hl => ?_⟩
        have ex := exact_of (g := g) (s := s) (l := (n : Int)) (vs := [noiseL g s n x0 z0, noiseL g s n x0 z1, noiseL g s n x1 z0, noiseL g s n x1 z1]) hx hz few (fun v hv => by
          simp only [List.mem_cons, List.not_mem_nil, or_false] at hv
          rcases hv with rfl | rfl | rfl | rfl
          · exact ⟨x0, z0, by omega, by omega, by omega, by omega, rfl⟩
          · exact ⟨x0, z1, by omega, by omega, by omega, by omega, rfl⟩
          · exact ⟨x1, z0, by omega, by omega, by omega, by omega, rfl⟩
          · exact ⟨x1, z1, by omega, by omega, by omega, by omega, rfl⟩) (fun x hx2 z hz2 => by
          rw [e2] at hx2 hz2
          rcases turn_one S0 hx (by omega) hx2 with rfl | rfl <;> rcases turn_one S0 hz (by omega) hz2 with rfl | rfl <;> simp)
        walk_at "lw go"
        refine ⟨l, _, rfl, SqL.of hl, by simp, fun m hm hm2 => ?_⟩
        walk_at "lw go"
        refine ⟨l, _, rfl, SqL.of hl, by simp, fun m' hm' hm2' => ?_⟩
        walk_at "lw go"
        exact q.new (by rw [ex]; exact (lMin_eq hm hm2).symm) (by rw [ex]; exact (lMax_eq hm' hm2').symm) s1
      · have cx : x1 / S - x0 / S + 1 ≤ 64 := by
          have m := Int.mul_le_mul_of_nonneg_left (show 1 ≤ z1 / S - z0 / S + 1 by omega) (show 0 ≤ x1 / S - x0 / S + 1 by omega)
          omega
        have cz : z1 / S - z0 / S + 1 ≤ 64 := by
          have m := Int.mul_le_mul_of_nonneg_right (show 1 ≤ x1 / S - x0 / S + 1 by omega) (show 0 ≤ z1 / S - z0 / S + 1 by omega)
          omega
        have tx := turnC_le S0 hx
        have tz := turnC_le S0 hz
        have nx := turnsL_len S x0 x1
        have nz := turnsL_len S z0 z1
        walk_at "lw go"
        refine ⟨x0, x1, n, rfl, hn, bx0, bx1, hx, by rw [hS]; omega, fun l1 H1 _ s1 f1 => ?_⟩
        rw [hS] at f1
        walk_at "lw go"
        refine ⟨z0, z1, n, rfl, hn, bz0, bz1, hz, by rw [hS]; omega, fun l2 H2 _ s2 f2 => ?_⟩
        rw [hS] at f2
        walk_at "lw go"
        refine ⟨g, s, n, l1, l2, turnsL S x0 x1, turnsL S z0 z1, rfl, hn, s2 _ _ f1, f2, turnsL_sorted S0 hz, by omega, by omega, fun l3 H3 _ s3 f3 => ?_⟩
        have ex : exactN g s n x0 z0 x1 z1 = (lMin (gridL g s n (turnsL S x0 x1) (turnsL S z0 z1)), lMax (gridL g s n (turnsL S x0 x1) (turnsL S z0 z1))) := by
          unfold exactN
          simp only
          rw [e2]
          exact if_neg c
        have ne : 0 < (gridL g s n (turnsL S x0 x1) (turnsL S z0 z1)).length := List.length_pos_of_mem (grid_mem (turns_ne S x0 x1) (turns_ne S z0 z1))
        walk_at "lw go"
        refine ⟨l3, _, rfl, SqL.of f3, ne, fun m hm hm2 => ?_⟩
        walk_at "lw go"
        refine ⟨l3, _, rfl, SqL.of f3, ne, fun m' hm' hm2' => ?_⟩
        walk_at "lw go"
        exact q.new (by rw [ex]; exact (lMin_eq hm hm2).symm) (by rw [ex]; exact (lMax_eq hm' hm2').symm) ((s1.trans s2).trans s3)
abbrev N_weighed : List Str := ["field", "lets", "things", "word", "one", "other", "many", "great", "more", "greater"]
theorem sc_weighed : FnScope N_weighed ["field", "lets"] (defScope s_weighed) := ⟨rfl, rfl, rfl, by decide +kernel, rfl, by decide +kernel, by decide +kernel⟩
abbrev N_weighed_long : List Str := ["field", "lets", "word", "_", "one", "other", "part", "many", "great", "weights"]
theorem sc_weighed_long : FnScope N_weighed_long ["field", "lets"] (defScope s_weighed_long) := ⟨rfl, rfl, rfl, by decide +kernel, rfl, by decide +kernel, by decide +kernel⟩
theorem ok_weighed {f2 : Addr} {fd2 : FuncData} (F : FnP K "weighed" s_weighed f fd) (F2 : FnP K "weighed_long" s_weighed_long f2 fd2) (T : Bi mg) (G : Kn K mg) (gm : mg "weighed" = some (.ref f)) (kp : PySem.W.keepIn K (.ref f) = true) (bb : Binds K fd ["field", "lets"] [])
    (gm2 : mg "weighed_long" = some (.ref f2)) (kp2 : PySem.W.keepIn K (.ref f2) = true) (bb2 : Binds K fd2 ["field", "lets"] [])
    (D_is_from : Df P w K mg base "is_from" ["thing", "low", "high"] 1 spFrom) (D_is_name : Df P w K mg base "is_name" ["thing"] 1 spName) :
    ∀ n : Nat, FnOk P w K mg base CX0 (2 * n + 2) f fd ["field", "lets"] (spW K n) ∧ FnOk P w K mg base CX0 (2 * n + 3) f2 fd2 ["field", "lets"] (spWL K n) := by
  have long : ∀ n : Nat, FnOk P w K mg base CX0 (2 * n + 2) f fd ["field", "lets"] (spW K n) → FnOk P w K mg base CX0 (2 * n + 3) f2 fd2 ["field", "lets"] (spWL K n) := by
    intro n IH
    have D_weighed : Df P w K mg base "weighed" ["field", "lets"] (2 * n + 2) (spW K n) := ⟨f, fd, gm, kp, bb, IH⟩
    refine F2.ok (k := 2 * n + 2) sc_weighed_long (fun vs H Q E h => ?_) (fun cdv A outer s H vs Q E hr h => ⟨_, PSs.nox
(pss_cons (ps_set (i := 2) sc_weighed_long.nd rfl (Or.inl rfl) (pe_ix ix_tup (pv 0) pe_int (fun _ _ => rfl)))
  (pss_cons (ps_if (pt_cmpR op_eq (pe_callB call_len_seq (by rfl) T.len (by decide +kernel) (pa_cons (pv 0) pa_nil)) pe_int (nomark _))
  (pss_cons (ps_asg (pv 0) (pg_tup (by rfl) (pgs_cons (pg_name (i := 3) sc_weighed_long.nd rfl (Or.inl rfl)) (pgs_cons (pg_name (i := 4) sc_weighed_long.nd rfl (Or.inl rfl)) (pgs_cons (pg_name (i := 5) sc_weighed_long.nd rfl (Or.inl rfl)) (pgs_cons (pg_name (i := 6) sc_weighed_long.nd rfl (Or.inl rfl)) pgs_nil))))))
  (pss_cons (ps_if (PW.pt (pw_and (pt_cmpR op_eq (pv 2) pe_str (nomark _)) (pw_and1 (pt_val (pe_df D_is_name (hr.mono (by first | decide | omega)) (pa_cons (pv 4) pa_nil))))))
  (pss_one (ps_ret (pe_df D_weighed (hr.mono (by first | decide | omega)) (pa_cons (pv 6) (pa_cons (Dz.pe_dispS (pv 1) (pv 4) (pe_df D_weighed (hr.mono (by first | decide | omega)) (pa_cons (pv 5) (pa_cons (pv 1) pa_nil)))) pa_nil)))))
  pss_nil)
  (pss_one (ps_if (PW.pt (pw_and (pt_cmpR op_eq (pv 2) pe_str (nomark _)) (pw_and (pt_val (pe_df D_is_from (hr.mono (by first | decide | omega)) (pa_cons (pv 4) (pa_cons (pe_un un_neg pe_int) (pa_cons pe_int pa_nil))))) (pw_and1 (pt_val (pe_df D_is_from (hr.mono (by first | decide | omega)) (pa_cons (pv 5) (pa_cons (pe_un un_neg pe_int) (pa_cons pe_int pa_nil)))))))))
  (pss_cons (ps_asg (pe_df D_weighed (hr.mono (by first | decide | omega)) (pa_cons (pv 6) (pa_cons (pv 1) pa_nil))) (pg_tup (by rfl) (pgs_cons (pg_name (i := 7) sc_weighed_long.nd rfl (Or.inl rfl)) (pgs_cons (pg_name (i := 8) sc_weighed_long.nd rfl (Or.inl rfl)) pgs_nil))))
  (pss_one (ps_ret (pe_tup (pa_cons (pe_op op_add (pv 7) pe_int) (pa_cons (pv 8) pa_nil))))))
  pss_nil))))
  (pss_one (ps_if (PW.pt (pw_and (pt_cmpR op_eq (pe_callB call_len_seq (by rfl) T.len (by decide +kernel) (pa_cons (pv 0) pa_nil)) pe_int (nomark _)) (pw_and1 (pt_cmpR op_eq (pv 2) pe_str (nomark _)))))
  (pss_cons (ps_setLc (i := 9) (own := [("part", 6)]) (g := gName 6) (tt := tYes) rfl sc_weighed_long.nd rfl rfl (sw_true rfl rfl rfl (by decide +kernel)) (pi_tup (pe_slice sl_tup (pv 0) (po_some pe_int) po_none)) (blkOk_by (N := N_weighed_long) (sc := defScope s_weighed_long) (by decide +kernel)) (fun _ _ _ _ _ => pg_name (i := 6) sc_weighed_long.nd rfl (Or.inl rfl)) (fun _ _ _ _ _ => pts_nil) (fun _ _ _ _ _ => (pe_df D_weighed (hr.mono (by first | decide | omega)) (pa_cons (pv 6) (pa_cons (pv 1) pa_nil)))))
  (pss_one (ps_ret (pe_tup (pa_cons (pe_op op_add pe_int (pe_callB (cr_sum rfl) (by rfl) T.sum (by decide +kernel) (pa_cons (pe_lc (own := [("many", 7), ("_", 3)]) (g := gTup K 2 (gCons (gName 7) (gCons (gName 3) gNil))) (tt := tYes) rfl sc_weighed_long.nd (pi_list (pv 9)) (blkOk_by (N := N_weighed_long) (sc := defScope s_weighed_long) (by decide +kernel)) (fun _ _ _ _ _ => pg_tup (by rfl) (pgs_cons (pg_name (i := 7) sc_weighed_long.nd rfl (Or.inl rfl)) (pgs_cons (pg_name (i := 3) sc_weighed_long.nd rfl (Or.inl rfl)) pgs_nil))) (fun _ _ _ _ _ => pts_nil) (fun _ _ _ _ _ => (pv 7))) pa_nil))) (pa_cons (pe_callB (cr_sum rfl) (by rfl) T.sum (by decide +kernel) (pa_cons (pe_lc (own := [("_", 3), ("great", 8)]) (g := gTup K 2 (gCons (gName 3) (gCons (gName 8) gNil))) (tt := tYes) rfl sc_weighed_long.nd (pi_list (pv 9)) (blkOk_by (N := N_weighed_long) (sc := defScope s_weighed_long) (by decide +kernel)) (fun _ _ _ _ _ => pg_tup (by rfl) (pgs_cons (pg_name (i := 3) sc_weighed_long.nd rfl (Or.inl rfl)) (pgs_cons (pg_name (i := 8) sc_weighed_long.nd rfl (Or.inl rfl)) pgs_nil))) (fun _ _ _ _ _ => pts_nil) (fun _ _ _ _ _ => (pv 8))) pa_nil)) pa_nil))))))
  pss_nil)))
  pss_never)), ?_⟩)
    · obtain ⟨u, F, d, r, rfl, _⟩ := h
      rfl
    · obtain ⟨u, F, d, r, rfl, hlong, hF, hn, hO, hB, hR, hE, hC, hcn, hr2, q⟩ := h
      walk_at "lw i0"
      cases F with
      | lt x a b =>
        obtain ⟨p, u1, u2, rfl, hp, hF1, hF2⟩ := hF
        have hn' : 1 + max (dep a) (dep b) ≤ n := hn
        obtain ⟨kvs, hd, hkl, hq⟩ := id hE
        have hdp : d ≠ p := ne_of hd hp (by intro z; cases z)
        walk_at "lw go"
        refine g_ixT (SqT.of hp) (v := .str "let") rfl ?_
        walk_at "lw go"
        refine ⟨p, _, rfl, .inr (SqT.of hp), ?_⟩
        walk_at "lw go"
        refine iteS rfl ?_
        walk_at "lw go"
        refine g_tupT (SqT.of hp) rfl ?_
        walk_at "lw go"
        refine ⟨x, rfl, hO.1, ?_⟩
        walk_at "lw go"
        intro i hi
        walk_at "lw go"
        have s1 := same_new (o := .dK []) hi
        refine ⟨d, kvs, rfl, (ne_of_none hd hi), upd_same, s1 _ _ hd, by rw [sizeLine_eq]; omega, fun i2 hi2 => ?_⟩
        have ni : i ≠ i2 := ne_of_none upd_same hi2
        have s2 : Same H (upd (upd (upd H i (.dK [])) i (.dK kvs)) i2 (.dK [])) := (same_put s1 hi).trans (same_new hi2)
        walk_at "lw go"
        have s2i : (upd (upd (upd H i (.dK [])) i (.dK kvs)) i2 (.dK [])) i = some (.dK kvs) := by rw [upd_ne ni, upd_same]
        refine ⟨u1, a, d, r, rfl, hF1.mono (same_tup s2), by omega, hO.2.1, hB.1, hR, hE.mono s2, hC.2.1, hC.1, by omega, fun t H3 s3 ht => ?_⟩
        refine ⟨Sum.inr x, rfl, s3 _ _ s2i, s3 _ _ upd_same, ?_⟩
        have s4 : Same H (upd (upd H3 i2 (.dK [(Sum.inr x, .ref t)])) i (.dK (putK kvs (Sum.inr x) (.ref t)))) := same_put (same_put (s2.trans s3) (none_back (o := .dK []) hi ((same_put s1 hi)) hi2)) hi
        walk_at "lw go"
        have ht4 : SqT K (upd (upd H3 i2 (.dK [(Sum.inr x, .ref t)])) i (.dK (putK kvs (Sum.inr x) (.ref t)))) t [.int (cn (expand a r) : Nat), .int (grE (expand a r))] := sqT_put (sqT_put ht (s3 _ _ upd_same)) (by rw [upd_ne ni]; exact s3 _ _ s2i)
        exact ⟨u2, b, i, (x, expand a r) :: r, rfl, hF2.mono (same_tup s4), by omega, hO.2.2, hB.2, okR_cons (ok_expand a r hO.2.1 hR) hR, hE.let_ hd s4 upd_same ht4, hC.2.2, hcn, by simp only [List.length_cons]; omega, q.later s4⟩
      | shift dx dz a =>
        obtain ⟨p, u1, rfl, hp, hF1⟩ := hF
        have hn' : 1 + dep a ≤ n := hn
        have hx := hO.1
        have hz := hO.2.1
        have ec : cn (expand (.shift dx dz a) r) = 1 + cn (expand a r) := rfl
        walk_at "lw go"
        refine g_ixT (SqT.of hp) (v := .str "shift") rfl ?_
        walk_at "lw go"
        refine ⟨p, _, rfl, .inr (SqT.of hp), ?_⟩
        walk_at "lw go"
        refine iteS rfl ?_
        walk_at "lw go"
        refine g_tupT (SqT.of hp) rfl ?_
        walk_at "lw go"
        refine ⟨dx, -1000, 1000, rfl, hx.1, hx.2, ?_⟩
        walk_at "lw go"
        refine ⟨dz, -1000, 1000, rfl, hz.1, hz.2, ?_⟩
        walk_at "lw go"
        refine ⟨u1, a, d, r, rfl, hF1, by omega, hO.2.2, hB, hR, hE, hC, by omega, by omega, fun t H1 s1 ht => ?_⟩
        walk_at "lw go"
        refine g_tupT ht rfl ?_
        walk_at "lw go"
        exact q.new (by rw [ec]; omega) rfl s1
      | bel a b c e =>
        obtain ⟨p, u1, u2, u3, u4, rfl, hp, hF1, hF2, hF3, hF4⟩ := hF
        have hn' : 1 + max (max (dep a) (dep b)) (max (dep c) (dep e)) ≤ n := hn
        have ec : cn (expand (.bel a b c e) r) = 1 + (cn (expand a r) + (cn (expand b r) + (cn (expand c r) + cn (expand e r)))) := rfl
        walk_at "lw go"
        refine g_ixT (SqT.of hp) (v := .str "below") rfl ?_
        walk_at "lw go"
        refine ⟨p, _, rfl, .inr (SqT.of hp), ?_⟩
        walk_at "lw go"
        refine iteNo (by intro z; cases z) ?_
        walk_at "lw go"
        refine ⟨p, _, rfl, .inr (SqT.of hp), ?_⟩
        walk_at "lw go"
        refine iteS rfl ?_
        walk_at "lw go"
        refine g_slT (SqT.of hp) cut1T_ok fun t ht => ?_
        rw [cut1T]
        have s1 : Same H (upd H t (.tup [u1, u2, u3, u4])) := same_new ht
        obtain ⟨es, hes⟩ : ∃ es, [expand a r, expand b r, expand c r, expand e r] = es := ⟨_, rfl⟩
        refine ⟨t, rfl, ⟨_, SqT.of upd_same⟩, fun D hD => lc_tup (xs := [u1, u2, u3, u4]) (fun i H' => ∃ acc, Same (upd H t (.tup [u1, u2, u3, u4])) H' ∧ H' D = some (.lst acc) ∧ acc.length = i ∧ WR K H' acc (es.take i)) ⟨[], same_new hD, upd_same, rfl, .nil⟩ (fun i H' _ ⟨_, s, _⟩ => SqT.of (s _ _ upd_same)) ?_ ?_⟩
        · rintro i y H' hi ⟨acc, s, hacc, hal, hw⟩
          obtain ⟨B, eB, hB1, hB2, hB3, hB4, hB5, hB6, hi4⟩ : ∃ B : Fd, es[i]? = some (expand B r) ∧ FRep B H y ∧ dep B + 1 ≤ n ∧ OkF B ∧ Bnd B (r.map (·.1)) ∧ Cok B r ∧ cn (expand B r) ≤ 1000000000000000000000000000000 ∧ i < 4 := by
            subst hes
            match i, hi with
            | 0, hi => cases Option.some.inj hi; exact ⟨a, rfl, hF1, by omega, hO.1, hB.1, hC.1, by omega, by omega⟩
            | 1, hi => cases Option.some.inj hi; exact ⟨b, rfl, hF2, by omega, hO.2.1, hB.2.1, hC.2.1, by omega, by omega⟩
            | 2, hi => cases Option.some.inj hi; exact ⟨c, rfl, hF3, by omega, hO.2.2.1, hB.2.2.1, hC.2.2.1, by omega, by omega⟩
            | 3, hi => cases Option.some.inj hi; exact ⟨e, rfl, hF4, by omega, hO.2.2.2, hB.2.2.2, hC.2.2.2, by omega, by omega⟩
            | k + 4, hi => cases hi
          walk_at "lw go"
          refine ⟨rfl, g_yes (iteT ?_)⟩
          walk_at "lw go"
          have s2 := s1.trans s
          refine ⟨y, B, d, r, rfl, hB1.mono (same_tup s2), hB2, hB3, hB4, hR, hE.mono s2, hB5, hB6, by omega, fun p' H2 s3 hp' => ?_⟩
          walk_at "lw go"
          refine ⟨acc, s3 _ _ hacc, small1000 (by omega), acc ++ [.ref p'], same_put (s.trans s3) hD, upd_same, by rw [List.length_append, hal]; rfl, ?_⟩
          rw [List.take_add_one, eB]
          exact WR.append ((hw.mono s3).putL (s3 _ _ hacc)) (.cons ⟨p', rfl, sqT_putL hp' (s3 _ _ hacc)⟩ .nil)
        rintro H' ⟨acc, s, hacc, hal, hw⟩
        have hal4 : acc.length = 4 := hal
        have e4 : es.take [u1, u2, u3, u4].length = es := by subst hes; rfl
        rw [e4] at hw
        have s2 := s1.trans s
        walk_at "lw go"
        refine ⟨D, rfl, ⟨_, SqL.of hacc⟩, fun D2 hD2 => lc_list (xs := acc) (fun i H'' => Same H' H'' ∧ H'' D2 = some (.lst (((es.map (fun e => ((cn e : Nat) : Int))).take i).map V.int))) ⟨same_new hD2, upd_same⟩ (fun i H'' _ ⟨s', _⟩ => SqL.of (s' _ _ hacc)) ?_ ?_⟩
        · rintro i y H'' hi ⟨s', hl'⟩
          obtain ⟨e', he', p', rfl, hp'⟩ := wr_at (hw) hi
          have hlen : ((es.map (fun e => ((cn e : Nat) : Int))).take i).length < 1000 := by rw [List.length_take]; have := (List.getElem?_eq_some_iff.mp hi).1; omega
          walk_at "lw go"
          refine g_tupT (same_sqT s' hp') rfl ?_
          walk_at "lw go"
          refine ⟨rfl, g_yes (iteT ?_)⟩
          walk_at "lw go"
          refine ⟨_, hl', by rw [List.length_map]; exact small1000 (by omega), same_put s' hD2, ?_⟩
          rw [upd_same, List.take_add_one, List.getElem?_map, he', List.map_append]
          rfl
        rintro H3 ⟨s3, hl3⟩
        walk_at "lw go"
        refine ⟨D2, es.map (fun e => ((cn e : Nat) : Int)), rfl, SqL.of (by rw [hl3]; congr 3; rw [List.take_of_length_le]; rw [List.length_map, ← e4, List.length_take, hal]; exact Nat.min_le_left _ _), ?_⟩
        walk_at "lw go"
        refine ⟨D, rfl, ⟨_, SqL.of (s3 _ _ hacc)⟩, fun D3 hD3 => lc_list (xs := acc) (fun i H'' => Same H3 H'' ∧ H'' D3 = some (.lst (((es.map grE).take i).map V.int))) ⟨same_new hD3, upd_same⟩ (fun i H'' _ ⟨s', _⟩ => SqL.of (s' _ _ (s3 _ _ hacc))) ?_ ?_⟩
        · rintro i y H'' hi ⟨s', hl'⟩
          obtain ⟨e', he', p', rfl, hp'⟩ := wr_at (hw.mono s3) hi
          have hlen : ((es.map grE).take i).length < 1000 := by rw [List.length_take]; have := (List.getElem?_eq_some_iff.mp hi).1; omega
          walk_at "lw go"
          refine g_tupT (same_sqT s' hp') rfl ?_
          walk_at "lw go"
          refine ⟨rfl, g_yes (iteT ?_)⟩
          walk_at "lw go"
          refine ⟨_, hl', by rw [List.length_map]; exact small1000 (by omega), same_put s' hD3, ?_⟩
          rw [upd_same, List.take_add_one, List.getElem?_map, he', List.map_append]
          rfl
        rintro H4 ⟨s4, hl4⟩
        walk_at "lw go"
        refine ⟨D3, es.map grE, rfl, SqL.of (by rw [hl4]; congr 3; rw [List.take_of_length_le]; rw [List.length_map, ← e4, List.length_take, hal]; exact Nat.min_le_left _ _), ?_⟩
        walk_at "lw go"
        subst hes
        refine q.new ?_ rfl ((s2.trans s3).trans s4)
        rw [ec]
        simp
        try omega
      | _ => exact hlong.elim
  intro n
  induction n with
  | zero =>
    have W0 : FnOk P w K mg base CX0 2 f fd ["field", "lets"] (spW K 0) := by
      refine F.ok sc_weighed (fun vs H Q E h => ?_) (fun cdv A outer s H vs Q E hr h => ?_)
      · obtain ⟨u, F, d, r, rfl, _⟩ := h
        rfl
      · obtain ⟨u, F, d, r, _, _, h, _⟩ := h
        omega
    exact ⟨W0, long 0 W0⟩
  | succ n IH =>
    have D_weighed : Df P w K mg base "weighed" ["field", "lets"] (2 * n + 2) (spW K n) := ⟨f, fd, gm, kp, bb, IH.1⟩
    have D_weighed_long : Df P w K mg base "weighed_long" ["field", "lets"] (2 * n + 3) (spWL K n) := ⟨f2, fd2, gm2, kp2, bb2, IH.2⟩
    have W1 : FnOk P w K mg base CX0 (2 * n + 4) f fd ["field", "lets"] (spW K (n + 1)) := by
      refine F.ok (k := 2 * n + 3) sc_weighed (fun vs H Q E h => ?_) (fun cdv A outer s H vs Q E hr h => ⟨_, PSs.nox
(pss_cons (ps_if (pt_not (pt_val (pe_callB call_isi (by rfl) T.isinstance (by decide +kernel) (pa_cons (pv 0) (pa_cons (pe_bltn (v := .ty "tuple") (by rfl) T.tuple boot_tuple rfl) pa_nil)))))
  pss_never
  pss_nil)
  (pss_cons (ps_set (i := 2) sc_weighed.nd rfl (Or.inl rfl) (pe_callB call_len_seq (by rfl) T.len (by decide +kernel) (pa_cons (pv 0) pa_nil)))
  (pss_cons (ps_if (pt_cmpR op_eq (pv 2) pe_int (nomark _))
  (pss_cons (ps_asg (pv 0) (pg_tup (by rfl) (pgs_cons (pg_name (i := 3) sc_weighed.nd rfl (Or.inl rfl)) (pgs_cons (pg_name (i := 4) sc_weighed.nd rfl (Or.inl rfl)) (pgs_cons (pg_name (i := 5) sc_weighed.nd rfl (Or.inl rfl)) pgs_nil)))))
  (pss_cons (ps_if (pt_cmpR op_in_seq (pv 3) (pe_gR (by rfl) G.g_PAIRS) (by rfl))
  (pss_cons (ps_asg (pe_df D_weighed (hr.mono (by first | decide | omega)) (pa_cons (pv 4) (pa_cons (pv 1) pa_nil))) (pg_tup (by rfl) (pgs_cons (pg_name (i := 6) sc_weighed.nd rfl (Or.inl rfl)) (pgs_cons (pg_name (i := 7) sc_weighed.nd rfl (Or.inl rfl)) pgs_nil))))
  (pss_cons (ps_asg (pe_df D_weighed (hr.mono (by first | decide | omega)) (pa_cons (pv 5) (pa_cons (pv 1) pa_nil))) (pg_tup (by rfl) (pgs_cons (pg_name (i := 8) sc_weighed.nd rfl (Or.inl rfl)) (pgs_cons (pg_name (i := 9) sc_weighed.nd rfl (Or.inl rfl)) pgs_nil))))
  (pss_cons (ps_if (pt_cmpR op_eq (pv 3) pe_str (nomark _))
  (pss_one (ps_ret (pe_tup (pa_cons (pe_op op_add (pe_op op_add (pv 6) (pv 8)) pe_int) (pa_cons (pe_callB (call_min2 rfl) (by rfl) T.min (by decide +kernel) (pa_cons (pe_op op_mulW (pv 7) (pv 9)) (pa_cons (pe_gI (by rfl) G.c_BEYOND) pa_nil))) pa_nil)))))
  pss_nil)
  (pss_one (ps_ret (pe_tup (pa_cons (pe_op op_add (pe_op op_add (pv 6) (pv 8)) pe_int) (pa_cons (pe_op op_add (pv 7) (pv 9)) pa_nil))))))))
  pss_nil)
  (pss_cons (ps_if (PW.pt (pw_and (pt_cmpR op_eq (pv 3) pe_str (nomark _)) (pw_and (pt_val (pe_df D_is_from (hr.mono (by first | decide | omega)) (pa_cons (pv 4) (pa_cons pe_int (pa_cons pe_int pa_nil))))) (pw_and1 (pt_val (pe_df D_is_from (hr.mono (by first | decide | omega)) (pa_cons (pv 5) (pa_cons pe_int (pa_cons pe_int pa_nil)))))))))
  (pss_one (ps_ret (pe_gR (by rfl) G.g_NOISE)))
  pss_nil)
  (pss_one (ps_if (PW.pt (pw_and (pt_cmpR op_eq (pv 3) pe_str (nomark _)) (pw_and1 (pt_val (pe_df D_is_from (hr.mono (by first | decide | omega)) (pa_cons (pv 5) (pa_cons pe_int (pa_cons pe_int pa_nil))))))))
  (pss_cons (ps_asg (pe_df D_weighed (hr.mono (by first | decide | omega)) (pa_cons (pv 4) (pa_cons (pv 1) pa_nil))) (pg_tup (by rfl) (pgs_cons (pg_name (i := 6) sc_weighed.nd rfl (Or.inl rfl)) (pgs_cons (pg_name (i := 7) sc_weighed.nd rfl (Or.inl rfl)) pgs_nil))))
  (pss_one (ps_ret (pe_tup (pa_cons (pe_op op_add (pv 6) pe_int) (pa_cons (pv 7) pa_nil))))))
  pss_nil)))))
  (pss_one (ps_if (pt_cmpR op_eq (pv 2) pe_int (nomark _))
  (pss_one (ps_if (PW.pt (pw_or (pt_cmpR op_eq (pe_ix ix_tup (pv 0) pe_int (fun _ _ => rfl)) pe_str (nomark _)) (pw_or1 (pt_cmpR op_eq (pe_ix ix_tup (pv 0) pe_int (fun _ _ => rfl)) pe_str (nomark _)))))
  (pss_one (ps_ret (pe_gR (by rfl) G.g_PLACE)))
  pss_nil))
  (pss_one (ps_if (pt_cmpR op_eq (pv 2) pe_int (nomark _))
  (pss_cons (ps_asg (pv 0) (pg_tup (by rfl) (pgs_cons (pg_name (i := 3) sc_weighed.nd rfl (Or.inl rfl)) (pgs_cons (pg_name (i := 4) sc_weighed.nd rfl (Or.inl rfl)) pgs_nil))))
  (pss_cons (ps_if (PW.pt (pw_and (pt_cmpR op_eq (pv 3) pe_str (nomark _)) (pw_and1 (pt_val (pe_df D_is_from (hr.mono (by first | decide | omega)) (pa_cons (pv 4) (pa_cons (pe_un un_neg pe_int) (pa_cons pe_int pa_nil))))))))
  (pss_one (ps_ret (pe_tup (pa_cons pe_int (pa_cons (pe_op op_add (pe_callB call_abs (by rfl) T.abs (by decide +kernel) (pa_cons (pv 4) pa_nil)) pe_int) pa_nil)))))
  pss_nil)
  (pss_one (ps_if (PW.pt (pw_and (pt_cmpR op_eq (pv 3) pe_str (nomark _)) (pw_and (pt_val (pe_callB call_isi (by rfl) T.isinstance (by decide +kernel) (pa_cons (pv 4) (pa_cons (pe_bltn (v := .ty "str") (by rfl) T.str boot_str rfl) pa_nil)))) (pw_and1 (pt_cmp (pc_din (hu_of hr) (pv 4) (pv 1)))))))
  (pss_one (ps_ret (pe_dget (hu_of hr) (pv 1) (pv 4) (fun _ _ => rfl))))
  pss_nil))))
  (pss_one (ps_if (pt_cmpR op_gt (pv 2) pe_int (nomark _))
  (pss_one (ps_ret (pe_df D_weighed_long (hr.mono (by first | decide | omega)) (pa_cons (pv 0) (pa_cons (pv 1) pa_nil)))))
  pss_nil)))))))
  pss_never))), ?_⟩)
      · obtain ⟨u, F, d, r, rfl, _⟩ := h
        rfl
      · obtain ⟨u, F, d, r, rfl, hF, hn, hO, hB, hR, hE, hC, hcn, hr2, q⟩ := h
        walk_at "lw i0"
        cases F with
        | whole v =>
          obtain ⟨p, rfl, hp⟩ := hF
          walk_at "lw go"
          refine ⟨_, _, _, _, true, rfl, .ty "tuple", .base (.tup hp), kit_ty (by decide +kernel), ?_⟩
          walk_at "lw go"
          refine ⟨p, _, rfl, .inr (SqT.of hp), ?_⟩
          walk_at "lw go"
          refine iteNo (by intro z; cases z) ?_
          walk_at "lw go"
          refine iteNo (by intro z; cases z) ?_
          walk_at "lw go"
          refine iteS rfl ?_
          walk_at "lw go"
          refine g_tupT (SqT.of hp) rfl ?_
          walk_at "lw go"
          refine ⟨v, -999999999, 999999999, rfl, hO.1, hO.2, ?_⟩
          walk_at "lw go"
          refine ⟨v, rfl, ?_⟩
          walk_at "lw go"
          exact q.new rfl rfl (Same.refl H)
        | px =>
          obtain ⟨p, rfl, hp⟩ := hF
          walk_at "lw go"
          refine ⟨_, _, _, _, true, rfl, .ty "tuple", .base (.tup hp), kit_ty (by decide +kernel), ?_⟩
          walk_at "lw go"
          refine ⟨p, _, rfl, .inr (SqT.of hp), ?_⟩
          walk_at "lw go"
          refine iteNo (by intro z; cases z) ?_
          walk_at "lw go"
          refine iteS rfl ?_
          walk_at "lw go"
          refine g_ixT (SqT.of hp) (v := .str "x") rfl ?_
          walk_at "lw go"
          exact q _ _ (Same.refl H) (G.v_PLACE H)
        | pz =>
          obtain ⟨p, rfl, hp⟩ := hF
          walk_at "lw go"
          refine ⟨_, _, _, _, true, rfl, .ty "tuple", .base (.tup hp), kit_ty (by decide +kernel), ?_⟩
          walk_at "lw go"
          refine ⟨p, _, rfl, .inr (SqT.of hp), ?_⟩
          walk_at "lw go"
          refine iteNo (by intro z; cases z) ?_
          walk_at "lw go"
          refine iteS rfl ?_
          walk_at "lw go"
          refine g_ixT (SqT.of hp) (v := .str "z") rfl ?_
          walk_at "lw go"
          refine g_ixT (SqT.of hp) (v := .str "z") rfl ?_
          walk_at "lw go"
          exact q _ _ (Same.refl H) (G.v_PLACE H)
        | noise s0 l0 =>
          obtain ⟨p, rfl, hp⟩ := hF
          walk_at "lw go"
          refine ⟨_, _, _, _, true, rfl, .ty "tuple", .base (.tup hp), kit_ty (by decide +kernel), ?_⟩
          walk_at "lw go"
          refine ⟨p, _, rfl, .inr (SqT.of hp), ?_⟩
          walk_at "lw go"
          refine iteS rfl ?_
          walk_at "lw go"
          refine g_tupT (SqT.of hp) rfl ?_
          walk_at "lw go"
          refine ⟨_, _, rfl, .inr (G.v_PAIRS H), rfl, rfl, ?_⟩
          walk_at "lw go"
          refine iteF ?_
          walk_at "lw go"
          refine ⟨s0, 0, 1000000000, rfl, hO.1.1, hO.1.2, ?_⟩
          walk_at "lw go"
          refine ⟨l0, 0, 8, rfl, hO.2.1, hO.2.2, ?_⟩
          walk_at "lw go"
          exact q _ _ (Same.refl H) (G.v_NOISE H)
        | over a v =>
          obtain ⟨p, u1, rfl, hp, hF1⟩ := hF
          have hn' : 1 + dep a + 1 ≤ n + 1 := hn
          have ec : cn (expand (.over a v) r) = 1 + cn (expand a r) := rfl
          walk_at "lw go"
          refine ⟨_, _, _, _, true, rfl, .ty "tuple", .base (.tup hp), kit_ty (by decide +kernel), ?_⟩
          walk_at "lw go"
          refine ⟨p, _, rfl, .inr (SqT.of hp), ?_⟩
          walk_at "lw go"
          refine iteS rfl ?_
          walk_at "lw go"
          refine g_tupT (SqT.of hp) rfl ?_
          walk_at "lw go"
          refine ⟨_, _, rfl, .inr (G.v_PAIRS H), rfl, rfl, ?_⟩
          walk_at "lw go"
          refine iteF ?_
          walk_at "lw go"
          refine ⟨v, 1, 1000000000, rfl, hO.2.1, hO.2.2, ?_⟩
          walk_at "lw go"
          refine ⟨u1, a, d, r, rfl, hF1, by omega, hO.1, hB, hR, hE, hC, by omega, by omega, fun t H1 s1 ht => ?_⟩
          walk_at "lw go"
          refine g_tupT ht rfl ?_
          walk_at "lw go"
          exact q.new (by rw [ec]; omega) rfl s1
        | two w a b =>
          obtain ⟨p, u1, u2, rfl, hp, hF1, hF2⟩ := hF
          have hn' : 1 + max (dep a) (dep b) + 1 ≤ n + 1 := hn
          have ec : cn (expand (.two w a b) r) = 1 + (cn (expand a r) + cn (expand b r)) := rfl
          walk_at "lw go"
          refine ⟨_, _, _, _, true, rfl, .ty "tuple", .base (.tup hp), kit_ty (by decide +kernel), ?_⟩
          walk_at "lw go"
          refine ⟨p, _, rfl, .inr (SqT.of hp), ?_⟩
          walk_at "lw go"
          refine iteS rfl ?_
          walk_at "lw go"
          refine g_tupT (SqT.of hp) rfl ?_
          walk_at "lw go"
          refine ⟨_, _, rfl, .inr (G.v_PAIRS H), rfl, rfl, ?_⟩
          rw [pairs_word]
          walk_at "lw go"
          refine iteT ?_
          walk_at "lw go"
          refine ⟨u1, a, d, r, rfl, hF1, by omega, hO.1, hB.1, hR, hE, hC.1, by omega, by omega, fun t1 H1 s1 ht1 => ?_⟩
          walk_at "lw go"
          refine g_tupT ht1 rfl ?_
          walk_at "lw go"
          refine ⟨u2, b, d, r, rfl, hF2.mono (same_tup s1), by omega, hO.2, hB.2, hR, hE.mono s1, hC.2, by omega, by omega, fun t2 H2 s2 ht2 => ?_⟩
          walk_at "lw go"
          refine g_tupT ht2 rfl ?_
          have s12 := s1.trans s2
          have oa := ok_expand a r hO.1 hR
          have ob := ok_expand b r hO.2 hR
          have hm := gr_mul oa ob (by omega) (by omega)
          cases w with
          | times =>
            walk_at "lw go"
            refine ⟨_, _, rfl, ?_⟩
            walk_at "lw go"
            refine q.new (by rw [ec]; omega) ?_ s12
            show _ = min _ _
            split <;> omega
          | _ =>
            walk_at "lw go"
            exact q.new (by rw [ec]; omega) rfl s12
        | nm y =>
          obtain ⟨p, rfl, hp⟩ := hF
          obtain ⟨kvs, hd, hkl, hq⟩ := hE
          obtain ⟨t, a1, a2⟩ := hq y hB
          walk_at "lw go"
          refine ⟨_, _, _, _, true, rfl, .ty "tuple", .base (.tup hp), kit_ty (by decide +kernel), ?_⟩
          walk_at "lw go"
          refine ⟨p, _, rfl, .inr (SqT.of hp), ?_⟩
          walk_at "lw go"
          refine iteNo (by intro z; cases z) ?_
          walk_at "lw go"
          refine iteNo (by intro z; cases z) ?_
          walk_at "lw go"
          refine iteS rfl ?_
          walk_at "lw go"
          refine g_tupT (SqT.of hp) rfl ?_
          walk_at "lw go"
          refine ⟨_, _, _, _, true, rfl, .ty "str", .base (.str _), kit_ty (by decide +kernel), ?_⟩
          walk_at "lw go"
          refine ⟨d, _, rfl, DGet.k (k := Sum.inr y) hd, ?_⟩
          rw [a1]
          refine ⟨true, rfl, iteT ?_⟩
          walk_at "lw go"
          refine ⟨d, .ref t, rfl, a1 ▸ DGet.k (k := Sum.inr y) hd, ?_⟩
          exact q t H (Same.refl H) a2
        | lt x a b =>
          have hF0 := hF
          obtain ⟨p, u1, u2, rfl, hp, hF1, hF2⟩ := hF
          have hn' : 1 + max (dep a) (dep b) + 1 ≤ n + 1 := hn
          walk_at "lw go"
          refine ⟨_, _, _, _, true, rfl, .ty "tuple", .base (.tup hp), kit_ty (by decide +kernel), ?_⟩
          walk_at "lw go"
          refine ⟨p, _, rfl, .inr (SqT.of hp), ?_⟩
          walk_at "lw go"
          refine iteNo (by intro z; cases z) ?_
          walk_at "lw go"
          refine iteNo (by intro z; cases z) ?_
          walk_at "lw go"
          refine iteNo (by intro z; cases z) ?_
          walk_at "lw go"
          rw [decide_eq_true (by show (3 : Int) < ((4 : Nat) : Int); decide)]
          walk_at "lw go"
          exact ⟨_, .lt x a b, d, r, rfl, True.intro, hF0, by simp only [dep]; omega, hO, hB, hR, hE, hC, hcn, by omega, q⟩
        | shift dx dz a =>
          have hF0 := hF
          obtain ⟨p, u1, rfl, hp, hF1⟩ := hF
          have hn' : 1 + dep a + 1 ≤ n + 1 := hn
          walk_at "lw go"
          refine ⟨_, _, _, _, true, rfl, .ty "tuple", .base (.tup hp), kit_ty (by decide +kernel), ?_⟩
          walk_at "lw go"
          refine ⟨p, _, rfl, .inr (SqT.of hp), ?_⟩
          walk_at "lw go"
          refine iteNo (by intro z; cases z) ?_
          walk_at "lw go"
          refine iteNo (by intro z; cases z) ?_
          walk_at "lw go"
          refine iteNo (by intro z; cases z) ?_
          walk_at "lw go"
          rw [decide_eq_true (by show (3 : Int) < ((4 : Nat) : Int); decide)]
          walk_at "lw go"
          exact ⟨_, .shift dx dz a, d, r, rfl, True.intro, hF0, by simp only [dep]; omega, hO, hB, hR, hE, hC, hcn, by omega, q⟩
        | bel a b c e =>
          have hF0 := hF
          obtain ⟨p, u1, u2, u3, u4, rfl, hp, hF1, hF2, hF3, hF4⟩ := hF
          have hn' : 1 + max (max (dep a) (dep b)) (max (dep c) (dep e)) + 1 ≤ n + 1 := hn
          walk_at "lw go"
          refine ⟨_, _, _, _, true, rfl, .ty "tuple", .base (.tup hp), kit_ty (by decide +kernel), ?_⟩
          walk_at "lw go"
          refine ⟨p, _, rfl, .inr (SqT.of hp), ?_⟩
          walk_at "lw go"
          refine iteNo (by intro z; cases z) ?_
          walk_at "lw go"
          refine iteNo (by intro z; cases z) ?_
          walk_at "lw go"
          refine iteNo (by intro z; cases z) ?_
          walk_at "lw go"
          rw [decide_eq_true (by show (3 : Int) < ((5 : Nat) : Int); decide)]
          walk_at "lw go"
          exact ⟨_, .bel a b c e, d, r, rfl, True.intro, hF0, by simp only [dep]; omega, hO, hB, hR, hE, hC, hcn, by omega, q⟩
    exact ⟨W1, long (n + 1) W1⟩
abbrev N_greatest_of : List Str := ["rules", "many", "greatest"]
theorem sc_greatest_of : FnScope N_greatest_of ["rules"] (defScope s_greatest_of) := ⟨rfl, rfl, rfl, by decide +kernel, rfl, by decide +kernel, by decide +kernel⟩
theorem ok_greatest_of (F : FnP K "greatest_of" s_greatest_of f fd) (T : Bi mg) (G : Kn K mg) (D_weighed : Df P w K mg base "weighed" ["field", "lets"] 42 (spW K 20)) : FnOk P w K mg base CX0 43 f fd ["rules"] spGr := by
  refine F.ok sc_greatest_of (fun vs H Q E h => ?_) (fun cdv A outer s H vs Q E hr h => ⟨_, PSs.nox
(pss_cons (ps_try_thru0 (pss_one (ps_asg (pe_df D_weighed (hr.mono (by first | decide | omega)) (pa_cons (pv 0) (pa_cons pe_dnewK pa_nil))) (pg_tup (by rfl) (pgs_cons (pg_name (i := 1) sc_greatest_of.nd rfl (Or.inl rfl)) (pgs_cons (pg_name (i := 2) sc_greatest_of.nd rfl (Or.inl rfl)) pgs_nil))))))
  (pss_cons (ps_if (pt_cmpR op_gt (pv 1) (pe_gI (by rfl) G.c_MOST_FIELDS) (nomark _))
  pss_never
  pss_nil)
  (pss_one (ps_ret (pv 2))))), ?_⟩)
  · obtain ⟨u, F, rfl, _⟩ := h
    rfl
  · obtain ⟨u, F, rfl, hF, hG, q⟩ := h
    walk_at "lw i0"
    have hcn := hG.cn
    have hdp := hG.dep
    walk_at "lw go"
    intro e he
    have s1 := same_new (o := .dK []) he
    walk_at "lw go"
    refine ⟨u, F, e, [], rfl, hF.mono (same_tup s1), by omega, hG.ok, hG.bnd, okR_nil, ⟨[], upd_same, Nat.le_refl _, fun x hx => (nomatch hx)⟩, hG.cok, by omega, by decide, fun p H1 s2 hp => ?_⟩
    walk_at "lw go"
    refine g_tupT hp rfl ?_
    walk_at "lw go"
    refine iteNo (by omega) ?_
    walk_at "lw go"
    exact q _ (s1.trans s2)
/- placed: hands back the number of a field's step -/
abbrev N_placed : List Str := ["field", "dx", "dz", "lets", "made", "word", "one", "step", "part"]
theorem sc_placed : FnScope N_placed ["field", "dx", "dz", "lets", "made"] (defScope s_placed) := ⟨rfl, rfl, rfl, by decide +kernel, rfl, by decide +kernel, by decide +kernel⟩
theorem ok_placed (F : FnP K "placed" s_placed f fd) (T : Bi mg) (G : Kn K mg)  (gm : mg "placed" = some (.ref f)) (kp : PySem.W.keepIn K (.ref f) = true) (bb : Binds K fd ["field", "dx", "dz", "lets", "made"] []) : ∀ n : Nat, FnOk P w K mg base CX0 (n + 1) f fd ["field", "dx", "dz", "lets", "made"] (spPlaced n)
  | 0 => by
    refine F.ok sc_placed (fun vs H Q E h => ?_) (fun cdv A outer s H vs Q E hr h => ?_)
    · obtain ⟨u, F, dx, dz, d, mk, m, r, δ, st, rfl, _⟩ := h
      rfl
    · exact (spPlaced_zero h).elim
  | n + 1 => by
    have D_placed : Df P w K mg base "placed" ["field", "dx", "dz", "lets", "made"] (n + 1) (spPlaced n) := ⟨f, fd, gm, kp, bb, ok_placed F T G  gm kp bb n⟩
    refine F.ok (k := n + 1) sc_placed (fun vs H Q E h => ?_) (fun cdv A outer s H vs Q E hr h => ⟨_, PSs.nox
(pss_cons (ps_set (i := 5) sc_placed.nd rfl (Or.inl rfl) (pe_ix ix_tup (pv 0) pe_int (fun _ _ => rfl)))
  (pss_cons (ps_while PassesOwn.never (PW.pt (pw_or (pt_cmpR op_eq (pv 5) pe_str (nomark _)) (pw_or1 (pt_cmpR op_eq (pv 5) pe_str (nomark _)))))
  (pss_cons (ps_if (pt_cmpR op_eq (pv 5) pe_str (nomark _))
  (pss_cons (ps_set (i := 3) sc_placed.nd rfl (Or.inr rfl) (Dz.pe_dispS (pv 3) (pe_ix ix_tup (pv 0) pe_int (fun _ _ => rfl)) (pe_tup (pa_cons (pe_ix ix_tup (pv 0) pe_int (fun _ _ => rfl)) (pa_cons (pv 3) pa_nil)))))
  (pss_one (ps_set (i := 0) sc_placed.nd rfl (Or.inl rfl) (pe_ix ix_tup (pv 0) pe_int (fun _ _ => rfl)))))
  (pss_one (ps_asg (pe_dget (hu_of hr) (pv 3) (pe_ix ix_tup (pv 0) pe_int (fun _ _ => rfl)) (fun _ _ => rfl)) (pg_tup (by rfl) (pgs_cons (pg_name (i := 0) sc_placed.nd rfl (Or.inl rfl)) (pgs_cons (pg_name (i := 3) sc_placed.nd rfl (Or.inr rfl)) pgs_nil))))))
  (pss_one (ps_set (i := 5) sc_placed.nd rfl (Or.inl rfl) (pe_ix ix_tup (pv 0) pe_int (fun _ _ => rfl))))))
  (pss_cons (ps_if (pt_cmpR op_in_seq (pv 5) (pe_gR (by rfl) G.g_PAIRS) (by rfl))
  (pss_cons (ps_set (i := 6) sc_placed.nd rfl (Or.inl rfl) (pe_df D_placed (hr.mono (by first | decide | omega)) (pa_cons (pe_ix ix_tup (pv 0) pe_int (fun _ _ => rfl)) (pa_cons (pv 1) (pa_cons (pv 2) (pa_cons (pv 3) (pa_cons (pv 4) pa_nil)))))))
  (pss_one (ps_set (i := 7) sc_placed.nd rfl (Or.inl rfl) (pe_tup (pa_cons (pv 5) (pa_cons (pv 6) (pa_cons (pe_df D_placed (hr.mono (by first | decide | omega)) (pa_cons (pe_ix ix_tup (pv 0) pe_int (fun _ _ => rfl)) (pa_cons (pv 1) (pa_cons (pv 2) (pa_cons (pv 3) (pa_cons (pv 4) pa_nil)))))) pa_nil)))))))
  (pss_one (ps_if (pt_cmpR op_eq (pv 5) pe_str (nomark _))
  (pss_one (ps_set (i := 7) sc_placed.nd rfl (Or.inl rfl) (pe_tup (pa_cons (pv 5) (pa_cons (pe_ix ix_tup (pv 0) pe_int (fun _ _ => rfl)) (pa_cons (pe_ix ix_tup (pv 0) pe_int (fun _ _ => rfl)) (pa_cons (pv 1) (pa_cons (pv 2) pa_nil))))))))
  (pss_one (ps_if (pt_cmpR op_eq (pv 5) pe_str (nomark _))
  (pss_one (ps_set (i := 7) sc_placed.nd rfl (Or.inl rfl) (pe_tup (pa_cons (pv 5) (pa_cons (pv 1) pa_nil)))))
  (pss_one (ps_if (pt_cmpR op_eq (pv 5) pe_str (nomark _))
  (pss_one (ps_set (i := 7) sc_placed.nd rfl (Or.inl rfl) (pe_tup (pa_cons (pv 5) (pa_cons (pv 2) pa_nil)))))
  (pss_one (ps_if (pt_cmpR op_eq (pv 5) pe_str (nomark _))
  (pss_one (ps_set (i := 7) sc_placed.nd rfl (Or.inl rfl) (pe_tup (pa_cons (pv 5) (pa_cons (pe_ix ix_tup (pv 0) pe_int (fun _ _ => rfl)) pa_nil)))))
  (pss_one (ps_if (pt_cmpR op_eq (pv 5) pe_str (nomark _))
  (pss_one (ps_set (i := 7) sc_placed.nd rfl (Or.inl rfl) (pe_tup (pa_cons (pv 5) (pa_cons (pe_df D_placed (hr.mono (by first | decide | omega)) (pa_cons (pe_ix ix_tup (pv 0) pe_int (fun _ _ => rfl)) (pa_cons (pv 1) (pa_cons (pv 2) (pa_cons (pv 3) (pa_cons (pv 4) pa_nil)))))) (pa_cons (pe_ix ix_tup (pv 0) pe_int (fun _ _ => rfl)) pa_nil))))))
  (pss_one (ps_if (pt_cmpR op_eq (pv 5) pe_str (nomark _))
  (pss_one (ps_ret (pe_df D_placed (hr.mono (by first | decide | omega)) (pa_cons (pe_ix ix_tup (pv 0) pe_int (fun _ _ => rfl)) (pa_cons (pe_op op_add (pv 1) (pe_ix ix_tup (pv 0) pe_int (fun _ _ => rfl))) (pa_cons (pe_op op_add (pv 2) (pe_ix ix_tup (pv 0) pe_int (fun _ _ => rfl))) (pa_cons (pv 3) (pa_cons (pv 4) pa_nil))))))))
  (pss_one (ps_set (i := 7) sc_placed.nd rfl (Or.inl rfl) (pe_tup (pa_cons (pv 5) (StX.pa_star (pe_lc (own := [("part", 8)]) (g := gName 8) (tt := tYes) rfl sc_placed.nd (pi_tup (pe_slice sl_tup (pv 0) (po_some pe_int) po_none)) (blkOk_by (N := N_placed) (sc := defScope s_placed) (by decide +kernel)) (fun _ _ _ _ _ => pg_name (i := 8) sc_placed.nd rfl (Or.inl rfl)) (fun _ _ _ _ _ => pts_nil) (fun _ _ _ _ _ => (pe_df D_placed (hr.mono (by first | decide | omega)) (pa_cons (pv 8) (pa_cons (pv 1) (pa_cons (pv 2) (pa_cons (pv 3) (pa_cons (pv 4) pa_nil)))))))) pa_nil))))))))))))))))))
  (pss_one (ps_ret (Dz.pe_dsetdT (hu_of hr) (pv 4) (pv 7) (pe_callB call_len_dT (by rfl) T.len (by decide +kernel) (pa_cons (pv 4) pa_nil)) ⟨rfl, rfl, rfl, rfl⟩)))))), ?_⟩)
    · obtain ⟨u, F, dx, dz, d, mk, m, r, δ, st, rfl, _⟩ := h
      rfl
    · obtain ⟨u, F, dx, dz, d, mk, m, r, δ, st, rfl, hF, hE, hB, hn, hmk, hcn, hr2, q⟩ := h
      walk_at "lw i0"
      have fin : ∀ (σ : L2.St) (D : Ends) (H' : Hp) (t : Addr) (st' : List Stp) (s : Stp), σ[4]? = some (some (.ref mk)) → σ[7]? = some (some (.ref t)) → D.rt = Q → Keep mk H H' → H' mk = some (.dT (mkKV st')) → H' t = some (.tup (stepV s)) → st'.length ≤ 900 →
          put st' s = into (expand F r) dx dz st → tRet (Dz.tDSetdT (tVar 4) (tVar 7) (tCB rLenT (tCons (tVar 4) tNil))) D σ H' := by
        intro σ D H' t st' s h4 h7 hD k hm ht hl e
        rw [← e] at q
        refine g_ret ?_
        rw [hD]
        refine ⟨.ref mk, h4, mk, rfl, .inr ⟨_, .inl hm⟩, .ref t, h7, .ref mk, h4, mk, _, rfl, hm, mkKV st', stepK s, t, hm, rfl, by rw [← stepV_eq]; exact ht, by rw [mkKV_len, sizeLine_eq]; omega, ?_⟩
        have hp := mk_put (st := st') (s := s) (P := fun v kvs => Q v (upd H' mk (.dT kvs))) (q _ k.put upd_same)
        rw [mkKV_len]
        exact ⟨fun v hv => by have := hp.1 v hv; rw [upd_self hm] at this; exact this, hp.2⟩
      obtain ⟨p, xs, rfl, hp⟩ := frep_word hF
      walk_at "lw go"
      refine g_ixT (SqT.of hp) (v := .str (wordF F)) (atI_nat (j := 0) (by rfl)) ?_
      walk_at "lw go"
      refine ⟨fun m' σ H' => ∃ (u : V) (F' : Fd) (d' : Addr) (r' : Fm.Env) (δ' : List (Str × Nat)) (m1 : Nat), σ = [some u, some (.int dx), some (.int dz), some (.ref d'), some (.ref mk), some (.str (wordF F')), none, none, none] ∧ FRep F' H' u ∧ EnvR m1 H' d' r' δ' ∧ Bnd F' (r'.map (·.1)) ∧ udep F' δ' = m' ∧ m' ≤ n + 1 ∧
        expand F' r' = expand F r ∧ r'.length + udep F' δ' ≤ 900 ∧ Keep mk H H' ∧ H' mk = some (.dT (mkKV st)), ⟨_, _, F, d, r, δ, m, rfl, hF, hE, hB, rfl, hn, rfl, hr2, Keep.refl, hmk⟩, ?_⟩
      rintro m' σ H1 ⟨u', F', d', r', δ', m1, rfl, hF', hE', hB', hm', hn', he, hr', hk, hmk'⟩
      clear hF hE hB hn hp hr2
      cases F' with
      | lt x a b =>
        obtain ⟨p', u1, u2, rfl, hp', hF1, hF2⟩ := hF'
        have hu : udep (.lt x a b) δ' = 1 + udep b ((x, udep a δ') :: δ') := rfl
        obtain ⟨kvs, hd, hkl⟩ := hE'.dict
        simp only [wordF]
        walk_at "lw go"
        refine ⟨_, fun _ _ w => w, ?_⟩
        walk_at "lw go"
        intro i hi
        walk_at "lw go"
        have s1 := same_new (o := .dK []) hi
        refine ⟨d', kvs, rfl, (ne_of_none hd hi), upd_same, s1 _ _ hd, by rw [sizeLine_eq]; omega, fun i2 hi2 => ?_⟩
        have ni : i ≠ i2 := ne_of_none upd_same hi2
        have s2 : Same H1 (upd (upd (upd H1 i (.dK [])) i (.dK kvs)) i2 (.dK [])) := (same_put s1 hi).trans (same_new hi2)
        have s2i : (upd (upd (upd H1 i (.dK [])) i (.dK kvs)) i2 (.dK [])) i = some (.dK kvs) := by rw [upd_ne ni, upd_same]
        have hi2b : H1 i2 = none := none_back (o := .dK []) hi (same_put s1 hi) hi2
        walk_at "lw go"
        refine g_ixT (SqT.of (s2 _ _ hp')) (v := .str x) (atI_nat (j := 1) (by rfl)) ?_
        walk_at "lw go"
        refine g_ixT (SqT.of (s2 _ _ hp')) (v := u1) (atI_nat (j := 2) (by rfl)) ?_
        walk_at "lw go"
        refine ⟨by show 2 ≤ sizeLine; decide, fun t ht => ?_⟩
        have s3 : Same H1 _ := s2.trans (same_new (o := .tup [u1, .ref d']) ht)
        have nit : i ≠ t := ne_of_none s2i ht
        have nit2 : i2 ≠ t := ne_of_none upd_same ht
        refine ⟨Sum.inr x, rfl, by rw [upd_ne nit]; exact s2i, by rw [upd_ne nit2, upd_same], ?_⟩
        have s4 : Same H1 _ := same_put (o := .dK (putK kvs (Sum.inr x) (.ref t))) (same_put (o := .dK [(Sum.inr x, .ref t)]) s3 hi2b) hi
        walk_at "lw go"
        refine g_ixT (SqT.of (s4 _ _ hp')) (v := u2) (atI_nat (j := 3) (by rfl)) ?_
        walk_at "lw go"
        obtain ⟨p2, xs2, rfl, hp2⟩ := frep_word hF2
        refine g_ixT (SqT.of (s4 _ _ hp2)) (v := .str (wordF b)) (atI_nat (j := 0) (by rfl)) ?_
        walk_at "lw go"
        have ht4 : (upd (upd (upd (upd (upd (upd H1 i (.dK [])) i (.dK kvs)) i2 (.dK [])) t (.tup [u1, .ref d'])) i2 (.dK [(Sum.inr x, .ref t)])) i (.dK (putK kvs (Sum.inr x) (.ref t)))) t = some (.tup [u1, .ref d']) := by
          rw [upd_ne nit.symm, upd_ne nit2.symm, upd_same]
        have k4 : Keep mk H _ := hk.trans (fun c v nc e => s4 _ _ e)
        exact ⟨udep b ((x, udep a δ') :: δ'), by omega, _, b, i, (x, expand a r') :: r', (x, udep a δ') :: δ', m1 + 1, rfl, hF2.mono (same_tup s4), hE'.let_ hd s4 upd_same ht4 hF1 hB'.1, hB'.2, rfl, by omega, he, by simp only [List.length_cons]; omega, k4, s4 _ _ hmk'⟩
      | nm x =>
        obtain ⟨p', rfl, hp'⟩ := hF'
        have hu : udep (.nm x) δ' = 1 + (δ'.lookup x).getD 0 := rfl
        obtain ⟨m2, rfl⟩ : ∃ m2, m1 = m2 + 1 := by
          cases m1 with
          | zero =>
            obtain ⟨_, e1, _⟩ := hE'
            subst e1
            cases hB'
          | succ m2 => exact ⟨m2, rfl⟩
        obtain ⟨kvs, hd, hkl, hq⟩ := hE'
        obtain ⟨t, u2, d2, F2, r2, δ2, a1, a2, a3, a4, a5, a6, a7, a8⟩ := hq x hB'
        simp only [wordF]
        walk_at "lw go"
        refine ⟨_, fun _ _ w => w, ?_⟩
        walk_at "lw go"
        refine g_ixT (SqT.of hp') (v := .str x) (atI_nat (j := 1) (by rfl)) ?_
        refine ⟨d', .ref t, rfl, a1 ▸ DGet.k (k := Sum.inr x) hd, ?_⟩
        walk_at "lw go"
        refine g_tupT (SqT.of a2) rfl ?_
        walk_at "lw go"
        obtain ⟨p2, xs2, rfl, hp2⟩ := frep_word a3
        refine g_ixT (SqT.of hp2) (v := .str (wordF F2)) (atI_nat (j := 0) (by rfl)) ?_
        walk_at "lw go"
        exact ⟨udep F2 δ2, by omega, _, F2, d2, r2, δ2, m2, rfl, a3, a4, a5, rfl, by omega, a6.trans he, by omega, hk, hmk'⟩
      | whole v =>
        obtain ⟨p', rfl, hp'⟩ := hF'
        simp only [wordF]
        walk_at "lw go"
        refine ⟨_, _, rfl, .inr (G.v_PAIRS _), rfl, rfl, ?_⟩
        walk_at "lw go"
        refine iteF ?_
        walk_at "lw go"
        refine g_ixT (SqT.of hp') (v := .int v) (atI_nat (j := 1) (by rfl)) ?_
        walk_at "lw go"
        refine ⟨by show 2 ≤ sizeLine; decide, fun t ht => ?_⟩
        walk_at "lw go"
        exact fin _ _ _ t st (.whole v) rfl rfl rfl (hk.new ht) (by rw [upd_ne (ne_of_none hmk' ht)]; exact hmk') upd_same (by omega) (by rw [← he]; rfl)
      | px =>
        obtain ⟨p', rfl, hp'⟩ := hF'
        simp only [wordF]
        walk_at "lw go"
        refine ⟨_, _, rfl, .inr (G.v_PAIRS _), rfl, rfl, ?_⟩
        walk_at "lw go"
        refine iteF ?_
        walk_at "lw go"
        refine ⟨by show 2 ≤ sizeLine; decide, fun t ht => ?_⟩
        walk_at "lw go"
        exact fin _ _ _ t st (.px dx) rfl rfl rfl (hk.new ht) (by rw [upd_ne (ne_of_none hmk' ht)]; exact hmk') upd_same (by omega) (by rw [← he]; rfl)
      | pz =>
        obtain ⟨p', rfl, hp'⟩ := hF'
        simp only [wordF]
        walk_at "lw go"
        refine ⟨_, _, rfl, .inr (G.v_PAIRS _), rfl, rfl, ?_⟩
        walk_at "lw go"
        refine iteF ?_
        walk_at "lw go"
        refine ⟨by show 2 ≤ sizeLine; decide, fun t ht => ?_⟩
        walk_at "lw go"
        exact fin _ _ _ t st (.pz dz) rfl rfl rfl (hk.new ht) (by rw [upd_ne (ne_of_none hmk' ht)]; exact hmk') upd_same (by omega) (by rw [← he]; rfl)
      | noise s0 l0 =>
        obtain ⟨p', rfl, hp'⟩ := hF'
        simp only [wordF]
        walk_at "lw go"
        refine ⟨_, _, rfl, .inr (G.v_PAIRS _), rfl, rfl, ?_⟩
        walk_at "lw go"
        refine iteF ?_
        walk_at "lw go"
        refine g_ixT (SqT.of hp') (v := .int s0) (atI_nat (j := 1) (by rfl)) ?_
        walk_at "lw go"
        refine g_ixT (SqT.of hp') (v := .int l0) (atI_nat (j := 2) (by rfl)) ?_
        walk_at "lw go"
        refine ⟨by show 5 ≤ sizeLine; decide, fun t ht => ?_⟩
        walk_at "lw go"
        exact fin _ _ _ t st (.noise s0 l0 dx dz) rfl rfl rfl (hk.new ht) (by rw [upd_ne (ne_of_none hmk' ht)]; exact hmk') upd_same (by omega) (by rw [← he]; rfl)
      | shift ex ez a =>
        obtain ⟨p', u1, rfl, hp', hF1⟩ := hF'
        have hu : udep (.shift ex ez a) δ' = 1 + udep a δ' := rfl
        have hc : cn (expand F r) = 1 + cn (expand a r') := by rw [← he]; rfl
        simp only [wordF]
        walk_at "lw go"
        refine ⟨_, _, rfl, .inr (G.v_PAIRS _), rfl, rfl, ?_⟩
        walk_at "lw go"
        refine iteF ?_
        walk_at "lw go"
        refine g_ixT (SqT.of hp') (v := u1) (atI_nat (j := 3) (by rfl)) ?_
        walk_at "lw go"
        refine g_ixT (SqT.of hp') (v := .int ex) (atI_nat (j := 1) (by rfl)) ?_
        walk_at "lw go"
        refine g_ixT (SqT.of hp') (v := .int ez) (atI_nat (j := 2) (by rfl)) ?_
        walk_at "lw go"
        refine ⟨u1, a, dx + ex, dz + ez, d', mk, m1, r', δ', st, rfl, hF1, hE', hB', by omega, hmk', by omega, by omega, fun H2 k2 h2 => ?_⟩
        have e2 : into (expand F r) dx dz st = into (expand a r') (dx + ex) (dz + ez) st := by rw [← he]; rfl
        rw [e2] at q
        exact q H2 (hk.trans k2) h2
      | over a v =>
        obtain ⟨p', u1, rfl, hp', hF1⟩ := hF'
        have hu : udep (.over a v) δ' = 1 + udep a δ' := rfl
        have hc : cn (expand F r) = 1 + cn (expand a r') := by rw [← he]; rfl
        simp only [wordF]
        walk_at "lw go"
        refine ⟨_, _, rfl, .inr (G.v_PAIRS _), rfl, rfl, ?_⟩
        walk_at "lw go"
        refine iteF ?_
        walk_at "lw go"
        refine g_ixT (SqT.of hp') (v := u1) (atI_nat (j := 1) (by rfl)) ?_
        walk_at "lw go"
        refine ⟨u1, a, dx, dz, d', mk, m1, r', δ', st, rfl, hF1, hE', hB', by omega, hmk', by omega, by omega, fun H2 k2 h2 => ?_⟩
        walk_at "lw go"
        have il := (into_ok (expand a r') dx dz st).len
        refine g_ixT (SqT.of (keepT_tup k2 hmk' _ _ hp')) (v := .int v) (atI_nat (j := 2) (by rfl)) ?_
        walk_at "lw go"
        refine ⟨by show 3 ≤ sizeLine; decide, fun t ht => ?_⟩
        walk_at "lw go"
        exact fin _ _ _ t _ (.over (into (expand a r') dx dz st).2 v) rfl rfl rfl ((hk.trans k2).new ht) (by rw [upd_ne (ne_of_none h2 ht)]; exact h2) upd_same (by omega) (by rw [← he]; rfl)
      | two c a b =>
        obtain ⟨p', u1, u2, rfl, hp', hF1, hF2⟩ := hF'
        have hu : udep (.two c a b) δ' = 1 + max (udep a δ') (udep b δ') := rfl
        have hc : cn (expand F r) = 1 + (cn (expand a r') + cn (expand b r')) := by rw [← he]; rfl
        have ne1 : decide (c.word = "let") = false := word_ne (by decide +kernel) c
        have ne2 : decide (c.word = "name") = false := word_ne (by decide +kernel) c
        simp only [wordF]
        walk_at "lw go"
        refine ⟨_, _, rfl, .inr (G.v_PAIRS _), rfl, rfl, ?_⟩
        rw [pairs_word]
        walk_at "lw go"
        refine iteT ?_
        walk_at "lw go"
        refine g_ixT (SqT.of hp') (v := u1) (atI_nat (j := 1) (by rfl)) ?_
        walk_at "lw go"
        refine ⟨u1, a, dx, dz, d', mk, m1, r', δ', st, rfl, hF1, hE', hB'.1, by omega, hmk', by omega, by omega, fun H2 k2 h2 => ?_⟩
        walk_at "lw go"
        have il := (into_ok (expand a r') dx dz st).len
        have t2 := keepT_tup k2 hmk'
        refine g_ixT (SqT.of (t2 _ _ hp')) (v := u2) (atI_nat (j := 2) (by rfl)) ?_
        walk_at "lw go"
        refine ⟨u2, b, dx, dz, d', mk, m1, r', δ', (into (expand a r') dx dz st).1, rfl, hF2.mono t2, envR_keep k2 hmk' hE', hB'.2, by omega, h2, by omega, by omega, fun H3 k3 h3 => ?_⟩
        walk_at "lw go"
        have il2 := (into_ok (expand b r') dx dz (into (expand a r') dx dz st).1).len
        refine ⟨by show 3 ≤ sizeLine; decide, fun t ht => ?_⟩
        walk_at "lw go"
        exact fin _ _ _ t _ (.two c (into (expand a r') dx dz st).2 (into (expand b r') dx dz (into (expand a r') dx dz st).1).2) rfl rfl rfl (((hk.trans k2).trans k3).new ht) (by rw [upd_ne (ne_of_none h3 ht)]; exact h3) upd_same (by omega) (by rw [← he]; rfl)
      | bel b1 b2 b3 b4 =>
        obtain ⟨p', u1, u2, u3, u4, rfl, hp', hF1, hF2, hF3, hF4⟩ := hF'
        have hu : udep (.bel b1 b2 b3 b4) δ' = 1 + max (max (udep b1 δ') (udep b2 δ')) (max (udep b3 δ') (udep b4 δ')) := rfl
        have hc : cn (expand F r) = 1 + (cn (expand b1 r') + (cn (expand b2 r') + (cn (expand b3 r') + cn (expand b4 r')))) := by rw [← he]; rfl
        simp only [wordF]
        walk_at "lw go"
        refine ⟨_, _, rfl, .inr (G.v_PAIRS _), rfl, rfl, ?_⟩
        walk_at "lw go"
        refine iteF ?_
        walk_at "lw go"
        obtain ⟨q1, e1⟩ : ∃ q1, into (expand b1 r') dx dz st = q1 := ⟨_, rfl⟩
        obtain ⟨q2, e2⟩ : ∃ q2, into (expand b2 r') dx dz q1.1 = q2 := ⟨_, rfl⟩
        obtain ⟨q3, e3⟩ : ∃ q3, into (expand b3 r') dx dz q2.1 = q3 := ⟨_, rfl⟩
        obtain ⟨q4, e4⟩ : ∃ q4, into (expand b4 r') dx dz q3.1 = q4 := ⟨_, rfl⟩
        have i1 := (into_ok (expand b1 r') dx dz st).len
        have i2 := (into_ok (expand b2 r') dx dz q1.1).len
        have i3 := (into_ok (expand b3 r') dx dz q2.1).len
        have i4 := (into_ok (expand b4 r') dx dz q3.1).len
        rw [e1] at i1
        rw [e2] at i2
        rw [e3] at i3
        rw [e4] at i4
        refine g_slT (SqT.of hp') cut1T_ok fun t ht => ?_
        rw [cut1T]
        have k1 : Keep mk H1 (upd H1 t (.tup [u1, u2, u3, u4])) := Keep.refl.new ht
        have mkt : mk ≠ t := ne_of_none hmk' ht
        have hmk2 : (upd H1 t (.tup [u1, u2, u3, u4])) mk = some (.dT (mkKV st)) := by rw [upd_ne mkt]; exact hmk'
        refine ⟨t, rfl, ⟨_, SqT.of upd_same⟩, fun D hD => ?_⟩
        have mkD : mk ≠ D := ne_of_none hmk2 hD
        have tD : t ≠ D := ne_of_none upd_same hD
        have hD1 : H1 D = none := none_back (o := .tup [u1, u2, u3, u4]) ht (same_new ht) hD
        refine lc_tup (xs := [u1, u2, u3, u4]) (fun i H' => Keep mk H1 H' ∧ H' t = some (.tup [u1, u2, u3, u4]) ∧ H' mk = some (.dT (mkKV (([st, q1.1, q2.1, q3.1, q4.1] : List (List Stp)).getD i []))) ∧ H' D = some (.lst ((([q1.2, q2.2, q3.2, q4.2] : List Nat).take i).map fun z : Nat => V.int (z : Int))))
          ⟨k1.new hD, by rw [upd_ne tD, upd_same], by rw [upd_ne mkD]; exact hmk2, upd_same⟩ (fun i H' _ ⟨_, h, _⟩ => SqT.of h) ?_ ?_
        · rintro i y H' hi ⟨kH, htH, hmH, hDH⟩
          obtain ⟨B, hB1, hB2, hB3, hB4, hB5, hB6, hi4⟩ : ∃ B : Fd, FRep B H1 y ∧ udep B δ' + 1 ≤ udep (.bel b1 b2 b3 b4) δ' ∧ Bnd B (r'.map (·.1)) ∧ (([st, q1.1, q2.1, q3.1, q4.1] : List (List Stp)).getD i []).length + cn (expand B r') ≤ 900 ∧
              ([st, q1.1, q2.1, q3.1, q4.1] : List (List Stp)).getD (i + 1) [] = (into (expand B r') dx dz (([st, q1.1, q2.1, q3.1, q4.1] : List (List Stp)).getD i [])).1 ∧
              ([q1.2, q2.2, q3.2, q4.2] : List Nat)[i]? = some (into (expand B r') dx dz (([st, q1.1, q2.1, q3.1, q4.1] : List (List Stp)).getD i [])).2 ∧ i < 4 := by
            match i, hi with
            | 0, hi => cases Option.some.inj hi; exact ⟨b1, hF1, by omega, hB'.1, by show st.length + _ ≤ 900; omega, by show q1.1 = _; rw [← e1]; rfl, by show some q1.2 = _; rw [← e1]; rfl, by omega⟩
            | 1, hi => cases Option.some.inj hi; exact ⟨b2, hF2, by omega, hB'.2.1, by show q1.1.length + _ ≤ 900; omega, by show q2.1 = _; rw [← e2]; rfl, by show some q2.2 = _; rw [← e2]; rfl, by omega⟩
            | 2, hi => cases Option.some.inj hi; exact ⟨b3, hF3, by omega, hB'.2.2.1, by show q2.1.length + _ ≤ 900; omega, by show q3.1 = _; rw [← e3]; rfl, by show some q3.2 = _; rw [← e3]; rfl, by omega⟩
            | 3, hi => cases Option.some.inj hi; exact ⟨b4, hF4, by omega, hB'.2.2.2, by show q3.1.length + _ ≤ 900; omega, by show q4.1 = _; rw [← e4]; rfl, by show some q4.2 = _; rw [← e4]; rfl, by omega⟩
            | k + 4, hi => cases hi
          walk_at "lw go"
          refine ⟨rfl, g_yes (iteT ?_)⟩
          walk_at "lw go"
          refine ⟨y, B, dx, dz, d', mk, m1, r', δ', _, rfl, hB1.mono (keepT_tup kH hmk'), envR_keep kH hmk' hE', hB3, by omega, hmH, hB4, by omega, fun H2 k2 h2 => ?_⟩
          have hD2 := k2 _ _ mkD.symm hDH
          refine ⟨_, hD2, by rw [List.length_map, List.length_take]; exact small1000 (by omega), ?_, ?_, ?_, ?_⟩
          · exact fun c u nc e => by rw [upd_ne (ne_of_none e hD1)]; exact (kH.trans k2) c u nc e
          · rw [upd_ne tD]; exact keepT_tup k2 hmH _ _ htH
          · rw [upd_ne mkD, h2, hB5]
          · rw [upd_same, List.take_add_one, hB6, List.map_append]
            rfl
        rintro H' ⟨kH, htH, hmH, hDH⟩
        walk_at "lw go"
        refine ⟨D, _, rfl, .inr (SqL.of hDH), ?_⟩
        walk_at "lw go"
        refine ⟨by show 5 ≤ sizeLine; decide, fun t2 ht2 => ?_⟩
        walk_at "lw go"
        exact fin _ _ _ t2 q4.1 (.bel q1.2 q2.2 q3.2 q4.2) rfl rfl rfl ((hk.trans kH).new ht2) (by rw [upd_ne (ne_of_none hmH ht2)]; exact hmH) upd_same (by omega) (by rw [← he]; show _ = into (.bel _ _ _ _) dx dz st; unfold into; simp only [e1, e2, e3, e4])
abbrev N_below_range : List Str := ["parts", "one", "other", "then", "otherwise"]
theorem sc_below_range : FnScope N_below_range ["parts"] (defScope s_below_range) := ⟨rfl, rfl, rfl, by decide +kernel, rfl, by decide +kernel, by decide +kernel⟩
theorem ok_below_range (F : FnP K "below_range" s_below_range f fd) (T : Bi mg) (G : Kn K mg)  : FnOk P w K mg base CX0 1 f fd ["parts"] spBelw := by
  refine F.ok sc_below_range (fun vs H Q E h => ?_) (fun cdv A outer s H vs Q E hr h => ⟨_, PSs.nox
(pss_cons (ps_asg (pv 0) (pg_lst (by rfl) (pgs_cons (pg_name (i := 1) sc_below_range.nd rfl (Or.inl rfl)) (pgs_cons (pg_name (i := 2) sc_below_range.nd rfl (Or.inl rfl)) (pgs_cons (pg_name (i := 3) sc_below_range.nd rfl (Or.inl rfl)) (pgs_cons (pg_name (i := 4) sc_below_range.nd rfl (Or.inl rfl)) pgs_nil))))))
  (pss_cons (ps_if (pt_cmpR op_lt (pe_ix ix_tup (pv 1) pe_int (fun _ _ => rfl)) (pe_ix ix_tup (pv 2) pe_int (fun _ _ => rfl)) (nomark _))
  (pss_one (ps_ret (pv 3)))
  pss_nil)
  (pss_cons (ps_if (pt_cmpR op_ge (pe_ix ix_tup (pv 1) pe_int (fun _ _ => rfl)) (pe_ix ix_tup (pv 2) pe_int (fun _ _ => rfl)) (nomark _))
  (pss_one (ps_ret (pv 4)))
  pss_nil)
  (pss_one (ps_ret (pe_tup (pa_cons (pe_callB (call_min2 rfl) (by rfl) T.min (by decide +kernel) (pa_cons (pe_ix ix_tup (pv 3) pe_int (fun _ _ => rfl)) (pa_cons (pe_ix ix_tup (pv 4) pe_int (fun _ _ => rfl)) pa_nil))) (pa_cons (pe_callB (call_max2 rfl) (by rfl) T.max (by decide +kernel) (pa_cons (pe_ix ix_tup (pv 3) pe_int (fun _ _ => rfl)) (pa_cons (pe_ix ix_tup (pv 4) pe_int (fun _ _ => rfl)) pa_nil))) pa_nil)))))))), ?_⟩)
  · obtain ⟨l, p1, p2, p3, p4, a, b, c, d, rfl, _⟩ := h
    rfl
  · obtain ⟨l, p1, p2, p3, p4, a, b, c, d, rfl, hl, h1, h2, h3, h4, q⟩ := h
    walk_at "lw i0"
    walk_at "lw go"
    refine Pf.g_lstT (SqL.of hl) rfl ?_
    walk_at "lw go"
    refine g_ixT (SqT.of h1) (v := .int a.2) (atI_nat (j := 1) (by rfl)) ?_
    walk_at "lw go"
    refine g_ixT (SqT.of h2) (v := .int b.1) (atI_nat (j := 0) (by rfl)) ?_
    walk_at "lw go"
    refine g_ite (fun hlt => ?_) (fun hlt => ?_)
    · walk_at "lw go"
      have e : belR a b c d = c := if_pos hlt
      rw [e] at q
      exact q _ _ (Same.refl H) h3
    · walk_at "lw go"
      refine g_ixT (SqT.of h1) (v := .int a.1) (atI_nat (j := 0) (by rfl)) ?_
      walk_at "lw go"
      refine g_ixT (SqT.of h2) (v := .int b.2) (atI_nat (j := 1) (by rfl)) ?_
      walk_at "lw go"
      refine g_ite (fun hge => ?_) (fun hge => ?_)
      · walk_at "lw go"
        have e : belR a b c d = d := by unfold belR; rw [if_neg hlt, if_pos hge]
        rw [e] at q
        exact q _ _ (Same.refl H) h4
      · walk_at "lw go"
        refine g_ixT (SqT.of h3) (v := .int c.1) (atI_nat (j := 0) (by rfl)) ?_
        walk_at "lw go"
        refine g_ixT (SqT.of h4) (v := .int d.1) (atI_nat (j := 0) (by rfl)) ?_
        walk_at "lw go"
        refine ⟨_, _, rfl, ?_⟩
        walk_at "lw go"
        refine g_ixT (SqT.of h3) (v := .int c.2) (atI_nat (j := 1) (by rfl)) ?_
        walk_at "lw go"
        refine g_ixT (SqT.of h4) (v := .int d.2) (atI_nat (j := 1) (by rfl)) ?_
        walk_at "lw go"
        refine ⟨_, _, rfl, ?_⟩
        walk_at "lw go"
        have e : belR a b c d = (min c.1 d.1, max c.2 d.2) := by unfold belR; rw [if_neg hlt, if_neg hge]
        rw [e] at q
        exact q.new (by show _ = min _ _; split <;> omega) (by show _ = max _ _; split <;> omega) (Same.refl H)
abbrev N_joined_range : List Str := ["word", "one", "other", "low", "high", "least", "most", "products"]
theorem sc_joined_range : FnScope N_joined_range ["word", "one", "other"] (defScope s_joined_range) := ⟨rfl, rfl, rfl, by decide +kernel, rfl, by decide +kernel, by decide +kernel⟩
theorem ok_joined_range (F : FnP K "joined_range" s_joined_range f fd) (T : Bi mg) (G : Kn K mg)  : FnOk P w K mg base CX0 1 f fd ["word", "one", "other"] spJoin := by
  refine F.ok sc_joined_range (fun vs H Q E h => ?_) (fun cdv A outer s H vs Q E hr h => ⟨_, PSs.nox
(pss_cons (ps_asg (pv 1) (pg_tup (by rfl) (pgs_cons (pg_name (i := 3) sc_joined_range.nd rfl (Or.inl rfl)) (pgs_cons (pg_name (i := 4) sc_joined_range.nd rfl (Or.inl rfl)) pgs_nil))))
  (pss_cons (ps_asg (pv 2) (pg_tup (by rfl) (pgs_cons (pg_name (i := 5) sc_joined_range.nd rfl (Or.inl rfl)) (pgs_cons (pg_name (i := 6) sc_joined_range.nd rfl (Or.inl rfl)) pgs_nil))))
  (pss_cons (ps_if (pt_cmpR op_eq (pv 0) pe_str (nomark _))
  (pss_one (ps_ret (pe_tup (pa_cons (pe_op op_add (pv 3) (pv 5)) (pa_cons (pe_op op_add (pv 4) (pv 6)) pa_nil)))))
  pss_nil)
  (pss_cons (ps_if (pt_cmpR op_eq (pv 0) pe_str (nomark _))
  (pss_one (ps_ret (pe_tup (pa_cons (pe_op op_sub (pv 3) (pv 6)) (pa_cons (pe_op op_sub (pv 4) (pv 5)) pa_nil)))))
  pss_nil)
  (pss_cons (ps_if (pt_cmpR op_eq (pv 0) pe_str (nomark _))
  (pss_one (ps_ret (pe_tup (pa_cons (pe_ifExp (pt_cmpR op_lt (pv 3) (pv 5) (nomark _)) (pv 3) (pv 5)) (pa_cons (pe_ifExp (pt_cmpR op_lt (pv 4) (pv 6) (nomark _)) (pv 4) (pv 6)) pa_nil)))))
  pss_nil)
  (pss_cons (ps_if (pt_cmpR op_eq (pv 0) pe_str (nomark _))
  (pss_one (ps_ret (pe_tup (pa_cons (pe_ifExp (pt_cmpR op_gt (pv 3) (pv 5) (nomark _)) (pv 3) (pv 5)) (pa_cons (pe_ifExp (pt_cmpR op_gt (pv 4) (pv 6) (nomark _)) (pv 4) (pv 6)) pa_nil)))))
  pss_nil)
  (pss_cons (ps_set (i := 7) sc_joined_range.nd rfl (Or.inl rfl) (pe_tup (pa_cons (pe_op op_mulW (pv 3) (pv 5)) (pa_cons (pe_op op_mulW (pv 3) (pv 6)) (pa_cons (pe_op op_mulW (pv 4) (pv 5)) (pa_cons (pe_op op_mulW (pv 4) (pv 6)) pa_nil))))))
  (pss_one (ps_ret (pe_tup (pa_cons (pe_callB (Dz.cr_minT rfl) (by rfl) T.min (by decide +kernel) (pa_cons (pv 7) pa_nil)) (pa_cons (pe_callB (Dz.cr_maxT rfl) (by rfl) T.max (by decide +kernel) (pa_cons (pv 7) pa_nil)) pa_nil)))))))))))), ?_⟩)
  · obtain ⟨w, p1, p2, a, b, rfl, _⟩ := h
    rfl
  · obtain ⟨w, p1, p2, a, b, rfl, h1, h2, hm, q⟩ := h
    walk_at "lw i0"
    walk_at "lw go"
    refine g_tupT (SqT.of h1) rfl ?_
    walk_at "lw go"
    refine g_tupT (SqT.of h2) rfl ?_
    cases w with
    | plus => walk_at "lw go"; exact q.new rfl rfl (Same.refl H)
    | less => walk_at "lw go"; exact q.new rfl rfl (Same.refl H)
    | least =>
      walk_at "lw go"
      refine g_ite (fun h1 => ?_) (fun h1 => ?_) <;>
        (walk_at "lw go"; refine g_ite (fun h2 => ?_) (fun h2 => ?_) <;> (walk_at "lw go"; exact q.new (by show _ = min _ _; omega) (by show _ = min _ _; omega) (Same.refl H)))
    | most =>
      walk_at "lw go"
      refine g_ite (fun h1 => ?_) (fun h1 => ?_) <;>
        (walk_at "lw go"; refine g_ite (fun h2 => ?_) (fun h2 => ?_) <;> (walk_at "lw go"; exact q.new (by show _ = max _ _; omega) (by show _ = max _ _; omega) (Same.refl H)))
    | times =>
      obtain ⟨m1, m2, m3, m4⟩ := hm rfl
      walk_at "lw go"
      refine ⟨by show 4 ≤ sizeLine; decide, fun t ht => ?_⟩
      walk_at "lw go"
      refine ⟨t, [a.1 * b.1, a.1 * b.2, a.2 * b.1, a.2 * b.2], rfl, SqT.of upd_same, by show 0 < 4; decide, fun m hm1 hle => ?_⟩
      walk_at "lw go"
      refine ⟨t, [a.1 * b.1, a.1 * b.2, a.2 * b.1, a.2 * b.2], rfl, SqT.of upd_same, by show 0 < 4; decide, fun m' hm' hle' => ?_⟩
      walk_at "lw go"
      exact q.new (Pf.mn4_of hm1 hle) (Pf.mx4_of hm' hle') (same_new ht)
abbrev N_ranges_of : List Str := ["some", "seed", "box", "x0", "z0", "x1", "z1", "ranges", "step", "word", "dx", "dz", "found", "low", "high", "number"]
theorem sc_ranges_of : FnScope N_ranges_of ["some", "seed", "box"] (defScope s_ranges_of) := ⟨rfl, rfl, rfl, by decide +kernel, rfl, by decide +kernel, by decide +kernel⟩
theorem ok_ranges_of (F : FnP K "ranges_of" s_ranges_of f fd) (T : Bi mg) (G : Kn K mg) (D_noise_range : Df P w K mg base "noise_range" ["seed", "salt", "log", "box"] 3 spNRx) (D_below_range : Df P w K mg base "below_range" ["parts"] 1 spBelw) (D_joined_range : Df P w K mg base "joined_range" ["word", "one", "other"] 1 spJoin) : FnOk P w K mg base CX0 4 f fd ["some", "seed", "box"] (spRgs K) := by
  refine F.ok sc_ranges_of (fun vs H Q E h => ?_) (fun cdv A outer s H vs Q E hr h => ⟨_, PSs.nox
(pss_cons (ps_asg (pv 2) (pg_tup (by rfl) (pgs_cons (pg_name (i := 3) sc_ranges_of.nd rfl (Or.inl rfl)) (pgs_cons (pg_name (i := 4) sc_ranges_of.nd rfl (Or.inl rfl)) (pgs_cons (pg_name (i := 5) sc_ranges_of.nd rfl (Or.inl rfl)) (pgs_cons (pg_name (i := 6) sc_ranges_of.nd rfl (Or.inl rfl)) pgs_nil))))))
  (pss_cons (ps_set (i := 7) sc_ranges_of.nd rfl (Or.inr rfl) (pe_lst pa_nil))
  (pss_cons (ps_for PassesOwn.never rfl (pi_list (pv 0)) (pg_name (i := 8) sc_ranges_of.nd rfl (Or.inl rfl))
  (pss_cons (ps_set (i := 9) sc_ranges_of.nd rfl (Or.inl rfl) (pe_ix ix_tup (pv 8) pe_int (fun _ _ => rfl)))
  (pss_cons (ps_if (pt_cmpR op_eq (pv 9) pe_str (nomark _))
  (pss_cons (ps_par (i := 10) (j := 11) rfl sc_ranges_of.nd rfl rfl (by decide) rfl rfl (pa_cons (pe_ix ix_tup (pv 8) pe_int (fun _ _ => rfl)) (pa_cons (pe_ix ix_tup (pv 8) pe_int (fun _ _ => rfl)) pa_nil)) rfl)
  (pss_one (ps_set (i := 12) sc_ranges_of.nd rfl (Or.inl rfl) (pe_df D_noise_range (hr.mono (by first | decide | omega)) (pa_cons (pv 1) (pa_cons (pe_ix ix_tup (pv 8) pe_int (fun _ _ => rfl)) (pa_cons (pe_ix ix_tup (pv 8) pe_int (fun _ _ => rfl)) (pa_cons (pe_tup (pa_cons (pe_op op_add (pv 3) (pv 10)) (pa_cons (pe_op op_add (pv 4) (pv 11)) (pa_cons (pe_op op_add (pv 5) (pv 10)) (pa_cons (pe_op op_add (pv 6) (pv 11)) pa_nil))))) pa_nil))))))))
  (pss_one (ps_if (pt_cmpR op_eq (pv 9) pe_str (nomark _))
  (pss_one (ps_set (i := 12) sc_ranges_of.nd rfl (Or.inl rfl) (pe_tup (pa_cons (pe_ix ix_tup (pv 8) pe_int (fun _ _ => rfl)) (pa_cons (pe_ix ix_tup (pv 8) pe_int (fun _ _ => rfl)) pa_nil)))))
  (pss_one (ps_if (pt_cmpR op_eq (pv 9) pe_str (nomark _))
  (pss_one (ps_set (i := 12) sc_ranges_of.nd rfl (Or.inl rfl) (pe_tup (pa_cons (pe_op op_add (pv 3) (pe_ix ix_tup (pv 8) pe_int (fun _ _ => rfl))) (pa_cons (pe_op op_add (pv 5) (pe_ix ix_tup (pv 8) pe_int (fun _ _ => rfl))) pa_nil)))))
  (pss_one (ps_if (pt_cmpR op_eq (pv 9) pe_str (nomark _))
  (pss_one (ps_set (i := 12) sc_ranges_of.nd rfl (Or.inl rfl) (pe_tup (pa_cons (pe_op op_add (pv 4) (pe_ix ix_tup (pv 8) pe_int (fun _ _ => rfl))) (pa_cons (pe_op op_add (pv 6) (pe_ix ix_tup (pv 8) pe_int (fun _ _ => rfl))) pa_nil)))))
  (pss_one (ps_if (pt_cmpR op_eq (pv 9) pe_str (nomark _))
  (pss_cons (ps_asg (pe_ix ix_list (pv 7) (pe_ix ix_tup (pv 8) pe_int (fun _ _ => rfl)) (fun _ _ => rfl)) (pg_tup (by rfl) (pgs_cons (pg_name (i := 13) sc_ranges_of.nd rfl (Or.inl rfl)) (pgs_cons (pg_name (i := 14) sc_ranges_of.nd rfl (Or.inl rfl)) pgs_nil))))
  (pss_one (ps_set (i := 12) sc_ranges_of.nd rfl (Or.inl rfl) (pe_tup (pa_cons (pe_op op_fdivW (pv 13) (pe_ix ix_tup (pv 8) pe_int (fun _ _ => rfl))) (pa_cons (pe_op op_fdivW (pv 14) (pe_ix ix_tup (pv 8) pe_int (fun _ _ => rfl))) pa_nil))))))
  (pss_one (ps_if (pt_cmpR op_eq (pv 9) pe_str (nomark _))
  (pss_one (ps_set (i := 12) sc_ranges_of.nd rfl (Or.inl rfl) (pe_df D_below_range (hr.mono (by first | decide | omega)) (pa_cons (pe_lc (own := [("number", 15)]) (g := gName 15) (tt := tYes) rfl sc_ranges_of.nd (pi_tup (pe_slice sl_tup (pv 8) (po_some pe_int) po_none)) (blkOk_by (N := N_ranges_of) (sc := defScope s_ranges_of) (by decide +kernel)) (fun _ _ _ _ _ => pg_name (i := 15) sc_ranges_of.nd rfl (Or.inl rfl)) (fun _ _ _ _ _ => pts_nil) (fun _ _ _ _ _ => (pe_ix (ix_listK (K := K)) (pv 7) (pv 15) (fun _ _ => rfl)))) pa_nil))))
  (pss_one (ps_set (i := 12) sc_ranges_of.nd rfl (Or.inl rfl) (pe_df D_joined_range (hr.mono (by first | decide | omega)) (pa_cons (pv 9) (pa_cons (pe_ix ix_list (pv 7) (pe_ix ix_tup (pv 8) pe_int (fun _ _ => rfl)) (fun _ _ => rfl)) (pa_cons (pe_ix ix_list (pv 7) (pe_ix ix_tup (pv 8) pe_int (fun _ _ => rfl)) (fun _ _ => rfl)) pa_nil)))))))))))))))))
  (pss_one (ps_expr (pe_bm PySem.F.plainAttrs_list PySem.F.slot_list_append PySem.F.type_list_append mt_append (pv 7) (pa_cons (pv 12) pa_nil)))))))
  (pss_one (ps_ret (pv 7)))))), ?_⟩)
  · obtain ⟨a, b, ws, st, g, x0, z0, x1, z1, rfl, _⟩ := h
    rfl
  · obtain ⟨a, b, ws, st, g, x0, z0, x1, z1, rfl, hSq, hS, hOk, hOs, hb, hW, hSh, hSz, hlen, q⟩ := h
    walk_at "lw i0"
    have hwl : ws.length = st.length := Paired.length hS
    walk_at "lw go"
    refine g_tupT hb rfl ?_
    walk_at "lw go"
    refine ⟨by show 0 ≤ sizeLine; decide, fun l hl => ?_⟩
    walk_at "lw go"
    refine ⟨a, rfl, ⟨ws, Same.seq (same_new hl) hSq⟩, for_list (xs := ws) (fun i σ H' => ∃ (o8 o9 o10 o11 o12 o13 o14 o15 : Option V) (rs : List V), σ = [some (.ref a), some (.int g), some (.ref b), some (.int x0), some (.int z0), some (.int x1), some (.int z1), some (.ref l), o8, o9, o10, o11, o12, o13, o14, o15] ∧ Same H H' ∧ H' l = some (.lst rs) ∧ PairsR H' rs ((rngA (exactN g) x0 z0 x1 z1).run (st.take i)))
      ⟨none, none, none, none, none, none, none, none, [], rfl, same_new hl, upd_same, .nil⟩ (fun i σ H' _ ⟨_, _, _, _, _, _, _, _, _, _, s, _⟩ => Same.seq s hSq) ?_ ?_⟩
    · rintro i y σ H' hy ⟨o8, o9, o10, o11, o12, o13, o14, o15, rs, rfl, s, hl', hrs⟩
      obtain ⟨t, hst, p, rfl, hp0⟩ := steps_at hS hy
      have hp := s _ _ hp0
      have hi : i < st.length := by rw [← hwl]; exact (List.getElem?_eq_some_iff.mp hy).1
      obtain ⟨vals, hvals⟩ : ∃ vals, (rngA (exactN g) x0 z0 x1 z1).run (st.take i) = vals := ⟨_, rfl⟩
      have vlen : vals.length = i := by rw [← hvals, run_len, List.length_take]; omega
      have hnext : (rngA (exactN g) x0 z0 x1 z1).run (st.take (i + 1)) = vals ++ [(rngA (exactN g) x0 z0 x1 z1).step t vals] := by
        rw [List.take_add_one, hst, ← hvals]
        exact run_snoc _ _ _
      have hbits : ∀ j, j < i → B2 (vals.getD j (0, 0)) 200000 := fun j hj => by
        have e := run_get (rngA (exactN g) x0 z0 x1 z1) (List.take_prefix i st) (i := j) (by rw [List.length_take]; omega)
        have b := hSz j (by omega)
        rw [hvals] at e
        have e' : ((rngA (exactN g) x0 z0 x1 z1).run st).getD j (0, 0) = vals.getD j (0, 0) := e
        rw [e'] at b
        exact b
      have hos := hOs t (List.mem_of_getElem? hst)
      have hsh := hSh t (List.mem_of_getElem? hst)
      have hlt := hOk i t hst
      rw [hvals] at hrs
      have rlen : rs.length = i := by rw [Paired.length hrs, vlen]
      have app : rs.length < sizeLine := by rw [rlen]; exact small1000 (by omega)
      have fin : ∀ (t' : Addr) (H2 : Hp) (u9 u10 u11 u12 u13 u14 u15 : Option V) (ab : Int × Int), Same H' H2 → Pr H2 t' ((rngA (exactN g) x0 z0 x1 z1).step t vals) →
          ∃ (o8 o9 o10 o11 o12 o13 o14 o15 : Option V) (rs' : List V), [some (.ref a), some (.int g), some (.ref b), some (.int x0), some (.int z0), some (.int x1), some (.int z1), some (.ref l), some (.ref p), u9, u10, u11, u12, u13, u14, u15] = [some (.ref a), some (.int g), some (.ref b), some (.int x0), some (.int z0), some (.int x1), some (.int z1), some (.ref l), o8, o9, o10, o11, o12, o13, o14, o15] ∧
            Same H (upd H2 l (.lst (rs ++ [.ref t']))) ∧ (upd H2 l (.lst (rs ++ [.ref t']))) l = some (.lst rs') ∧ PairsR (upd H2 l (.lst (rs ++ [.ref t']))) rs' ((rngA (exactN g) x0 z0 x1 z1).run (st.take (i + 1))) := fun t' H2 u9 u10 u11 u12 u13 u14 u15 _ s2 h2 =>
        ⟨_, _, _, _, _, _, _, _, _, rfl, same_put (s.trans s2) hl, upd_same, by rw [hnext]; exact PairsR.append (pairs_putL (s2 _ _ hl') (hrs.mono s2)) (.cons ⟨t', rfl, by rw [upd_ne (ne_of h2 (s2 _ _ hl') (by intro z; cases z))]; exact h2⟩ .nil)⟩
      clear hvals hnext hSz hOk hOs hSh hS q
      cases t with
      | whole n =>
        walk_at "lw go"
        refine g_ixT (SqT.of hp) (v := .str "whole") (atI_nat (j := 0) (by rfl)) ?_
        walk_at "lw go"
        refine g_ixT (SqT.of hp) (v := .int n) (atI_nat (j := 1) (by rfl)) ?_
        walk_at "lw go"
        refine g_ixT (SqT.of hp) (v := .int n) (atI_nat (j := 1) (by rfl)) ?_
        walk_at "lw go"
        refine ⟨by show 2 ≤ sizeLine; decide, fun t ht => ?_⟩
        walk_at "lw go"
        have st1 := same_new (o := .tup [.int (n), .int (n)]) ht
        refine ⟨tyL (st1 _ _ hl'), ?_⟩
        walk_at "lw go"
        refine g_append (st1 _ _ hl') app ?_
        exact fin _ _ _ _ _ _ _ _ _ (0, 0) st1 upd_same
      | px d =>
        walk_at "lw go"
        refine g_ixT (SqT.of hp) (v := .str "x") (atI_nat (j := 0) (by rfl)) ?_
        walk_at "lw go"
        refine g_ixT (SqT.of hp) (v := .int d) (atI_nat (j := 1) (by rfl)) ?_
        walk_at "lw go"
        refine g_ixT (SqT.of hp) (v := .int d) (atI_nat (j := 1) (by rfl)) ?_
        walk_at "lw go"
        refine ⟨by show 2 ≤ sizeLine; decide, fun t ht => ?_⟩
        walk_at "lw go"
        have st1 := same_new (o := .tup [.int (x0 + d), .int (x1 + d)]) ht
        refine ⟨tyL (st1 _ _ hl'), ?_⟩
        walk_at "lw go"
        refine g_append (st1 _ _ hl') app ?_
        exact fin _ _ _ _ _ _ _ _ _ (0, 0) st1 upd_same
      | pz d =>
        walk_at "lw go"
        refine g_ixT (SqT.of hp) (v := .str "z") (atI_nat (j := 0) (by rfl)) ?_
        walk_at "lw go"
        refine g_ixT (SqT.of hp) (v := .int d) (atI_nat (j := 1) (by rfl)) ?_
        walk_at "lw go"
        refine g_ixT (SqT.of hp) (v := .int d) (atI_nat (j := 1) (by rfl)) ?_
        walk_at "lw go"
        refine ⟨by show 2 ≤ sizeLine; decide, fun t ht => ?_⟩
        walk_at "lw go"
        have st1 := same_new (o := .tup [.int (z0 + d), .int (z1 + d)]) ht
        refine ⟨tyL (st1 _ _ hl'), ?_⟩
        walk_at "lw go"
        refine g_append (st1 _ _ hl') app ?_
        exact fin _ _ _ _ _ _ _ _ _ (0, 0) st1 upd_same
      | noise s0 l0 dx dz =>
        have hl0 : 0 ≤ l0 := hos.1
        have hl8 : l0 ≤ 8 := hos.2
        have hdx : dx.natAbs ≤ 100000000000 := hsh.1
        have hdz : dz.natAbs ≤ 100000000000 := hsh.2
        obtain ⟨w1, w2, w3, w4, w5, w6⟩ := hW
        obtain ⟨n0, rfl⟩ : ∃ n0 : Nat, l0 = (n0 : Int) := ⟨l0.toNat, by omega⟩
        walk_at "lw go"
        refine g_ixT (SqT.of hp) (v := .str "noise") (atI_nat (j := 0) (by rfl)) ?_
        walk_at "lw go"
        with_reducible refine' g_par ?_
        walk_at "lw go"
        refine g_ixT (SqT.of hp) (v := .int dx) (atI_nat (j := 3) (by rfl)) ?_
        walk_at "lw go"
        refine g_ixT (SqT.of hp) (v := .int dz) (atI_nat (j := 4) (by rfl)) ?_
        walk_at "lw go"
        refine ⟨_, _, rfl, ?_⟩
        walk_at "lw ns"
        walk_at "lw go"
        refine g_ixT (SqT.of hp) (v := .int s0) (atI_nat (j := 1) (by rfl)) ?_
        walk_at "lw go"
        refine g_ixT (SqT.of hp) (v := .int n0) (atI_nat (j := 2) (by rfl)) ?_
        walk_at "lw go"
        refine ⟨by show 4 ≤ sizeLine; decide, fun t ht => ?_⟩
        walk_at "lw go"
        have st1 := same_new (o := .tup [.int (x0 + dx), .int (z0 + dz), .int (x1 + dx), .int (z1 + dz)]) ht
        refine ⟨g, s0, x0 + dx, z0 + dz, x1 + dx, z1 + dz, n0, t, rfl, by omega, upd_same, by omega, by omega, by omega, by omega, by omega, by omega, fun t2 H2 s2 h2 => ?_⟩
        walk_at "lw go"
        have s12 := st1.trans s2
        refine ⟨tyL (s12 _ _ hl'), ?_⟩
        walk_at "lw go"
        refine g_append (s12 _ _ hl') app ?_
        exact fin _ _ _ _ _ _ _ _ _ (0, 0) s12 h2
      | over j n =>
        have hj : j < i := hlt
        have hn1 : 1 ≤ n := hos.1
        have hn2 : n ≤ 1000000000 := hos.2
        obtain ⟨r1, hr1, hr2⟩ := pr_at (j := j) hrs (by omega)
        walk_at "lw go"
        refine g_ixT (SqT.of hp) (v := .str "over") (atI_nat (j := 0) (by rfl)) ?_
        walk_at "lw go"
        refine g_ixT (SqT.of hp) (v := .int (j : Int)) (atI_nat (j := 1) (by rfl)) ?_
        walk_at "lw go"
        refine g_ixL (SqL.of hl') (atI_nat hr1) ?_
        walk_at "lw go"
        refine g_tupT (SqT.of hr2) rfl ?_
        walk_at "lw go"
        refine g_ixT (SqT.of hp) (v := .int n) (atI_nat (j := 2) (by rfl)) ?_
        walk_at "lw go"
        refine g_ixT (SqT.of hp) (v := .int n) (atI_nat (j := 2) (by rfl)) ?_
        walk_at "lw go"
        refine ⟨by show 2 ≤ sizeLine; decide, fun t ht => ?_⟩
        walk_at "lw go"
        have st1 := same_new (o := .tup [.int ((vals.getD j (0, 0)).1 / n), .int ((vals.getD j (0, 0)).2 / n)]) ht
        refine ⟨tyL (st1 _ _ hl'), ?_⟩
        walk_at "lw go"
        refine g_append (st1 _ _ hl') app ?_
        exact fin _ _ _ _ _ _ _ _ _ (0, 0) st1 upd_same
      | two c j1 j2 =>
        have hj : j1 < i ∧ j2 < i := hlt
        obtain ⟨r1, hr1, hr2⟩ := pr_at (j := j1) hrs (by omega)
        obtain ⟨r3, hr3, hr4⟩ := pr_at (j := j2) hrs (by omega)
        have ne1 : decide (c.word = "noise") = false := word_ne (by decide +kernel) c
        have ba := hbits j1 hj.1
        have bb := hbits j2 hj.2
        have wm : ∀ {i j : Int}, i.natAbs < 2 ^ 200000 → j.natAbs < 2 ^ 200000 → CMulW i j := fun h1 h2 => wide_mul h1 h2 (by decide) (by decide) (by decide)
        walk_at "lw go"
        refine g_ixT (SqT.of hp) (v := .str c.word) (atI_nat (j := 0) (by rfl)) ?_
        walk_at "lw go"
        refine g_ixT (SqT.of hp) (v := .int (j1 : Int)) (atI_nat (j := 1) (by rfl)) ?_
        walk_at "lw go"
        refine g_ixL (SqL.of hl') (atI_nat hr1) ?_
        walk_at "lw go"
        refine g_ixT (SqT.of hp) (v := .int (j2 : Int)) (atI_nat (j := 2) (by rfl)) ?_
        walk_at "lw go"
        refine g_ixL (SqL.of hl') (atI_nat hr3) ?_
        walk_at "lw go"
        refine ⟨c, r1, r3, _, _, rfl, hr2, hr4, fun _ => ⟨wm ba.1 bb.1, wm ba.1 bb.2, wm ba.2 bb.1, wm ba.2 bb.2⟩, fun t2 H2 s2 h2 => ?_⟩
        walk_at "lw go"
        refine ⟨tyL (s2 _ _ hl'), ?_⟩
        walk_at "lw go"
        refine g_append (s2 _ _ hl') app ?_
        exact fin _ _ _ _ _ _ _ _ _ (0, 0) s2 h2
      | bel b1 b2 b3 b4 =>
        have hj : b1 < i ∧ b2 < i ∧ b3 < i ∧ b4 < i := hlt
        obtain ⟨r1, hr1, hs1⟩ := pr_at (j := b1) hrs (by omega)
        obtain ⟨r2, hr2, hs2⟩ := pr_at (j := b2) hrs (by omega)
        obtain ⟨r3, hr3, hs3⟩ := pr_at (j := b3) hrs (by omega)
        obtain ⟨r4, hr4, hs4⟩ := pr_at (j := b4) hrs (by omega)
        walk_at "lw go"
        refine g_ixT (SqT.of hp) (v := .str "below") (atI_nat (j := 0) (by rfl)) ?_
        walk_at "lw go"
        have hpb : H' p = some (.tup (.str "below" :: [.int (b1 : Int), .int (b2 : Int), .int (b3 : Int), .int (b4 : Int)])) := hp
        refine g_slT (SqT.of hpb) cut1T_ok fun t ht => ?_
        rw [cut1T]
        have st1 : Same H' _ := same_new (o := .tup [.int (b1 : Int), .int (b2 : Int), .int (b3 : Int), .int (b4 : Int)]) ht
        refine ⟨t, rfl, ⟨_, SqT.of upd_same⟩, fun D hD => ?_⟩
        have lD : l ≠ D := ne_of_none (st1 _ _ hl') hD
        have hD1 : H' D = none := none_back (o := .tup [.int (b1 : Int), .int (b2 : Int), .int (b3 : Int), .int (b4 : Int)]) ht st1 hD
        refine lc_tup (xs := [.int (b1 : Int), .int (b2 : Int), .int (b3 : Int), .int (b4 : Int)]) (fun k H2 => Same (upd H' t (.tup [.int (b1 : Int), .int (b2 : Int), .int (b3 : Int), .int (b4 : Int)])) H2 ∧ H2 D = some (.lst (([.ref r1, .ref r2, .ref r3, .ref r4] : List V).take k)))
          ⟨same_new hD, upd_same⟩ (fun k H2 _ ⟨s2, _⟩ => SqT.of (s2 _ _ upd_same)) ?_ ?_
        · rintro k y H2 hk ⟨s2, hD2⟩
          obtain ⟨n, r0, rfl, hn, hr0, hk4⟩ : ∃ (n : Nat) (r0 : Addr), y = .int (n : Int) ∧ rs[n]? = some (.ref r0) ∧ ([.ref r1, .ref r2, .ref r3, .ref r4] : List V)[k]? = some (.ref r0) ∧ k < 4 := by
            match k, hk with
            | 0, hk => cases Option.some.inj hk; exact ⟨b1, r1, rfl, hr1, rfl, by omega⟩
            | 1, hk => cases Option.some.inj hk; exact ⟨b2, r2, rfl, hr2, rfl, by omega⟩
            | 2, hk => cases Option.some.inj hk; exact ⟨b3, r3, rfl, hr3, rfl, by omega⟩
            | 3, hk => cases Option.some.inj hk; exact ⟨b4, r4, rfl, hr4, rfl, by omega⟩
            | k + 4, hk => cases hk
          walk_at "lw go"
          refine ⟨rfl, g_yes (iteT ?_)⟩
          walk_at "lw go"
          refine g_ixL (SqL.of (s2 _ _ (st1 _ _ hl'))) (atI_nat hn) ?_
          refine ⟨_, hD2, by rw [List.length_take]; exact small1000 (by simp only [List.length_cons, List.length_nil]; omega), same_put s2 hD, ?_⟩
          rw [upd_same, List.take_add_one, hr0]
          rfl
        rintro H2 ⟨s2, hD2⟩
        have s12 := st1.trans s2
        walk_at "lw go"
        refine ⟨D, r1, r2, r3, r4, _, _, _, _, rfl, hD2, s12 _ _ hs1, s12 _ _ hs2, s12 _ _ hs3, s12 _ _ hs4, fun t2 H3 s3 h3 => ?_⟩
        walk_at "lw go"
        have s13 := s12.trans s3
        refine ⟨tyL (s13 _ _ hl'), ?_⟩
        walk_at "lw go"
        refine g_append (s13 _ _ hl') app ?_
        exact fin _ _ _ _ _ _ _ _ _ (0, 0) s13 h3
    · rintro σ H' ⟨o8, o9, o10, o11, o12, o13, o14, o15, rs, rfl, s, hl', hrs⟩
      rw [hwl, List.take_length] at hrs
      walk_at "lw go"
      exact q l H' rs s hl' hrs
abbrev N_must_ranges : List Str := ["steps", "low", "high"]
theorem sc_must_ranges : FnScope N_must_ranges ["steps"] (defScope s_must_ranges) := ⟨rfl, rfl, rfl, by decide +kernel, rfl, by decide +kernel, by decide +kernel⟩
theorem ok_must_ranges (F : FnP K "must_ranges" s_must_ranges f fd) (T : Bi mg) (G : Kn K mg) (D_ranges_of : Df P w K mg base "ranges_of" ["some", "seed", "box"] 4 (spRgs K)) : FnOk P w K mg base CX0 5 f fd ["steps"] (spMust K) := by
  refine F.ok sc_must_ranges (fun vs H Q E h => ?_) (fun cdv A outer s H vs Q E hr h => ⟨_, PSs.nox
(pss_one (ps_for PassesOwn.never rfl (pi_list (pe_df D_ranges_of (hr.mono (by first | decide | omega)) (pa_cons (pv 0) (pa_cons pe_int (pa_cons (pe_gR (by rfl) G.g_ALL_POINTS) pa_nil))))) (pg_tup (by rfl) (pgs_cons (pg_name (i := 1) sc_must_ranges.nd rfl (Or.inl rfl)) (pgs_cons (pg_name (i := 2) sc_must_ranges.nd rfl (Or.inl rfl)) pgs_nil)))
  (pss_one (ps_if (PW.pt (pw_or (pt_cmpR op_lt (pv 1) (pe_un un_neg (pe_gI (by rfl) G.c_GREATEST_VALUE)) (nomark _)) (pw_or1 (pt_cmpR op_gt (pv 2) (pe_gI (by rfl) G.c_GREATEST_VALUE) (nomark _)))))
  pss_never
  pss_nil)))), ?_⟩)
  · obtain ⟨a, ws, st, rfl, _⟩ := h
    rfl
  · obtain ⟨a, ws, st, rfl, hSq, hS, hOk, hOs, hSh, hSz, hlen, hA, q⟩ := h
    walk_at "lw i0"
    have eR := run_wide (g := 0) (x0 := -1000000) (z0 := -1000000) (x1 := 1000000) (z1 := 1000000) (by decide) (by decide) st hOs
    walk_at "lw go"
    refine ⟨a, He.ga K "ALL_POINTS", ws, st, 0, -1000000, -1000000, 1000000, 1000000, rfl, hSq, hS, hOk, hOs, G.v_ALL_POINTS H, ⟨by decide, by decide, by decide, by decide, by decide, by decide⟩, hSh, by unfold SzR; rw [eR]; exact hSz, hlen, fun l H1 vs' s1 hl hps => ?_⟩
    rw [eR] at hps
    refine ⟨l, rfl, ⟨vs', SqL.of hl⟩, for_list (xs := vs') (fun i σ H' => ∃ o1 o2 : Option V, σ = [some (.ref a), o1, o2] ∧ Same H1 H') ⟨none, none, rfl, Same.refl _⟩ (fun i σ H' _ ⟨_, _, _, s⟩ => SqL.of (s _ _ hl)) ?_ ?_⟩
    · rintro i y σ H' hy ⟨o1, o2, rfl, s⟩
      obtain ⟨ab, hab, p, rfl, hp⟩ := pairs_at hps hy
      have hi : i < st.length := by rw [← run_len (rngA wideN (-1000000) (-1000000) 1000000 1000000) st]; exact (List.getElem?_eq_some_iff.mp hab).1
      have hb := hA i hi
      have eg : ((rngA wideN (-1000000) (-1000000) 1000000 1000000).run st).getD i (0, 0) = ab := by simp [List.getD, hab]
      rw [eg] at hb
      walk_at "lw go"
      refine g_tupT (SqT.of (s _ _ hp)) rfl ?_
      walk_at "lw go"
      refine iteNo (by omega) ?_
      walk_at "lw go"
      rw [decide_eq_false (by omega)]
      walk_at "lw go"
      exact ⟨_, _, rfl, s⟩
    · rintro σ H' ⟨o1, o2, rfl, s⟩
      walk_at "lw go"
      exact q _ (s1.trans s)
abbrev N_steps_of : List Str := ["rules", "greatest", "made", "steps"]
theorem sc_steps_of : FnScope N_steps_of ["rules"] (defScope s_steps_of) := ⟨rfl, rfl, rfl, by decide +kernel, rfl, by decide +kernel, by decide +kernel⟩
theorem ok_steps_of (F : FnP K "steps_of" s_steps_of f fd) (T : Bi mg) (G : Kn K mg) (D_greatest_of : Df P w K mg base "greatest_of" ["rules"] 43 spGr) (D_placed : Df P w K mg base "placed" ["field", "dx", "dz", "lets", "made"] 61 (spPlaced 60)) (D_must_ranges : Df P w K mg base "must_ranges" ["steps"] 5 (spMust K)) : FnOk P w K mg base CX0 62 f fd ["rules"] spSteps := by
  refine F.ok sc_steps_of (fun vs H Q E h => ?_) (fun cdv A outer s H vs Q E hr h => ⟨_, PSs.nox
(pss_cons (ps_set (i := 1) sc_steps_of.nd rfl (Or.inl rfl) (pe_df D_greatest_of (hr.mono (by first | decide | omega)) (pa_cons (pv 0) pa_nil)))
  (pss_cons (ps_set (i := 2) sc_steps_of.nd rfl (Or.inl rfl) pe_dnewT)
  (pss_cons (ps_expr (pe_df D_placed (hr.mono (by first | decide | omega)) (pa_cons (pv 0) (pa_cons pe_int (pa_cons pe_int (pa_cons pe_dnewK (pa_cons (pv 2) pa_nil)))))))
  (pss_cons (ps_set (i := 3) sc_steps_of.nd rfl (Or.inl rfl) (pe_callTy (call_list_dT rfl) (by rfl) T.list (by decide +kernel) (pa_cons (pv 2) pa_nil)))
  (pss_cons (ps_if (pt_cmpR op_gt (pv 1) (pe_gI (by rfl) G.c_GREATEST_VALUE) (nomark _))
  (pss_one (ps_expr (pe_df D_must_ranges (hr.mono (by first | decide | omega)) (pa_cons (pv 3) pa_nil))))
  pss_nil)
  (pss_one (ps_ret (pv 3)))))))), ?_⟩)
  · obtain ⟨u, F, rfl, _⟩ := h
    rfl
  · obtain ⟨u, F, rfl, hF, hG, q⟩ := h
    walk_at "lw i0"
    walk_at "lw go"
    refine ⟨u, F, rfl, hF, hG, fun H1 s1 => ?_⟩
    walk_at "lw go"
    intro mk hmk
    have s2 : Same H _ := s1.trans (same_new (o := .dT []) hmk)
    walk_at "lw go"
    intro e he
    have s3 : Same H _ := s2.trans (same_new (o := .dK []) he)
    have mke : mk ≠ e := ne_of_none upd_same he
    walk_at "lw go"
    have hcn := hG.cn
    have hud := hG.ud
    refine ⟨u, F, 0, 0, e, mk, 0, [], [], [], rfl, hF.mono (same_tup s3), ⟨upd_same, rfl, rfl⟩, hG.bnd, by omega, by rw [upd_ne mke, upd_same]; rfl, by simp only [List.length_nil]; omega, by simp only [List.length_nil]; omega, fun H2 k2 h2 => ?_⟩
    have hmk0 : H mk = none := none_back (o := .dT []) (by
      cases e0 : H mk with
      | none => rfl
      | some v => rw [s1 _ _ e0] at hmk; cases hmk) (Same.refl H) (by
      cases e0 : H mk with
      | none => rfl
      | some v => rw [s1 _ _ e0] at hmk; cases hmk)
    have s4 : Same H H2 := fun a v ea => k2 _ _ (ne_of_none ea hmk0) (s3 _ _ ea)
    walk_at "lw go"
    refine ⟨mk, _, rfl, .inl h2, fun l bs hl hk => ?_⟩
    have hl0 : H l = none := none_of_same s4 hl
    have hst : StepsR H2 (bs.map V.ref) (stepsE (expand F [])) := steps_of_keys (n := 0) hk
    have s5 : Same H _ := s4.trans (same_new (o := .lst (bs.map V.ref)) hl)
    have hst5 := hst.mono (same_tup (same_new (o := .lst (bs.map V.ref)) hl))
    have io := into_ok (expand F []) 0 0 []
    have ok0 : OkE (expand F []) := ok_expand F [] hG.ok okR_nil
    walk_at "lw go"
    refine g_ite (fun hgt => ?_) (fun hgt => ?_)
    · walk_at "lw go"
      refine ⟨l, _, stepsE (expand F []), rfl, SqL.of upd_same, hst5, io.ok ok_nil, okS_into _ 0 0 [] ok0 (fun s hs => (nomatch hs)), shS_steps ok0 (by omega), ?_, ?_, ?_, fun H3 s6 => ?_⟩
      · exact all_into (expand F []) (-1000000) (-1000000) 1000000 1000000 0 0 [] ok_nil (fun p hp => (all_bits wide_ok (expand F []) (-1000000) (-1000000) 1000000 1000000 40 ok0 (by decide) ⟨by decide, by decide⟩ ⟨by decide, by decide⟩ p hp).mono hG.vb) (fun i hi => absurd hi (Nat.not_lt_zero i))
      · have := io.len
        simp only [List.length_nil] at this
        show (into (expand F []) 0 0 []).1.length ≤ 1000
        omega
      · exact all_into (expand F []) (-1000000) (-1000000) 1000000 1000000 0 0 [] ok_nil hG.rng (fun i hi => absurd hi (Nat.not_lt_zero i))
      · walk_at "lw go"
        exact q l H3 _ hl0 (s5.trans s6) (s6 _ _ upd_same) (hst5.mono (same_tup s6))
    · walk_at "lw go"
      exact q l _ _ hl0 s5 upd_same hst5
abbrev N_run_known : List Str := ["some", "seed", "x", "z", "known", "values", "step", "word", "value"]
theorem sc_run_known : FnScope N_run_known ["some", "seed", "x", "z", "known"] (defScope s_run_known) := ⟨rfl, rfl, rfl, by decide +kernel, rfl, by decide +kernel, by decide +kernel⟩
theorem ok_run_known (F : FnP K "run_known" s_run_known f fd) (T : Bi mg) (G : Kn K mg) (D_noise_value : Df P w K mg base "noise_value" ["seed", "salt", "log", "x", "z", "known"] 2 spNV) : FnOk P w K mg base CX0 3 f fd ["some", "seed", "x", "z", "known"] (spRun K) := by
  refine F.ok sc_run_known (fun vs H Q E h => ?_) (fun cdv A outer s H vs Q E hr h => ⟨_, PSs.nox
(pss_cons (ps_set (i := 5) sc_run_known.nd rfl (Or.inl rfl) (pe_lst pa_nil))
  (pss_cons (ps_for PassesOwn.never rfl (pi_list (pv 0)) (pg_name (i := 6) sc_run_known.nd rfl (Or.inl rfl))
  (pss_cons (ps_set (i := 7) sc_run_known.nd rfl (Or.inl rfl) (pe_ix ix_tup (pv 6) pe_int (fun _ _ => rfl)))
  (pss_cons (ps_if (pt_cmpR op_eq (pv 7) pe_str (nomark _))
  (pss_one (ps_set (i := 8) sc_run_known.nd rfl (Or.inl rfl) (pe_df D_noise_value (hr.mono (by first | decide | omega)) (pa_cons (pv 1) (pa_cons (pe_ix ix_tup (pv 6) pe_int (fun _ _ => rfl)) (pa_cons (pe_ix ix_tup (pv 6) pe_int (fun _ _ => rfl)) (pa_cons (pe_op op_add (pv 2) (pe_ix ix_tup (pv 6) pe_int (fun _ _ => rfl))) (pa_cons (pe_op op_add (pv 3) (pe_ix ix_tup (pv 6) pe_int (fun _ _ => rfl))) (pa_cons (pv 4) pa_nil)))))))))
  (pss_one (ps_if (pt_cmpR op_eq (pv 7) pe_str (nomark _))
  (pss_one (ps_set (i := 8) sc_run_known.nd rfl (Or.inl rfl) (pe_op op_add (pe_ix ix_list (pv 5) (pe_ix ix_tup (pv 6) pe_int (fun _ _ => rfl)) (fun _ _ => rfl)) (pe_ix ix_list (pv 5) (pe_ix ix_tup (pv 6) pe_int (fun _ _ => rfl)) (fun _ _ => rfl)))))
  (pss_one (ps_if (pt_cmpR op_eq (pv 7) pe_str (nomark _))
  (pss_one (ps_set (i := 8) sc_run_known.nd rfl (Or.inl rfl) (pe_ix ix_tup (pv 6) pe_int (fun _ _ => rfl))))
  (pss_one (ps_if (pt_cmpR op_eq (pv 7) pe_str (nomark _))
  (pss_one (ps_set (i := 8) sc_run_known.nd rfl (Or.inl rfl) (pe_op op_add (pv 2) (pe_ix ix_tup (pv 6) pe_int (fun _ _ => rfl)))))
  (pss_one (ps_if (pt_cmpR op_eq (pv 7) pe_str (nomark _))
  (pss_one (ps_set (i := 8) sc_run_known.nd rfl (Or.inl rfl) (pe_op op_add (pv 3) (pe_ix ix_tup (pv 6) pe_int (fun _ _ => rfl)))))
  (pss_one (ps_if (pt_cmpR op_eq (pv 7) pe_str (nomark _))
  (pss_one (ps_set (i := 8) sc_run_known.nd rfl (Or.inl rfl) (pe_op op_fdivW (pe_ix ix_list (pv 5) (pe_ix ix_tup (pv 6) pe_int (fun _ _ => rfl)) (fun _ _ => rfl)) (pe_ix ix_tup (pv 6) pe_int (fun _ _ => rfl)))))
  (pss_one (ps_if (pt_cmpR op_eq (pv 7) pe_str (nomark _))
  (pss_one (ps_set (i := 8) sc_run_known.nd rfl (Or.inl rfl) (pe_op op_sub (pe_ix ix_list (pv 5) (pe_ix ix_tup (pv 6) pe_int (fun _ _ => rfl)) (fun _ _ => rfl)) (pe_ix ix_list (pv 5) (pe_ix ix_tup (pv 6) pe_int (fun _ _ => rfl)) (fun _ _ => rfl)))))
  (pss_one (ps_if (pt_cmpR op_eq (pv 7) pe_str (nomark _))
  (pss_one (ps_set (i := 8) sc_run_known.nd rfl (Or.inl rfl) (pe_op op_mulW (pe_ix ix_list (pv 5) (pe_ix ix_tup (pv 6) pe_int (fun _ _ => rfl)) (fun _ _ => rfl)) (pe_ix ix_list (pv 5) (pe_ix ix_tup (pv 6) pe_int (fun _ _ => rfl)) (fun _ _ => rfl)))))
  (pss_one (ps_if (pt_cmpR op_eq (pv 7) pe_str (nomark _))
  (pss_one (ps_set (i := 8) sc_run_known.nd rfl (Or.inl rfl) (pe_callB (call_min2 rfl) (by rfl) T.min (by decide +kernel) (pa_cons (pe_ix ix_list (pv 5) (pe_ix ix_tup (pv 6) pe_int (fun _ _ => rfl)) (fun _ _ => rfl)) (pa_cons (pe_ix ix_list (pv 5) (pe_ix ix_tup (pv 6) pe_int (fun _ _ => rfl)) (fun _ _ => rfl)) pa_nil)))))
  (pss_one (ps_if (pt_cmpR op_eq (pv 7) pe_str (nomark _))
  (pss_one (ps_set (i := 8) sc_run_known.nd rfl (Or.inl rfl) (pe_callB (call_max2 rfl) (by rfl) T.max (by decide +kernel) (pa_cons (pe_ix ix_list (pv 5) (pe_ix ix_tup (pv 6) pe_int (fun _ _ => rfl)) (fun _ _ => rfl)) (pa_cons (pe_ix ix_list (pv 5) (pe_ix ix_tup (pv 6) pe_int (fun _ _ => rfl)) (fun _ _ => rfl)) pa_nil)))))
  (pss_one (ps_set (i := 8) sc_run_known.nd rfl (Or.inl rfl) (pe_ix ix_list (pv 5) (pe_ifExp (pt_cmpR op_lt (pe_ix ix_list (pv 5) (pe_ix ix_tup (pv 6) pe_int (fun _ _ => rfl)) (fun _ _ => rfl)) (pe_ix ix_list (pv 5) (pe_ix ix_tup (pv 6) pe_int (fun _ _ => rfl)) (fun _ _ => rfl)) (nomark _)) (pe_ix ix_tup (pv 6) pe_int (fun _ _ => rfl)) (pe_ix ix_tup (pv 6) pe_int (fun _ _ => rfl))) (fun _ _ => rfl)))))))))))))))))))))))
  (pss_one (ps_expr (pe_bm PySem.F.plainAttrs_list PySem.F.slot_list_append PySem.F.type_list_append mt_append (pv 5) (pa_cons (pv 8) pa_nil)))))))
  (pss_one (ps_ret (pe_ix ix_list (pv 5) (pe_un un_neg pe_int) (fun _ _ => rfl)))))), ?_⟩)
  · obtain ⟨a, ws, st, g, x, z, rfl, _⟩ := h
    rfl
  · obtain ⟨a, ws, st, g, x, z, rfl, hSq, hS, hOk, hOs, hSz, hne, hlen, q⟩ := h
    walk_at "lw i0"
    have hwl : ws.length = st.length := Paired.length hS
    walk_at "lw go"
    refine ⟨by show 0 ≤ sizeLine; decide, fun l hl => ?_⟩
    walk_at "lw go"
    refine ⟨a, rfl, ⟨ws, Same.seq (same_new hl) hSq⟩, for_list (xs := ws) (fun i σ H' => ∃ o6 o7 o8 : Option V, σ = [some (.ref a), some (.int g), some (.int x), some (.int z), some .non, some (.ref l), o6, o7, o8] ∧ Same H H' ∧ H' l = some (.lst (((valA g x z).run (st.take i)).map V.int)))
      ⟨none, none, none, rfl, same_new hl, upd_same⟩ (fun i σ H' _ ⟨_, _, _, _, s, _⟩ => Same.seq s hSq) ?_ ?_⟩
    · rintro i y σ H' hy ⟨o6, o7, o8, rfl, s, hl'⟩
      obtain ⟨t, hst, p, rfl, hp0⟩ := steps_at hS hy
      have hp := s _ _ hp0
      have hi : i < st.length := by rw [← hwl]; exact (List.getElem?_eq_some_iff.mp hy).1
      obtain ⟨vals, hvals⟩ : ∃ vals, (valA g x z).run (st.take i) = vals := ⟨_, rfl⟩
      have vlen : vals.length = i := by rw [← hvals, run_len, List.length_take]; omega
      have hnext : (valA g x z).run (st.take (i + 1)) = vals ++ [(valA g x z).step t vals] := by
        rw [List.take_add_one, hst, ← hvals]
        exact run_snoc _ _ _
      have hbits : ∀ j, j < i → (vals.getD j 0).natAbs < 2 ^ 200000 := fun j hj => by
        have e := run_get (valA g x z) (List.take_prefix i st) (i := j) (by rw [List.length_take]; omega)
        have b := hSz j (by omega)
        rw [hvals] at e
        have e' : ((valA g x z).run st).getD j 0 = vals.getD j 0 := e
        rw [e'] at b
        exact b
      have hos := hOs t (List.mem_of_getElem? hst)
      have hlt := hOk i t hst
      rw [hvals] at hl'
      have fin : ∀ (v : Int) (H2 : Hp) (u7 u8 : Option V), Same H' H2 → H2 l = some (.lst (vals.map V.int)) → v = (valA g x z).step t vals →
          ∃ o6 o7 o8 : Option V, [some (.ref a), some (.int g), some (.int x), some (.int z), some .non, some (.ref l), some (.ref p), u7, u8] = [some (.ref a), some (.int g), some (.int x), some (.int z), some .non, some (.ref l), o6, o7, o8] ∧ Same H (upd H2 l (.lst (vals.map V.int ++ [.int v]))) ∧ (upd H2 l (.lst (vals.map V.int ++ [.int v]))) l = some (.lst (((valA g x z).run (st.take (i + 1))).map V.int)) := fun v H2 u7 u8 s2 h2 ev =>
        ⟨_, _, _, rfl, same_put (s.trans s2) hl, by rw [upd_same, hnext, List.map_append, ev]; rfl⟩
      have app : (vals.map V.int).length < sizeLine := by rw [List.length_map, vlen]; exact small1000 (by omega)
      clear hvals hnext hSz hOk hOs hS q
      cases t with
      | noise s0 l0 dx dz =>
        have hl0 : 0 ≤ l0 := hos.1
        have hl8 : l0 ≤ 8 := hos.2
        walk_at "lw go"
        refine g_ixT (SqT.of hp) (v := .str "noise") rfl ?_
        walk_at "lw go"
        refine g_ixT (SqT.of hp) (v := .int s0) (atI_nat (j := 1) (by rfl)) ?_
        walk_at "lw go"
        refine g_ixT (SqT.of hp) (v := .int l0) (atI_nat (j := 2) (by rfl)) ?_
        walk_at "lw go"
        refine g_ixT (SqT.of hp) (v := .int dx) (atI_nat (j := 3) (by rfl)) ?_
        walk_at "lw go"
        refine g_ixT (SqT.of hp) (v := .int dz) (atI_nat (j := 4) (by rfl)) ?_
        walk_at "lw go"
        refine ⟨g, s0, l0, x + dx, z + dz, rfl, hl0, hl8, fun H2 s2 => ?_⟩
        walk_at "lw go"
        refine ⟨tyL (s2 _ _ hl'), ?_⟩
        walk_at "lw go"
        refine g_append (s2 _ _ hl') app ?_
        exact fin _ _ _ _ s2 (s2 _ _ hl') rfl
      | whole n =>
        walk_at "lw go"
        refine g_ixT (SqT.of hp) (v := .str "whole") rfl ?_
        walk_at "lw go"
        refine g_ixT (SqT.of hp) (v := .int n) (atI_nat (j := 1) (by rfl)) ?_
        walk_at "lw go"
        refine ⟨tyL hl', ?_⟩
        walk_at "lw go"
        refine g_append hl' app ?_
        exact fin _ _ _ _ (Same.refl _) hl' rfl
      | px d =>
        walk_at "lw go"
        refine g_ixT (SqT.of hp) (v := .str "x") rfl ?_
        walk_at "lw go"
        refine g_ixT (SqT.of hp) (v := .int d) (atI_nat (j := 1) (by rfl)) ?_
        walk_at "lw go"
        refine ⟨tyL hl', ?_⟩
        walk_at "lw go"
        refine g_append hl' app ?_
        exact fin _ _ _ _ (Same.refl _) hl' rfl
      | pz d =>
        walk_at "lw go"
        refine g_ixT (SqT.of hp) (v := .str "z") rfl ?_
        walk_at "lw go"
        refine g_ixT (SqT.of hp) (v := .int d) (atI_nat (j := 1) (by rfl)) ?_
        walk_at "lw go"
        refine ⟨tyL hl', ?_⟩
        walk_at "lw go"
        refine g_append hl' app ?_
        exact fin _ _ _ _ (Same.refl _) hl' rfl
      | over j n =>
        have hj : j < i := hlt
        have hn1 : 1 ≤ n := hos.1
        have hn2 : n ≤ 1000000000 := hos.2
        walk_at "lw go"
        refine g_ixT (SqT.of hp) (v := .str "over") rfl ?_
        walk_at "lw go"
        refine g_ixT (SqT.of hp) (v := .int (j : Int)) (atI_nat (j := 1) (by rfl)) ?_
        walk_at "lw go"
        refine g_ixL (SqL.of hl') (at_ints (by omega)) ?_
        walk_at "lw go"
        refine g_ixT (SqT.of hp) (v := .int n) (atI_nat (j := 2) (by rfl)) ?_
        walk_at "lw go"
        refine ⟨tyL hl', ?_⟩
        walk_at "lw go"
        refine g_append hl' app ?_
        exact fin _ _ _ _ (Same.refl _) hl' rfl
      | bel b1 b2 b3 b4 =>
        have hj : b1 < i ∧ b2 < i ∧ b3 < i ∧ b4 < i := hlt
        walk_at "lw go"
        refine g_ixT (SqT.of hp) (v := .str "below") rfl ?_
        walk_at "lw go"
        refine g_ixT (SqT.of hp) (v := .int (b1 : Int)) (atI_nat (j := 1) (by rfl)) ?_
        walk_at "lw go"
        refine g_ixL (SqL.of hl') (at_ints (by omega)) ?_
        walk_at "lw go"
        refine g_ixT (SqT.of hp) (v := .int (b2 : Int)) (atI_nat (j := 2) (by rfl)) ?_
        walk_at "lw go"
        refine g_ixL (SqL.of hl') (at_ints (by omega)) ?_
        walk_at "lw go"
        refine g_ite (fun hlt => ?_) (fun hlt => ?_)
        · walk_at "lw go"
          refine g_ixT (SqT.of hp) (v := .int (b3 : Int)) (atI_nat (j := 3) (by rfl)) ?_
          walk_at "lw go"
          refine g_ixL (SqL.of hl') (at_ints (by omega)) ?_
          walk_at "lw go"
          refine ⟨tyL hl', ?_⟩
          walk_at "lw go"
          refine g_append hl' app ?_
          exact fin _ _ _ _ (Same.refl _) hl' (if_pos hlt).symm
        · walk_at "lw go"
          refine g_ixT (SqT.of hp) (v := .int (b4 : Int)) (atI_nat (j := 4) (by rfl)) ?_
          walk_at "lw go"
          refine g_ixL (SqL.of hl') (at_ints (by omega)) ?_
          walk_at "lw go"
          refine ⟨tyL hl', ?_⟩
          walk_at "lw go"
          refine g_append hl' app ?_
          exact fin _ _ _ _ (Same.refl _) hl' (if_neg hlt).symm
      | two c j1 j2 =>
        have hj : j1 < i ∧ j2 < i := hlt
        have hm : CMulW (vals.getD j1 0) (vals.getD j2 0) := wide_mul (hbits j1 hj.1) (hbits j2 hj.2) (by decide) (by decide) (by decide)
        cases c with
        | plus =>
          walk_at "lw go"
          refine g_ixT (SqT.of hp) (v := .str "plus") rfl ?_
          walk_at "lw go"
          refine g_ixT (SqT.of hp) (v := .int (j1 : Int)) (atI_nat (j := 1) (by rfl)) ?_
          walk_at "lw go"
          refine g_ixL (SqL.of hl') (at_ints (by omega)) ?_
          walk_at "lw go"
          refine g_ixT (SqT.of hp) (v := .int (j2 : Int)) (atI_nat (j := 2) (by rfl)) ?_
          walk_at "lw go"
          refine g_ixL (SqL.of hl') (at_ints (by omega)) ?_
          walk_at "lw go"
          refine ⟨tyL hl', ?_⟩
          walk_at "lw go"
          refine g_append hl' app ?_
          exact fin _ _ _ _ (Same.refl _) hl' rfl
        | less =>
          walk_at "lw go"
          refine g_ixT (SqT.of hp) (v := .str "less") rfl ?_
          walk_at "lw go"
          refine g_ixT (SqT.of hp) (v := .int (j1 : Int)) (atI_nat (j := 1) (by rfl)) ?_
          walk_at "lw go"
          refine g_ixL (SqL.of hl') (at_ints (by omega)) ?_
          walk_at "lw go"
          refine g_ixT (SqT.of hp) (v := .int (j2 : Int)) (atI_nat (j := 2) (by rfl)) ?_
          walk_at "lw go"
          refine g_ixL (SqL.of hl') (at_ints (by omega)) ?_
          walk_at "lw go"
          refine ⟨tyL hl', ?_⟩
          walk_at "lw go"
          refine g_append hl' app ?_
          exact fin _ _ _ _ (Same.refl _) hl' rfl
        | times =>
          walk_at "lw go"
          refine g_ixT (SqT.of hp) (v := .str "times") rfl ?_
          walk_at "lw go"
          refine g_ixT (SqT.of hp) (v := .int (j1 : Int)) (atI_nat (j := 1) (by rfl)) ?_
          walk_at "lw go"
          refine g_ixL (SqL.of hl') (at_ints (by omega)) ?_
          walk_at "lw go"
          refine g_ixT (SqT.of hp) (v := .int (j2 : Int)) (atI_nat (j := 2) (by rfl)) ?_
          walk_at "lw go"
          refine g_ixL (SqL.of hl') (at_ints (by omega)) ?_
          refine g_I hm ?_
          walk_at "lw go"
          refine ⟨tyL hl', ?_⟩
          walk_at "lw go"
          refine g_append hl' app ?_
          exact fin _ _ _ _ (Same.refl _) hl' rfl
        | least =>
          walk_at "lw go"
          refine g_ixT (SqT.of hp) (v := .str "least") rfl ?_
          walk_at "lw go"
          refine g_ixT (SqT.of hp) (v := .int (j1 : Int)) (atI_nat (j := 1) (by rfl)) ?_
          walk_at "lw go"
          refine g_ixL (SqL.of hl') (at_ints (by omega)) ?_
          walk_at "lw go"
          refine g_ixT (SqT.of hp) (v := .int (j2 : Int)) (atI_nat (j := 2) (by rfl)) ?_
          walk_at "lw go"
          refine g_ixL (SqL.of hl') (at_ints (by omega)) ?_
          walk_at "lw go"
          refine ⟨_, _, rfl, ?_⟩
          walk_at "lw go"
          refine ⟨tyL hl', ?_⟩
          walk_at "lw go"
          refine g_append hl' app ?_
          exact fin _ _ _ _ (Same.refl _) hl' rfl
        | most =>
          walk_at "lw go"
          refine g_ixT (SqT.of hp) (v := .str "most") rfl ?_
          walk_at "lw go"
          refine g_ixT (SqT.of hp) (v := .int (j1 : Int)) (atI_nat (j := 1) (by rfl)) ?_
          walk_at "lw go"
          refine g_ixL (SqL.of hl') (at_ints (by omega)) ?_
          walk_at "lw go"
          refine g_ixT (SqT.of hp) (v := .int (j2 : Int)) (atI_nat (j := 2) (by rfl)) ?_
          walk_at "lw go"
          refine g_ixL (SqL.of hl') (at_ints (by omega)) ?_
          walk_at "lw go"
          refine ⟨_, _, rfl, ?_⟩
          walk_at "lw go"
          refine ⟨tyL hl', ?_⟩
          walk_at "lw go"
          refine g_append hl' app ?_
          exact fin _ _ _ _ (Same.refl _) hl' rfl
    · rintro σ H' ⟨o6, o7, o8, rfl, s, hl'⟩
      rw [hwl, List.take_length] at hl'
      have hpos : 0 < st.length := List.length_pos_iff.mpr hne
      walk_at "lw go"
      refine g_ixL (SqL.of hl') (at_last (n := st.length - 1) (by rw [run_len]; omega)) ?_
      exact q _ s
abbrev N_run_steps : List Str := ["some", "seed", "x", "z"]
theorem sc_run_steps : FnScope N_run_steps ["some", "seed", "x", "z"] (defScope s_run_steps) := ⟨rfl, rfl, rfl, by decide +kernel, rfl, by decide +kernel, by decide +kernel⟩
theorem ok_run_steps (F : FnP K "run_steps" s_run_steps f fd) (T : Bi mg) (G : Kn K mg) (D_run_known : Df P w K mg base "run_known" ["some", "seed", "x", "z", "known"] 3 (spRun K)) : FnOk P w K mg base CX0 4 f fd ["some", "seed", "x", "z"] (spRunS K) := by
  refine F.ok sc_run_steps (fun vs H Q E h => ?_) (fun cdv A outer s H vs Q E hr h => ⟨_, PSs.nox
(pss_one (ps_ret (pe_df D_run_known (hr.mono (by first | decide | omega)) (pa_cons (pv 0) (pa_cons (pv 1) (pa_cons (pv 2) (pa_cons (pv 3) (pa_cons pe_non pa_nil)))))))), ?_⟩)
  · obtain ⟨a, ws, st, g, x, z, rfl, _⟩ := h
    rfl
  · obtain ⟨a, ws, st, g, x, z, rfl, h1, h2, h3, h4, h5, h6, h7, q⟩ := h
    walk_at "lw i0"
    walk_at "lw go"
    exact ⟨a, ws, st, g, x, z, rfl, h1, h2, h3, h4, h5, h6, h7, q⟩
abbrev N_value_at : List Str := ["rules", "seed", "x", "z", "steps"]
theorem sc_value_at : FnScope N_value_at ["rules", "seed", "x", "z"] (defScope s_value_at) := ⟨rfl, rfl, rfl, by decide +kernel, rfl, by decide +kernel, by decide +kernel⟩
theorem ok_value_at (F : FnP K "value_at" s_value_at f fd) (T : Bi mg) (G : Kn K mg) (D_steps_of : Df P w K mg base "steps_of" ["rules"] 62 spSteps) (D_must_point : Df P w K mg base "must_point" ["x", "z"] 2 spMustPt) (D_run_steps : Df P w K mg base "run_steps" ["some", "seed", "x", "z"] 4 (spRunS K)) : FnOk P w K mg base CX0 63 f fd ["rules", "seed", "x", "z"] spVal := by
  refine F.ok sc_value_at (fun vs H Q E h => ?_) (fun cdv A outer s H vs Q E hr h => ⟨_, PSs.nox
(pss_cons (ps_set (i := 4) sc_value_at.nd rfl (Or.inl rfl) (pe_df D_steps_of (hr.mono (by first | decide | omega)) (pa_cons (pv 0) pa_nil)))
  (pss_cons (ps_expr (pe_df D_must_point (hr.mono (by first | decide | omega)) (pa_cons (pv 2) (pa_cons (pv 3) pa_nil))))
  (pss_one (ps_ret (pe_df D_run_steps (hr.mono (by first | decide | omega)) (pa_cons (pv 4) (pa_cons (pv 1) (pa_cons (pv 2) (pa_cons (pv 3) pa_nil))))))))), ?_⟩)
  · obtain ⟨u, F, g, x, z, rfl, _⟩ := h
    rfl
  · obtain ⟨u, F, g, x, z, rfl, hF, hG, x0, x1, z0, z1, q⟩ := h
    walk_at "lw i0"
    have hV := stV hG (g := g) (small_pt x0 x1) (small_pt z0 z1)
    walk_at "lw go"
    refine ⟨u, F, rfl, hF, hG, fun lf H2 w2 nlf s5 h2 hS2 => ?_⟩
    walk_at "lw go"
    refine ⟨x, z, rfl, x0, x1, z0, z1, ?_⟩
    walk_at "lw go"
    refine ⟨lf, w2, _, g, x, z, rfl, SqL.of h2, hS2, hV.ok, hV.oks, hV.szd, hV.ne, hV.len, fun H8 s8 => ?_⟩
    rw [hV.val]
    walk_at "lw go"
    exact q _ (s5.trans s8)
abbrev N_steps_range : List Str := ["steps", "seed", "box", "value"]
theorem sc_steps_range : FnScope N_steps_range ["steps", "seed", "box"] (defScope s_steps_range) := ⟨rfl, rfl, rfl, by decide +kernel, rfl, by decide +kernel, by decide +kernel⟩
theorem ok_steps_range (F : FnP K "steps_range" s_steps_range f fd) (T : Bi mg) (G : Kn K mg) (D_run_steps : Df P w K mg base "run_steps" ["some", "seed", "x", "z"] 4 (spRunS K)) (D_ranges_of : Df P w K mg base "ranges_of" ["some", "seed", "box"] 4 (spRgs K)) : FnOk P w K mg base CX0 5 f fd ["steps", "seed", "box"] (spStR K) := by
  refine F.ok sc_steps_range (fun vs H Q E h => ?_) (fun cdv A outer s H vs Q E hr h => ⟨_, PSs.nox
(pss_cons (ps_if (PW.pt (pw_and (pt_cmpR op_eq (pe_ix ix_tup (pv 2) pe_int (fun _ _ => rfl)) (pe_ix ix_tup (pv 2) pe_int (fun _ _ => rfl)) (nomark _)) (pw_and1 (pt_cmpR op_eq (pe_ix ix_tup (pv 2) pe_int (fun _ _ => rfl)) (pe_ix ix_tup (pv 2) pe_int (fun _ _ => rfl)) (nomark _)))))
  (pss_cons (ps_set (i := 3) sc_steps_range.nd rfl (Or.inl rfl) (pe_df D_run_steps (hr.mono (by first | decide | omega)) (pa_cons (pv 0) (pa_cons (pv 1) (pa_cons (pe_ix ix_tup (pv 2) pe_int (fun _ _ => rfl)) (pa_cons (pe_ix ix_tup (pv 2) pe_int (fun _ _ => rfl)) pa_nil))))))
  (pss_one (ps_ret (pe_tup (pa_cons (pv 3) (pa_cons (pv 3) pa_nil))))))
  pss_nil)
  (pss_one (ps_ret (pe_ix ix_list (pe_df D_ranges_of (hr.mono (by first | decide | omega)) (pa_cons (pv 0) (pa_cons (pv 1) (pa_cons (pv 2) pa_nil)))) (pe_un un_neg pe_int) (fun _ _ => rfl))))), ?_⟩)
  · obtain ⟨a, b, ws, st, g, x0, z0, x1, z1, rfl, _⟩ := h
    rfl
  · obtain ⟨a, b, ws, st, g, x0, z0, x1, z1, rfl, hb, h1, h2, h3, h4, hSh, hB, h5, hSz, h6, h7, q⟩ := h
    walk_at "lw i0"
    have hl0 : 0 < st.length := List.length_pos_iff.mpr h6
    walk_at "lw go"
    refine g_ixT (SqT.of hb) (v := .int x0) (atI_nat (j := 0) (by rfl)) ?_
    walk_at "lw go"
    refine g_ixT (SqT.of hb) (v := .int x1) (atI_nat (j := 2) (by rfl)) ?_
    walk_at "lw go"
    have wide : ¬ (x0 = x1 ∧ z0 = z1) → _ := fun hn => show PrTo H Q (((rngA (exactN g) x0 z0 x1 z1).run st).getD (st.length - 1) (0, 0)) by
      unfold rngOf at q
      rw [if_neg hn] at q
      exact q
    refine g_ite (fun e1 => ?_) (fun e1 => ?_)
    · obtain rfl : x0 = x1 := by injection e1
      walk_at "lw go"
      refine g_ixT (SqT.of hb) (v := .int z0) (atI_nat (j := 1) (by rfl)) ?_
      walk_at "lw go"
      refine g_ixT (SqT.of hb) (v := .int z1) (atI_nat (j := 3) (by rfl)) ?_
      walk_at "lw go"
      refine g_ite (fun e2 => ?_) (fun e2 => ?_)
      · obtain rfl : z0 = z1 := by injection e2
        have q' : PrTo H Q (((valA g x0 z0).run st).getD (st.length - 1) 0, ((valA g x0 z0).run st).getD (st.length - 1) 0) := by
          unfold rngOf at q
          rw [if_pos ⟨rfl, rfl⟩] at q
          exact q
        walk_at "lw go"
        refine g_ixT (SqT.of hb) (v := .int x0) (atI_nat (j := 0) (by rfl)) ?_
        walk_at "lw go"
        refine g_ixT (SqT.of hb) (v := .int z0) (atI_nat (j := 1) (by rfl)) ?_
        walk_at "lw go"
        refine ⟨a, ws, st, g, x0, z0, rfl, h1, h2, h3, h4, h5, h6, h7, fun H1 s1 => ?_⟩
        walk_at "lw go"
        exact q'.new rfl rfl s1
      · have q' := wide (fun e => e2 (by rw [e.2]))
        walk_at "lw go"
        refine ⟨a, b, ws, st, g, x0, z0, x0, z1, rfl, h1, h2, h3, h4, SqT.of hb, hB, hSh, hSz, h7, fun l H1 vs' s1 hl hps => ?_⟩
        obtain ⟨p, hp1, hp2⟩ := pr_last hps (run_len _ _) hl0
        walk_at "lw go"
        refine g_ixL (SqL.of hl) hp1 ?_
        exact q' p H1 s1 hp2
    · have q' := wide (fun e => e1 (by rw [e.1]))
      walk_at "lw go"
      refine ⟨a, b, ws, st, g, x0, z0, x1, z1, rfl, h1, h2, h3, h4, SqT.of hb, hB, hSh, hSz, h7, fun l H1 vs' s1 hl hps => ?_⟩
      obtain ⟨p, hp1, hp2⟩ := pr_last hps (run_len _ _) hl0
      walk_at "lw go"
      refine g_ixL (SqL.of hl) hp1 ?_
      exact q' p H1 s1 hp2
abbrev N_bounds_of : List Str := ["rules", "seed", "box", "steps"]
theorem sc_bounds_of : FnScope N_bounds_of ["rules", "seed", "box"] (defScope s_bounds_of) := ⟨rfl, rfl, rfl, by decide +kernel, rfl, by decide +kernel, by decide +kernel⟩
theorem ok_bounds_of (F : FnP K "bounds_of" s_bounds_of f fd) (T : Bi mg) (G : Kn K mg) (D_steps_of : Df P w K mg base "steps_of" ["rules"] 62 spSteps) (D_must_box : Df P w K mg base "must_box" ["box"] 3 spMustBox) (D_steps_range : Df P w K mg base "steps_range" ["steps", "seed", "box"] 5 (spStR K)) : FnOk P w K mg base CX0 63 f fd ["rules", "seed", "box"] spBnds := by
  refine F.ok sc_bounds_of (fun vs H Q E h => ?_) (fun cdv A outer s H vs Q E hr h => ⟨_, PSs.nox
(pss_cons (ps_set (i := 3) sc_bounds_of.nd rfl (Or.inl rfl) (pe_df D_steps_of (hr.mono (by first | decide | omega)) (pa_cons (pv 0) pa_nil)))
  (pss_cons (ps_expr (pe_df D_must_box (hr.mono (by first | decide | omega)) (pa_cons (pv 2) pa_nil)))
  (pss_one (ps_ret (pe_df D_steps_range (hr.mono (by first | decide | omega)) (pa_cons (pv 3) (pa_cons (pv 1) (pa_cons (pv 2) pa_nil)))))))), ?_⟩)
  · obtain ⟨u, F, g, x0, z0, x1, z1, b, rfl, _⟩ := h
    rfl
  · obtain ⟨u, F, g, x0, z0, x1, z1, b, rfl, hF, hG, hb, ho, q⟩ := h
    walk_at "lw i0"
    have hV := stV hG (g := g) (x := x0) (z := z0) (small_pt (by have := ho.1; omega) (by have := ho.1; omega)) (small_pt (by have := ho.2; omega) (by have := ho.2; omega))
    have hB := stB hG (g := g) ho
    walk_at "lw go"
    refine ⟨u, F, rfl, hF, hG, fun lf H2 w2 nlf s5 h2 hS2 => ?_⟩
    walk_at "lw go"
    refine ⟨b, x0, z0, x1, z1, rfl, s5 _ _ hb, ho, ?_⟩
    walk_at "lw go"
    refine ⟨lf, b, w2, _, g, x0, z0, x1, z1, rfl, s5 _ _ hb, SqL.of h2, hS2, hV.ok, hV.oks, hB.sh, hB.box, hV.szd, hB.szr, hV.ne, hV.len, fun t H3 s6 h3 => ?_⟩
    rw [hB.rng] at h3
    exact q t H3 (s5.trans s6) h3
abbrev N_law_at : List Str := ["_law_script", "_law_k"]
theorem sc_law_at : FnScope N_law_at ["_law_script", "_law_k"] (defScope s_law_at) := ⟨rfl, rfl, rfl, by decide +kernel, rfl, by decide +kernel, by decide +kernel⟩
theorem ok_law_at (F : FnP K "_law_at" s_law_at f fd) (T : Bi mg) (G : Kn K mg)  : FnOk P w K mg base CX0 1 f fd ["_law_script", "_law_k"] (spAt K) := by
  refine F.ok sc_law_at (fun vs H Q E h => ?_) (fun cdv A outer s H vs Q E hr h => ⟨_, PSs.nox
(pss_cons (ps_if (pt_cmpR op_lt (pv 1) (pe_callB call_len_seq (by rfl) T.len (by decide +kernel) (pa_cons (pv 0) pa_nil)) (nomark _))
  (pss_one (ps_ret (pe_ix ix_list (pv 0) (pv 1) (fun _ _ => rfl))))
  pss_nil)
  (pss_one (ps_ret pe_int))), ?_⟩)
  · obtain ⟨a, ns, k, rfl, _⟩ := h
    rfl
  · obtain ⟨a, ns, k, rfl, hS, hk, q⟩ := h
    walk_at "lw i0"
    walk_at "lw go"
    refine ⟨_, _, rfl, .inl hS, ?_⟩
    walk_at "lw go"
    refine g_ite (fun h => ?_) (fun h => ?_)
    · walk_at "lw go"
      rw [List.length_map] at h
      obtain ⟨m, rfl⟩ : ∃ m : Nat, k = (m : Int) := ⟨k.toNat, by omega⟩
      refine g_ixL hS (v := .int (ns[m]'(by omega))) (atI_nat ?_) (q _)
      rw [List.getElem?_map, List.getElem?_eq_getElem (by omega)]
      rfl
    · walk_at "lw go"
      exact q 0
abbrev N_law_mixed : List Str := ["_law_cell", "_law_k", "_law_number_here"]
theorem sc_law_mixed : FnScope N_law_mixed ["_law_cell", "_law_k"] (defScope s_law_mixed) := ⟨rfl, rfl, rfl, by decide +kernel, rfl, by decide +kernel, by decide +kernel⟩
theorem ok_law_mixed (F : FnP K "_law_mixed" s_law_mixed f fd) (T : Bi mg) (G : Kn K mg)  : FnOk P w K mg base CX0 1 f fd ["_law_cell", "_law_k"] spMixed := by
  refine F.ok sc_law_mixed (fun vs H Q E h => ?_) (fun cdv A outer s H vs Q E hr h => ⟨_, PSs.nox
(pss_cons (ps_set (i := 2) sc_law_mixed.nd rfl (Or.inl rfl) (pe_op op_mod (pe_op op_add (pe_op op_add (pe_op op_add (pe_op op_mul (pv 0) pe_int) (pe_op op_mul (pe_op op_mul pe_int (pv 1)) (pv 1))) (pv 1)) pe_int) pe_int))
  (pss_cons (ps_set (i := 2) sc_law_mixed.nd rfl (Or.inl rfl) (pe_op op_mod (pe_op op_add (pe_op op_mul (pv 2) (pv 2)) pe_int) pe_int))
  (pss_one (ps_ret (pe_op op_mod (pe_op op_mul (pv 2) pe_int) pe_int))))), ?_⟩)
  · obtain ⟨a, k, rfl, _⟩ := h
    rfl
  · obtain ⟨a, k, rfl, h0, h1, q⟩ := h
    walk_at "lw i0"
    walk_at "lw go"
    exact q _
abbrev N_law_purse : List Str := ["_law_script", "_law_at_here", "_law_cell"]
theorem sc_law_purse : FnScope N_law_purse ["_law_script", "_law_at_here"] (defScope s_law_purse) := ⟨rfl, rfl, rfl, by decide +kernel, rfl, by decide +kernel, by decide +kernel⟩
theorem ok_law_purse (F : FnP K "_law_purse" s_law_purse f fd) (T : Bi mg) (G : Kn K mg) (D_law_at : Df P w K mg base "_law_at" ["_law_script", "_law_k"] 1 (spAt K)) : FnOk P w K mg base CX0 2 f fd ["_law_script", "_law_at_here"] (spPurse K) := by
  refine F.ok sc_law_purse (fun vs H Q E h => ?_) (fun cdv A outer s H vs Q E hr h => ⟨_, PSs.nox
(pss_cons (ps_set (i := 2) sc_law_purse.nd rfl (Or.inl rfl) (pe_df D_law_at (hr.mono (by first | decide | omega)) (pa_cons (pv 0) (pa_cons (pv 1) pa_nil))))
  (pss_one (ps_ret (pe_lst (pa_cons (pe_op op_mod (pe_callB (call_max2 rfl) (by rfl) T.max (by decide +kernel) (pa_cons (pe_op op_sub (pv 2) (pe_op op_pow pe_int pe_int)) (pa_cons pe_int pa_nil))) (pe_op op_powW (pe_op op_pow pe_int pe_int) pe_int)) (pa_cons (pe_op op_mod (pv 2) pe_int) (pa_cons (pe_op op_mul pe_int (pv 1)) pa_nil))))))), ?_⟩)
  · obtain ⟨a, ns, k, rfl, _⟩ := h
    rfl
  · obtain ⟨a, ns, k, rfl, hS, hk, hk2, q⟩ := h
    walk_at "lw i0"
    walk_at "lw go"
    refine ⟨a, ns, k, rfl, hS, hk, fun n => ?_⟩
    walk_at "lw go"
    refine ⟨_, _, rfl, ?_⟩
    walk_at "lw go"
    refine ⟨by show 3 ≤ sizeLine; decide, fun p hp => q p _ hp ⟨_, _, _, rfl, by omega, by omega⟩⟩
abbrev N_law_draw : List Str := ["_law_purse_here", "_law_out_of", "_law_drawn", "_law_number_here", "_law_k"]
theorem sc_law_draw : FnScope N_law_draw ["_law_purse_here", "_law_out_of"] (defScope s_law_draw) := ⟨rfl, rfl, rfl, by decide +kernel, rfl, by decide +kernel, by decide +kernel⟩
theorem ok_law_draw (F : FnP K "_law_draw" s_law_draw f fd) (T : Bi mg) (G : Kn K mg) (D_law_mixed : Df P w K mg base "_law_mixed" ["_law_cell", "_law_k"] 1 spMixed) : FnOk P w K mg base CX0 2 f fd ["_law_purse_here", "_law_out_of"] spDraw := by
  refine F.ok sc_law_draw (fun vs H Q E h => ?_) (fun cdv A outer s H vs Q E hr h => ⟨_, PSs.nox
(pss_cons (ps_if (pt_cmpR op_gt (pe_ix ix_list (pv 0) pe_int (fun _ _ => rfl)) pe_int (nomark _))
  (pss_cons (ps_set (i := 2) sc_law_draw.nd rfl (Or.inl rfl) (pe_op op_mod (pe_ix ix_list (pv 0) pe_int (fun _ _ => rfl)) (pv 1)))
  (pss_cons (ps_asg (pe_op op_fdivW (pe_ix ix_list (pv 0) pe_int (fun _ _ => rfl)) (pv 1)) (pg_sub (pv 0) pe_int set_list))
  (pss_one (ps_ret (pv 2)))))
  pss_nil)
  (pss_cons (ps_set (i := 3) sc_law_draw.nd rfl (Or.inl rfl) pe_int)
  (pss_cons (ps_for PassesOwn.never rfl (pi_range1 (by rfl) T.range (pa_cons (pe_op op_add pe_int (pe_op op_fdiv (pe_bits (pv 1)) pe_int)) pa_nil)) (pg_name (i := 4) sc_law_draw.nd rfl (Or.inl rfl))
  (pss_cons (ps_asg (pe_op op_add (pe_ix ix_list (pv 0) pe_int (fun _ _ => rfl)) pe_int) (pg_sub (pv 0) pe_int set_list))
  (pss_one (ps_set (i := 3) sc_law_draw.nd rfl (Or.inl rfl) (pe_op op_add (pe_op op_mul (pv 3) pe_int) (pe_df D_law_mixed (hr.mono (by first | decide | omega)) (pa_cons (pe_ix ix_list (pv 0) pe_int (fun _ _ => rfl)) (pa_cons (pe_ix ix_list (pv 0) pe_int (fun _ _ => rfl)) pa_nil))))))))
  (pss_one (ps_ret (pe_op op_mod (pv 3) (pv 1))))))), ?_⟩)
  · obtain ⟨p, n, m, o, rfl, _⟩ := h
    rfl
  · obtain ⟨p, n, m, o, rfl, hp, ⟨a, b, c, rfl, c0, c1⟩, hm, hn, hn2, q⟩ := h
    walk_at "lw i0"
    walk_at "lw go"
    refine g_ixL (SqL.of hp) (v := .int a) rfl ?_
    walk_at "lw go"
    refine g_ite (fun h => ?_) (fun h => ?_)
    · walk_at "lw go"
      refine g_ixL (SqL.of hp) (v := .int a) rfl ?_
      walk_at "lw go"
      refine g_ixL (SqL.of hp) (v := .int a) rfl ?_
      walk_at "lw go"
      refine g_setL (m := 0) hp (by rfl) ?_
      walk_at "lw go"
      exact q _ _ (Int.emod_nonneg _ (by omega)) (Int.emod_lt_of_pos _ hn) ⟨_, _, _, rfl, c0, by omega⟩
    · have hb := bits_le (n := n) (by omega) hn2
      walk_at "lw go"
      refine ⟨_, rfl, by omega, by omega, for_range (fun i σ H' => ∃ (num c' : Int) (v4 : Option V), σ = [some (.ref p), some (.int n), none, some (.int num), v4] ∧ H' p = some (.lst [.int a, .int b, .int c']) ∧ 0 ≤ c' ∧ c' ≤ c + i ∧ (∀ x, upd H' p x = upd H p x) ∧ upd H p (.lst [.int a, .int b, .int c']) = H')
        ⟨0, c, none, rfl, hp, c0, by omega, fun _ => rfl, upd_self hp⟩ ?_ ?_⟩
      · rintro i σ H' hi ⟨num, c', v4, rfl, hp', d0, d1, hu, he⟩
        walk_at "lw go"
        refine g_ixL (SqL.of hp') (v := .int c') rfl ?_
        walk_at "lw go"
        refine g_setL (m := 2) hp' (by rfl) ?_
        walk_at "lw go"
        refine g_ixL (SqL.of upd_same) (v := .int b) rfl ?_
        walk_at "lw go"
        refine g_ixL (SqL.of upd_same) (v := .int (c' + 1)) rfl ?_
        walk_at "lw go"
        refine ⟨b, c' + 1, rfl, by omega, by omega, fun x => ?_⟩
        walk_at "lw go"
        refine ⟨_, c' + 1, _, rfl, upd_same, by omega, by omega, fun x => ?_, ?_⟩
        · rw [upd_upd]; exact hu x
        · exact (hu _).symm
      · rintro σ H' ⟨num, c', v4, rfl, hp', d0, d1, hu, he⟩
        walk_at "lw go"
        rw [← he]
        exact q _ _ (Int.emod_nonneg _ (by omega)) (Int.emod_lt_of_pos _ hn) ⟨_, _, _, rfl, d0, by omega⟩
abbrev N_law_knot : List Str := ["_law_grain_here", "_law_salted", "_law_left", "_law_right", "_law_one", "_law_two", "_law_three"]
theorem sc_law_knot : FnScope N_law_knot ["_law_grain_here", "_law_salted", "_law_left", "_law_right"] (defScope s_law_knot) := ⟨rfl, rfl, rfl, by decide +kernel, rfl, by decide +kernel, by decide +kernel⟩
theorem ok_law_knot (F : FnP K "_law_knot" s_law_knot f fd) (T : Bi mg) (G : Kn K mg)  : FnOk P w K mg base CX0 1 f fd ["_law_grain_here", "_law_salted", "_law_left", "_law_right"] spKnot := by
  refine F.ok sc_law_knot (fun vs H Q E h => ?_) (fun cdv A outer s H vs Q E hr h => ⟨_, PSs.nox
(pss_cons (ps_set (i := 4) sc_law_knot.nd rfl (Or.inl rfl) (pe_op op_mod (pe_op op_add (pe_op op_add (pv 0) (pe_op op_mul pe_int (pv 1))) pe_int) pe_int))
  (pss_cons (ps_set (i := 5) sc_law_knot.nd rfl (Or.inl rfl) (pe_op op_mod (pe_op op_add (pe_op op_add (pe_op op_mul (pv 4) (pv 4)) (pe_op op_mul pe_int (pv 2))) pe_int) pe_int))
  (pss_cons (ps_set (i := 6) sc_law_knot.nd rfl (Or.inl rfl) (pe_op op_mod (pe_op op_add (pe_op op_add (pe_op op_mul (pv 5) (pv 5)) (pe_op op_mul pe_int (pv 3))) pe_int) pe_int))
  (pss_one (ps_ret (pe_op op_mod (pe_op op_mod (pe_op op_add (pe_op op_mul (pv 6) (pv 6)) (pv 6)) pe_int) pe_int)))))), ?_⟩)
  · obtain ⟨a, b, c, d, rfl, _⟩ := h
    rfl
  · obtain ⟨a, b, c, d, rfl, q⟩ := h
    walk_at "lw i0"
    walk_at "lw go"
    exact q
abbrev N_law_noise : List Str := ["_law_field_here", "_law_grain_here", "_law_x", "_law_z", "_law_wide", "_law_p", "_law_q", "_law_i", "_law_j", "_law_whole_sum"]
theorem sc_law_noise : FnScope N_law_noise ["_law_field_here", "_law_grain_here", "_law_x", "_law_z"] (defScope s_law_noise) := ⟨rfl, rfl, rfl, by decide +kernel, rfl, by decide +kernel, by decide +kernel⟩
theorem ok_law_noise (F : FnP K "_law_noise" s_law_noise f fd) (T : Bi mg) (G : Kn K mg) (D_law_knot : Df P w K mg base "_law_knot" ["_law_grain_here", "_law_salted", "_law_left", "_law_right"] 1 spKnot) : FnOk P w K mg base CX0 2 f fd ["_law_field_here", "_law_grain_here", "_law_x", "_law_z"] spNoise := by
  refine F.ok sc_law_noise (fun vs H Q E h => ?_) (fun cdv A outer s H vs Q E hr h => ⟨_, PSs.nox
(pss_cons (ps_set (i := 4) sc_law_noise.nd rfl (Or.inl rfl) (pe_op op_shl pe_int (pe_ix ix_tup (pv 0) pe_int (fun _ _ => rfl))))
  (pss_cons (ps_set (i := 5) sc_law_noise.nd rfl (Or.inl rfl) (pe_op op_mod (pv 2) (pv 4)))
  (pss_cons (ps_set (i := 6) sc_law_noise.nd rfl (Or.inl rfl) (pe_op op_mod (pv 3) (pv 4)))
  (pss_cons (ps_set (i := 7) sc_law_noise.nd rfl (Or.inl rfl) (pe_op op_fdivW (pe_op op_sub (pv 2) (pv 5)) (pv 4)))
  (pss_cons (ps_set (i := 8) sc_law_noise.nd rfl (Or.inl rfl) (pe_op op_fdivW (pe_op op_sub (pv 3) (pv 6)) (pv 4)))
  (pss_cons (ps_set (i := 9) sc_law_noise.nd rfl (Or.inl rfl) (pe_op op_mul (pe_op op_mul (pe_op op_sub (pv 4) (pv 5)) (pe_op op_sub (pv 4) (pv 6))) (pe_df D_law_knot (hr.mono (by first | decide | omega)) (pa_cons (pv 1) (pa_cons (pe_ix ix_tup (pv 0) pe_int (fun _ _ => rfl)) (pa_cons (pv 7) (pa_cons (pv 8) pa_nil)))))))
  (pss_cons (ps_set (i := 9) sc_law_noise.nd rfl (Or.inl rfl) (pe_op op_add (pv 9) (pe_op op_mul (pe_op op_mul (pv 5) (pe_op op_sub (pv 4) (pv 6))) (pe_df D_law_knot (hr.mono (by first | decide | omega)) (pa_cons (pv 1) (pa_cons (pe_ix ix_tup (pv 0) pe_int (fun _ _ => rfl)) (pa_cons (pe_op op_add (pv 7) pe_int) (pa_cons (pv 8) pa_nil))))))))
  (pss_cons (ps_set (i := 9) sc_law_noise.nd rfl (Or.inl rfl) (pe_op op_add (pv 9) (pe_op op_mul (pe_op op_mul (pe_op op_sub (pv 4) (pv 5)) (pv 6)) (pe_df D_law_knot (hr.mono (by first | decide | omega)) (pa_cons (pv 1) (pa_cons (pe_ix ix_tup (pv 0) pe_int (fun _ _ => rfl)) (pa_cons (pv 7) (pa_cons (pe_op op_add (pv 8) pe_int) pa_nil))))))))
  (pss_one (ps_ret (pe_op op_fdivW (pe_op op_add (pv 9) (pe_op op_mul (pe_op op_mul (pv 5) (pv 6)) (pe_df D_law_knot (hr.mono (by first | decide | omega)) (pa_cons (pv 1) (pa_cons (pe_ix ix_tup (pv 0) pe_int (fun _ _ => rfl)) (pa_cons (pe_op op_add (pv 7) pe_int) (pa_cons (pe_op op_add (pv 8) pe_int) pa_nil))))))) (pe_op op_mul (pv 4) (pv 4))))))))))))), ?_⟩)
  · obtain ⟨p, w, s, l, g, x, z, r, rfl, _⟩ := h
    rfl
  · obtain ⟨p, w, s0, l, g, x, z, r, rfl, hp, h0, h8, q⟩ := h
    walk_at "lw i0"
    obtain ⟨S, e1, e2, S0, S1, SS0, SS1⟩ := log_pow h0 h8
    have hq : noiseL g s0 l x z = ((S - x % S) * (S - z % S) * knotL g s0 ((x - x % S) / S) ((z - z % S) / S) + x % S * (S - z % S) * knotL g s0 ((x - x % S) / S + 1) ((z - z % S) / S) + (S - x % S) * (z % S) * knotL g s0 ((x - x % S) / S) ((z - z % S) / S + 1) + x % S * (z % S) * knotL g s0 ((x - x % S) / S + 1) ((z - z % S) / S + 1)) / (S * S) := by
      rw [← e2]; rfl
    rw [hq] at q
    have p0 := Int.emod_nonneg x (show S ≠ 0 by omega)
    have p1 := Int.emod_lt_of_pos x S0
    have q0 := Int.emod_nonneg z (show S ≠ 0 by omega)
    have q1 := Int.emod_lt_of_pos z S0
    walk_at "lw go"
    refine g_ixT (SqT.of hp) (v := .int l) (atI_nat (j := 2) (by rfl)) ?_
    walk_at "lw go"
    refine g_I ⟨h0, by omega, by decide⟩ ?_
    rw [e1]
    walk_at "lw go"
    refine g_ixT (SqT.of hp) (v := .int s0) (atI_nat (j := 1) (by rfl)) ?_
    walk_at "lw go"
    refine ⟨_, _, _, _, rfl, ?_⟩
    walk_at "lw go"
    refine g_ixT (SqT.of hp) (v := .int s0) (atI_nat (j := 1) (by rfl)) ?_
    walk_at "lw go"
    refine ⟨_, _, _, _, rfl, ?_⟩
    walk_at "lw go"
    refine g_ixT (SqT.of hp) (v := .int s0) (atI_nat (j := 1) (by rfl)) ?_
    walk_at "lw go"
    refine ⟨_, _, _, _, rfl, ?_⟩
    walk_at "lw go"
    refine g_ixT (SqT.of hp) (v := .int s0) (atI_nat (j := 1) (by rfl)) ?_
    walk_at "lw go"
    refine ⟨_, _, _, _, rfl, ?_⟩
    walk_at "lw go"
    exact q
abbrev N_law_noise_range : List Str := ["_law_field_here", "_law_grain_here", "_law_area_here", "_law_wide", "_law_left", "_law_low", "_law_right", "_law_high", "_law_columns", "_law_lines", "_law_some", "_law_i", "_law_j", "_law_x"]
theorem sc_law_noise_range : FnScope N_law_noise_range ["_law_field_here", "_law_grain_here", "_law_area_here"] (defScope s_law_noise_range) := ⟨rfl, rfl, rfl, by decide +kernel, rfl, by decide +kernel, by decide +kernel⟩
theorem ok_law_noise_range (F : FnP K "_law_noise_range" s_law_noise_range f fd) (T : Bi mg) (G : Kn K mg) (D_law_noise : Df P w K mg base "_law_noise" ["_law_field_here", "_law_grain_here", "_law_x", "_law_z"] 2 spNoise) : FnOk P w K mg base CX0 3 f fd ["_law_field_here", "_law_grain_here", "_law_area_here"] spNR := by
  refine F.ok sc_law_noise_range (fun vs H Q E h => ?_) (fun cdv A outer s H vs Q E hr h => ⟨_, PSs.nox
(pss_cons (ps_set (i := 3) sc_law_noise_range.nd rfl (Or.inl rfl) (pe_op op_shl pe_int (pe_ix ix_tup (pv 0) pe_int (fun _ _ => rfl))))
  (pss_cons (ps_asg (pv 2) (pg_tup (by rfl) (pgs_cons (pg_name (i := 4) sc_law_noise_range.nd rfl (Or.inl rfl)) (pgs_cons (pg_name (i := 5) sc_law_noise_range.nd rfl (Or.inl rfl)) (pgs_cons (pg_name (i := 6) sc_law_noise_range.nd rfl (Or.inl rfl)) (pgs_cons (pg_name (i := 7) sc_law_noise_range.nd rfl (Or.inl rfl)) pgs_nil))))))
  (pss_cons (ps_set (i := 8) sc_law_noise_range.nd rfl (Or.inl rfl) (pe_op op_add (pe_op op_sub (pe_op op_fdivW (pv 6) (pv 3)) (pe_op op_fdivW (pv 4) (pv 3))) pe_int))
  (pss_cons (ps_set (i := 9) sc_law_noise_range.nd rfl (Or.inl rfl) (pe_op op_add (pe_op op_sub (pe_op op_fdivW (pv 7) (pv 3)) (pe_op op_fdivW (pv 5) (pv 3))) pe_int))
  (pss_cons (ps_if (pt_cmpR op_gt (pe_op op_mul (pv 8) (pv 9)) pe_int (nomark _))
  (pss_one (ps_ret (pe_tup (pa_cons pe_int (pa_cons pe_int pa_nil)))))
  pss_nil)
  pss_never))))), ?_⟩)
  · obtain ⟨p, ar, w, s0, l, g, x0, z0, x1, z1, r, rfl, _⟩ := h
    rfl
  · obtain ⟨p, ar, w, s0, l, g, x0, z0, x1, z1, r, rfl, hp, har, h0, h8, hw1, hw2, hx0, hx1, hz0, hz1, q⟩ := h
    walk_at "lw i0"
    have hpos : ∀ {S : Int}, 0 < S → 1 ≤ S := fun h => h
    obtain ⟨S, e1, e2, S0, S1, SS0, SS1⟩ := log_pow h0 h8
    walk_at "lw go"
    refine g_ixT (SqT.of hp) (v := .int l) (atI_nat (j := 2) (by rfl)) ?_
    walk_at "lw go"
    refine g_I ⟨h0, by omega, by decide⟩ ?_
    rw [e1]
    walk_at "lw go"
    have c1 := cols_ge S0 S1 hw1
    have c2 := cols_ge S0 S1 hw2
    have b1 := natAbs_div_le x0 (hpos S0)
    have b2 := natAbs_div_le x1 (hpos S0)
    refine g_tupT (SqT.of har) rfl ?_
    walk_at "lw go"
    refine iteS (many c1 c2) ?_
    walk_at "lw go"
    exact q.new rfl rfl (Same.refl H)
abbrev N_law_two_range : List Str := ["_law_word", "_law_a", "_law_b", "_law_some"]
theorem sc_law_two_range : FnScope N_law_two_range ["_law_word", "_law_a", "_law_b"] (defScope s_law_two_range) := ⟨rfl, rfl, rfl, by decide +kernel, rfl, by decide +kernel, by decide +kernel⟩
theorem ok_law_two_range (F : FnP K "_law_two_range" s_law_two_range f fd) (T : Bi mg) (G : Kn K mg)  : FnOk P w K mg base CX0 1 f fd ["_law_word", "_law_a", "_law_b"] spTwoR := by
  refine F.ok sc_law_two_range (fun vs H Q E h => ?_) (fun cdv A outer s H vs Q E hr h => ⟨_, PSs.nox
(pss_cons (ps_if (pt_cmpR op_eq (pv 0) pe_str (nomark _))
  (pss_one (ps_ret (pe_tup (pa_cons (pe_op op_add (pe_ix ix_tup (pv 1) pe_int (fun _ _ => rfl)) (pe_ix ix_tup (pv 2) pe_int (fun _ _ => rfl))) (pa_cons (pe_op op_add (pe_ix ix_tup (pv 1) pe_int (fun _ _ => rfl)) (pe_ix ix_tup (pv 2) pe_int (fun _ _ => rfl))) pa_nil)))))
  pss_nil)
  (pss_cons (ps_if (pt_cmpR op_eq (pv 0) pe_str (nomark _))
  (pss_one (ps_ret (pe_tup (pa_cons (pe_op op_sub (pe_ix ix_tup (pv 1) pe_int (fun _ _ => rfl)) (pe_ix ix_tup (pv 2) pe_int (fun _ _ => rfl))) (pa_cons (pe_op op_sub (pe_ix ix_tup (pv 1) pe_int (fun _ _ => rfl)) (pe_ix ix_tup (pv 2) pe_int (fun _ _ => rfl))) pa_nil)))))
  pss_nil)
  (pss_cons (ps_if (pt_cmpR op_eq (pv 0) pe_str (nomark _))
  (pss_cons (ps_set (i := 3) sc_law_two_range.nd rfl (Or.inl rfl) (pe_lst (pa_cons (pe_op op_mulW (pe_ix ix_tup (pv 1) pe_int (fun _ _ => rfl)) (pe_ix ix_tup (pv 2) pe_int (fun _ _ => rfl))) (pa_cons (pe_op op_mulW (pe_ix ix_tup (pv 1) pe_int (fun _ _ => rfl)) (pe_ix ix_tup (pv 2) pe_int (fun _ _ => rfl))) (pa_cons (pe_op op_mulW (pe_ix ix_tup (pv 1) pe_int (fun _ _ => rfl)) (pe_ix ix_tup (pv 2) pe_int (fun _ _ => rfl))) (pa_cons (pe_op op_mulW (pe_ix ix_tup (pv 1) pe_int (fun _ _ => rfl)) (pe_ix ix_tup (pv 2) pe_int (fun _ _ => rfl))) pa_nil))))))
  (pss_one (ps_ret (pe_tup (pa_cons (pe_callB (cr_min rfl) (by rfl) T.min (by decide +kernel) (pa_cons (pv 3) pa_nil)) (pa_cons (pe_callB (cr_max rfl) (by rfl) T.max (by decide +kernel) (pa_cons (pv 3) pa_nil)) pa_nil))))))
  pss_nil)
  (pss_cons (ps_if (pt_cmpR op_eq (pv 0) pe_str (nomark _))
  (pss_one (ps_ret (pe_tup (pa_cons (pe_callB (call_min2 rfl) (by rfl) T.min (by decide +kernel) (pa_cons (pe_ix ix_tup (pv 1) pe_int (fun _ _ => rfl)) (pa_cons (pe_ix ix_tup (pv 2) pe_int (fun _ _ => rfl)) pa_nil))) (pa_cons (pe_callB (call_min2 rfl) (by rfl) T.min (by decide +kernel) (pa_cons (pe_ix ix_tup (pv 1) pe_int (fun _ _ => rfl)) (pa_cons (pe_ix ix_tup (pv 2) pe_int (fun _ _ => rfl)) pa_nil))) pa_nil)))))
  pss_nil)
  (pss_one (ps_ret (pe_tup (pa_cons (pe_callB (call_max2 rfl) (by rfl) T.max (by decide +kernel) (pa_cons (pe_ix ix_tup (pv 1) pe_int (fun _ _ => rfl)) (pa_cons (pe_ix ix_tup (pv 2) pe_int (fun _ _ => rfl)) pa_nil))) (pa_cons (pe_callB (call_max2 rfl) (by rfl) T.max (by decide +kernel) (pa_cons (pe_ix ix_tup (pv 1) pe_int (fun _ _ => rfl)) (pa_cons (pe_ix ix_tup (pv 2) pe_int (fun _ _ => rfl)) pa_nil))) pa_nil))))))))), ?_⟩)
  · obtain ⟨w, p1, p2, a, b, rfl, _⟩ := h
    rfl
  · obtain ⟨w, p1, p2, a, b, rfl, h1, h2, hm, q⟩ := h
    walk_at "lw i0"
    cases w with
    | plus =>
      walk_at "lw go"
      refine g_ixT (SqT.of h1) (v := .int a.1) rfl ?_
      walk_at "lw go"
      refine g_ixT (SqT.of h2) (v := .int b.1) rfl ?_
      walk_at "lw go"
      refine g_ixT (SqT.of h1) (v := .int a.2) (atI_nat (j := 1) (by rfl)) ?_
      walk_at "lw go"
      refine g_ixT (SqT.of h2) (v := .int b.2) (atI_nat (j := 1) (by rfl)) ?_
      walk_at "lw go"
      exact q.new rfl rfl (Same.refl H)
    | less =>
      walk_at "lw go"
      refine g_ixT (SqT.of h1) (v := .int a.1) rfl ?_
      walk_at "lw go"
      refine g_ixT (SqT.of h2) (v := .int b.2) (atI_nat (j := 1) (by rfl)) ?_
      walk_at "lw go"
      refine g_ixT (SqT.of h1) (v := .int a.2) (atI_nat (j := 1) (by rfl)) ?_
      walk_at "lw go"
      refine g_ixT (SqT.of h2) (v := .int b.1) rfl ?_
      walk_at "lw go"
      exact q.new rfl rfl (Same.refl H)
    | times =>
      obtain ⟨m1, m2, m3, m4⟩ := hm rfl
      walk_at "lw go"
      refine g_ixT (SqT.of h1) (v := .int a.1) rfl ?_
      walk_at "lw go"
      refine g_ixT (SqT.of h2) (v := .int b.1) rfl ?_
      walk_at "lw go"
      refine g_ixT (SqT.of h1) (v := .int a.1) rfl ?_
      walk_at "lw go"
      refine g_ixT (SqT.of h2) (v := .int b.2) (atI_nat (j := 1) (by rfl)) ?_
      walk_at "lw go"
      refine g_ixT (SqT.of h1) (v := .int a.2) (atI_nat (j := 1) (by rfl)) ?_
      walk_at "lw go"
      refine g_ixT (SqT.of h2) (v := .int b.1) rfl ?_
      walk_at "lw go"
      refine g_ixT (SqT.of h1) (v := .int a.2) (atI_nat (j := 1) (by rfl)) ?_
      walk_at "lw go"
      refine g_ixT (SqT.of h2) (v := .int b.2) (atI_nat (j := 1) (by rfl)) ?_
      walk_at "lw go"
      refine ⟨by show 4 ≤ sizeLine; decide, fun l hl => ?_⟩
      walk_at "lw go"
      refine ⟨l, [a.1 * b.1, a.1 * b.2, a.2 * b.1, a.2 * b.2], rfl, SqL.of upd_same, by show 0 < 4; decide, fun m hm hle => ?_⟩
      walk_at "lw go"
      refine ⟨l, [a.1 * b.1, a.1 * b.2, a.2 * b.1, a.2 * b.2], rfl, SqL.of upd_same, by show 0 < 4; decide, fun m' hm' hle' => ?_⟩
      walk_at "lw go"
      exact q.new (mn4_of hm hle) (mx4_of hm' hle') (same_new hl)
    | least =>
      walk_at "lw go"
      refine g_ixT (SqT.of h1) (v := .int a.1) rfl ?_
      walk_at "lw go"
      refine g_ixT (SqT.of h2) (v := .int b.1) rfl ?_
      walk_at "lw go"
      refine ⟨_, _, rfl, ?_⟩
      walk_at "lw go"
      refine g_ixT (SqT.of h1) (v := .int a.2) (atI_nat (j := 1) (by rfl)) ?_
      walk_at "lw go"
      refine g_ixT (SqT.of h2) (v := .int b.2) (atI_nat (j := 1) (by rfl)) ?_
      walk_at "lw go"
      refine ⟨_, _, rfl, ?_⟩
      walk_at "lw go"
      exact q.new (min_if _ _) (min_if _ _) (Same.refl H)
    | most =>
      walk_at "lw go"
      refine g_ixT (SqT.of h1) (v := .int a.1) rfl ?_
      walk_at "lw go"
      refine g_ixT (SqT.of h2) (v := .int b.1) rfl ?_
      walk_at "lw go"
      refine ⟨_, _, rfl, ?_⟩
      walk_at "lw go"
      refine g_ixT (SqT.of h1) (v := .int a.2) (atI_nat (j := 1) (by rfl)) ?_
      walk_at "lw go"
      refine g_ixT (SqT.of h2) (v := .int b.2) (atI_nat (j := 1) (by rfl)) ?_
      walk_at "lw go"
      refine ⟨_, _, rfl, ?_⟩
      walk_at "lw go"
      exact q.new (max_if _ _) (max_if _ _) (Same.refl H)
abbrev N_law_below_range : List Str := ["_law_a", "_law_b", "_law_yes", "_law_no"]
theorem sc_law_below_range : FnScope N_law_below_range ["_law_a", "_law_b", "_law_yes", "_law_no"] (defScope s_law_below_range) := ⟨rfl, rfl, rfl, by decide +kernel, rfl, by decide +kernel, by decide +kernel⟩
theorem ok_law_below_range (F : FnP K "_law_below_range" s_law_below_range f fd) (T : Bi mg) (G : Kn K mg)  : FnOk P w K mg base CX0 1 f fd ["_law_a", "_law_b", "_law_yes", "_law_no"] spBelR := by
  refine F.ok sc_law_below_range (fun vs H Q E h => ?_) (fun cdv A outer s H vs Q E hr h => ⟨_, PSs.nox
(pss_cons (ps_if (pt_cmpR op_lt (pe_ix ix_tup (pv 0) pe_int (fun _ _ => rfl)) (pe_ix ix_tup (pv 1) pe_int (fun _ _ => rfl)) (nomark _))
  (pss_one (ps_ret (pv 2)))
  pss_nil)
  (pss_cons (ps_if (pt_cmpR op_ge (pe_ix ix_tup (pv 0) pe_int (fun _ _ => rfl)) (pe_ix ix_tup (pv 1) pe_int (fun _ _ => rfl)) (nomark _))
  (pss_one (ps_ret (pv 3)))
  pss_nil)
  (pss_one (ps_ret (pe_tup (pa_cons (pe_callB (call_min2 rfl) (by rfl) T.min (by decide +kernel) (pa_cons (pe_ix ix_tup (pv 2) pe_int (fun _ _ => rfl)) (pa_cons (pe_ix ix_tup (pv 3) pe_int (fun _ _ => rfl)) pa_nil))) (pa_cons (pe_callB (call_max2 rfl) (by rfl) T.max (by decide +kernel) (pa_cons (pe_ix ix_tup (pv 2) pe_int (fun _ _ => rfl)) (pa_cons (pe_ix ix_tup (pv 3) pe_int (fun _ _ => rfl)) pa_nil))) pa_nil))))))), ?_⟩)
  · obtain ⟨p1, p2, p3, p4, a, b, c, d, rfl, _⟩ := h
    rfl
  · obtain ⟨p1, p2, p3, p4, a, b, c, d, rfl, h1, h2, h3, h4, q⟩ := h
    walk_at "lw i0"
    walk_at "lw go"
    refine g_ixT (SqT.of h1) (v := .int a.2) (atI_nat (j := 1) (by rfl)) ?_
    walk_at "lw go"
    refine g_ixT (SqT.of h2) (v := .int b.1) rfl ?_
    walk_at "lw go"
    refine g_ite (fun hlt => ?_) (fun hlt => ?_)
    · walk_at "lw go"
      have e : belR a b c d = c := if_pos hlt
      rw [e] at q
      exact q _ _ (Same.refl H) h3
    · walk_at "lw go"
      refine g_ixT (SqT.of h1) (v := .int a.1) rfl ?_
      walk_at "lw go"
      refine g_ixT (SqT.of h2) (v := .int b.2) (atI_nat (j := 1) (by rfl)) ?_
      walk_at "lw go"
      refine g_ite (fun hge => ?_) (fun hge => ?_)
      · walk_at "lw go"
        have e : belR a b c d = d := by unfold belR; rw [if_neg hlt, if_pos hge]
        rw [e] at q
        exact q _ _ (Same.refl H) h4
      · walk_at "lw go"
        refine g_ixT (SqT.of h3) (v := .int c.1) rfl ?_
        walk_at "lw go"
        refine g_ixT (SqT.of h4) (v := .int d.1) rfl ?_
        walk_at "lw go"
        refine ⟨_, _, rfl, ?_⟩
        walk_at "lw go"
        refine g_ixT (SqT.of h3) (v := .int c.2) (atI_nat (j := 1) (by rfl)) ?_
        walk_at "lw go"
        refine g_ixT (SqT.of h4) (v := .int d.2) (atI_nat (j := 1) (by rfl)) ?_
        walk_at "lw go"
        refine ⟨_, _, rfl, ?_⟩
        walk_at "lw go"
        have e : belR a b c d = (min c.1 d.1, max c.2 d.2) := by unfold belR; rw [if_neg hlt, if_neg hge]
        rw [e] at q
        exact q.new (min_if _ _) (max_if _ _) (Same.refl H)
abbrev N_law_range : List Str := ["_law_field_here", "_law_grain_here", "_law_area_here", "_law_bound", "_law_word", "_law_inner", "_law_far", "_law_a", "_law_b", "_law_yes"]
theorem sc_law_range : FnScope N_law_range ["_law_field_here", "_law_grain_here", "_law_area_here", "_law_bound"] (defScope s_law_range) := ⟨rfl, rfl, rfl, by decide +kernel, rfl, by decide +kernel, by decide +kernel⟩
theorem ok_law_range (F : FnP K "_law_range" s_law_range f fd) (T : Bi mg) (G : Kn K mg) (D_law_two_range : Df P w K mg base "_law_two_range" ["_law_word", "_law_a", "_law_b"] 1 spTwoR) (D_law_noise_range : Df P w K mg base "_law_noise_range" ["_law_field_here", "_law_grain_here", "_law_area_here"] 3 spNR) (D_law_below_range : Df P w K mg base "_law_below_range" ["_law_a", "_law_b", "_law_yes", "_law_no"] 1 spBelR) (gm : mg "_law_range" = some (.ref f)) (kp : PySem.W.keepIn K (.ref f) = true) (bb : Binds K fd ["_law_field_here", "_law_grain_here", "_law_area_here", "_law_bound"] []) : ∀ n : Nat, FnOk P w K mg base CX0 (n + 4) f fd ["_law_field_here", "_law_grain_here", "_law_area_here", "_law_bound"] (spRange n)
  | 0 => by
    refine F.ok sc_law_range (fun vs H Q E h => ?_) (fun cdv A outer s H vs Q E hr h => ?_)
    · obtain ⟨u, F, g, x0, z0, x1, z1, ar, d, m, k, r, δ, rfl, _⟩ := h
      rfl
    · exact (spRange_zero h).elim
  | n + 1 => by
    have D_law_range : Df P w K mg base "_law_range" ["_law_field_here", "_law_grain_here", "_law_area_here", "_law_bound"] (n + 4) (spRange n) := ⟨f, fd, gm, kp, bb, ok_law_range F T G D_law_two_range D_law_noise_range D_law_below_range gm kp bb n⟩
    refine F.ok (k := n + 4) sc_law_range (fun vs H Q E h => ?_) (fun cdv A outer s H vs Q E hr h => ⟨_, PSs.nox
(pss_cons (ps_set (i := 4) sc_law_range.nd rfl (Or.inl rfl) (pe_ix ix_tup (pv 0) pe_int (fun _ _ => rfl)))
  (pss_cons (ps_if (pt_cmpR op_eq (pv 4) pe_str (nomark _))
  (pss_one (ps_ret (pe_tup (pa_cons (pe_ix ix_tup (pv 0) pe_int (fun _ _ => rfl)) (pa_cons (pe_ix ix_tup (pv 0) pe_int (fun _ _ => rfl)) pa_nil)))))
  pss_nil)
  (pss_cons (ps_if (pt_cmpR op_eq (pv 4) pe_str (nomark _))
  (pss_one (ps_ret (pe_tup (pa_cons (pe_ix ix_tup (pv 2) pe_int (fun _ _ => rfl)) (pa_cons (pe_ix ix_tup (pv 2) pe_int (fun _ _ => rfl)) pa_nil)))))
  pss_nil)
  (pss_cons (ps_if (pt_cmpR op_eq (pv 4) pe_str (nomark _))
  (pss_one (ps_ret (pe_tup (pa_cons (pe_ix ix_tup (pv 2) pe_int (fun _ _ => rfl)) (pa_cons (pe_ix ix_tup (pv 2) pe_int (fun _ _ => rfl)) pa_nil)))))
  pss_nil)
  (pss_cons (ps_if (pt_cmpR op_eq (pv 4) pe_str (nomark _))
  (pss_one (ps_ret (pe_df D_law_noise_range (hr.mono (by first | decide | omega)) (pa_cons (pv 0) (pa_cons (pv 1) (pa_cons (pv 2) pa_nil))))))
  pss_nil)
  (pss_cons (ps_if (pt_cmpR op_eq (pv 4) pe_str (nomark _))
  (pss_one (ps_ret (pe_df D_law_range (hr.mono (by first | decide | omega)) (pa_cons (pe_ix ix_tup (pe_dget (hu_of hr) (pv 3) (pe_ix ix_tup (pv 0) pe_int (fun _ _ => rfl)) (fun _ _ => rfl)) pe_int (fun _ _ => rfl)) (pa_cons (pv 1) (pa_cons (pv 2) (pa_cons (pe_ix ix_tup (pe_dget (hu_of hr) (pv 3) (pe_ix ix_tup (pv 0) pe_int (fun _ _ => rfl)) (fun _ _ => rfl)) pe_int (fun _ _ => rfl)) pa_nil)))))))
  pss_nil)
  (pss_cons (ps_if (pt_cmpR op_eq (pv 4) pe_str (nomark _))
  (pss_cons (ps_set (i := 5) sc_law_range.nd rfl (Or.inl rfl) (pe_callTy call_dictD (by rfl) T.dict (by decide +kernel) (pa_cons (pv 3) pa_nil)))
  (pss_cons (ps_dput (hu_of hr) (pv 5) (pe_ix ix_tup (pv 0) pe_int (fun _ _ => rfl)) (pe_tup (pa_cons (pe_ix ix_tup (pv 0) pe_int (fun _ _ => rfl)) (pa_cons (pv 3) pa_nil))) rfl)
  (pss_one (ps_ret (pe_df D_law_range (hr.mono (by first | decide | omega)) (pa_cons (pe_ix ix_tup (pv 0) pe_int (fun _ _ => rfl)) (pa_cons (pv 1) (pa_cons (pv 2) (pa_cons (pv 5) pa_nil)))))))))
  pss_nil)
  (pss_cons (ps_if (pt_cmpR op_eq (pv 4) pe_str (nomark _))
  (pss_cons (ps_set (i := 6) sc_law_range.nd rfl (Or.inl rfl) (pe_tup (pa_cons (pe_op op_add (pe_ix ix_tup (pv 2) pe_int (fun _ _ => rfl)) (pe_ix ix_tup (pv 0) pe_int (fun _ _ => rfl))) (pa_cons (pe_op op_add (pe_ix ix_tup (pv 2) pe_int (fun _ _ => rfl)) (pe_ix ix_tup (pv 0) pe_int (fun _ _ => rfl))) (pa_cons (pe_op op_add (pe_ix ix_tup (pv 2) pe_int (fun _ _ => rfl)) (pe_ix ix_tup (pv 0) pe_int (fun _ _ => rfl))) (pa_cons (pe_op op_add (pe_ix ix_tup (pv 2) pe_int (fun _ _ => rfl)) (pe_ix ix_tup (pv 0) pe_int (fun _ _ => rfl))) pa_nil))))))
  (pss_one (ps_ret (pe_df D_law_range (hr.mono (by first | decide | omega)) (pa_cons (pe_ix ix_tup (pv 0) pe_int (fun _ _ => rfl)) (pa_cons (pv 1) (pa_cons (pv 6) (pa_cons (pv 3) pa_nil))))))))
  pss_nil)
  (pss_cons (ps_set (i := 7) sc_law_range.nd rfl (Or.inl rfl) (pe_df D_law_range (hr.mono (by first | decide | omega)) (pa_cons (pe_ix ix_tup (pv 0) pe_int (fun _ _ => rfl)) (pa_cons (pv 1) (pa_cons (pv 2) (pa_cons (pv 3) pa_nil))))))
  (pss_cons (ps_if (pt_cmpR op_eq (pv 4) pe_str (nomark _))
  (pss_one (ps_ret (pe_tup (pa_cons (pe_op op_fdivW (pe_ix ix_tup (pv 7) pe_int (fun _ _ => rfl)) (pe_ix ix_tup (pv 0) pe_int (fun _ _ => rfl))) (pa_cons (pe_op op_fdivW (pe_ix ix_tup (pv 7) pe_int (fun _ _ => rfl)) (pe_ix ix_tup (pv 0) pe_int (fun _ _ => rfl))) pa_nil)))))
  pss_nil)
  (pss_cons (ps_set (i := 8) sc_law_range.nd rfl (Or.inl rfl) (pe_df D_law_range (hr.mono (by first | decide | omega)) (pa_cons (pe_ix ix_tup (pv 0) pe_int (fun _ _ => rfl)) (pa_cons (pv 1) (pa_cons (pv 2) (pa_cons (pv 3) pa_nil))))))
  (pss_cons (ps_if (pt_cmpR op_eq (pv 4) pe_str (nomark _))
  (pss_cons (ps_set (i := 9) sc_law_range.nd rfl (Or.inl rfl) (pe_df D_law_range (hr.mono (by first | decide | omega)) (pa_cons (pe_ix ix_tup (pv 0) pe_int (fun _ _ => rfl)) (pa_cons (pv 1) (pa_cons (pv 2) (pa_cons (pv 3) pa_nil))))))
  (pss_one (ps_ret (pe_df D_law_below_range (hr.mono (by first | decide | omega)) (pa_cons (pv 7) (pa_cons (pv 8) (pa_cons (pv 9) (pa_cons (pe_df D_law_range (hr.mono (by first | decide | omega)) (pa_cons (pe_ix ix_tup (pv 0) pe_int (fun _ _ => rfl)) (pa_cons (pv 1) (pa_cons (pv 2) (pa_cons (pv 3) pa_nil))))) pa_nil))))))))
  pss_nil)
  (pss_one (ps_ret (pe_df D_law_two_range (hr.mono (by first | decide | omega)) (pa_cons (pv 4) (pa_cons (pv 7) (pa_cons (pv 8) pa_nil)))))))))))))))))), ?_⟩)
    · obtain ⟨u, F, g, x0, z0, x1, z1, ar, d, m, k, r, δ, rfl, _⟩ := h
      rfl
    · obtain ⟨u, F, g, x0, z0, x1, z1, ar, d, m, k, r, δ, rfl, hF, har, hE, hB, hn, hO, hv, hk, hx, hz, hW, hr2, q⟩ := h
      walk_at "lw i0"
      cases F with
      | whole v =>
        obtain ⟨p, rfl, hp⟩ := hF
        walk_at "lw go"
        refine g_ixT (SqT.of hp) (v := .str "whole") rfl ?_
        walk_at "lw go"
        refine g_ixT (SqT.of hp) (v := .int v) (atI_nat (j := 1) (by rfl)) ?_
        walk_at "lw go"
        refine g_ixT (SqT.of hp) (v := .int v) (atI_nat (j := 1) (by rfl)) ?_
        walk_at "lw go"
        exact q.new rfl rfl (Same.refl H)
      | px =>
        obtain ⟨p, rfl, hp⟩ := hF
        walk_at "lw go"
        refine g_ixT (SqT.of hp) (v := .str "x") rfl ?_
        walk_at "lw go"
        refine g_ixT (SqT.of har) (v := .int x0) (atI_nat (j := 0) (by rfl)) ?_
        walk_at "lw go"
        refine g_ixT (SqT.of har) (v := .int x1) (atI_nat (j := 2) (by rfl)) ?_
        walk_at "lw go"
        exact q.new rfl rfl (Same.refl H)
      | pz =>
        obtain ⟨p, rfl, hp⟩ := hF
        walk_at "lw go"
        refine g_ixT (SqT.of hp) (v := .str "z") rfl ?_
        walk_at "lw go"
        refine g_ixT (SqT.of har) (v := .int z0) (atI_nat (j := 1) (by rfl)) ?_
        walk_at "lw go"
        refine g_ixT (SqT.of har) (v := .int z1) (atI_nat (j := 3) (by rfl)) ?_
        walk_at "lw go"
        exact q.new rfl rfl (Same.refl H)
      | noise s l =>
        obtain ⟨p, rfl, hp⟩ := hF
        obtain ⟨w1, w2, w3, w4, w5, w6⟩ := hW
        walk_at "lw go"
        refine g_ixT (SqT.of hp) (v := .str "noise") rfl ?_
        walk_at "lw go"
        exact ⟨p, ar, _, s, l, g, x0, z0, x1, z1, [], rfl, hp, har, hO.2.1, hO.2.2, w1, w2, by omega, by omega, by omega, by omega, q⟩
      | two w a b =>
        obtain ⟨p, u1, u2, rfl, hp, hF1, hF2⟩ := hF
        have hn' : 1 + max (udep a δ) (udep b δ) ≤ n + 1 := hn
        have hvt : vb (.two w (expand a r) (expand b r)) k ≤ 400000 := hv
        have hv2 := vb_two w (expand a r) (expand b r) k
        have W' := hW.le (n' := n) (by omega)
        walk_at "lw go"
        refine g_ixT (SqT.of hp) (v := .str w.word) rfl ?_
        walk_at "lw go"
        refine g_ixT (SqT.of hp) (v := u1) (atI_nat (j := 1) (by rfl)) ?_
        walk_at "lw go"
        refine ⟨u1, a, g, x0, z0, x1, z1, ar, d, m, k, r, δ, rfl, hF1, har, hE, hB.1, by omega, hO.1, by omega, hk, hx, hz, W', by omega, fun pa H1 s1 hpa => ?_⟩
        walk_at "lw go"
        refine g_ixT (SqT.of (s1 _ _ hp)) (v := u2) (atI_nat (j := 2) (by rfl)) ?_
        walk_at "lw go"
        refine ⟨u2, b, g, x0, z0, x1, z1, ar, d, m, k, r, δ, rfl, hF2.mono (same_tup s1), s1 _ _ har, hE.mono s1, hB.2, by omega, hO.2, by omega, hk, hx, hz, W', by omega, fun pb H2 s2 hpb => ?_⟩
        walk_at "lw go"
        have ra := range_bits wide_ok (expand a r) x0 z0 x1 z1 k hO.1 hk hx hz
        have rb := range_bits wide_ok (expand b r) x0 z0 x1 z1 k hO.2 hk hx hz
        refine ⟨w, pa, pb, _, _, rfl, s2 _ _ hpa, hpb, fun e => ?_, q.later (s1.trans s2)⟩
        subst e
        have hvs : vb (expand a r) k + vb (expand b r) k ≤ 400000 := hvt
        have ra' := ra.mono (Nat.le_succ _)
        have rb' := rb.mono (Nat.le_succ _)
        have wm : ∀ {i j : Int}, i.natAbs < 2 ^ (vb (expand a r) k + 1) → j.natAbs < 2 ^ (vb (expand b r) k + 1) → CMulW i j := fun h1 h2 => wide_mul h1 h2 (Nat.succ_pos _) (Nat.succ_pos _) (by omega)
        exact ⟨wm ra'.1 rb'.1, wm ra'.1 rb'.2, wm ra'.2 rb'.1, wm ra'.2 rb'.2⟩
      | over a v =>
        obtain ⟨p, u1, rfl, hp, hF1⟩ := hF
        have hn' : 1 + udep a δ ≤ n + 1 := hn
        have hO1 : 1 ≤ v := hO.2.1
        have hO2 : v ≤ 1000000000 := hO.2.2
        walk_at "lw go"
        refine g_ixT (SqT.of hp) (v := .str "over") rfl ?_
        walk_at "lw go"
        refine g_ixT (SqT.of hp) (v := u1) (atI_nat (j := 1) (by rfl)) ?_
        walk_at "lw go"
        refine ⟨u1, a, g, x0, z0, x1, z1, ar, d, m, k, r, δ, rfl, hF1, har, hE, hB, by omega, hO.1, hv, hk, hx, hz, hW.le (by omega), by omega, fun pa H1 s1 hpa => ?_⟩
        walk_at "lw go"
        refine g_ixT (SqT.of hpa) (v := .int (rangeG wideN (expand a r) x0 z0 x1 z1).1) (atI_nat (j := 0) (by rfl)) ?_
        walk_at "lw go"
        refine g_ixT (SqT.of (s1 _ _ hp)) (v := .int v) (atI_nat (j := 2) (by rfl)) ?_
        walk_at "lw go"
        refine g_ixT (SqT.of hpa) (v := .int (rangeG wideN (expand a r) x0 z0 x1 z1).2) (atI_nat (j := 1) (by rfl)) ?_
        walk_at "lw go"
        refine g_ixT (SqT.of (s1 _ _ hp)) (v := .int v) (atI_nat (j := 2) (by rfl)) ?_
        walk_at "lw go"
        exact q.new rfl rfl s1
      | bel a b c e =>
        obtain ⟨p, u1, u2, u3, u4, rfl, hp, hF1, hF2, hF3, hF4⟩ := hF
        have hn' : 1 + max (max (udep a δ) (udep b δ)) (max (udep c δ) (udep e δ)) ≤ n + 1 := hn
        have hvt : max (max (vb (expand a r) k) (vb (expand b r) k)) (max (vb (expand c r) k) (vb (expand e r) k)) ≤ 400000 := hv
        have W' := hW.le (n' := n) (by omega)
        walk_at "lw go"
        refine g_ixT (SqT.of hp) (v := .str "below") rfl ?_
        walk_at "lw go"
        refine g_ixT (SqT.of hp) (v := u1) (atI_nat (j := 1) (by rfl)) ?_
        walk_at "lw go"
        refine ⟨u1, a, g, x0, z0, x1, z1, ar, d, m, k, r, δ, rfl, hF1, har, hE, hB.1, by omega, hO.1, by omega, hk, hx, hz, W', by omega, fun pa H1 s1 hpa => ?_⟩
        walk_at "lw go"
        refine g_ixT (SqT.of (s1 _ _ hp)) (v := u2) (atI_nat (j := 2) (by rfl)) ?_
        walk_at "lw go"
        refine ⟨u2, b, g, x0, z0, x1, z1, ar, d, m, k, r, δ, rfl, hF2.mono (same_tup s1), s1 _ _ har, hE.mono s1, hB.2.1, by omega, hO.2.1, by omega, hk, hx, hz, W', by omega, fun pb H2 s2 hpb => ?_⟩
        walk_at "lw go"
        have s12 := s1.trans s2
        refine g_ixT (SqT.of (s12 _ _ hp)) (v := u3) (atI_nat (j := 3) (by rfl)) ?_
        walk_at "lw go"
        refine ⟨u3, c, g, x0, z0, x1, z1, ar, d, m, k, r, δ, rfl, hF3.mono (same_tup s12), s12 _ _ har, hE.mono s12, hB.2.2.1, by omega, hO.2.2.1, by omega, hk, hx, hz, W', by omega, fun pc H3 s3 hpc => ?_⟩
        walk_at "lw go"
        have s13 := s12.trans s3
        refine g_ixT (SqT.of (s13 _ _ hp)) (v := u4) (atI_nat (j := 4) (by rfl)) ?_
        walk_at "lw go"
        refine ⟨u4, e, g, x0, z0, x1, z1, ar, d, m, k, r, δ, rfl, hF4.mono (same_tup s13), s13 _ _ har, hE.mono s13, hB.2.2.2, by omega, hO.2.2.2, by omega, hk, hx, hz, W', by omega, fun pd H4 s4 hpd => ?_⟩
        walk_at "lw go"
        exact ⟨pa, pb, pc, pd, _, _, _, _, rfl, s4 _ _ (s3 _ _ (s2 _ _ hpa)), s4 _ _ (s3 _ _ hpb), s4 _ _ hpc, hpd, q.later (s13.trans s4)⟩
      | shift dx dz a =>
        obtain ⟨p, u1, rfl, hp, hF1⟩ := hF
        have hn' : 1 + udep a δ ≤ n + 1 := hn
        walk_at "lw go"
        refine g_ixT (SqT.of hp) (v := .str "shift") rfl ?_
        walk_at "lw go"
        refine g_ixT (SqT.of har) (v := .int x0) (atI_nat (j := 0) (by rfl)) ?_
        walk_at "lw go"
        refine g_ixT (SqT.of hp) (v := .int dx) (atI_nat (j := 1) (by rfl)) ?_
        walk_at "lw go"
        refine g_ixT (SqT.of har) (v := .int z0) (atI_nat (j := 1) (by rfl)) ?_
        walk_at "lw go"
        refine g_ixT (SqT.of hp) (v := .int dz) (atI_nat (j := 2) (by rfl)) ?_
        walk_at "lw go"
        refine g_ixT (SqT.of har) (v := .int x1) (atI_nat (j := 2) (by rfl)) ?_
        walk_at "lw go"
        refine g_ixT (SqT.of hp) (v := .int dx) (atI_nat (j := 1) (by rfl)) ?_
        walk_at "lw go"
        refine g_ixT (SqT.of har) (v := .int z1) (atI_nat (j := 3) (by rfl)) ?_
        walk_at "lw go"
        refine g_ixT (SqT.of hp) (v := .int dz) (atI_nat (j := 2) (by rfl)) ?_
        walk_at "lw go"
        refine ⟨by show 4 ≤ sizeLine; decide, fun fa hfa => ?_⟩
        have s1 := same_new (o := .tup [.int (x0 + dx), .int (z0 + dz), .int (x1 + dx), .int (z1 + dz)]) hfa
        walk_at "lw go"
        refine g_ixT (SqT.of (s1 _ _ hp)) (v := u1) (atI_nat (j := 3) (by rfl)) ?_
        walk_at "lw go"
        exact ⟨u1, a, g, x0 + dx, z0 + dz, x1 + dx, z1 + dz, fa, d, m, k + 1, r, δ, rfl, hF1.mono (same_tup s1), upd_same, hE.mono s1, hB, by omega, hO.2.2, hv, by omega, ⟨shift_bits hO.1 hk hx.1, shift_bits hO.1 hk hx.2⟩, ⟨shift_bits hO.2.1 hk hz.1, shift_bits hO.2.1 hk hz.2⟩, hW.shift hO.1 hO.2.1, by omega, q.later s1⟩
      | lt y a b =>
        obtain ⟨p, u1, u2, rfl, hp, hF1, hF2⟩ := hF
        have hn' : 1 + udep b ((y, udep a δ) :: δ) ≤ n + 1 := hn
        obtain ⟨kvs, hd, hkl⟩ := hE.dict
        walk_at "lw go"
        refine g_ixT (SqT.of hp) (v := .str "let") rfl ?_
        walk_at "lw go"
        refine ⟨d, kvs, rfl, .inl hd, fun i hi => ?_⟩
        walk_at "lw go"
        have s1 := same_new (o := .dK kvs) hi
        refine g_ixT (SqT.of (s1 _ _ hp)) (v := u1) (atI_nat (j := 2) (by rfl)) ?_
        walk_at "lw go"
        refine ⟨by show 2 ≤ sizeLine; decide, fun t ht => ?_⟩
        have s2 := s1.trans (same_new (o := .tup [u1, .ref d]) ht)
        have nti : i ≠ t := ne_of_none upd_same ht
        walk_at "lw go"
        refine g_ixT (SqT.of (s2 _ _ hp)) (v := .str y) (atI_nat (j := 1) (by rfl)) ?_
        refine ⟨i, _, rfl, DPut.k (k := Sum.inr y) (by rw [upd_ne nti, upd_same]) (small1000 (by omega)), ?_⟩
        have s3 : Same H (upd (upd (upd H i (.dK kvs)) t (.tup [u1, .ref d])) i (.dK (putK kvs (Sum.inr y) (.ref t)))) := same_put s2 hi
        walk_at "lw go"
        refine g_ixT (SqT.of (s3 _ _ hp)) (v := u2) (atI_nat (j := 3) (by rfl)) ?_
        walk_at "lw go"
        exact ⟨u2, b, g, x0, z0, x1, z1, ar, i, m + 1, k, (y, expand a r) :: r, (y, udep a δ) :: δ, rfl, hF2.mono (same_tup s3), s3 _ _ har, hE.let_ hd s3 upd_same (by rw [upd_ne nti.symm, upd_same]) hF1 hB.1, hB.2, by omega, hO, hv, hk, hx, hz, hW.le (by omega), by simp only [List.length_cons]; omega, q.later s3⟩
      | nm y =>
        obtain ⟨p, rfl, hp⟩ := hF
        have hn' : 1 + (δ.lookup y).getD 0 ≤ n + 1 := hn
        obtain ⟨m', rfl⟩ : ∃ m', m = m' + 1 := by
          cases m with
          | zero =>
            obtain ⟨_, e1, _⟩ := hE
            subst e1
            cases hB
          | succ m' => exact ⟨m', rfl⟩
        obtain ⟨kvs, hd, hkl, hq⟩ := hE
        obtain ⟨t, u', d', F', r', δ', a1, a2, a3, a4, a5, a6, a7, a8⟩ := hq y hB
        walk_at "lw go"
        refine g_ixT (SqT.of hp) (v := .str "name") rfl ?_
        walk_at "lw go"
        refine g_ixT (SqT.of hp) (v := .str y) (atI_nat (j := 1) (by rfl)) ?_
        refine ⟨d, .ref t, rfl, a1 ▸ DGet.k (k := Sum.inr y) hd, ?_⟩
        walk_at "lw go"
        refine g_ixT (SqT.of a2) (v := u') (atI_nat (j := 0) (by rfl)) ?_
        walk_at "lw go"
        refine g_ixT (SqT.of hp) (v := .str y) (atI_nat (j := 1) (by rfl)) ?_
        refine ⟨d, .ref t, rfl, a1 ▸ DGet.k (k := Sum.inr y) hd, ?_⟩
        walk_at "lw go"
        refine g_ixT (SqT.of a2) (v := .ref d') (atI_nat (j := 1) (by rfl)) ?_
        walk_at "lw go"
        have hO' : OkE (look r y) := hO
        have hv' : vb (look r y) k ≤ 400000 := hv
        refine ⟨u', F', g, x0, z0, x1, z1, ar, d', m', k, r', δ', rfl, a3, har, a4, a5, by omega, by rw [a6]; exact hO', by rw [a6]; exact hv', hk, hx, hz, hW.le (by omega), by omega, ?_⟩
        rw [a6]
        exact q
abbrev N_law_number : List Str := ["_law_purse_here", "_law_most", "_law_sign"]
theorem sc_law_number : FnScope N_law_number ["_law_purse_here", "_law_most"] (defScope s_law_number) := ⟨rfl, rfl, rfl, by decide +kernel, rfl, by decide +kernel, by decide +kernel⟩
theorem ok_law_number (F : FnP K "_law_number" s_law_number f fd) (T : Bi mg) (G : Kn K mg) (D_law_draw : Df P w K mg base "_law_draw" ["_law_purse_here", "_law_out_of"] 2 spDraw) : FnOk P w K mg base CX0 3 f fd ["_law_purse_here", "_law_most"] spNumber := by
  refine F.ok sc_law_number (fun vs H Q E h => ?_) (fun cdv A outer s H vs Q E hr h => ⟨_, PSs.nox
(pss_cons (ps_set (i := 2) sc_law_number.nd rfl (Or.inl rfl) (pe_op op_sub pe_int (pe_op op_mul pe_int (pe_df D_law_draw (hr.mono (by first | decide | omega)) (pa_cons (pv 0) (pa_cons pe_int pa_nil))))))
  (pss_one (ps_ret (pe_op op_mul (pv 2) (pe_df D_law_draw (hr.mono (by first | decide | omega)) (pa_cons (pv 0) (pa_cons (pe_ix ix_list (pe_lst (pa_cons pe_int (pa_cons pe_int (pa_cons pe_int (pa_cons (pv 1) pa_nil))))) (pe_df D_law_draw (hr.mono (by first | decide | omega)) (pa_cons (pv 0) (pa_cons pe_int pa_nil))) (fun _ _ => rfl)) pa_nil))))))), ?_⟩)
  · obtain ⟨p, n, m, o, rfl, _⟩ := h
    rfl
  · obtain ⟨p, n, m, o, rfl, hp, hP, hm, hn, hn2, q⟩ := h
    walk_at "lw i0"
    walk_at "lw go"
    refine ⟨p, 2, m, o, rfl, hp, hP, by omega, by decide, by decide, fun g o1 g0 g1 hP1 => ?_⟩
    walk_at "lw go"
    refine ⟨by show 4 ≤ sizeLine; decide, fun l hl => ?_⟩
    have npl : p ≠ l := ne_of_none upd_same hl
    walk_at "lw go"
    refine ⟨p, 4, _, o1, rfl, by rw [upd_ne npl, upd_same], hP1, by omega, by decide, by decide, fun e o2 e0 e1 hP2 => ?_⟩
    have at_ : (upd (upd (upd H p o1) l (.lst [.int 10, .int 100, .int 1000, .int n])) p o2) l = some (.lst [.int 10, .int 100, .int 1000, .int n]) := by
      rw [upd_ne npl.symm, upd_same]
    obtain ⟨v, hv, hv2⟩ := four_at (a := V.int 10) (b := V.int 100) (c := V.int 1000) (d := V.int n) e0 e1
    obtain ⟨k, rfl, k0, k1⟩ : ∃ k : Int, v = .int k ∧ 0 < k ∧ k ≤ max n 1000 := by
      rcases hv2 with rfl | rfl | rfl | rfl
      · exact ⟨10, rfl, by omega, by omega⟩
      · exact ⟨100, rfl, by omega, by omega⟩
      · exact ⟨1000, rfl, by omega, by omega⟩
      · exact ⟨n, rfl, by omega, by omega⟩
    refine g_ixL (SqL.of at_) hv ?_
    walk_at "lw go"
    refine ⟨p, k, _, o2, rfl, upd_same, hP2, by omega, k0, by omega, fun j o3 j0 j1 hP3 => ?_⟩
    rcases (show g = 0 ∨ g = 1 by omega) with rfl | rfl <;>
      (walk_at "lw go"; exact q _ o3 _ (by omega) (by omega) ((Keep.refl.put.new hl).put).put upd_same (hP3.mono (by omega)))
abbrev N_law_leaf : List Str := ["_law_purse_here", "_law_known", "_law_way"]
theorem sc_law_leaf : FnScope N_law_leaf ["_law_purse_here", "_law_known"] (defScope s_law_leaf) := ⟨rfl, rfl, rfl, by decide +kernel, rfl, by decide +kernel, by decide +kernel⟩
theorem ok_law_leaf (F : FnP K "_law_leaf" s_law_leaf f fd) (T : Bi mg) (G : Kn K mg) (D_law_draw : Df P w K mg base "_law_draw" ["_law_purse_here", "_law_out_of"] 2 spDraw) (D_law_number : Df P w K mg base "_law_number" ["_law_purse_here", "_law_most"] 3 spNumber) : FnOk P w K mg base CX0 4 f fd ["_law_purse_here", "_law_known"] spLeaf := by
  refine F.ok sc_law_leaf (fun vs H Q E h => ?_) (fun cdv A outer s H vs Q E hr h => ⟨_, PSs.nox
(pss_cons (ps_set (i := 2) sc_law_leaf.nd rfl (Or.inl rfl) (pe_df D_law_draw (hr.mono (by first | decide | omega)) (pa_cons (pv 0) (pa_cons pe_int pa_nil))))
  (pss_cons (ps_if (pt_cmpR op_eq (pv 2) pe_int (nomark _))
  (pss_one (ps_ret (pe_tup (pa_cons pe_str (pa_cons (pe_df D_law_number (hr.mono (by first | decide | omega)) (pa_cons (pv 0) (pa_cons pe_int pa_nil))) pa_nil)))))
  pss_nil)
  (pss_cons (ps_if (pt_cmpR op_eq (pv 2) pe_int (nomark _))
  (pss_one (ps_ret (pe_ix ix_list (pe_lst (pa_cons (pe_tup (pa_cons pe_str pa_nil)) (pa_cons (pe_tup (pa_cons pe_str pa_nil)) pa_nil))) (pe_df D_law_draw (hr.mono (by first | decide | omega)) (pa_cons (pv 0) (pa_cons pe_int pa_nil))) (fun _ _ => rfl))))
  pss_nil)
  (pss_cons (ps_if (PW.pt (pw_and (pt_cmpR op_eq (pv 2) pe_int (nomark _)) (pw_and1 (pt_cmpR (op_neD hr.units) (pv 1) (pe_lst pa_nil) (nomark _)))))
  (pss_one (ps_ret (pe_tup (pa_cons pe_str (pa_cons (pe_ix ix_list (pv 1) (pe_df D_law_draw (hr.mono (by first | decide | omega)) (pa_cons (pv 0) (pa_cons (pe_callB call_len_seq (by rfl) T.len (by decide +kernel) (pa_cons (pv 1) pa_nil)) pa_nil))) (fun _ _ => rfl)) pa_nil)))))
  pss_nil)
  (pss_one (ps_ret (pe_tup (pa_cons pe_str (pa_cons (pe_ix ix_list (pe_lst (pa_cons pe_int (pa_cons pe_int (pa_cons pe_int (pa_cons (pe_op op_pow pe_int pe_int) pa_nil))))) (pe_df D_law_draw (hr.mono (by first | decide | omega)) (pa_cons (pv 0) (pa_cons pe_int pa_nil))) (fun _ _ => rfl)) (pa_cons (pe_df D_law_draw (hr.mono (by first | decide | omega)) (pa_cons (pv 0) (pa_cons pe_int pa_nil))) pa_nil)))))))))), ?_⟩)
  · obtain ⟨p, kl, ks, m, o, rfl, _⟩ := h
    rfl
  · obtain ⟨p, kl, ks, m, o, rfl, hp, hP, hm, hkl, hkn, hks, q⟩ := h
    walk_at "lw i0"
    have nk := purse_ne hp hP hkl
    walk_at "lw go"
    refine ⟨p, 6, m, o, rfl, hp, hP, by omega, by decide, by decide, fun g o1 g0 g1 hP1 => ?_⟩
    have K1 : Keep p H (upd H p o1) := Keep.refl.put
    walk_at "lw go"
    refine g_ite (fun h => ?_) (fun h => ?_)
    · walk_at "lw go"
      refine ⟨p, 100000, _, o1, rfl, upd_same, hP1, by omega, by decide, by decide, fun n o2 H2 n0 n1 k2 hp2 hP2 => ?_⟩
      walk_at "lw go"
      refine ⟨by show 2 ≤ sizeLine; decide, fun t ht => ?_⟩
      have npt : p ≠ t := ne_of_none hp2 ht
      exact q _ (.whole n) _ o2 ⟨t, rfl, upd_same⟩ (Nat.le_refl 0) (by show -999999999 ≤ n ∧ n ≤ 999999999; omega) True.intro ((K1.trans k2).new ht) (by rw [upd_ne npt]; exact hp2) (hP2.mono (by omega))
    walk_at "lw go"
    refine g_ite (fun h => ?_) (fun h => ?_)
    · walk_at "lw go"
      refine ⟨by show 1 ≤ sizeLine; decide, fun t1 ht1 => ?_⟩
      walk_at "lw go"
      refine ⟨by show 1 ≤ sizeLine; decide, fun t2 ht2 => ?_⟩
      walk_at "lw go"
      refine ⟨by show 2 ≤ sizeLine; decide, fun l hl => ?_⟩
      have n1 : p ≠ t1 := ne_of_none upd_same ht1
      have n2 : p ≠ t2 := ne_of_none (by rw [upd_ne n1, upd_same]) ht2
      have n3 : p ≠ l := ne_of_none (by rw [upd_ne n2, upd_ne n1, upd_same]) hl
      have n12 : t1 ≠ t2 := ne_of_none upd_same ht2
      have n1l : t1 ≠ l := ne_of_none (by rw [upd_ne n12, upd_same]) hl
      have n2l : t2 ≠ l := ne_of_none upd_same hl
      walk_at "lw go"
      refine ⟨p, 2, _, o1, rfl, by rw [upd_ne n3, upd_ne n2, upd_ne n1, upd_same], hP1, by omega, by decide, by decide, fun e o2 e0 e1 hP2 => ?_⟩
      have k3 := (((K1.new (o := .tup [.str "x"]) ht1).new (o := .tup [.str "z"]) ht2).new (o := .lst [.ref t1, .ref t2]) hl).put (o := o2)
      rcases (show e = 0 ∨ e = 1 by omega) with rfl | rfl
      · refine g_ixL (SqL.of (by rw [upd_ne n3.symm, upd_same])) (v := .ref t1) rfl ?_
        exact q _ .px _ o2 ⟨t1, rfl, by rw [upd_ne n1.symm, upd_ne n1l, upd_ne n12, upd_same]⟩ (Nat.le_refl 0) True.intro True.intro k3 upd_same (hP2.mono (by omega))
      · refine g_ixL (SqL.of (by rw [upd_ne n3.symm, upd_same])) (v := .ref t2) (atI_nat (j := 1) (by rfl)) ?_
        exact q _ .pz _ o2 ⟨t2, rfl, by rw [upd_ne n2.symm, upd_ne n2l, upd_same]⟩ (Nat.le_refl 0) True.intro True.intro k3 upd_same (hP2.mono (by omega))
    have noise : ∀ (σ : L2.St) (D : Ends) (H3 : Hp), σ[0]? = some (some (.ref p)) → D.rt = Q → Keep p H H3 → H3 p = some o1 → 
        tRet (tTup (tCons (tC (.str "noise")) (tCons (tOp (rIxL K) (tLst (tCons (tC (.int 0)) (tCons (tC (.int 1)) (tCons (tC (.int 7)) (tCons (tOp (rI CPow fun i j => V.int (i ^ j.toNat)) (tC (.int 10)) (tC (.int 9))) tNil))))) (tCall spDraw [] E0 (tCons (tVar 0) (tCons (tC (.int 4)) tNil)))) (tCons (tCall spDraw [] E0 (tCons (tVar 0) (tCons (tC (.int 9)) tNil))) tNil)))) D σ H3 := by
      intro σ D H3 hσ hD k3 hp3
      walk_at "lw go"
      refine ⟨by show 4 ≤ sizeLine; decide, fun l hl => ?_⟩
      have npl : p ≠ l := ne_of_none hp3 hl
      walk_at "lw go"
      refine g_var hσ ?_
      walk_at "lw go"
      refine ⟨p, 4, _, o1, rfl, by rw [upd_ne npl]; exact hp3, hP1, by omega, by decide, by decide, fun e o2 e0 e1 hP2 => ?_⟩
      obtain ⟨v, hv, hv2⟩ := four_at (a := V.int 0) (b := V.int 1) (c := V.int 7) (d := V.int (10 ^ Int.toNat 9)) e0 e1
      obtain ⟨k, rfl, k0, k1⟩ : ∃ k : Int, v = .int k ∧ 0 ≤ k ∧ k ≤ 1000000000 := by
        rcases hv2 with rfl | rfl | rfl | rfl
        · exact ⟨0, rfl, by omega, by omega⟩
        · exact ⟨1, rfl, by omega, by omega⟩
        · exact ⟨7, rfl, by omega, by omega⟩
        · exact ⟨_, rfl, by decide +kernel, by decide +kernel⟩
      refine g_ixL (SqL.of (by rw [upd_ne npl.symm, upd_same])) hv ?_
      walk_at "lw go"
      refine g_var hσ ?_
      walk_at "lw go"
      refine ⟨p, 9, _, o2, rfl, upd_same, hP2, by omega, by decide, by decide, fun e' o3 e0' e1' hP3 => ?_⟩
      walk_at "lw go"
      refine ⟨by show 3 ≤ sizeLine; decide, fun t ht => ?_⟩
      have npt : p ≠ t := ne_of_none upd_same ht
      rw [hD]
      exact q _ (.noise k e') _ o3 ⟨t, rfl, upd_same⟩ (Nat.le_refl 0) (by show (0 ≤ k ∧ k ≤ 1000000000) ∧ 0 ≤ e' ∧ e' ≤ 8; omega) True.intro (((k3.new hl).put.put).new ht) (by rw [upd_ne npt, upd_same]) (hP3.mono (by omega))
    walk_at "lw go"
    refine g_ite (fun h => ?_) (fun h => ?_)
    · walk_at "lw go"
      refine ⟨by show 0 ≤ sizeLine; decide, fun l hl => ?_⟩
      have npl : p ≠ l := ne_of_none upd_same hl
      have hkl1 : (upd (upd H p o1) l (.lst [])) kl = some (.lst (ks.map V.str)) := by
        have e1 : (upd H p o1) kl = some (.lst (ks.map V.str)) := by rw [upd_ne nk]; exact hkl
        rw [upd_ne (ne_of_none e1 hl)]
        exact e1
      have k2 := K1.new (o := .lst []) hl
      have hp2 : (upd (upd H p o1) l (.lst [])) p = some o1 := by rw [upd_ne npl, upd_same]
      refine ⟨_, _, .lst (SqL.of hkl1) (dpAll_strs ks), .lst (SqL.of upd_same) .nil, shaped_strs ks hks, by decide, ?_⟩
      rw [eqv_strs_nil]
      walk_at "lw go"
      refine g_iteN (fun hne => ?_) (fun he => ?_)
      · walk_at "lw go"
        refine ⟨kl, _, rfl, .inl (SqL.of hkl1), ?_⟩
        have hpos : 0 < ks.length := List.length_pos_iff.mpr hne
        walk_at "lw go"
        refine ⟨p, _, _, o1, rfl, hp2, hP1, by omega, by rw [List.length_map]; omega, by rw [List.length_map]; omega, fun e o2 e0 e1 hP2 => ?_⟩
        rw [List.length_map] at e1
        obtain ⟨j, rfl⟩ : ∃ j : Nat, e = (j : Int) := ⟨e.toNat, by omega⟩
        have hj : j < ks.length := by omega
        refine g_ixL (SqL.of (by rw [upd_ne nk]; exact hkl1)) (v := .str ks[j]) (atI_nat (by rw [List.getElem?_map, List.getElem?_eq_getElem hj]; rfl)) ?_
        walk_at "lw go"
        refine ⟨by show 2 ≤ sizeLine; decide, fun t ht => ?_⟩
        have npt : p ≠ t := ne_of_none upd_same ht
        exact q _ (.nm ks[j]) _ o2 ⟨t, rfl, upd_same⟩ (Nat.le_refl 0) (hks _ (List.getElem_mem hj)) (List.getElem_mem hj) ((k2.put).new ht) (by rw [upd_ne npt, upd_same]) (hP2.mono (by omega))
      · refine g_next ?_
        exact noise _ _ _ (by rfl) (by rfl) k2 hp2
    · refine iteF (g_next ?_)
      exact noise _ _ _ (by rfl) (by rfl) K1 upd_same
abbrev N_law_field : List Str := ["_law_purse_here", "_law_deep", "_law_known", "_law_way", "_law_one", "_law_name", "_law_other"]
theorem sc_law_field : FnScope N_law_field ["_law_purse_here", "_law_deep", "_law_known"] (defScope s_law_field) := ⟨rfl, rfl, rfl, by decide +kernel, rfl, by decide +kernel, by decide +kernel⟩
theorem ok_law_field (F : FnP K "_law_field" s_law_field f fd) (T : Bi mg) (G : Kn K mg) (D_law_draw : Df P w K mg base "_law_draw" ["_law_purse_here", "_law_out_of"] 2 spDraw) (D_law_leaf : Df P w K mg base "_law_leaf" ["_law_purse_here", "_law_known"] 4 spLeaf) (D_law_number : Df P w K mg base "_law_number" ["_law_purse_here", "_law_most"] 3 spNumber) (gm : mg "_law_field" = some (.ref f)) (kp : PySem.W.keepIn K (.ref f) = true) (bb : Binds K fd ["_law_purse_here", "_law_deep", "_law_known"] []) : ∀ n : Nat, FnOk P w K mg base CX0 (n + 5) f fd ["_law_purse_here", "_law_deep", "_law_known"] (spField n)
  | 0 => by
    refine F.ok sc_law_field (fun vs H Q E h => ?_) (fun cdv A outer s H vs Q E hr h => ?_)
    · obtain ⟨p, kl, ks, dn, m, o, rfl, _⟩ := h
      rfl
    · exact (spField_zero h).elim
  | n + 1 => by
    have D_law_field : Df P w K mg base "_law_field" ["_law_purse_here", "_law_deep", "_law_known"] (n + 5) (spField n) := ⟨f, fd, gm, kp, bb, ok_law_field F T G D_law_draw D_law_leaf D_law_number gm kp bb n⟩
    refine F.ok (k := n + 5) sc_law_field (fun vs H Q E h => ?_) (fun cdv A outer s H vs Q E hr h => ⟨_, PSs.nox
(pss_cons (ps_if (pt_cmpR op_eq (pv 1) pe_int (nomark _))
  (pss_one (ps_ret (pe_df D_law_leaf (hr.mono (by first | decide | omega)) (pa_cons (pv 0) (pa_cons (pv 2) pa_nil)))))
  pss_nil)
  (pss_cons (ps_set (i := 3) sc_law_field.nd rfl (Or.inl rfl) (pe_df D_law_draw (hr.mono (by first | decide | omega)) (pa_cons (pv 0) (pa_cons pe_int pa_nil))))
  (pss_cons (ps_set (i := 4) sc_law_field.nd rfl (Or.inl rfl) (pe_df D_law_field (hr.mono (by first | decide | omega)) (pa_cons (pv 0) (pa_cons (pe_op op_sub (pv 1) pe_int) (pa_cons (pv 2) pa_nil)))))
  (pss_cons (ps_if (pt_cmpR op_eq (pv 3) pe_int (nomark _))
  (pss_one (ps_ret (pe_tup (pa_cons pe_str (pa_cons (pv 4) (pa_cons (pe_op op_add pe_int (pe_df D_law_draw (hr.mono (by first | decide | omega)) (pa_cons (pv 0) (pa_cons (pe_ix ix_list (pe_lst (pa_cons pe_int (pa_cons pe_int (pa_cons (pe_op op_pow pe_int pe_int) pa_nil)))) (pe_df D_law_draw (hr.mono (by first | decide | omega)) (pa_cons (pv 0) (pa_cons pe_int pa_nil))) (fun _ _ => rfl)) pa_nil)))) pa_nil))))))
  pss_nil)
  (pss_cons (ps_if (pt_cmpR op_eq (pv 3) pe_int (nomark _))
  (pss_one (ps_ret (pe_tup (pa_cons pe_str (pa_cons (pe_df D_law_number (hr.mono (by first | decide | omega)) (pa_cons (pv 0) (pa_cons pe_int pa_nil))) (pa_cons (pe_df D_law_number (hr.mono (by first | decide | omega)) (pa_cons (pv 0) (pa_cons pe_int pa_nil))) (pa_cons (pv 4) pa_nil)))))))
  pss_nil)
  (pss_cons (ps_if (pt_cmpR op_eq (pv 3) pe_int (nomark _))
  (pss_cons (ps_set (i := 5) sc_law_field.nd rfl (Or.inl rfl) (pe_ix ix_list (pe_lst (pa_cons pe_str (pa_cons pe_str (pa_cons pe_str (pa_cons pe_str pa_nil))))) (pe_df D_law_draw (hr.mono (by first | decide | omega)) (pa_cons (pv 0) (pa_cons pe_int pa_nil))) (fun _ _ => rfl)))
  (pss_one (ps_ret (pe_tup (pa_cons pe_str (pa_cons (pv 5) (pa_cons (pv 4) (pa_cons (pe_df D_law_field (hr.mono (by first | decide | omega)) (pa_cons (pv 0) (pa_cons (pe_op op_sub (pv 1) pe_int) (pa_cons (pe_op op_cat (pv 2) (pe_lst (pa_cons (pv 5) pa_nil))) pa_nil)))) pa_nil))))))))
  pss_nil)
  (pss_cons (ps_set (i := 6) sc_law_field.nd rfl (Or.inl rfl) (pe_df D_law_field (hr.mono (by first | decide | omega)) (pa_cons (pv 0) (pa_cons (pe_op op_sub (pv 1) pe_int) (pa_cons (pv 2) pa_nil)))))
  (pss_cons (ps_if (pt_cmpR op_eq (pv 3) pe_int (nomark _))
  (pss_one (ps_ret (pe_tup (pa_cons pe_str (pa_cons (pv 4) (pa_cons (pv 6) (pa_cons (pe_df D_law_leaf (hr.mono (by first | decide | omega)) (pa_cons (pv 0) (pa_cons (pv 2) pa_nil))) (pa_cons (pe_df D_law_field (hr.mono (by first | decide | omega)) (pa_cons (pv 0) (pa_cons (pe_op op_sub (pv 1) pe_int) (pa_cons (pv 2) pa_nil)))) pa_nil))))))))
  pss_nil)
  (pss_one (ps_ret (pe_tup (pa_cons (pe_ix ix_list (pe_lst (pa_cons pe_str (pa_cons pe_str (pa_cons pe_str (pa_cons pe_str (pa_cons pe_str (pa_cons pe_str pa_nil))))))) (pe_df D_law_draw (hr.mono (by first | decide | omega)) (pa_cons (pv 0) (pa_cons pe_int pa_nil))) (fun _ _ => rfl)) (pa_cons (pv 4) (pa_cons (pv 6) pa_nil)))))))))))))), ?_⟩)
    · obtain ⟨p, kl, ks, dn, m, o, rfl, _⟩ := h
      rfl
    · obtain ⟨p, kl, ks, dn, m, o, rfl, hdn, hp, hP, hm, hkl, hkn, hks, q⟩ := h
      walk_at "lw i0"
      have nk := purse_ne hp hP hkl
      cases dn with
      | zero =>
        have c0 : costF 0 = 100 := rfl
        walk_at "lw go"
        refine iteS rfl ?_
        walk_at "lw go"
        exact ⟨p, kl, ks, m, o, rfl, hp, hP, by omega, hkl, by omega, hks, fun u F H' o' h1 h2 h3 h4 h5 h6 h7 => q u F H' o' h1 h2 h3 h4 h5 h6 (h7.mono (by omega))⟩
      | succ dn =>
        have cd : costF (dn + 1) = 5 * costF dn := rfl
        have cp := costF_pos dn
        walk_at "lw go"
        refine iteNo (fun e => by have := V.int.inj e; omega) ?_
        walk_at "lw go"
        refine ⟨p, 10, m, o, rfl, hp, hP, by omega, by decide, by decide, fun way o1 w0 w1 hP1 => ?_⟩
        have k1 : Keep p H (upd H p o1) := Keep.refl.put
        walk_at "lw go"
        refine ⟨p, kl, ks, dn, m + 4, o1, by rw [show ((dn + 1 : Nat) : Int) - 1 = (dn : Int) by omega], by omega, upd_same, hP1, by omega, (keep_l k1 nk hkl), by omega, hks, fun u1 A H2 o2 hA dA oA bA kA hp2 hP2 => ?_⟩
        have k2 := k1.trans kA
        walk_at "lw go"
        refine g_ite (fun h => ?_) (fun h => ?_)
        · walk_at "lw go"
          refine ⟨by show 3 ≤ sizeLine; decide, fun l hl => ?_⟩
          have npl : p ≠ l := ne_of_none hp2 hl
          walk_at "lw go"
          refine ⟨p, 3, _, o2, rfl, by rw [upd_ne npl]; exact hp2, hP2, by omega, by decide, by decide, fun e o3 e0 e1 hP3 => ?_⟩
          obtain ⟨v, hv, hv2⟩ := three_at (a := V.int 3) (b := V.int 100) (c := V.int (10 ^ Int.toNat 9)) e0 e1
          obtain ⟨k, rfl, k0, k9⟩ : ∃ k : Int, v = .int k ∧ 0 < k ∧ k ≤ 1000000000 := by
            rcases hv2 with rfl | rfl | rfl
            · exact ⟨3, rfl, by omega, by omega⟩
            · exact ⟨100, rfl, by omega, by omega⟩
            · exact ⟨_, rfl, by decide +kernel, by decide +kernel⟩
          refine g_ixL (SqL.of (by rw [upd_ne npl.symm, upd_same])) hv ?_
          walk_at "lw go"
          refine ⟨p, k, _, o3, rfl, upd_same, hP3, by omega, k0, by omega, fun j o4 j0 j1 hP4 => ?_⟩
          walk_at "lw go"
          refine ⟨by show 3 ≤ sizeLine; decide, fun t ht => ?_⟩
          have npt : p ≠ t := ne_of_none upd_same ht
          have k3 : Keep p H2 _ := ((Keep.refl.new (o := .lst [.int 3, .int 100, .int (10 ^ Int.toNat 9)]) hl).put (o := o3)).put (o := o4)
          have k4 := k3.new (o := .tup [.str "over", u1, .int (1 + j)]) ht
          exact q _ (.over A (1 + j)) _ o4 ⟨t, u1, rfl, upd_same, keep_rep k4 hp2 hP2 hA⟩ (by simp only [dep]; omega) ⟨oA, by omega, by omega⟩ bA (k2.trans k4) (by rw [upd_ne npt, upd_same]) (hP4.mono (by omega))
        walk_at "lw go"
        refine g_ite (fun h => ?_) (fun h => ?_)
        · walk_at "lw go"
          refine ⟨p, 1001, _, o2, rfl, hp2, hP2, by omega, by decide, by decide, fun dx o3 H3 x0 x1 k3 hp3 hP3 => ?_⟩
          walk_at "lw go"
          refine ⟨p, 1001, _, o3, rfl, hp3, hP3, by omega, by decide, by decide, fun dz o4 H4 z0 z1 k4 hp4 hP4 => ?_⟩
          walk_at "lw go"
          refine ⟨by show 4 ≤ sizeLine; decide, fun t ht => ?_⟩
          have npt : p ≠ t := ne_of_none hp4 ht
          have k5 := (k3.trans k4).new (o := .tup [.str "shift", .int dx, .int dz, u1]) ht
          exact q _ (.shift dx dz A) _ o4 ⟨t, u1, rfl, upd_same, keep_rep k5 hp2 hP2 hA⟩ (by simp only [dep]; omega) ⟨⟨by omega, by omega⟩, ⟨by omega, by omega⟩, oA⟩ bA (k2.trans k5) (by rw [upd_ne npt]; exact hp4) (hP4.mono (by omega))
        walk_at "lw go"
        refine g_ite (fun h => ?_) (fun h => ?_)
        · walk_at "lw go"
          refine ⟨by show 4 ≤ sizeLine; decide, fun l hl => ?_⟩
          have npl : p ≠ l := ne_of_none hp2 hl
          walk_at "lw go"
          refine ⟨p, 4, _, o2, rfl, by rw [upd_ne npl]; exact hp2, hP2, by omega, by decide, by decide, fun e o3 e0 e1 hP3 => ?_⟩
          obtain ⟨v, hv, hv2⟩ := four_at (a := V.str "a") (b := V.str "b") (c := V.str "ab") (d := V.str "abcdefgh") e0 e1
          obtain ⟨x, rfl, hx⟩ : ∃ x : Str, v = .str x ∧ NameOk x := by
            rcases hv2 with rfl | rfl | rfl | rfl
            · exact ⟨_, rfl, names4.1⟩
            · exact ⟨_, rfl, names4.2.1⟩
            · exact ⟨_, rfl, names4.2.2.1⟩
            · exact ⟨_, rfl, names4.2.2.2⟩
          refine g_ixL (SqL.of (by rw [upd_ne npl.symm, upd_same])) hv ?_
          walk_at "lw go"
          have k3 : Keep p H2 _ := (Keep.refl.new (o := .lst [.str "a", .str "b", .str "ab", .str "abcdefgh"]) hl).put (o := o3)
          refine ⟨by show 1 ≤ sizeLine; decide, fun l1 hl1 => ?_⟩
          have k4 := k3.new (o := .lst [.str x]) hl1
          have np1 : p ≠ l1 := ne_of_none upd_same hl1
          have hkl4 := keep_l (k2.trans k4) nk hkl
          refine ⟨kl, l1, ks.map V.str, [.str x], rfl, rfl, hkl4, upd_same, by rw [List.length_map]; exact Nat.le_of_lt (small1000 (by simp only [List.length_cons, List.length_nil]; omega)), fun l2 hl2 => ?_⟩
          have k5 := k4.new (o := .lst (ks.map V.str ++ [.str x])) hl2
          have np2 : p ≠ l2 := ne_of_none (by rw [upd_ne np1, upd_same]) hl2
          walk_at "lw go"
          refine ⟨p, l2, ks ++ [x], dn, _, o3, by rw [show ((dn + 1 : Nat) : Int) - 1 = (dn : Int) by omega], by omega, by rw [upd_ne np2, upd_ne np1, upd_same], hP3, by omega, by rw [upd_same, List.map_append]; rfl, by simp only [List.length_append, List.length_cons, List.length_nil]; omega, ?_, fun u2 B H4 o4 hB dB oB bB kB hp4 hP4 => ?_⟩
          · intro y hy
            rcases List.mem_append.mp hy with hy | hy
            · exact hks y hy
            · rw [List.mem_singleton.mp hy]; exact hx
          walk_at "lw go"
          refine ⟨by show 4 ≤ sizeLine; decide, fun t ht => ?_⟩
          have npt : p ≠ t := ne_of_none hp4 ht
          have k6 := (k5.trans kB).new (o := .tup [.str "let", .str x, u1, u2]) ht
          have k7 := (Keep.refl (H := H4)).new (p := p) (o := .tup [.str "let", .str x, u1, u2]) ht
          refine q _ (.lt x A B) _ o4 ⟨t, u1, u2, rfl, upd_same, keep_rep k6 hp2 hP2 hA, keep_rep k7 hp4 hP4 hB⟩ (by simp only [dep]; omega) ⟨hx, oA, oB⟩ ⟨bA, ?_⟩ (k2.trans k6) (by rw [upd_ne npt]; exact hp4) (hP4.mono (by omega))
          exact bnd_perm (fun y => by simp [or_comm]) B bB
        walk_at "lw go"
        refine ⟨p, kl, ks, dn, _, o2, by rw [show ((dn + 1 : Nat) : Int) - 1 = (dn : Int) by omega], by omega, hp2, hP2, by omega, (keep_l k2 nk hkl), by omega, hks, fun u2 B H3 o3 hB dB oB bB kB hp3 hP3 => ?_⟩
        walk_at "lw go"
        refine g_ite (fun h => ?_) (fun h => ?_)
        · walk_at "lw go"
          refine ⟨p, kl, ks, _, o3, rfl, hp3, hP3, by omega, (keep_l (k2.trans kB) nk hkl), by omega, hks, fun u3 C H4 o4 hC dC oC bC kC hp4 hP4 => ?_⟩
          walk_at "lw go"
          refine ⟨p, kl, ks, dn, _, o4, by rw [show ((dn + 1 : Nat) : Int) - 1 = (dn : Int) by omega], by omega, hp4, hP4, by omega, (keep_l ((k2.trans kB).trans kC) nk hkl), by omega, hks, fun u4 D H5 o5 hD dD oD bD kD hp5 hP5 => ?_⟩
          walk_at "lw go"
          refine ⟨by show 5 ≤ sizeLine; decide, fun t ht => ?_⟩
          have npt : p ≠ t := ne_of_none hp5 ht
          have k9 := (Keep.refl (H := H5)).new (p := p) (o := .tup [.str "below", u1, u2, u3, u4]) ht
          have k8 := kD.trans k9
          have k7 := kC.trans k8
          have k6 := kB.trans k7
          exact q _ (.bel A B C D) _ o5 ⟨t, u1, u2, u3, u4, rfl, upd_same, keep_rep k6 hp2 hP2 hA, keep_rep k7 hp3 hP3 hB, keep_rep k8 hp4 hP4 hC, keep_rep k9 hp5 hP5 hD⟩ (by simp only [dep]; omega) ⟨oA, oB, oC, oD⟩ ⟨bA, bB, bC, bD⟩ (k2.trans k6) (by rw [upd_ne npt]; exact hp5) (hP5.mono (by omega))
        · walk_at "lw go"
          refine ⟨by show 6 ≤ sizeLine; decide, fun l hl => ?_⟩
          have npl : p ≠ l := ne_of_none hp3 hl
          walk_at "lw go"
          refine ⟨p, 6, _, o3, rfl, by rw [upd_ne npl]; exact hp3, hP3, by omega, by decide, by decide, fun e o4 e0 e1 hP4 => ?_⟩
          obtain ⟨w, hw⟩ := six_word e0 e1
          refine g_ixL (SqL.of (by rw [upd_ne npl.symm, upd_same])) hw ?_
          walk_at "lw go"
          refine ⟨by show 3 ≤ sizeLine; decide, fun t ht => ?_⟩
          have npt : p ≠ t := ne_of_none upd_same ht
          have k9 := ((Keep.refl (H := H3)).new (p := p) (o := .lst [V.str "plus", .str "less", .str "times", .str "least", .str "most", .str "plus"]) hl).put (o := o4) |>.new (o := .tup [.str w.word, u1, u2]) ht
          have k6 := kB.trans k9
          exact q _ (.two w A B) _ o4 ⟨t, u1, u2, rfl, upd_same, keep_rep k6 hp2 hP2 hA, keep_rep k9 hp3 hP3 hB⟩ (by simp only [dep]; omega) ⟨oA, oB⟩ ⟨bA, bB⟩ (k2.trans k6) (by rw [upd_ne npt, upd_same]) (hP4.mono (by omega))
abbrev N_law_all_ranges : List Str := ["_law_field_here", "_law_area_here", "_law_bound", "_law_word", "_law_inner", "_law_found", "_law_far", "_law_part"]
theorem sc_law_all_ranges : FnScope N_law_all_ranges ["_law_field_here", "_law_area_here", "_law_bound"] (defScope s_law_all_ranges) := ⟨rfl, rfl, rfl, by decide +kernel, rfl, by decide +kernel, by decide +kernel⟩
theorem ok_law_all_ranges (F : FnP K "_law_all_ranges" s_law_all_ranges f fd) (T : Bi mg) (G : Kn K mg) (D_law_range : Df P w K mg base "_law_range" ["_law_field_here", "_law_grain_here", "_law_area_here", "_law_bound"] 64 (spRange 60)) (gm : mg "_law_all_ranges" = some (.ref f)) (kp : PySem.W.keepIn K (.ref f) = true) (bb : Binds K fd ["_law_field_here", "_law_area_here", "_law_bound"] []) : ∀ n : Nat, FnOk P w K mg base CX0 (n + 65) f fd ["_law_field_here", "_law_area_here", "_law_bound"] (spAllR n)
  | 0 => by
    refine F.ok sc_law_all_ranges (fun vs H Q E h => ?_) (fun cdv A outer s H vs Q E hr h => ?_)
    · obtain ⟨u, F, x0, z0, x1, z1, ar, d, m, k, r, δ, rfl, _⟩ := h
      rfl
    · exact (spAllR_zero h).elim
  | n + 1 => by
    have D_law_all_ranges : Df P w K mg base "_law_all_ranges" ["_law_field_here", "_law_area_here", "_law_bound"] (n + 65) (spAllR n) := ⟨f, fd, gm, kp, bb, ok_law_all_ranges F T G D_law_range gm kp bb n⟩
    refine F.ok (k := n + 65) sc_law_all_ranges (fun vs H Q E h => ?_) (fun cdv A outer s H vs Q E hr h => ⟨_, PSs.nox
(pss_cons (ps_set (i := 3) sc_law_all_ranges.nd rfl (Or.inl rfl) (pe_ix ix_tup (pv 0) pe_int (fun _ _ => rfl)))
  (pss_cons (ps_if (pt_cmpR op_eq (pv 3) pe_str (nomark _))
  (pss_one (ps_ret (pe_df D_law_all_ranges (hr.mono (by first | decide | omega)) (pa_cons (pe_ix ix_tup (pe_dget (hu_of hr) (pv 2) (pe_ix ix_tup (pv 0) pe_int (fun _ _ => rfl)) (fun _ _ => rfl)) pe_int (fun _ _ => rfl)) (pa_cons (pv 1) (pa_cons (pe_ix ix_tup (pe_dget (hu_of hr) (pv 2) (pe_ix ix_tup (pv 0) pe_int (fun _ _ => rfl)) (fun _ _ => rfl)) pe_int (fun _ _ => rfl)) pa_nil))))))
  pss_nil)
  (pss_cons (ps_if (pt_cmpR op_eq (pv 3) pe_str (nomark _))
  (pss_cons (ps_set (i := 4) sc_law_all_ranges.nd rfl (Or.inl rfl) (pe_callTy call_dictD (by rfl) T.dict (by decide +kernel) (pa_cons (pv 2) pa_nil)))
  (pss_cons (ps_dput (hu_of hr) (pv 4) (pe_ix ix_tup (pv 0) pe_int (fun _ _ => rfl)) (pe_tup (pa_cons (pe_ix ix_tup (pv 0) pe_int (fun _ _ => rfl)) (pa_cons (pv 2) pa_nil))) rfl)
  (pss_one (ps_ret (pe_df D_law_all_ranges (hr.mono (by first | decide | omega)) (pa_cons (pe_ix ix_tup (pv 0) pe_int (fun _ _ => rfl)) (pa_cons (pv 1) (pa_cons (pv 4) pa_nil))))))))
  pss_nil)
  (pss_cons (ps_set (i := 5) sc_law_all_ranges.nd rfl (Or.inl rfl) (pe_lst (pa_cons (pe_df D_law_range (hr.mono (by first | decide | omega)) (pa_cons (pv 0) (pa_cons pe_int (pa_cons (pv 1) (pa_cons (pv 2) pa_nil))))) pa_nil)))
  (pss_cons (ps_if (pt_cmpR op_eq (pv 3) pe_str (nomark _))
  (pss_cons (ps_set (i := 6) sc_law_all_ranges.nd rfl (Or.inl rfl) (pe_tup (pa_cons (pe_op op_add (pe_ix ix_tup (pv 1) pe_int (fun _ _ => rfl)) (pe_ix ix_tup (pv 0) pe_int (fun _ _ => rfl))) (pa_cons (pe_op op_add (pe_ix ix_tup (pv 1) pe_int (fun _ _ => rfl)) (pe_ix ix_tup (pv 0) pe_int (fun _ _ => rfl))) (pa_cons (pe_op op_add (pe_ix ix_tup (pv 1) pe_int (fun _ _ => rfl)) (pe_ix ix_tup (pv 0) pe_int (fun _ _ => rfl))) (pa_cons (pe_op op_add (pe_ix ix_tup (pv 1) pe_int (fun _ _ => rfl)) (pe_ix ix_tup (pv 0) pe_int (fun _ _ => rfl))) pa_nil))))))
  (pss_one (ps_ret (pe_op op_cat (pv 5) (pe_df D_law_all_ranges (hr.mono (by first | decide | omega)) (pa_cons (pe_ix ix_tup (pv 0) pe_int (fun _ _ => rfl)) (pa_cons (pv 6) (pa_cons (pv 2) pa_nil))))))))
  pss_nil)
  (pss_cons (ps_for PassesOwn.never rfl (pi_tup (pe_slice sl_tup (pv 0) (po_some pe_int) po_none)) (pg_name (i := 7) sc_law_all_ranges.nd rfl (Or.inl rfl))
  (pss_one (ps_if (pt_val (pe_callB call_isi (by rfl) T.isinstance (by decide +kernel) (pa_cons (pv 7) (pa_cons (pe_bltn (v := .ty "tuple") (by rfl) T.tuple boot_tuple rfl) pa_nil))))
  (pss_one (ps_set (i := 5) sc_law_all_ranges.nd rfl (Or.inl rfl) (pe_op op_cat (pv 5) (pe_df D_law_all_ranges (hr.mono (by first | decide | omega)) (pa_cons (pv 7) (pa_cons (pv 1) (pa_cons (pv 2) pa_nil)))))))
  pss_nil)))
  (pss_one (ps_ret (pv 5))))))))), ?_⟩)
    · obtain ⟨u, F, x0, z0, x1, z1, ar, d, m, k, r, δ, rfl, _⟩ := h
      rfl
    · obtain ⟨u, F, x0, z0, x1, z1, ar, d, m, k, r, δ, rfl, hF, har, hE, hB, hn, hO, hv, hcn, hk, hx, hz, hW, hr2, hn5, q⟩ := h
      walk_at "lw i0"
      rcases kinds F with ⟨y, rfl⟩ | ⟨y, a, b, rfl⟩ | ⟨dx, dz, a, rfl⟩ | ⟨hk1, hk2, hk3⟩
      · show _
        obtain ⟨p, rfl, hp⟩ := hF
        have hn' : 1 + (δ.lookup y).getD 0 ≤ n + 1 := hn
        obtain ⟨m', rfl⟩ : ∃ m', m = m' + 1 := by
          cases m with
          | zero =>
            obtain ⟨_, e1, _⟩ := hE
            subst e1
            cases hB
          | succ m' => exact ⟨m', rfl⟩
        obtain ⟨kvs, hd, hkl, hq⟩ := hE
        obtain ⟨t, u', d', F', r', δ', a1, a2, a3, a4, a5, a6, a7, a8⟩ := hq y hB
        walk_at "lw go"
        refine g_ixT (SqT.of hp) (v := .str "name") rfl ?_
        walk_at "lw go"
        refine g_ixT (SqT.of hp) (v := .str y) (atI_nat (j := 1) (by rfl)) ?_
        refine ⟨d, .ref t, rfl, a1 ▸ DGet.k (k := Sum.inr y) hd, ?_⟩
        walk_at "lw go"
        refine g_ixT (SqT.of a2) (v := u') (atI_nat (j := 0) (by rfl)) ?_
        walk_at "lw go"
        refine g_ixT (SqT.of hp) (v := .str y) (atI_nat (j := 1) (by rfl)) ?_
        refine ⟨d, .ref t, rfl, a1 ▸ DGet.k (k := Sum.inr y) hd, ?_⟩
        walk_at "lw go"
        refine g_ixT (SqT.of a2) (v := .ref d') (atI_nat (j := 1) (by rfl)) ?_
        walk_at "lw go"
        have hO' : OkE (look r y) := hO
        have hv' : vb (look r y) k ≤ 400000 := hv
        have hcn' : cn (look r y) ≤ 1000000 := hcn
        refine ⟨u', F', x0, z0, x1, z1, ar, d', m', k, r', δ', rfl, a3, har, a4, a5, by omega, by rw [a6]; exact hO', by rw [a6]; exact hv', by rw [a6]; exact hcn', hk, hx, hz, hW.le (by omega), by omega, by omega, ?_⟩
        rw [a6]
        exact q
      · show _
        obtain ⟨p, u1, u2, rfl, hp, hF1, hF2⟩ := hF
        have hn' : 1 + udep b ((y, udep a δ) :: δ) ≤ n + 1 := hn
        obtain ⟨kvs, hd, hkl⟩ := hE.dict
        walk_at "lw go"
        refine g_ixT (SqT.of hp) (v := .str "let") rfl ?_
        walk_at "lw go"
        refine ⟨d, kvs, rfl, .inl hd, fun i hi => ?_⟩
        walk_at "lw go"
        have s1 := same_new (o := .dK kvs) hi
        refine g_ixT (SqT.of (s1 _ _ hp)) (v := u1) (atI_nat (j := 2) (by rfl)) ?_
        walk_at "lw go"
        refine ⟨by show 2 ≤ sizeLine; decide, fun t ht => ?_⟩
        have s2 := s1.trans (same_new (o := .tup [u1, .ref d]) ht)
        have nti : i ≠ t := ne_of_none upd_same ht
        walk_at "lw go"
        refine g_ixT (SqT.of (s2 _ _ hp)) (v := .str y) (atI_nat (j := 1) (by rfl)) ?_
        refine ⟨i, _, rfl, DPut.k (k := Sum.inr y) (by rw [upd_ne nti, upd_same]) (small1000 (by omega)), ?_⟩
        have s3 : Same H (upd (upd (upd H i (.dK kvs)) t (.tup [u1, .ref d])) i (.dK (putK kvs (Sum.inr y) (.ref t)))) := same_put s2 hi
        walk_at "lw go"
        refine g_ixT (SqT.of (s3 _ _ hp)) (v := u2) (atI_nat (j := 3) (by rfl)) ?_
        walk_at "lw go"
        exact ⟨u2, b, x0, z0, x1, z1, ar, i, m + 1, k, (y, expand a r) :: r, (y, udep a δ) :: δ, rfl, hF2.mono (same_tup s3), s3 _ _ har, hE.let_ hd s3 upd_same (by rw [upd_ne nti.symm, upd_same]) hF1 hB.1, hB.2, by omega, hO, hv, hcn, hk, hx, hz, hW.le (by omega), by simp only [List.length_cons]; omega, by omega, q.later s3⟩
      · show _
        have hFw := hF
        obtain ⟨p, u1, rfl, hp, hF1⟩ := hF
        have hn' : 1 + udep a δ ≤ n + 1 := hn
        have hc1 : 1 + cn (expand a r) ≤ 1000000 := hcn
        walk_at "lw go"
        refine g_ixT (SqT.of hp) (v := .str "shift") rfl ?_
        walk_at "lw go"
        refine ⟨.ref p, .shift dx dz a, 0, x0, z0, x1, z1, ar, d, m, k, r, δ, rfl, hFw, har, hE, hB, by omega, hO, hv, hk, hx, hz, hW.le (by omega), by omega, fun pr H1 s1 hpr => ?_⟩
        walk_at "lw go"
        refine ⟨by show 1 ≤ sizeLine; decide, fun l hl => ?_⟩
        have s2 := s1.trans (same_new (o := .lst [.ref pr]) hl)
        walk_at "lw go"
        refine g_ixT (SqT.of (s2 _ _ har)) (v := .int x0) (atI_nat (j := 0) (by rfl)) ?_
        walk_at "lw go"
        refine g_ixT (SqT.of (s2 _ _ hp)) (v := .int dx) (atI_nat (j := 1) (by rfl)) ?_
        walk_at "lw go"
        refine g_ixT (SqT.of (s2 _ _ har)) (v := .int z0) (atI_nat (j := 1) (by rfl)) ?_
        walk_at "lw go"
        refine g_ixT (SqT.of (s2 _ _ hp)) (v := .int dz) (atI_nat (j := 2) (by rfl)) ?_
        walk_at "lw go"
        refine g_ixT (SqT.of (s2 _ _ har)) (v := .int x1) (atI_nat (j := 2) (by rfl)) ?_
        walk_at "lw go"
        refine g_ixT (SqT.of (s2 _ _ hp)) (v := .int dx) (atI_nat (j := 1) (by rfl)) ?_
        walk_at "lw go"
        refine g_ixT (SqT.of (s2 _ _ har)) (v := .int z1) (atI_nat (j := 3) (by rfl)) ?_
        walk_at "lw go"
        refine g_ixT (SqT.of (s2 _ _ hp)) (v := .int dz) (atI_nat (j := 2) (by rfl)) ?_
        walk_at "lw go"
        refine ⟨by show 4 ≤ sizeLine; decide, fun fa hfa => ?_⟩
        have s3 := s2.trans (same_new (o := .tup [.int (x0 + dx), .int (z0 + dz), .int (x1 + dx), .int (z1 + dz)]) hfa)
        have nla : l ≠ fa := ne_of_none upd_same hfa
        walk_at "lw go"
        refine g_ixT (SqT.of (s3 _ _ hp)) (v := u1) (atI_nat (j := 3) (by rfl)) ?_
        walk_at "lw go"
        have hW' : Wide (x0 + dx) (z0 + dz) (x1 + dx) (z1 + dz) (n + 60) := (hW.le (n' := n + 60 + 1) (by omega)).shift hO.1 hO.2.1
        refine ⟨u1, a, x0 + dx, z0 + dz, x1 + dx, z1 + dz, fa, d, m, k + 1, r, δ, rfl, hF1.mono (same_tup s3), upd_same, hE.mono s3, hB, by omega, hO.2.2, hv, by omega, by omega, ⟨shift_bits hO.1 hk hx.1, shift_bits hO.1 hk hx.2⟩, ⟨shift_bits hO.2.1 hk hz.1, shift_bits hO.2.1 hk hz.2⟩, hW', by omega, by omega, fun l2 vs2 H4 s4 hl2 hps => ?_⟩
        have el := allE_len wideN (expand a r) (x0 + dx) (z0 + dz) (x1 + dx) (z1 + dz)
        have hlen := Paired.length hps
        refine ⟨l, l2, [.ref pr], vs2, rfl, rfl, s4 _ _ (by rw [upd_ne nla, upd_same]), hl2, small_size (by simp only [List.length_cons, List.length_nil]; omega), fun l3 hl3 => ?_⟩
        have s5 := same_new (o := .lst ([V.ref pr] ++ vs2)) hl3
        refine q l3 _ _ ((s3.trans s4).trans s5) upd_same (.cons ⟨pr, rfl, s5 _ _ (s4 _ _ ?_)⟩ (hps.mono s5))
        exact (same_new hfa) _ _ ((same_new hl) _ _ hpr)
      · have P := parts hF hk1 hk2 hk3
        obtain ⟨p, w, ps, rfl, hp, hps, hps4, ⟨pw1, pw2, pw3⟩, hsub, hall⟩ := P.ex
        walk_at "lw go"
        refine g_ixT (SqT.of hp) (v := .str w) (atI_nat (j := 0) (by rfl)) ?_
        walk_at "lw go"
        refine iteSN pw1 ?_
        walk_at "lw go"
        refine iteSN pw2 ?_
        walk_at "lw go"
        refine ⟨.ref p, F, 0, x0, z0, x1, z1, ar, d, m, k, r, δ, rfl, hF, har, hE, hB, by omega, hO, hv, hk, hx, hz, hW.le (by omega), by omega, fun pr H1 s1 hpr => ?_⟩
        walk_at "lw go"
        refine ⟨by show 1 ≤ sizeLine; decide, fun l hl => ?_⟩
        have s2 := s1.trans (same_new (o := .lst [.ref pr]) hl)
        walk_at "lw go"
        refine iteSN pw3 ?_
        walk_at "lw go"
        have hcnE := allE_len wideN (expand F r) x0 z0 x1 z1
        rw [hall] at hcnE
        refine g_slT (SqT.of (s2 _ _ hp)) cut1T_ok fun t ht => ?_
        rw [cut1T]
        have s3 := s2.trans (same_new (o := .tup (ps.map (·.1))) ht)
        have nlt : l ≠ t := ne_of_none upd_same ht
        refine ⟨t, rfl, ⟨_, SqT.of upd_same⟩, for_tup (xs := ps.map (·.1)) (fun i σ H' => ∃ (lf : Addr) (vf : List V) (o4 o6 o7 : Option V), σ = [some (.ref p), some (.ref ar), some (.ref d), some (.str w), o4, some (.ref lf), o6, o7] ∧ Same H H' ∧ H' t = some (.tup (ps.map (·.1))) ∧
          H' lf = some (.lst vf) ∧ PairsR H' vf (rangeG wideN (expand F r) x0 z0 x1 z1 :: (ps.take i).flatMap (partR wideN r x0 z0 x1 z1)))
          ⟨l, [.ref pr], none, none, none, rfl, s3, upd_same, by rw [upd_ne nlt, upd_same], .cons ⟨pr, rfl, (same_new ht) _ _ ((same_new hl) _ _ hpr)⟩ .nil⟩ (fun i σ H' _ ⟨_, _, _, _, _, _, _, h, _⟩ => SqT.of h) ?_ ?_⟩
        · rintro i y σ H' hi ⟨lf, vf, o4, o6, o7, rfl, sH, htH, hlf, hpf⟩
          obtain ⟨⟨v, oF⟩, hq, rfl⟩ : ∃ q, ps[i]? = some q ∧ q.1 = y := by
            rw [List.getElem?_map] at hi
            cases e : ps[i]? with
            | none => rw [e] at hi; cases hi
            | some q => rw [e] at hi; exact ⟨q, rfl, Option.some.inj hi⟩
          have hmem : (v, oF) ∈ ps := List.mem_of_getElem? hq
          have etake : ps.take (i + 1) = ps.take i ++ [(v, oF)] := by rw [List.take_add_one, hq]; rfl
          have hlen := Paired.length hpf
          have hft := flat_take (partR wideN r x0 z0 x1 z1) ps i
          have hft1 := flat_take (partR wideN r x0 z0 x1 z1) ps (i + 1)
          simp only [List.length_cons] at hlen hcnE
          walk_at "lw go"
          cases oF with
          | some A =>
            have hA : FRep A H v := hps _ hmem
            have sb := hsub _ hmem A rfl
            have hA' := hA.mono (same_tup sH)
            obtain ⟨pa, xa, rfl, hpa⟩ : ∃ pa xa, v = .ref pa ∧ H' pa = some (.tup xa) := frep_ref hA'
            refine ⟨_, _, _, _, true, rfl, .ty "tuple", .base (.tup hpa), kit_ty (by decide +kernel), ?_⟩
            walk_at "lw go"
            have b1 := sb.ud δ
            have b2 := sb.vb r k
            have b3 := sb.cn r
            have eA := allE_len wideN (expand A r) x0 z0 x1 z1
            refine ⟨.ref pa, A, x0, z0, x1, z1, ar, d, m, k, r, δ, rfl, hA', sH _ _ har, hE.mono sH, sb.bnd _ hB, by omega, sb.ok r hO, by omega, by omega, hk, hx, hz, hW.le (by omega), by omega, by omega, fun l2 vs2 H4 s4 hl2 hps2 => ?_⟩
            have hlen2 := Paired.length hps2
            refine g_cat (s4 _ _ hlf) hl2 (small_size (by omega)) fun l3 hl3 => ?_
            have s5 := same_new (o := .lst (vf ++ vs2)) hl3
            have nt3 : t ≠ l3 := ne_of_none (s4 _ _ htH) hl3
            walk_at "lw go"
            refine ⟨l3, _, _, _, _, rfl, (sH.trans s4).trans s5, s5 _ _ (s4 _ _ htH), upd_same, ?_⟩
            rw [etake, List.flatMap_append]
            have e1 : [(V.ref pa, some A)].flatMap (partR wideN r x0 z0 x1 z1) = allE wideN (expand A r) x0 z0 x1 z1 := by simp [partR]
            rw [e1]
            exact PairsR.append (vs := vf) ((hpf.mono s4).mono s5) (hps2.mono s5)
          | none =>
            have e1 : [(v, (none : Option Fd))].flatMap (partR wideN r x0 z0 x1 z1) = [] := by simp [partR]
            have fin : PairsR H' vf (rangeG wideN (expand F r) x0 z0 x1 z1 :: (ps.take (i + 1)).flatMap (partR wideN r x0 z0 x1 z1)) := by
              rw [etake, List.flatMap_append, e1, List.append_nil]
              exact hpf
            rcases hps _ hmem with ⟨a, rfl⟩ | ⟨a, rfl⟩
            · refine ⟨_, _, _, _, false, rfl, .ty "tuple", .base (.int _), kit_ty (by decide +kernel), ?_⟩
              walk_at "lw go"
              exact ⟨lf, vf, _, _, _, rfl, sH, htH, hlf, fin⟩
            · refine ⟨_, _, _, _, false, rfl, .ty "tuple", .base (.str _), kit_ty (by decide +kernel), ?_⟩
              walk_at "lw go"
              exact ⟨lf, vf, _, _, _, rfl, sH, htH, hlf, fin⟩
        · rintro σ H' ⟨lf, vf, o4, o6, o7, rfl, sH, htH, hlf, hpf⟩
          walk_at "lw go"
          rw [List.length_map, List.take_length, ← hall] at hpf
          exact q lf vf H' sH hlf hpf
abbrev N_law_small : List Str := ["_law_field_here", "_law_some", "_law_pair"]
theorem sc_law_small : FnScope N_law_small ["_law_field_here"] (defScope s_law_small) := ⟨rfl, rfl, rfl, by decide +kernel, rfl, by decide +kernel, by decide +kernel⟩
theorem ok_law_small (F : FnP K "_law_small" s_law_small f fd) (T : Bi mg) (G : Kn K mg) (D_law_all_ranges : Df P w K mg base "_law_all_ranges" ["_law_field_here", "_law_area_here", "_law_bound"] 105 (spAllR 40)) : FnOk P w K mg base CX0 106 f fd ["_law_field_here"] spSmall := by
  refine F.ok sc_law_small (fun vs H Q E h => ?_) (fun cdv A outer s H vs Q E hr h => ⟨_, PSs.nox
(pss_cons (ps_set (i := 1) sc_law_small.nd rfl (Or.inl rfl) (pe_df D_law_all_ranges (hr.mono (by first | decide | omega)) (pa_cons (pv 0) (pa_cons (pe_tup (pa_cons (pe_un un_neg pe_int) (pa_cons (pe_un un_neg pe_int) (pa_cons pe_int (pa_cons pe_int pa_nil))))) (pa_cons pe_dnewK pa_nil)))))
  (pss_cons (ps_if (PW.pt (pw_or (pt_cmpR op_gt (pe_callB call_len_seq (by rfl) T.len (by decide +kernel) (pa_cons (pv 1) pa_nil)) pe_int (nomark _)) (pw_or1 (pt_cmpR (op_neD hr.units) (pe_lc (own := [("_law_pair", 2)]) (g := gName 2)  rfl sc_law_small.nd (pi_list (pv 1)) (blkOk_by (N := N_law_small) (sc := defScope s_law_small) (by decide +kernel)) (fun _ _ _ _ _ => pg_name (i := 2) sc_law_small.nd rfl (Or.inl rfl)) (fun _ _ _ _ _ => (pts_one (PW.pt (pw_or (pt_cmpR op_lt (pe_ix (ix_tupK (K := K)) (pv 2) pe_int (fun _ _ => rfl)) (pe_un un_neg (pe_op op_pow pe_int pe_int)) (nomark _)) (pw_or1 (pt_cmpR op_gt (pe_ix (ix_tupK (K := K)) (pv 2) pe_int (fun _ _ => rfl)) (pe_op op_pow pe_int pe_int) (nomark _))))))) (fun _ _ _ _ _ => (pv 2))) (pe_lst pa_nil) (nomark _)))))
  (pss_one (ps_ret pe_bl))
  pss_nil)
  (pss_one (ps_ret (pe_and (pe_cmpR op_le (pe_un un_neg (pe_op op_pow pe_int pe_int)) (pe_ix ix_tup (pe_ix ix_list (pv 1) pe_int (fun _ _ => rfl)) pe_int (fun _ _ => rfl)) (nomark _)) (pe_one (pe_cmpR op_le (pe_ix ix_tup (pe_ix ix_list (pv 1) pe_int (fun _ _ => rfl)) pe_int (fun _ _ => rfl)) (pe_op op_pow pe_int pe_int) (nomark _)))))))), ?_⟩)
  · obtain ⟨u, F, rfl, _⟩ := h
    rfl
  · obtain ⟨u, F, rfl, hF, hB, hO, hd, q⟩ := h
    walk_at "lw i0"
    have oE := ok_expand F [] hO okR_nil
    have nm := nums F 3 [] [] 0 0 0 hd num_nil
    have w3 : Wd 3 0 = 128 ∧ Sd 3 0 = 7 ∧ Ud 3 0 ≤ 15 ∧ Cd 3 0 ≤ 1000000 := by decide
    have cE := cn_le F 3 [] 0 hd (fun x => Nat.le_refl 1)
    have vE := vb_le (expand F []) 34 (Nat.le_refl 34)
    have vE2 : wt (expand F []) * (34 + sh (expand F []) + 1) ≤ 128 * 42 := Nat.mul_le_mul (by omega) (by omega)
    walk_at "lw go"
    refine ⟨by show 4 ≤ sizeLine; decide, fun ar har => ?_⟩
    walk_at "lw go"
    refine g_dnew fun d hd0 => ?_
    have s1 := same_new (o := .tup [.int (-1000010), .int (-1000010), .int 1000010, .int 1000010]) har
    have s2 := s1.trans (same_new (o := .dK []) hd0)
    have nad : ar ≠ d := ne_of_none upd_same hd0
    have p34 : (2 : Nat) ^ 34 = 17179869184 := by decide
    walk_at "lw go"
    refine ⟨u, F, -1000010, -1000010, 1000010, 1000010, ar, d, 0, 34, [], [], rfl, hF.mono (same_tup s2), by rw [upd_ne nad, upd_same], ⟨upd_same, rfl, rfl⟩, hB, by omega, oE, by omega, by omega, Nat.le_refl 34, ⟨by show Int.natAbs (-1000010) < _; omega, by show Int.natAbs 1000010 < _; omega⟩, ⟨by show Int.natAbs (-1000010) < _; omega, by show Int.natAbs 1000010 < _; omega⟩,
      ⟨by decide, by decide, by decide, by decide, by decide, by decide⟩, by simp, by decide, fun l vs H3 s3 hl hps => ?_⟩
    have s13 := s2.trans s3
    have hlen := Paired.length hps
    have eAll := allE_len wideN (expand F []) (-1000010) (-1000010) 1000010 1000010
    obtain ⟨rest, hall⟩ : ∃ rest, allE wideN (expand F []) (-1000010) (-1000010) 1000010 1000010 = rangeG wideN (expand F []) (-1000010) (-1000010) 1000010 1000010 :: rest := by
      cases expand F [] <;> exact ⟨_, rfl⟩
    walk_at "lw go"
    refine ⟨_, _, rfl, .inl (SqL.of hl), ?_⟩
    walk_at "lw go"
    refine g_ite (fun h => ?_) (fun h => ?_)
    · walk_at "lw go"
      exact q false H3 s13 (fun e => by cases e)
    have hc60 : cn (expand F []) ≤ 60 := by omega
    walk_at "lw go"
    refine ⟨l, rfl, ⟨_, SqL.of hl⟩, fun D hD => ?_⟩
    have nlD : l ≠ D := ne_of_none hl hD
    refine lc_list (xs := vs) (fun i H' => ∃ acc, Same H3 H' ∧ H' D = some (.lst acc) ∧ PairsR H' acc (((allE wideN (expand F []) (-1000010) (-1000010) 1000010 1000010).take i).filter badP))
      ⟨[], same_new hD, upd_same, .nil⟩ (fun i H' _ ⟨_, s, _⟩ => SqL.of (s _ _ hl)) ?_ ?_
    · rintro i y H' hi ⟨acc, s, hacc, hpa⟩
      obtain ⟨ab, hab, py, rfl, hpy⟩ : ∃ ab, (allE wideN (expand F []) (-1000010) (-1000010) 1000010 1000010)[i]? = some ab ∧ ∃ p, y = .ref p ∧ H3 p = some (.tup [.int ab.1, .int ab.2]) := pairs_at hps hi
      have etake : (allE wideN (expand F []) (-1000010) (-1000010) 1000010 1000010).take (i + 1) = (allE wideN (expand F []) (-1000010) (-1000010) 1000010 1000010).take i ++ [ab] := by rw [List.take_add_one, hab]; rfl
      have hla := Paired.length hpa
      have hlf : (((allE wideN (expand F []) (-1000010) (-1000010) 1000010 1000010).take i).filter badP).length ≤ 60 := by
        have := List.length_filter_le badP ((allE wideN (expand F []) (-1000010) (-1000010) 1000010 1000010).take i)
        rw [List.length_take] at this
        omega
      walk_at "lw go"
      refine ⟨rfl, ?_⟩
      have hpy' := s _ _ hpy
      have add : badP ab = true → ∃ acc', Same H3 (upd H' D (.lst (acc ++ [.ref py]))) ∧ (upd H' D (.lst (acc ++ [.ref py]))) D = some (.lst acc') ∧ PairsR (upd H' D (.lst (acc ++ [.ref py]))) acc' (((allE wideN (expand F []) (-1000010) (-1000010) 1000010 1000010).take (i + 1)).filter badP) := fun hb => by
        have nD : ∀ p xs, H' p = some (.tup xs) → p ≠ D := fun p xs h e => by rw [e, hacc] at h; cases h
        have up : ∀ {vs' : List V} {ps : List (Int × Int)}, PairsR H' vs' ps → PairsR (upd H' D (.lst (acc ++ [.ref py]))) vs' ps := fun {vs' ps} h => by
          induction h with
          | nil => exact .nil
          | cons a t ih =>
            obtain ⟨p, e, h⟩ := a
            exact .cons ⟨p, e, by rw [upd_ne (nD _ _ h)]; exact h⟩ ih
        refine ⟨_, same_put s hD, upd_same, ?_⟩
        rw [etake, List.filter_append, show List.filter badP [ab] = [ab] by simp [hb]]
        exact PairsR.append (up hpa) (.cons ⟨py, rfl, by rw [upd_ne (nD _ _ hpy')]; exact hpy'⟩ .nil)
      have same : badP ab = false → PairsR H' acc (((allE wideN (expand F []) (-1000010) (-1000010) 1000010 1000010).take (i + 1)).filter badP) := fun hb => by
        rw [etake, List.filter_append, show List.filter badP [ab] = [] by simp [hb], List.append_nil]
        exact hpa
      walk_at "lw go"
      refine g_ixT (SqT.of hpy') (v := .int ab.1) (atI_nat (j := 0) (by rfl)) ?_
      walk_at "lw go"
      refine g_ite (fun h1 => ?_) (fun h1 => ?_)
      · walk_at "lw go"
        exact ⟨acc, hacc, Nat.lt_of_le_of_lt (by omega : acc.length ≤ 1000) (small1000 (Nat.le_refl _)), add (by unfold badP; rw [decide_eq_true h1]; rfl)⟩
      · walk_at "lw go"
        refine g_ixT (SqT.of hpy') (v := .int ab.2) (atI_nat (j := 1) (by rfl)) ?_
        walk_at "lw go"
        refine g_ite (fun h2 => ?_) (fun h2 => ?_)
        · walk_at "lw go"
          exact ⟨acc, hacc, Nat.lt_of_le_of_lt (by omega : acc.length ≤ 1000) (small1000 (Nat.le_refl _)), add (by unfold badP; rw [decide_eq_true h2, Bool.or_true])⟩
        · exact ⟨acc, s, hacc, same (by simp only [badP]; rw [decide_eq_false h1, decide_eq_false h2]; rfl)⟩
    · rintro H' ⟨acc, s, hacc, hpa⟩
      have eT : (allE wideN (expand F []) (-1000010) (-1000010) 1000010 1000010).take vs.length = allE wideN (expand F []) (-1000010) (-1000010) 1000010 1000010 := by rw [hlen, List.take_length]
      rw [eT] at hpa
      walk_at "lw go"
      refine ⟨by show 0 ≤ sizeLine; decide, fun e he => ?_⟩
      have s5 := same_new (o := .lst []) he
      refine ⟨_, _, .lst (SqL.of (s5 _ _ hacc)) (dp_pairs (hpa.mono s5)), .lst (SqL.of upd_same) .nil, shaped_pairs _, by decide, ?_⟩
      rw [eqv_nil]
      walk_at "lw go"
      refine g_iteN (fun hne => ?_) (fun hnil => ?_)
      · walk_at "lw go"
        exact q false _ ((s13.trans s).trans s5) (fun e => by cases e)
      · walk_at "lw go"
        have hl5 := s5 _ _ (s _ _ hl)
        have hps5 := (hps.mono s).mono s5
        rw [hall] at hps5
        obtain ⟨v0, vr, rfl, p0, rfl, hp0⟩ : ∃ v0 vr, vs = v0 :: vr ∧ ∃ p, v0 = V.ref p ∧ (upd H' e (.lst [])) p = some (.tup [.int (rangeG wideN (expand F []) (-1000010) (-1000010) 1000010 1000010).1, .int (rangeG wideN (expand F []) (-1000010) (-1000010) 1000010 1000010).2]) := by
          cases hps5 with
          | cons a t => exact ⟨_, _, rfl, a⟩
        have e12 : (10 : Int) ^ Int.toNat 12 = 1000000000000 := by decide +kernel
        have e24 : (10 : Int) ^ Int.toNat 24 = 1000000000000000000000000 := by decide +kernel
        have good : ∀ p ∈ allE wideN (expand F []) (-1000010) (-1000010) 1000010 1000010, -1000000000000000000000000 ≤ p.1 ∧ p.2 ≤ 1000000000000000000000000 := fun p hp => by
          have := List.filter_eq_nil_iff.mp hnil p hp
          simp only [badP, Bool.or_eq_true, decide_eq_true_eq, not_or, e24] at this
          omega
        refine g_ixL (SqL.of hl5) (v := .ref p0) (atI_nat (j := 0) (by rfl)) ?_
        walk_at "lw go"
        refine g_ixT (SqT.of hp0) (v := .int (rangeG wideN (expand F []) (-1000010) (-1000010) 1000010 1000010).1) (atI_nat (j := 0) (by rfl)) ?_
        walk_at "lw go"
        refine g_ite (fun h1 => ?_) (fun h1 => ?_)
        · walk_at "lw go"
          refine g_ixL (SqL.of hl5) (v := .ref p0) (atI_nat (j := 0) (by rfl)) ?_
          walk_at "lw go"
          refine g_ixT (SqT.of hp0) (v := .int (rangeG wideN (expand F []) (-1000010) (-1000010) 1000010 1000010).2) (atI_nat (j := 1) (by rfl)) ?_
          walk_at "lw go"
          refine q _ _ ((s13.trans s).trans s5) (fun h2 => ⟨hc60, good, by rw [e12] at h1; omega, ?_⟩)
          have := of_decide_eq_true h2
          rw [e12] at this
          exact this
        · exact q false _ ((s13.trans s).trans s5) (fun e => by cases e)
abbrev N_law_rules : List Str := ["_law_purse_here", "_law_found"]
theorem sc_law_rules : FnScope N_law_rules ["_law_purse_here"] (defScope s_law_rules) := ⟨rfl, rfl, rfl, by decide +kernel, rfl, by decide +kernel, by decide +kernel⟩
theorem ok_law_rules (F : FnP K "_law_rules" s_law_rules f fd) (T : Bi mg) (G : Kn K mg) (D_law_field : Df P w K mg base "_law_field" ["_law_purse_here", "_law_deep", "_law_known"] 13 (spField 8)) (D_law_small : Df P w K mg base "_law_small" ["_law_field_here"] 106 spSmall) (D_law_draw : Df P w K mg base "_law_draw" ["_law_purse_here", "_law_out_of"] 2 spDraw) : FnOk P w K mg base CX0 107 f fd ["_law_purse_here"] spRules := by
  refine F.ok sc_law_rules (fun vs H Q E h => ?_) (fun cdv A outer s H vs Q E hr h => ⟨_, PSs.nox
(pss_cons (ps_set (i := 1) sc_law_rules.nd rfl (Or.inl rfl) (pe_df D_law_field (hr.mono (by first | decide | omega)) (pa_cons (pv 0) (pa_cons (pe_op op_add pe_int (pe_df D_law_draw (hr.mono (by first | decide | omega)) (pa_cons (pv 0) (pa_cons pe_int pa_nil)))) (pa_cons (pe_lst pa_nil) pa_nil)))))
  (pss_cons (ps_if (pt_val (pe_df D_law_small (hr.mono (by first | decide | omega)) (pa_cons (pv 1) pa_nil)))
  (pss_one (ps_ret (pv 1)))
  pss_nil)
  (pss_one (ps_ret (pe_tup (pa_cons pe_str (pa_cons (pe_tup (pa_cons pe_str (pa_cons (pe_tup (pa_cons pe_str (pa_cons pe_int (pa_cons (pe_df D_law_draw (hr.mono (by first | decide | omega)) (pa_cons (pv 0) (pa_cons pe_int pa_nil))) pa_nil)))) (pa_cons (pe_op op_add pe_int (pe_df D_law_draw (hr.mono (by first | decide | omega)) (pa_cons (pv 0) (pa_cons pe_int pa_nil)))) pa_nil)))) (pa_cons (pe_tup (pa_cons pe_str pa_nil)) pa_nil)))))))), ?_⟩)
  · obtain ⟨p, m, o, rfl, _⟩ := h
    rfl
  · obtain ⟨p, m, o, rfl, hp, hP, hm, q⟩ := h
    walk_at "lw i0"
    have c3 : costF 3 = 12500 ∧ costF 2 = 2500 ∧ costF 1 = 500 := by decide
    walk_at "lw go"
    refine ⟨p, 3, m, o, rfl, hp, hP, by omega, by decide, by decide, fun g o1 g0 g1 hP1 => ?_⟩
    walk_at "lw go"
    refine ⟨by show 0 ≤ sizeLine; decide, fun l hl => ?_⟩
    have npl : p ≠ l := ne_of_none upd_same hl
    have k1 : Keep p H _ := (Keep.refl.put (o := o1)).new (o := .lst []) hl
    walk_at "lw go"
    obtain ⟨dn, hdn, dn3, dc⟩ : ∃ dn : Nat, (1 + g : Int) = (dn : Int) ∧ dn ≤ 3 ∧ costF dn ≤ 12500 := by
      rcases (show g = 0 ∨ g = 1 ∨ g = 2 by omega) with rfl | rfl | rfl
      · exact ⟨1, rfl, by decide, by decide⟩
      · exact ⟨2, rfl, by decide, by decide⟩
      · exact ⟨3, rfl, by decide, by decide⟩
    rw [hdn]
    refine ⟨p, l, [], dn, _, o1, rfl, by omega, by rw [upd_ne npl, upd_same], hP1, by omega, upd_same, by simp only [List.length_nil]; omega, fun x hx => (nomatch hx), fun u F H2 o2 hF hd hO hB k2 hp2 hP2 => ?_⟩
    walk_at "lw go"
    refine ⟨u, F, rfl, hF, hB, hO, by omega, fun b H3 s3 hb => ?_⟩
    have k3 : Keep p H2 H3 := fun c v _ h => s3 c v h
    cases b with
    | true =>
      walk_at "lw go"
      exact q u F H3 o2 (hF.mono (same_tup s3)) ⟨hB, hO, by omega, hb rfl⟩ ((k1.trans k2).trans k3) (s3 _ _ hp2) (hP2.mono (by omega))
    | false =>
      walk_at "lw go"
      refine ⟨p, 9, _, o2, rfl, s3 _ _ hp2, hP2, by omega, by decide, by decide, fun e o3 e0 e1 hP3 => ?_⟩
      walk_at "lw go"
      refine ⟨by show 3 ≤ sizeLine; decide, fun t1 ht1 => ?_⟩
      have n1 : p ≠ t1 := ne_of_none upd_same ht1
      walk_at "lw go"
      refine ⟨p, 99, _, o3, rfl, by rw [upd_ne n1, upd_same], hP3, by omega, by decide, by decide, fun j o4 j0 j1 hP4 => ?_⟩
      walk_at "lw go"
      refine ⟨by show 3 ≤ sizeLine; decide, fun t2 ht2 => ?_⟩
      have n2 : p ≠ t2 := ne_of_none upd_same ht2
      walk_at "lw go"
      refine ⟨by show 1 ≤ sizeLine; decide, fun t3 ht3 => ?_⟩
      have n3 : p ≠ t3 := ne_of_none (by rw [upd_ne n2, upd_same]) ht3
      walk_at "lw go"
      refine ⟨by show 3 ≤ sizeLine; decide, fun t4 ht4 => ?_⟩
      have n4 : p ≠ t4 := ne_of_none (by rw [upd_ne n3, upd_ne n2, upd_same]) ht4
      have n12 : t1 ≠ t2 := ne_of_none (by rw [upd_ne n1.symm, upd_same]) ht2
      have n13 : t1 ≠ t3 := ne_of_none (by rw [upd_ne n12, upd_ne n1.symm, upd_same]) ht3
      have n14 : t1 ≠ t4 := ne_of_none (by rw [upd_ne n13, upd_ne n12, upd_ne n1.symm, upd_same]) ht4
      have n23 : t2 ≠ t3 := ne_of_none upd_same ht3
      have n24 : t2 ≠ t4 := ne_of_none (by rw [upd_ne n23, upd_same]) ht4
      have n34 : t3 ≠ t4 := ne_of_none upd_same ht4
      have k4 : Keep p H3 _ := (((((Keep.refl.put (o := o3)).new (o := .tup [.str "noise", .int 3, .int e]) ht1).put (o := o4)).new (o := .tup [.str "over", .ref t1, .int (1 + j)]) ht2).new (o := .tup [.str "x"]) ht3).new (o := .tup [.str "plus", .ref t2, .ref t3]) ht4
      refine q _ (dfltF e (1 + j)) _ o4 ⟨t4, .ref t2, .ref t3, rfl, upd_same, ⟨t2, .ref t1, rfl, by rw [upd_ne n24, upd_ne n23, upd_same], t1, rfl, by rw [upd_ne n14, upd_ne n13, upd_ne n12, upd_ne n1.symm, upd_same]⟩, t3, rfl, by rw [upd_ne n34, upd_same]⟩ (dflt_drawn e0 (by omega) (by omega) (by omega)) (((k1.trans k2).trans k3).trans k4) (by rw [upd_ne n4, upd_ne n3, upd_ne n2, upd_same]) (hP4.mono (by omega))
abbrev N_law_grain : List Str := ["_law_purse_here"]
theorem sc_law_grain : FnScope N_law_grain ["_law_purse_here"] (defScope s_law_grain) := ⟨rfl, rfl, rfl, by decide +kernel, rfl, by decide +kernel, by decide +kernel⟩
theorem ok_law_grain (F : FnP K "_law_grain" s_law_grain f fd) (T : Bi mg) (G : Kn K mg) (D_law_draw : Df P w K mg base "_law_draw" ["_law_purse_here", "_law_out_of"] 2 spDraw) : FnOk P w K mg base CX0 3 f fd ["_law_purse_here"] (spNum 0 1000000000) := by
  refine F.ok sc_law_grain (fun vs H Q E h => ?_) (fun cdv A outer s H vs Q E hr h => ⟨_, PSs.nox
(pss_one (ps_ret (pe_ix ix_list (pe_lst (pa_cons pe_int (pa_cons pe_int (pa_cons (pe_op op_pow pe_int pe_int) (pa_cons (pe_df D_law_draw (hr.mono (by first | decide | omega)) (pa_cons (pv 0) (pa_cons (pe_op op_pow pe_int pe_int) pa_nil))) pa_nil))))) (pe_df D_law_draw (hr.mono (by first | decide | omega)) (pa_cons (pv 0) (pa_cons pe_int pa_nil))) (fun _ _ => rfl)))), ?_⟩)
  · obtain ⟨p, m, o, rfl, _⟩ := h
    rfl
  · obtain ⟨p, m, o, rfl, hp, hP, hm, q⟩ := h
    walk_at "lw i0"
    walk_at "lw go"
    refine ⟨p, _, m, o, rfl, hp, hP, by omega, by decide +kernel, by decide +kernel, fun d o1 d0 d1 hP1 => ?_⟩
    walk_at "lw go"
    refine ⟨by show 4 ≤ sizeLine; decide, fun l hl => ?_⟩
    walk_at "lw go"
    have npl : p ≠ l := ne_of_none upd_same hl
    refine ⟨p, 4, _, o1, rfl, by rw [upd_ne npl, upd_same], hP1, by omega, by decide, by decide, fun e o2 e0 e1 hP2 => ?_⟩
    have d2 : d ≤ 1000000000 := by
      have z : (10 : Int) ^ Int.toNat 9 = 1000000000 := by decide +kernel
      omega
    have fin : ∀ g : Int, 0 ≤ g → g ≤ 1000000000 → Q (.int g) (upd (upd (upd H p o1) l (.lst [.int 0, .int 1, .int (10 ^ Int.toNat 9), .int d])) p o2) := fun g g0 g1 =>
      q g o2 _ g0 g1 ((Keep.refl.put.new hl).put) upd_same (hP2.mono (by omega))
    have at_ : (upd (upd (upd H p o1) l (.lst [.int 0, .int 1, .int (10 ^ Int.toNat 9), .int d])) p o2) l = some (.lst [.int 0, .int 1, .int (10 ^ Int.toNat 9), .int d]) := by
      rw [upd_ne npl.symm, upd_same]
    rcases (show e = 0 ∨ e = 1 ∨ e = 2 ∨ e = 3 by omega) with rfl | rfl | rfl | rfl
    · exact g_ixL (SqL.of at_) (v := .int 0) rfl (fin 0 (by omega) (by omega))
    · exact g_ixL (SqL.of at_) (v := .int 1) rfl (fin 1 (by omega) (by omega))
    · exact g_ixL (SqL.of at_) (v := .int (10 ^ Int.toNat 9)) rfl (fin _ (by decide +kernel) (by decide +kernel))
    · exact g_ixL (SqL.of at_) (v := .int d) rfl (fin d d0 d2)
abbrev N_law_place : List Str := ["_law_purse_here", "_law_found", "_law_k", "_law_far"]
theorem sc_law_place : FnScope N_law_place ["_law_purse_here"] (defScope s_law_place) := ⟨rfl, rfl, rfl, by decide +kernel, rfl, by decide +kernel, by decide +kernel⟩
theorem ok_law_place (F : FnP K "_law_place" s_law_place f fd) (T : Bi mg) (G : Kn K mg) (D_law_draw : Df P w K mg base "_law_draw" ["_law_purse_here", "_law_out_of"] 2 spDraw) : FnOk P w K mg base CX0 3 f fd ["_law_purse_here"] spPlace := by
  refine F.ok sc_law_place (fun vs H Q E h => ?_) (fun cdv A outer s H vs Q E hr h => ⟨_, PSs.nox
(pss_cons (ps_set (i := 1) sc_law_place.nd rfl (Or.inl rfl) (pe_lst pa_nil))
  (pss_cons (ps_for PassesOwn.never rfl (pi_range1 (by rfl) T.range (pa_cons pe_int pa_nil)) (pg_name (i := 2) sc_law_place.nd rfl (Or.inl rfl))
  (pss_cons (ps_set (i := 3) sc_law_place.nd rfl (Or.inl rfl) (pe_ix ix_list (pe_lst (pa_cons pe_int (pa_cons pe_int (pa_cons pe_int (pa_cons pe_int pa_nil))))) (pe_df D_law_draw (hr.mono (by first | decide | omega)) (pa_cons (pv 0) (pa_cons pe_int pa_nil))) (fun _ _ => rfl)))
  (pss_one (ps_expr (pe_bm PySem.F.plainAttrs_list PySem.F.slot_list_append PySem.F.type_list_append mt_append (pv 1) (pa_cons (pe_op op_mul (pe_callB (call_min2 rfl) (by rfl) T.min (by decide +kernel) (pa_cons pe_int (pa_cons (pe_df D_law_draw (hr.mono (by first | decide | omega)) (pa_cons (pv 0) (pa_cons (pv 3) pa_nil))) pa_nil))) (pe_op op_sub pe_int (pe_op op_mul pe_int (pe_df D_law_draw (hr.mono (by first | decide | omega)) (pa_cons (pv 0) (pa_cons pe_int pa_nil)))))) pa_nil))))))
  (pss_one (ps_ret (pe_tup (pa_cons (pe_ix ix_list (pv 1) pe_int (fun _ _ => rfl)) (pa_cons (pe_ix ix_list (pv 1) pe_int (fun _ _ => rfl)) pa_nil))))))), ?_⟩)
  · obtain ⟨p, m, o, rfl, _⟩ := h
    rfl
  · obtain ⟨p, m, o, rfl, hp, hP, hm, q⟩ := h
    walk_at "lw i0"
    walk_at "lw go"
    refine ⟨by show 0 ≤ sizeLine; decide, fun l hl => ?_⟩
    have npl : p ≠ l := ne_of_none hp hl
    walk_at "lw go"
    refine ⟨_, rfl, by decide, by decide, for_range (n := 2) (fun i σ H' => ∃ (o2 o3 : Option V) (xs : List Int) (o' : HO), σ = [some (.ref p), some (.ref l), o2, o3] ∧ Keep p H H' ∧ H' l = some (.lst (xs.map V.int)) ∧ xs.length = i ∧ (∀ x ∈ xs, -1000000 ≤ x ∧ x ≤ 1000000) ∧ H' p = some o' ∧ Purse (m + 12 * i) o')
      ⟨none, none, [], o, rfl, Keep.refl.new hl, upd_same, rfl, fun x hx => (nomatch hx), by rw [upd_ne npl]; exact hp, hP.mono (by omega)⟩ ?_ ?_⟩
    · rintro i σ H' hi ⟨o2, o3, xs, o', rfl, k, hlx, hxl, hxs, hp', hP'⟩
      walk_at "lw go"
      refine ⟨by show 4 ≤ sizeLine; decide, fun l2 hl2 => ?_⟩
      have np2 : p ≠ l2 := ne_of_none hp' hl2
      have nl2 : l ≠ l2 := ne_of_none hlx hl2
      walk_at "lw go"
      refine ⟨p, 4, _, o', rfl, by rw [upd_ne np2]; exact hp', hP', by omega, by decide, by decide, fun e o1 e0 e1 hP1 => ?_⟩
      obtain ⟨v, hv, hv2⟩ := four_at (a := V.int 9) (b := V.int 300) (c := V.int 100000) (d := V.int 1000001) e0 e1
      obtain ⟨n, rfl, n0, n1⟩ : ∃ n : Int, v = .int n ∧ 0 < n ∧ n ≤ 1000001 := by
        rcases hv2 with rfl | rfl | rfl | rfl
        · exact ⟨9, rfl, by omega, by omega⟩
        · exact ⟨300, rfl, by omega, by omega⟩
        · exact ⟨100000, rfl, by omega, by omega⟩
        · exact ⟨1000001, rfl, by omega, by omega⟩
      refine g_ixL (SqL.of (by rw [upd_ne np2.symm, upd_same])) hv ?_
      walk_at "lw go"
      have hl3 : (upd (upd H' l2 (.lst [.int 9, .int 300, .int 100000, .int 1000001])) p o1) l = some (.lst (xs.map V.int)) := by rw [upd_ne npl.symm, upd_ne nl2]; exact hlx
      refine ⟨tyL hl3, ?_⟩
      walk_at "lw go"
      refine ⟨p, n, _, o1, rfl, upd_same, hP1, by omega, n0, by omega, fun j o4 j0 j1 hP4 => ?_⟩
      walk_at "lw go"
      refine ⟨_, _, rfl, ?_⟩
      walk_at "lw go"
      refine ⟨p, 2, _, o4, rfl, upd_same, hP4, by omega, by decide, by decide, fun s2 o5 s0 s1 hP5 => ?_⟩
      obtain ⟨y, hy, y0, y1⟩ : ∃ y : Int, (if j < 1000000 then j else 1000000) * (1 - 2 * s2) = y ∧ -1000000 ≤ y ∧ y ≤ 1000000 := by
        refine ⟨_, rfl, ?_⟩
        rcases (show s2 = 0 ∨ s2 = 1 by omega) with rfl | rfl <;> split <;> omega
      have hmul : CMul (if j < 1000000 then j else 1000000) (1 - 2 * s2) := Or.inr ⟨by omega, by omega⟩
      walk_at "lw go"
      rw [hy]
      walk_at "lw go"
      refine g_append (xs := xs.map V.int) (by rw [upd_ne npl.symm, upd_ne npl.symm, upd_ne npl.symm, upd_ne nl2]; exact hlx) (by rw [List.length_map]; exact small1000 (by omega)) ?_
      walk_at "lw go"
      have hlH : H l = none := hl
      refine ⟨_, _, xs ++ [y], o5, rfl, ?_, ?_, by rw [List.length_append]; simp; omega, ?_, by rw [upd_ne npl, upd_same], hP5.mono (by omega)⟩
      · exact keep_put2 ((((k.new (o := .lst [.int 9, .int 300, .int 100000, .int 1000001]) hl2).put (o := o1)).put (o := o4)).put (o := o5)) hlH
      · rw [upd_same, List.map_append]; rfl
      · intro x hx
        rcases List.mem_append.mp hx with hx | hx
        · exact hxs x hx
        · rw [List.mem_singleton.mp hx]; exact ⟨y0, y1⟩
    · rintro σ H' ⟨o2, o3, xs, o', rfl, k, hlx, hxl, hxs, hp', hP'⟩
      match xs, hxl with
      | [x, z], _ =>
        walk_at "lw go"
        refine g_ixL (SqL.of hlx) (v := .int x) (atI_nat (j := 0) (by rfl)) ?_
        walk_at "lw go"
        refine g_ixL (SqL.of hlx) (v := .int z) (atI_nat (j := 1) (by rfl)) ?_
        walk_at "lw go"
        refine ⟨by show 2 ≤ sizeLine; decide, fun t ht => ?_⟩
        have npt : p ≠ t := ne_of_none hp' ht
        have h1 := hxs x (by simp)
        have h2 := hxs z (by simp)
        exact q x z t o' _ h1.1 h1.2 h2.1 h2.2 (k.new ht) (by rw [upd_ne npt]; exact hp') (hP'.mono (by omega)) upd_same
abbrev N_law_area : List Str := ["_law_purse_here", "_law_wide", "_law_deep", "_law_x", "_law_z"]
theorem sc_law_area : FnScope N_law_area ["_law_purse_here", "_law_wide", "_law_deep"] (defScope s_law_area) := ⟨rfl, rfl, rfl, by decide +kernel, rfl, by decide +kernel, by decide +kernel⟩
theorem ok_law_area (F : FnP K "_law_area" s_law_area f fd) (T : Bi mg) (G : Kn K mg) (D_law_place : Df P w K mg base "_law_place" ["_law_purse_here"] 3 spPlace) (D_law_draw : Df P w K mg base "_law_draw" ["_law_purse_here", "_law_out_of"] 2 spDraw) : FnOk P w K mg base CX0 4 f fd ["_law_purse_here", "_law_wide", "_law_deep"] spArea := by
  refine F.ok sc_law_area (fun vs H Q E h => ?_) (fun cdv A outer s H vs Q E hr h => ⟨_, PSs.nox
(pss_cons (ps_asg (pe_df D_law_place (hr.mono (by first | decide | omega)) (pa_cons (pv 0) pa_nil)) (pg_tup (by rfl) (pgs_cons (pg_name (i := 3) sc_law_area.nd rfl (Or.inl rfl)) (pgs_cons (pg_name (i := 4) sc_law_area.nd rfl (Or.inl rfl)) pgs_nil))))
  (pss_cons (ps_set (i := 3) sc_law_area.nd rfl (Or.inl rfl) (pe_callB (call_min2 rfl) (by rfl) T.min (by decide +kernel) (pa_cons (pv 3) (pa_cons (pe_op op_sub pe_int (pv 1)) pa_nil))))
  (pss_cons (ps_set (i := 4) sc_law_area.nd rfl (Or.inl rfl) (pe_callB (call_min2 rfl) (by rfl) T.min (by decide +kernel) (pa_cons (pv 4) (pa_cons (pe_op op_sub pe_int (pv 2)) pa_nil))))
  (pss_one (ps_ret (pe_tup (pa_cons (pv 3) (pa_cons (pv 4) (pa_cons (pe_op op_add (pv 3) (pe_df D_law_draw (hr.mono (by first | decide | omega)) (pa_cons (pv 0) (pa_cons (pv 1) pa_nil)))) (pa_cons (pe_op op_add (pv 4) (pe_df D_law_draw (hr.mono (by first | decide | omega)) (pa_cons (pv 0) (pa_cons (pv 2) pa_nil)))) pa_nil)))))))))), ?_⟩)
  · obtain ⟨p, wd, dp, m, o, rfl, _⟩ := h
    rfl
  · obtain ⟨p, wd, dp, m, o, rfl, hp, hP, hm, w0, w1, d0, d1, q⟩ := h
    walk_at "lw i0"
    walk_at "lw go"
    refine ⟨p, m, o, rfl, hp, hP, by omega, fun x z t o1 H1 x0 x1 z0 z1 k1 hp1 hP1 ht => ?_⟩
    walk_at "lw go"
    refine g_tupT (SqT.of ht) rfl ?_
    walk_at "lw go"
    refine ⟨_, _, rfl, ?_⟩
    rw [min_if]
    walk_at "lw go"
    refine ⟨_, _, rfl, ?_⟩
    rw [min_if]
    obtain ⟨X, hX⟩ : ∃ X : Int, min x (1000000 - wd) = X := ⟨_, rfl⟩
    obtain ⟨Z, hZ⟩ : ∃ Z : Int, min z (1000000 - dp) = Z := ⟨_, rfl⟩
    rw [hX, hZ]
    walk_at "lw go"
    refine ⟨p, wd, _, o1, rfl, hp1, hP1, by omega, by omega, by omega, fun a o2 a0 a1 hP2 => ?_⟩
    obtain ⟨H2, e2⟩ : ∃ H2, upd H1 p o2 = H2 := ⟨_, rfl⟩
    have k2 : Keep p H1 H2 := e2 ▸ Keep.refl.put
    have hp2 : H2 p = some o2 := e2 ▸ upd_same
    have t2 : Tup H1 H2 := purse_tup k2 hp1 hP1
    rw [e2]
    clear e2
    walk_at "lw go"
    refine ⟨p, dp, _, o2, rfl, hp2, hP2, by omega, by omega, by omega, fun b o3 b0 b1 hP3 => ?_⟩
    obtain ⟨H3, e3⟩ : ∃ H3, upd H2 p o3 = H3 := ⟨_, rfl⟩
    have k3 : Keep p H2 H3 := e3 ▸ Keep.refl.put
    have hp3 : H3 p = some o3 := e3 ▸ upd_same
    have t3 : Tup H2 H3 := purse_tup k3 hp2 hP2
    rw [e3]
    clear e3
    walk_at "lw go"
    refine ⟨by show 4 ≤ sizeLine; decide, fun t4 ht4 => ?_⟩
    exact q X Z (X + a) (Z + b) t4 o3 _ ⟨⟨by omega, by omega, by omega⟩, by omega, by omega, by omega⟩ (((k1.trans k2).trans k3).new ht4) (by rw [upd_ne (ne_of_none hp3 ht4)]; exact hp3) (hP3.mono (by omega)) upd_same
abbrev N_law_simple : List Str := ["_law_purse_here", "_law_hills", "_law_low", "_law_off", "_law_some"]
theorem sc_law_simple : FnScope N_law_simple ["_law_purse_here"] (defScope s_law_simple) := ⟨rfl, rfl, rfl, by decide +kernel, rfl, by decide +kernel, by decide +kernel⟩
theorem ok_law_simple (F : FnP K "_law_simple" s_law_simple f fd) (T : Bi mg) (G : Kn K mg) (D_law_number : Df P w K mg base "_law_number" ["_law_purse_here", "_law_most"] 3 spNumber) (D_law_draw : Df P w K mg base "_law_draw" ["_law_purse_here", "_law_out_of"] 2 spDraw) : FnOk P w K mg base CX0 4 f fd ["_law_purse_here"] spSimple := by
  refine F.ok sc_law_simple (fun vs H Q E h => ?_) (fun cdv A outer s H vs Q E hr h => ⟨_, PSs.nox
(pss_cons (ps_set (i := 1) sc_law_simple.nd rfl (Or.inl rfl) (pe_tup (pa_cons pe_str (pa_cons (pe_ix ix_list (pe_lst (pa_cons pe_int (pa_cons pe_int (pa_cons pe_int (pa_cons (pe_op op_pow pe_int pe_int) pa_nil))))) (pe_df D_law_draw (hr.mono (by first | decide | omega)) (pa_cons (pv 0) (pa_cons pe_int pa_nil))) (fun _ _ => rfl)) (pa_cons (pe_df D_law_draw (hr.mono (by first | decide | omega)) (pa_cons (pv 0) (pa_cons pe_int pa_nil))) pa_nil)))))
  (pss_cons (ps_set (i := 2) sc_law_simple.nd rfl (Or.inl rfl) (pe_tup (pa_cons pe_str (pa_cons (pv 1) (pa_cons (pe_op op_add pe_int (pe_df D_law_draw (hr.mono (by first | decide | omega)) (pa_cons (pv 0) (pa_cons (pe_ix ix_list (pe_lst (pa_cons pe_int (pa_cons pe_int pa_nil))) (pe_df D_law_draw (hr.mono (by first | decide | omega)) (pa_cons (pv 0) (pa_cons pe_int pa_nil))) (fun _ _ => rfl)) pa_nil)))) pa_nil)))))
  (pss_cons (ps_set (i := 3) sc_law_simple.nd rfl (Or.inl rfl) (pe_df D_law_number (hr.mono (by first | decide | omega)) (pa_cons (pv 0) (pa_cons pe_int pa_nil))))
  (pss_cons (ps_set (i := 4) sc_law_simple.nd rfl (Or.inl rfl) (pe_lst (pa_cons (pv 1) (pa_cons (pv 2) (pa_cons (pe_tup (pa_cons pe_str (pa_cons (pe_tup (pa_cons pe_str pa_nil)) (pa_cons (pv 2) pa_nil)))) (pa_cons (pe_tup (pa_cons pe_str (pa_cons (pe_tup (pa_cons pe_str (pa_cons (pe_tup (pa_cons pe_str pa_nil)) (pa_cons (pe_tup (pa_cons pe_str pa_nil)) pa_nil)))) (pa_cons (pv 1) pa_nil)))) (pa_cons (pe_tup (pa_cons pe_str (pa_cons (pv 3) pa_nil))) pa_nil)))))))
  (pss_cons (ps_set (i := 4) sc_law_simple.nd rfl (Or.inl rfl) (pe_op op_cat (pv 4) (pe_lst (pa_cons (pe_tup (pa_cons pe_str (pa_cons (pe_tup (pa_cons pe_str pa_nil)) (pa_cons (pe_tup (pa_cons pe_str pa_nil)) (pa_cons (pv 2) (pa_cons (pe_tup (pa_cons pe_str (pa_cons (pv 3) pa_nil))) pa_nil)))))) (pa_cons (pe_tup (pa_cons pe_str (pa_cons (pv 3) (pa_cons (pe_op op_sub pe_int (pe_op op_fdiv (pv 3) pe_int)) (pa_cons (pe_tup (pa_cons pe_str (pa_cons (pv 2) (pa_cons (pe_tup (pa_cons pe_str pa_nil)) pa_nil)))) pa_nil))))) pa_nil)))))
  (pss_cons (ps_expr (pe_bm PySem.F.plainAttrs_list PySem.F.slot_list_append PySem.F.type_list_append mt_append (pv 4) (pa_cons (pe_tup (pa_cons pe_str (pa_cons pe_str (pa_cons (pv 2) (pa_cons (pe_tup (pa_cons pe_str (pa_cons (pe_tup (pa_cons pe_str (pa_cons pe_str pa_nil))) (pa_cons (pe_tup (pa_cons pe_str (pa_cons pe_int (pa_cons pe_int (pa_cons (pe_tup (pa_cons pe_str (pa_cons (pe_tup (pa_cons pe_str (pa_cons pe_str pa_nil))) (pa_cons (pe_tup (pa_cons pe_str (pa_cons pe_int pa_nil))) pa_nil)))) pa_nil))))) pa_nil)))) pa_nil))))) pa_nil)))
  (pss_one (ps_ret (pe_ix ix_list (pv 4) (pe_df D_law_draw (hr.mono (by first | decide | omega)) (pa_cons (pv 0) (pa_cons (pe_callB call_len_seq (by rfl) T.len (by decide +kernel) (pa_cons (pv 4) pa_nil)) pa_nil))) (fun _ _ => rfl)))))))))), ?_⟩)
  · obtain ⟨p, m, o, rfl, _⟩ := h
    rfl
  · obtain ⟨p, m, o, rfl, hp, hP, hm, q⟩ := h
    walk_at "lw i0"
    have z9 : (10 : Int) ^ Int.toNat 9 = 1000000000 := by decide +kernel
    obtain ⟨H0, e0⟩ : ∃ H0, H = H0 := ⟨_, rfl⟩
    rw [e0] at hp
    have kp : Keep p H H0 := e0 ▸ Keep.refl
    rw [e0]
    walk_at "lw go"

    refine ⟨by show 4 ≤ sizeLine; decide, fun l4_1 hl4_1 => ?_⟩
    have nl4_1 : l4_1 ≠ p := (ne_of_none hp hl4_1).symm
    obtain ⟨H1, e1⟩ : ∃ H1, upd H0 l4_1 (.lst [.int 0, .int 1, .int 7, .int (10 ^ Int.toNat 9)]) = H1 := ⟨_, rfl⟩
    have s1 : Same H0 H1 := e1 ▸ same_new hl4_1
    have f1 : H1 l4_1 = some (.lst [.int 0, .int 1, .int 7, .int (10 ^ Int.toNat 9)]) := e1 ▸ upd_same
    rw [e1]
    clear e1
    have t1 := same_tup s1
    replace kp := kp.trans (Keep.of_same s1)
    replace hp := s1 _ _ hp
    clear hl4_1
    walk_at "lw go"
    refine ⟨p, 4, _, _, rfl, hp, hP, by omega, by decide, by decide, fun d1 o1 d10 d11 hPd1 => ?_⟩
    obtain ⟨H2, e2⟩ : ∃ H2, upd H1 p o1 = H2 := ⟨_, rfl⟩
    have k2 : Keep p H1 H2 := e2 ▸ Keep.refl.put
    have t2 : Tup H1 H2 := purse_tup k2 hp hP
    replace kp := kp.trans k2
    replace hp : H2 p = some o1 := e2 ▸ upd_same
    replace hP := hPd1
    rw [e2]
    clear e2 hPd1
    replace f1 := k2 _ _ nl4_1 f1
    obtain ⟨v1, hv1, hv2⟩ := four_at (a := V.int 0) (b := V.int 1) (c := V.int 7) (d := V.int (10 ^ Int.toNat 9)) d10 d11
    obtain ⟨s0, rfl, s00, s01⟩ : ∃ s0 : Int, v1 = .int s0 ∧ 0 ≤ s0 ∧ s0 ≤ 1000000000 := by rcases hv2 with rfl | rfl | rfl | rfl <;> exact ⟨_, rfl, by omega, by omega⟩
    refine g_ixL (SqL.of f1) hv1 ?_
    clear f1 hv1 nl4_1
    walk_at "lw go"
    refine ⟨p, 9, _, _, rfl, hp, hP, by omega, by decide, by decide, fun l0 o2 l00 l01 hPl0 => ?_⟩
    obtain ⟨H3, e3⟩ : ∃ H3, upd H2 p o2 = H3 := ⟨_, rfl⟩
    have k3 : Keep p H2 H3 := e3 ▸ Keep.refl.put
    have t3 : Tup H2 H3 := purse_tup k3 hp hP
    replace kp := kp.trans k3
    replace hp : H3 p = some o2 := e3 ▸ upd_same
    replace hP := hPl0
    rw [e3]
    clear e3 hPl0
    walk_at "lw go"
    refine ⟨by show 3 ≤ sizeLine; decide, fun a4_2 ha4_2 => ?_⟩
    obtain ⟨H4, e4⟩ : ∃ H4, upd H3 a4_2 (.tup [.str "noise", .int s0, .int l0]) = H4 := ⟨_, rfl⟩
    have s4 : Same H3 H4 := e4 ▸ same_new ha4_2
    have f4 : H4 a4_2 = some (.tup [.str "noise", .int s0, .int l0]) := e4 ▸ upd_same
    rw [e4]
    clear e4
    have t4 := same_tup s4
    replace kp := kp.trans (Keep.of_same s4)
    replace hp := s4 _ _ hp
    clear ha4_2
    have r4_3 : FRep (.noise (s0) (l0)) H4 (.ref a4_2) := ⟨a4_2, rfl, f4⟩
    clear f4
    walk_at "lw go"
    refine ⟨by show 2 ≤ sizeLine; decide, fun l4_4 hl4_4 => ?_⟩
    have nl4_4 : l4_4 ≠ p := (ne_of_none hp hl4_4).symm
    obtain ⟨H5, e5⟩ : ∃ H5, upd H4 l4_4 (.lst [.int 9, .int 9000]) = H5 := ⟨_, rfl⟩
    have s5 : Same H4 H5 := e5 ▸ same_new hl4_4
    have f5 : H5 l4_4 = some (.lst [.int 9, .int 9000]) := e5 ▸ upd_same
    rw [e5]
    clear e5
    have t5 := same_tup s5
    replace r4_3 := r4_3.mono t5
    replace kp := kp.trans (Keep.of_same s5)
    replace hp := s5 _ _ hp
    clear hl4_4
    walk_at "lw go"
    refine ⟨p, 2, _, _, rfl, hp, hP, by omega, by decide, by decide, fun d2 o3 d20 d21 hPd2 => ?_⟩
    obtain ⟨H6, e6⟩ : ∃ H6, upd H5 p o3 = H6 := ⟨_, rfl⟩
    have k6 : Keep p H5 H6 := e6 ▸ Keep.refl.put
    have t6 : Tup H5 H6 := purse_tup k6 hp hP
    replace kp := kp.trans k6
    replace hp : H6 p = some o3 := e6 ▸ upd_same
    replace hP := hPd2
    rw [e6]
    clear e6 hPd2
    replace r4_3 := r4_3.mono t6
    replace f5 := k6 _ _ nl4_4 f5
    obtain ⟨v2, hv3, n3, rfl, n30, n31⟩ : ∃ v2, atI [V.int 9, .int 9000] d2 = some v2 ∧ ∃ n3 : Int, v2 = .int n3 ∧ 0 < n3 ∧ n3 ≤ 9000 := by rcases (show d2 = 0 ∨ d2 = 1 by omega) with rfl | rfl <;> exact ⟨_, rfl, _, rfl, by decide, by decide⟩
    refine g_ixL (SqL.of f5) hv3 ?_
    clear f5 hv3 nl4_4
    walk_at "lw go"
    refine ⟨p, n3, _, _, rfl, hp, hP, by omega, by omega, by omega, fun d3 o4 d30 d31 hPd3 => ?_⟩
    obtain ⟨H7, e7⟩ : ∃ H7, upd H6 p o4 = H7 := ⟨_, rfl⟩
    have k7 : Keep p H6 H7 := e7 ▸ Keep.refl.put
    have t7 : Tup H6 H7 := purse_tup k7 hp hP
    replace kp := kp.trans k7
    replace hp : H7 p = some o4 := e7 ▸ upd_same
    replace hP := hPd3
    rw [e7]
    clear e7 hPd3
    replace r4_3 := r4_3.mono t7
    walk_at "lw go"
    refine ⟨by show 3 ≤ sizeLine; decide, fun a4_5 ha4_5 => ?_⟩
    obtain ⟨H8, e8⟩ : ∃ H8, upd H7 a4_5 (.tup [.str "over", .ref a4_2, .int (1 + d3)]) = H8 := ⟨_, rfl⟩
    have s8 : Same H7 H8 := e8 ▸ same_new ha4_5
    have f8 : H8 a4_5 = some (.tup [.str "over", .ref a4_2, .int (1 + d3)]) := e8 ▸ upd_same
    rw [e8]
    clear e8
    have t8 := same_tup s8
    replace r4_3 := r4_3.mono t8
    replace kp := kp.trans (Keep.of_same s8)
    replace hp := s8 _ _ hp
    clear ha4_5
    have r4_6 : FRep (.over (.noise (s0) (l0)) (1 + d3)) H8 (.ref a4_5) := ⟨a4_5, .ref a4_2, rfl, f8, r4_3⟩
    clear f8
    walk_at "lw go"
    have hSN : SN s0 l0 (1 + d3) := ⟨⟨⟨s00, s01⟩, l00, by omega⟩, by omega, by omega⟩
    refine ⟨p, 1001, _, _, rfl, hp, hP, by omega, by decide, by decide, fun ww o5 H9 w0 w1 k9 hp9 hP9 => ?_⟩
    have t9 := purse_tup k9 hp hP
    replace kp := kp.trans k9
    replace hp := hp9
    replace hP := hP9
    clear hp9 hP9
    replace r4_3 := r4_3.mono t9
    replace r4_6 := r4_6.mono t9
    have hw : -1000 ≤ ww ∧ ww ≤ 1000 := by omega
    walk_at "lw go"
    refine ⟨by show 1 ≤ sizeLine; decide, fun a4_7 ha4_7 => ?_⟩
    obtain ⟨H10, e10⟩ : ∃ H10, upd H9 a4_7 (.tup [.str "x"]) = H10 := ⟨_, rfl⟩
    have s10 : Same H9 H10 := e10 ▸ same_new ha4_7
    have f10 : H10 a4_7 = some (.tup [.str "x"]) := e10 ▸ upd_same
    rw [e10]
    clear e10
    have t10 := same_tup s10
    replace r4_3 := r4_3.mono t10
    replace r4_6 := r4_6.mono t10
    replace kp := kp.trans (Keep.of_same s10)
    replace hp := s10 _ _ hp
    clear ha4_7
    have r4_8 : FRep .px H10 (.ref a4_7) := ⟨a4_7, rfl, f10⟩
    clear f10
    walk_at "lw go"
    refine ⟨by show 3 ≤ sizeLine; decide, fun a4_9 ha4_9 => ?_⟩
    obtain ⟨H11, e11⟩ : ∃ H11, upd H10 a4_9 (.tup [.str "plus", .ref a4_7, .ref a4_5]) = H11 := ⟨_, rfl⟩
    have s11 : Same H10 H11 := e11 ▸ same_new ha4_9
    have f11 : H11 a4_9 = some (.tup [.str "plus", .ref a4_7, .ref a4_5]) := e11 ▸ upd_same
    rw [e11]
    clear e11
    have t11 := same_tup s11
    replace r4_3 := r4_3.mono t11
    replace r4_6 := r4_6.mono t11
    replace r4_8 := r4_8.mono t11
    replace kp := kp.trans (Keep.of_same s11)
    replace hp := s11 _ _ hp
    clear ha4_9
    have r4_10 : FRep (.two .plus .px (.over (.noise (s0) (l0)) (1 + d3))) H11 (.ref a4_9) := ⟨a4_9, .ref a4_7, .ref a4_5, rfl, f11, r4_8, r4_6⟩
    clear f11
    walk_at "lw go"
    refine ⟨by show 1 ≤ sizeLine; decide, fun a4_11 ha4_11 => ?_⟩
    obtain ⟨H12, e12⟩ : ∃ H12, upd H11 a4_11 (.tup [.str "x"]) = H12 := ⟨_, rfl⟩
    have s12 : Same H11 H12 := e12 ▸ same_new ha4_11
    have f12 : H12 a4_11 = some (.tup [.str "x"]) := e12 ▸ upd_same
    rw [e12]
    clear e12
    have t12 := same_tup s12
    replace r4_3 := r4_3.mono t12
    replace r4_6 := r4_6.mono t12
    replace r4_8 := r4_8.mono t12
    replace r4_10 := r4_10.mono t12
    replace kp := kp.trans (Keep.of_same s12)
    replace hp := s12 _ _ hp
    clear ha4_11
    have r4_12 : FRep .px H12 (.ref a4_11) := ⟨a4_11, rfl, f12⟩
    clear f12
    walk_at "lw go"
    refine ⟨by show 1 ≤ sizeLine; decide, fun a4_13 ha4_13 => ?_⟩
    obtain ⟨H13, e13⟩ : ∃ H13, upd H12 a4_13 (.tup [.str "z"]) = H13 := ⟨_, rfl⟩
    have s13 : Same H12 H13 := e13 ▸ same_new ha4_13
    have f13 : H13 a4_13 = some (.tup [.str "z"]) := e13 ▸ upd_same
    rw [e13]
    clear e13
    have t13 := same_tup s13
    replace r4_3 := r4_3.mono t13
    replace r4_6 := r4_6.mono t13
    replace r4_8 := r4_8.mono t13
    replace r4_10 := r4_10.mono t13
    replace r4_12 := r4_12.mono t13
    replace kp := kp.trans (Keep.of_same s13)
    replace hp := s13 _ _ hp
    clear ha4_13
    have r4_14 : FRep .pz H13 (.ref a4_13) := ⟨a4_13, rfl, f13⟩
    clear f13
    walk_at "lw go"
    refine ⟨by show 3 ≤ sizeLine; decide, fun a4_15 ha4_15 => ?_⟩
    obtain ⟨H14, e14⟩ : ∃ H14, upd H13 a4_15 (.tup [.str "times", .ref a4_11, .ref a4_13]) = H14 := ⟨_, rfl⟩
    have s14 : Same H13 H14 := e14 ▸ same_new ha4_15
    have f14 : H14 a4_15 = some (.tup [.str "times", .ref a4_11, .ref a4_13]) := e14 ▸ upd_same
    rw [e14]
    clear e14
    have t14 := same_tup s14
    replace r4_3 := r4_3.mono t14
    replace r4_6 := r4_6.mono t14
    replace r4_8 := r4_8.mono t14
    replace r4_10 := r4_10.mono t14
    replace r4_12 := r4_12.mono t14
    replace r4_14 := r4_14.mono t14
    replace kp := kp.trans (Keep.of_same s14)
    replace hp := s14 _ _ hp
    clear ha4_15
    have r4_16 : FRep (.two .times .px .pz) H14 (.ref a4_15) := ⟨a4_15, .ref a4_11, .ref a4_13, rfl, f14, r4_12, r4_14⟩
    clear f14
    walk_at "lw go"
    refine ⟨by show 3 ≤ sizeLine; decide, fun a4_17 ha4_17 => ?_⟩
    obtain ⟨H15, e15⟩ : ∃ H15, upd H14 a4_17 (.tup [.str "less", .ref a4_15, .ref a4_2]) = H15 := ⟨_, rfl⟩
    have s15 : Same H14 H15 := e15 ▸ same_new ha4_17
    have f15 : H15 a4_17 = some (.tup [.str "less", .ref a4_15, .ref a4_2]) := e15 ▸ upd_same
    rw [e15]
    clear e15
    have t15 := same_tup s15
    replace r4_3 := r4_3.mono t15
    replace r4_6 := r4_6.mono t15
    replace r4_8 := r4_8.mono t15
    replace r4_10 := r4_10.mono t15
    replace r4_12 := r4_12.mono t15
    replace r4_14 := r4_14.mono t15
    replace r4_16 := r4_16.mono t15
    replace kp := kp.trans (Keep.of_same s15)
    replace hp := s15 _ _ hp
    clear ha4_17
    have r4_18 : FRep (.two .less (.two .times .px .pz) (.noise (s0) (l0))) H15 (.ref a4_17) := ⟨a4_17, .ref a4_15, .ref a4_2, rfl, f15, r4_16, r4_3⟩
    clear f15
    walk_at "lw go"
    refine ⟨by show 2 ≤ sizeLine; decide, fun a4_19 ha4_19 => ?_⟩
    obtain ⟨H16, e16⟩ : ∃ H16, upd H15 a4_19 (.tup [.str "whole", .int ww]) = H16 := ⟨_, rfl⟩
    have s16 : Same H15 H16 := e16 ▸ same_new ha4_19
    have f16 : H16 a4_19 = some (.tup [.str "whole", .int ww]) := e16 ▸ upd_same
    rw [e16]
    clear e16
    have t16 := same_tup s16
    replace r4_3 := r4_3.mono t16
    replace r4_6 := r4_6.mono t16
    replace r4_8 := r4_8.mono t16
    replace r4_10 := r4_10.mono t16
    replace r4_12 := r4_12.mono t16
    replace r4_14 := r4_14.mono t16
    replace r4_16 := r4_16.mono t16
    replace r4_18 := r4_18.mono t16
    replace kp := kp.trans (Keep.of_same s16)
    replace hp := s16 _ _ hp
    clear ha4_19
    have r4_20 : FRep (.whole (ww)) H16 (.ref a4_19) := ⟨a4_19, rfl, f16⟩
    clear f16
    walk_at "lw go"
    refine ⟨by show 5 ≤ sizeLine; decide, fun l4_21 hl4_21 => ?_⟩
    have nl4_21 : l4_21 ≠ p := (ne_of_none hp hl4_21).symm
    obtain ⟨H17, e17⟩ : ∃ H17, upd H16 l4_21 (.lst [.ref a4_2, .ref a4_5, .ref a4_9, .ref a4_17, .ref a4_19]) = H17 := ⟨_, rfl⟩
    have s17 : Same H16 H17 := e17 ▸ same_new hl4_21
    have f17 : H17 l4_21 = some (.lst [.ref a4_2, .ref a4_5, .ref a4_9, .ref a4_17, .ref a4_19]) := e17 ▸ upd_same
    rw [e17]
    clear e17
    have t17 := same_tup s17
    replace r4_3 := r4_3.mono t17
    replace r4_6 := r4_6.mono t17
    replace r4_8 := r4_8.mono t17
    replace r4_10 := r4_10.mono t17
    replace r4_12 := r4_12.mono t17
    replace r4_14 := r4_14.mono t17
    replace r4_16 := r4_16.mono t17
    replace r4_18 := r4_18.mono t17
    replace r4_20 := r4_20.mono t17
    replace kp := kp.trans (Keep.of_same s17)
    replace hp := s17 _ _ hp
    clear hl4_21
    walk_at "lw go"
    refine ⟨by show 1 ≤ sizeLine; decide, fun a4_22 ha4_22 => ?_⟩
    obtain ⟨H18, e18⟩ : ∃ H18, upd H17 a4_22 (.tup [.str "x"]) = H18 := ⟨_, rfl⟩
    have s18 : Same H17 H18 := e18 ▸ same_new ha4_22
    have f18 : H18 a4_22 = some (.tup [.str "x"]) := e18 ▸ upd_same
    rw [e18]
    clear e18
    have t18 := same_tup s18
    replace r4_3 := r4_3.mono t18
    replace r4_6 := r4_6.mono t18
    replace r4_8 := r4_8.mono t18
    replace r4_10 := r4_10.mono t18
    replace r4_12 := r4_12.mono t18
    replace r4_14 := r4_14.mono t18
    replace r4_16 := r4_16.mono t18
    replace r4_18 := r4_18.mono t18
    replace r4_20 := r4_20.mono t18
    replace f17 := s18 _ _ f17
    replace kp := kp.trans (Keep.of_same s18)
    replace hp := s18 _ _ hp
    clear ha4_22
    have r4_23 : FRep .px H18 (.ref a4_22) := ⟨a4_22, rfl, f18⟩
    clear f18
    walk_at "lw go"
    refine ⟨by show 1 ≤ sizeLine; decide, fun a4_24 ha4_24 => ?_⟩
    obtain ⟨H19, e19⟩ : ∃ H19, upd H18 a4_24 (.tup [.str "z"]) = H19 := ⟨_, rfl⟩
    have s19 : Same H18 H19 := e19 ▸ same_new ha4_24
    have f19 : H19 a4_24 = some (.tup [.str "z"]) := e19 ▸ upd_same
    rw [e19]
    clear e19
    have t19 := same_tup s19
    replace r4_3 := r4_3.mono t19
    replace r4_6 := r4_6.mono t19
    replace r4_8 := r4_8.mono t19
    replace r4_10 := r4_10.mono t19
    replace r4_12 := r4_12.mono t19
    replace r4_14 := r4_14.mono t19
    replace r4_16 := r4_16.mono t19
    replace r4_18 := r4_18.mono t19
    replace r4_20 := r4_20.mono t19
    replace r4_23 := r4_23.mono t19
    replace f17 := s19 _ _ f17
    replace kp := kp.trans (Keep.of_same s19)
    replace hp := s19 _ _ hp
    clear ha4_24
    have r4_25 : FRep .pz H19 (.ref a4_24) := ⟨a4_24, rfl, f19⟩
    clear f19
    walk_at "lw go"
    refine ⟨by show 2 ≤ sizeLine; decide, fun a4_26 ha4_26 => ?_⟩
    obtain ⟨H20, e20⟩ : ∃ H20, upd H19 a4_26 (.tup [.str "whole", .int ww]) = H20 := ⟨_, rfl⟩
    have s20 : Same H19 H20 := e20 ▸ same_new ha4_26
    have f20 : H20 a4_26 = some (.tup [.str "whole", .int ww]) := e20 ▸ upd_same
    rw [e20]
    clear e20
    have t20 := same_tup s20
    replace r4_3 := r4_3.mono t20
    replace r4_6 := r4_6.mono t20
    replace r4_8 := r4_8.mono t20
    replace r4_10 := r4_10.mono t20
    replace r4_12 := r4_12.mono t20
    replace r4_14 := r4_14.mono t20
    replace r4_16 := r4_16.mono t20
    replace r4_18 := r4_18.mono t20
    replace r4_20 := r4_20.mono t20
    replace r4_23 := r4_23.mono t20
    replace r4_25 := r4_25.mono t20
    replace f17 := s20 _ _ f17
    replace kp := kp.trans (Keep.of_same s20)
    replace hp := s20 _ _ hp
    clear ha4_26
    have r4_27 : FRep (.whole (ww)) H20 (.ref a4_26) := ⟨a4_26, rfl, f20⟩
    clear f20
    walk_at "lw go"
    refine ⟨by show 5 ≤ sizeLine; decide, fun a4_28 ha4_28 => ?_⟩
    obtain ⟨H21, e21⟩ : ∃ H21, upd H20 a4_28 (.tup [.str "below", .ref a4_22, .ref a4_24, .ref a4_5, .ref a4_26]) = H21 := ⟨_, rfl⟩
    have s21 : Same H20 H21 := e21 ▸ same_new ha4_28
    have f21 : H21 a4_28 = some (.tup [.str "below", .ref a4_22, .ref a4_24, .ref a4_5, .ref a4_26]) := e21 ▸ upd_same
    rw [e21]
    clear e21
    have t21 := same_tup s21
    replace r4_3 := r4_3.mono t21
    replace r4_6 := r4_6.mono t21
    replace r4_8 := r4_8.mono t21
    replace r4_10 := r4_10.mono t21
    replace r4_12 := r4_12.mono t21
    replace r4_14 := r4_14.mono t21
    replace r4_16 := r4_16.mono t21
    replace r4_18 := r4_18.mono t21
    replace r4_20 := r4_20.mono t21
    replace r4_23 := r4_23.mono t21
    replace r4_25 := r4_25.mono t21
    replace r4_27 := r4_27.mono t21
    replace f17 := s21 _ _ f17
    replace kp := kp.trans (Keep.of_same s21)
    replace hp := s21 _ _ hp
    clear ha4_28
    have r4_29 : FRep (.bel .px .pz (.over (.noise (s0) (l0)) (1 + d3)) (.whole (ww))) H21 (.ref a4_28) := ⟨a4_28, .ref a4_22, .ref a4_24, .ref a4_5, .ref a4_26, rfl, f21, r4_23, r4_25, r4_6, r4_27⟩
    clear f21
    walk_at "lw go"
    refine ⟨by show 1 ≤ sizeLine; decide, fun a4_30 ha4_30 => ?_⟩
    obtain ⟨H22, e22⟩ : ∃ H22, upd H21 a4_30 (.tup [.str "z"]) = H22 := ⟨_, rfl⟩
    have s22 : Same H21 H22 := e22 ▸ same_new ha4_30
    have f22 : H22 a4_30 = some (.tup [.str "z"]) := e22 ▸ upd_same
    rw [e22]
    clear e22
    have t22 := same_tup s22
    replace r4_3 := r4_3.mono t22
    replace r4_6 := r4_6.mono t22
    replace r4_8 := r4_8.mono t22
    replace r4_10 := r4_10.mono t22
    replace r4_12 := r4_12.mono t22
    replace r4_14 := r4_14.mono t22
    replace r4_16 := r4_16.mono t22
    replace r4_18 := r4_18.mono t22
    replace r4_20 := r4_20.mono t22
    replace r4_23 := r4_23.mono t22
    replace r4_25 := r4_25.mono t22
    replace r4_27 := r4_27.mono t22
    replace r4_29 := r4_29.mono t22
    replace f17 := s22 _ _ f17
    replace kp := kp.trans (Keep.of_same s22)
    replace hp := s22 _ _ hp
    clear ha4_30
    have r4_31 : FRep .pz H22 (.ref a4_30) := ⟨a4_30, rfl, f22⟩
    clear f22
    walk_at "lw go"
    refine ⟨by show 3 ≤ sizeLine; decide, fun a4_32 ha4_32 => ?_⟩
    obtain ⟨H23, e23⟩ : ∃ H23, upd H22 a4_32 (.tup [.str "most", .ref a4_5, .ref a4_30]) = H23 := ⟨_, rfl⟩
    have s23 : Same H22 H23 := e23 ▸ same_new ha4_32
    have f23 : H23 a4_32 = some (.tup [.str "most", .ref a4_5, .ref a4_30]) := e23 ▸ upd_same
    rw [e23]
    clear e23
    have t23 := same_tup s23
    replace r4_3 := r4_3.mono t23
    replace r4_6 := r4_6.mono t23
    replace r4_8 := r4_8.mono t23
    replace r4_10 := r4_10.mono t23
    replace r4_12 := r4_12.mono t23
    replace r4_14 := r4_14.mono t23
    replace r4_16 := r4_16.mono t23
    replace r4_18 := r4_18.mono t23
    replace r4_20 := r4_20.mono t23
    replace r4_23 := r4_23.mono t23
    replace r4_25 := r4_25.mono t23
    replace r4_27 := r4_27.mono t23
    replace r4_29 := r4_29.mono t23
    replace r4_31 := r4_31.mono t23
    replace f17 := s23 _ _ f17
    replace kp := kp.trans (Keep.of_same s23)
    replace hp := s23 _ _ hp
    clear ha4_32
    have r4_33 : FRep (.two .most (.over (.noise (s0) (l0)) (1 + d3)) .pz) H23 (.ref a4_32) := ⟨a4_32, .ref a4_5, .ref a4_30, rfl, f23, r4_6, r4_31⟩
    clear f23
    walk_at "lw go"
    refine ⟨by show 4 ≤ sizeLine; decide, fun a4_34 ha4_34 => ?_⟩
    obtain ⟨H24, e24⟩ : ∃ H24, upd H23 a4_34 (.tup [.str "shift", .int ww, .int (2 - ww / 2), .ref a4_32]) = H24 := ⟨_, rfl⟩
    have s24 : Same H23 H24 := e24 ▸ same_new ha4_34
    have f24 : H24 a4_34 = some (.tup [.str "shift", .int ww, .int (2 - ww / 2), .ref a4_32]) := e24 ▸ upd_same
    rw [e24]
    clear e24
    have t24 := same_tup s24
    replace r4_3 := r4_3.mono t24
    replace r4_6 := r4_6.mono t24
    replace r4_8 := r4_8.mono t24
    replace r4_10 := r4_10.mono t24
    replace r4_12 := r4_12.mono t24
    replace r4_14 := r4_14.mono t24
    replace r4_16 := r4_16.mono t24
    replace r4_18 := r4_18.mono t24
    replace r4_20 := r4_20.mono t24
    replace r4_23 := r4_23.mono t24
    replace r4_25 := r4_25.mono t24
    replace r4_27 := r4_27.mono t24
    replace r4_29 := r4_29.mono t24
    replace r4_31 := r4_31.mono t24
    replace r4_33 := r4_33.mono t24
    replace f17 := s24 _ _ f17
    replace kp := kp.trans (Keep.of_same s24)
    replace hp := s24 _ _ hp
    clear ha4_34
    have r4_35 : FRep (.shift (ww) (2 - ww / 2) (.two .most (.over (.noise (s0) (l0)) (1 + d3)) .pz)) H24 (.ref a4_34) := ⟨a4_34, .ref a4_32, rfl, f24, r4_33⟩
    clear f24
    walk_at "lw go"
    refine ⟨by show 2 ≤ sizeLine; decide, fun l4_36 hl4_36 => ?_⟩
    have nl4_36 : l4_36 ≠ p := (ne_of_none hp hl4_36).symm
    obtain ⟨H25, e25⟩ : ∃ H25, upd H24 l4_36 (.lst [.ref a4_28, .ref a4_34]) = H25 := ⟨_, rfl⟩
    have s25 : Same H24 H25 := e25 ▸ same_new hl4_36
    have f25 : H25 l4_36 = some (.lst [.ref a4_28, .ref a4_34]) := e25 ▸ upd_same
    rw [e25]
    clear e25
    have t25 := same_tup s25
    replace r4_3 := r4_3.mono t25
    replace r4_6 := r4_6.mono t25
    replace r4_8 := r4_8.mono t25
    replace r4_10 := r4_10.mono t25
    replace r4_12 := r4_12.mono t25
    replace r4_14 := r4_14.mono t25
    replace r4_16 := r4_16.mono t25
    replace r4_18 := r4_18.mono t25
    replace r4_20 := r4_20.mono t25
    replace r4_23 := r4_23.mono t25
    replace r4_25 := r4_25.mono t25
    replace r4_27 := r4_27.mono t25
    replace r4_29 := r4_29.mono t25
    replace r4_31 := r4_31.mono t25
    replace r4_33 := r4_33.mono t25
    replace r4_35 := r4_35.mono t25
    replace f17 := s25 _ _ f17
    replace kp := kp.trans (Keep.of_same s25)
    replace hp := s25 _ _ hp
    clear hl4_36
    refine g_cat f17 f25 (by show 7 ≤ sizeLine; decide) fun l7 hl7 => ?_
    have nl7 : l7 ≠ p := (ne_of_none hp hl7).symm
    have zl7 : H l7 = none := none_keep kp hp hl7
    obtain ⟨H26, e26⟩ : ∃ H26, upd H25 l7 (.lst ([.ref a4_2, .ref a4_5, .ref a4_9, .ref a4_17, .ref a4_19] ++ [.ref a4_28, .ref a4_34])) = H26 := ⟨_, rfl⟩
    have s26 : Same H25 H26 := e26 ▸ same_new hl7
    have f7 : H26 l7 = some (.lst [.ref a4_2, .ref a4_5, .ref a4_9, .ref a4_17, .ref a4_19, .ref a4_28, .ref a4_34]) := e26 ▸ upd_same
    rw [e26]
    clear e26
    have t26 := same_tup s26
    replace r4_3 := r4_3.mono t26
    replace r4_6 := r4_6.mono t26
    replace r4_8 := r4_8.mono t26
    replace r4_10 := r4_10.mono t26
    replace r4_12 := r4_12.mono t26
    replace r4_14 := r4_14.mono t26
    replace r4_16 := r4_16.mono t26
    replace r4_18 := r4_18.mono t26
    replace r4_20 := r4_20.mono t26
    replace r4_23 := r4_23.mono t26
    replace r4_25 := r4_25.mono t26
    replace r4_27 := r4_27.mono t26
    replace r4_29 := r4_29.mono t26
    replace r4_31 := r4_31.mono t26
    replace r4_33 := r4_33.mono t26
    replace r4_35 := r4_35.mono t26
    replace kp := kp.trans (Keep.of_same s26)
    replace hp := s26 _ _ hp
    walk_at "lw go"
    refine ⟨tyL f7, ?_⟩
    walk_at "lw go"
    refine ⟨by show 2 ≤ sizeLine; decide, fun a4_37 ha4_37 => ?_⟩
    obtain ⟨H27, e27⟩ : ∃ H27, upd H26 a4_37 (.tup [.str "name", .str "a"]) = H27 := ⟨_, rfl⟩
    have s27 : Same H26 H27 := e27 ▸ same_new ha4_37
    have f27 : H27 a4_37 = some (.tup [.str "name", .str "a"]) := e27 ▸ upd_same
    rw [e27]
    clear e27
    have t27 := same_tup s27
    replace r4_3 := r4_3.mono t27
    replace r4_6 := r4_6.mono t27
    replace r4_8 := r4_8.mono t27
    replace r4_10 := r4_10.mono t27
    replace r4_12 := r4_12.mono t27
    replace r4_14 := r4_14.mono t27
    replace r4_16 := r4_16.mono t27
    replace r4_18 := r4_18.mono t27
    replace r4_20 := r4_20.mono t27
    replace r4_23 := r4_23.mono t27
    replace r4_25 := r4_25.mono t27
    replace r4_27 := r4_27.mono t27
    replace r4_29 := r4_29.mono t27
    replace r4_31 := r4_31.mono t27
    replace r4_33 := r4_33.mono t27
    replace r4_35 := r4_35.mono t27
    replace f7 := s27 _ _ f7
    replace kp := kp.trans (Keep.of_same s27)
    replace hp := s27 _ _ hp
    clear ha4_37
    have r4_38 : FRep (.nm "a") H27 (.ref a4_37) := ⟨a4_37, rfl, f27⟩
    clear f27
    walk_at "lw go"
    refine ⟨by show 2 ≤ sizeLine; decide, fun a4_39 ha4_39 => ?_⟩
    obtain ⟨H28, e28⟩ : ∃ H28, upd H27 a4_39 (.tup [.str "name", .str "a"]) = H28 := ⟨_, rfl⟩
    have s28 : Same H27 H28 := e28 ▸ same_new ha4_39
    have f28 : H28 a4_39 = some (.tup [.str "name", .str "a"]) := e28 ▸ upd_same
    rw [e28]
    clear e28
    have t28 := same_tup s28
    replace r4_3 := r4_3.mono t28
    replace r4_6 := r4_6.mono t28
    replace r4_8 := r4_8.mono t28
    replace r4_10 := r4_10.mono t28
    replace r4_12 := r4_12.mono t28
    replace r4_14 := r4_14.mono t28
    replace r4_16 := r4_16.mono t28
    replace r4_18 := r4_18.mono t28
    replace r4_20 := r4_20.mono t28
    replace r4_23 := r4_23.mono t28
    replace r4_25 := r4_25.mono t28
    replace r4_27 := r4_27.mono t28
    replace r4_29 := r4_29.mono t28
    replace r4_31 := r4_31.mono t28
    replace r4_33 := r4_33.mono t28
    replace r4_35 := r4_35.mono t28
    replace r4_38 := r4_38.mono t28
    replace f7 := s28 _ _ f7
    replace kp := kp.trans (Keep.of_same s28)
    replace hp := s28 _ _ hp
    clear ha4_39
    have r4_40 : FRep (.nm "a") H28 (.ref a4_39) := ⟨a4_39, rfl, f28⟩
    clear f28
    walk_at "lw go"
    refine ⟨by show 2 ≤ sizeLine; decide, fun a4_41 ha4_41 => ?_⟩
    obtain ⟨H29, e29⟩ : ∃ H29, upd H28 a4_41 (.tup [.str "whole", .int 1]) = H29 := ⟨_, rfl⟩
    have s29 : Same H28 H29 := e29 ▸ same_new ha4_41
    have f29 : H29 a4_41 = some (.tup [.str "whole", .int 1]) := e29 ▸ upd_same
    rw [e29]
    clear e29
    have t29 := same_tup s29
    replace r4_3 := r4_3.mono t29
    replace r4_6 := r4_6.mono t29
    replace r4_8 := r4_8.mono t29
    replace r4_10 := r4_10.mono t29
    replace r4_12 := r4_12.mono t29
    replace r4_14 := r4_14.mono t29
    replace r4_16 := r4_16.mono t29
    replace r4_18 := r4_18.mono t29
    replace r4_20 := r4_20.mono t29
    replace r4_23 := r4_23.mono t29
    replace r4_25 := r4_25.mono t29
    replace r4_27 := r4_27.mono t29
    replace r4_29 := r4_29.mono t29
    replace r4_31 := r4_31.mono t29
    replace r4_33 := r4_33.mono t29
    replace r4_35 := r4_35.mono t29
    replace r4_38 := r4_38.mono t29
    replace r4_40 := r4_40.mono t29
    replace f7 := s29 _ _ f7
    replace kp := kp.trans (Keep.of_same s29)
    replace hp := s29 _ _ hp
    clear ha4_41
    have r4_42 : FRep (.whole (1)) H29 (.ref a4_41) := ⟨a4_41, rfl, f29⟩
    clear f29
    walk_at "lw go"
    refine ⟨by show 3 ≤ sizeLine; decide, fun a4_43 ha4_43 => ?_⟩
    obtain ⟨H30, e30⟩ : ∃ H30, upd H29 a4_43 (.tup [.str "plus", .ref a4_39, .ref a4_41]) = H30 := ⟨_, rfl⟩
    have s30 : Same H29 H30 := e30 ▸ same_new ha4_43
    have f30 : H30 a4_43 = some (.tup [.str "plus", .ref a4_39, .ref a4_41]) := e30 ▸ upd_same
    rw [e30]
    clear e30
    have t30 := same_tup s30
    replace r4_3 := r4_3.mono t30
    replace r4_6 := r4_6.mono t30
    replace r4_8 := r4_8.mono t30
    replace r4_10 := r4_10.mono t30
    replace r4_12 := r4_12.mono t30
    replace r4_14 := r4_14.mono t30
    replace r4_16 := r4_16.mono t30
    replace r4_18 := r4_18.mono t30
    replace r4_20 := r4_20.mono t30
    replace r4_23 := r4_23.mono t30
    replace r4_25 := r4_25.mono t30
    replace r4_27 := r4_27.mono t30
    replace r4_29 := r4_29.mono t30
    replace r4_31 := r4_31.mono t30
    replace r4_33 := r4_33.mono t30
    replace r4_35 := r4_35.mono t30
    replace r4_38 := r4_38.mono t30
    replace r4_40 := r4_40.mono t30
    replace r4_42 := r4_42.mono t30
    replace f7 := s30 _ _ f7
    replace kp := kp.trans (Keep.of_same s30)
    replace hp := s30 _ _ hp
    clear ha4_43
    have r4_44 : FRep (.two .plus (.nm "a") (.whole (1))) H30 (.ref a4_43) := ⟨a4_43, .ref a4_39, .ref a4_41, rfl, f30, r4_40, r4_42⟩
    clear f30
    walk_at "lw go"
    refine ⟨by show 4 ≤ sizeLine; decide, fun a4_45 ha4_45 => ?_⟩
    obtain ⟨H31, e31⟩ : ∃ H31, upd H30 a4_45 (.tup [.str "shift", .int 3, .int 1, .ref a4_43]) = H31 := ⟨_, rfl⟩
    have s31 : Same H30 H31 := e31 ▸ same_new ha4_45
    have f31 : H31 a4_45 = some (.tup [.str "shift", .int 3, .int 1, .ref a4_43]) := e31 ▸ upd_same
    rw [e31]
    clear e31
    have t31 := same_tup s31
    replace r4_3 := r4_3.mono t31
    replace r4_6 := r4_6.mono t31
    replace r4_8 := r4_8.mono t31
    replace r4_10 := r4_10.mono t31
    replace r4_12 := r4_12.mono t31
    replace r4_14 := r4_14.mono t31
    replace r4_16 := r4_16.mono t31
    replace r4_18 := r4_18.mono t31
    replace r4_20 := r4_20.mono t31
    replace r4_23 := r4_23.mono t31
    replace r4_25 := r4_25.mono t31
    replace r4_27 := r4_27.mono t31
    replace r4_29 := r4_29.mono t31
    replace r4_31 := r4_31.mono t31
    replace r4_33 := r4_33.mono t31
    replace r4_35 := r4_35.mono t31
    replace r4_38 := r4_38.mono t31
    replace r4_40 := r4_40.mono t31
    replace r4_42 := r4_42.mono t31
    replace r4_44 := r4_44.mono t31
    replace f7 := s31 _ _ f7
    replace kp := kp.trans (Keep.of_same s31)
    replace hp := s31 _ _ hp
    clear ha4_45
    have r4_46 : FRep (.shift (3) (1) (.two .plus (.nm "a") (.whole (1)))) H31 (.ref a4_45) := ⟨a4_45, .ref a4_43, rfl, f31, r4_44⟩
    clear f31
    walk_at "lw go"
    refine ⟨by show 3 ≤ sizeLine; decide, fun a4_47 ha4_47 => ?_⟩
    obtain ⟨H32, e32⟩ : ∃ H32, upd H31 a4_47 (.tup [.str "least", .ref a4_37, .ref a4_45]) = H32 := ⟨_, rfl⟩
    have s32 : Same H31 H32 := e32 ▸ same_new ha4_47
    have f32 : H32 a4_47 = some (.tup [.str "least", .ref a4_37, .ref a4_45]) := e32 ▸ upd_same
    rw [e32]
    clear e32
    have t32 := same_tup s32
    replace r4_3 := r4_3.mono t32
    replace r4_6 := r4_6.mono t32
    replace r4_8 := r4_8.mono t32
    replace r4_10 := r4_10.mono t32
    replace r4_12 := r4_12.mono t32
    replace r4_14 := r4_14.mono t32
    replace r4_16 := r4_16.mono t32
    replace r4_18 := r4_18.mono t32
    replace r4_20 := r4_20.mono t32
    replace r4_23 := r4_23.mono t32
    replace r4_25 := r4_25.mono t32
    replace r4_27 := r4_27.mono t32
    replace r4_29 := r4_29.mono t32
    replace r4_31 := r4_31.mono t32
    replace r4_33 := r4_33.mono t32
    replace r4_35 := r4_35.mono t32
    replace r4_38 := r4_38.mono t32
    replace r4_40 := r4_40.mono t32
    replace r4_42 := r4_42.mono t32
    replace r4_44 := r4_44.mono t32
    replace r4_46 := r4_46.mono t32
    replace f7 := s32 _ _ f7
    replace kp := kp.trans (Keep.of_same s32)
    replace hp := s32 _ _ hp
    clear ha4_47
    have r4_48 : FRep (.two .least (.nm "a") (.shift (3) (1) (.two .plus (.nm "a") (.whole (1))))) H32 (.ref a4_47) := ⟨a4_47, .ref a4_37, .ref a4_45, rfl, f32, r4_38, r4_46⟩
    clear f32
    walk_at "lw go"
    refine ⟨by show 4 ≤ sizeLine; decide, fun a4_49 ha4_49 => ?_⟩
    obtain ⟨H33, e33⟩ : ∃ H33, upd H32 a4_49 (.tup [.str "let", .str "a", .ref a4_5, .ref a4_47]) = H33 := ⟨_, rfl⟩
    have s33 : Same H32 H33 := e33 ▸ same_new ha4_49
    have f33 : H33 a4_49 = some (.tup [.str "let", .str "a", .ref a4_5, .ref a4_47]) := e33 ▸ upd_same
    rw [e33]
    clear e33
    have t33 := same_tup s33
    replace r4_3 := r4_3.mono t33
    replace r4_6 := r4_6.mono t33
    replace r4_8 := r4_8.mono t33
    replace r4_10 := r4_10.mono t33
    replace r4_12 := r4_12.mono t33
    replace r4_14 := r4_14.mono t33
    replace r4_16 := r4_16.mono t33
    replace r4_18 := r4_18.mono t33
    replace r4_20 := r4_20.mono t33
    replace r4_23 := r4_23.mono t33
    replace r4_25 := r4_25.mono t33
    replace r4_27 := r4_27.mono t33
    replace r4_29 := r4_29.mono t33
    replace r4_31 := r4_31.mono t33
    replace r4_33 := r4_33.mono t33
    replace r4_35 := r4_35.mono t33
    replace r4_38 := r4_38.mono t33
    replace r4_40 := r4_40.mono t33
    replace r4_42 := r4_42.mono t33
    replace r4_44 := r4_44.mono t33
    replace r4_46 := r4_46.mono t33
    replace r4_48 := r4_48.mono t33
    replace f7 := s33 _ _ f7
    replace kp := kp.trans (Keep.of_same s33)
    replace hp := s33 _ _ hp
    clear ha4_49
    have r4_50 : FRep (.lt "a" (.over (.noise (s0) (l0)) (1 + d3)) (.two .least (.nm "a") (.shift (3) (1) (.two .plus (.nm "a") (.whole (1)))))) H33 (.ref a4_49) := ⟨a4_49, .ref a4_5, .ref a4_47, rfl, f33, r4_6, r4_48⟩
    clear f33
    walk_at "lw go"
    have t34 := tup_putL (o := .lst ([.ref a4_2, .ref a4_5, .ref a4_9, .ref a4_17, .ref a4_19, .ref a4_28, .ref a4_34] ++ [.ref a4_49])) f7
    refine g_append f7 (small1000 (by simp)) ?_
    obtain ⟨H34, e34⟩ : ∃ H34, upd H33 l7 (.lst ([.ref a4_2, .ref a4_5, .ref a4_9, .ref a4_17, .ref a4_19, .ref a4_28, .ref a4_34] ++ [.ref a4_49])) = H34 := ⟨_, rfl⟩
    replace f7 : H34 l7 = some (.lst ([.ref a4_2, .ref a4_5, .ref a4_9, .ref a4_17, .ref a4_19, .ref a4_28, .ref a4_34] ++ [.ref a4_49])) := e34 ▸ upd_same
    replace f7 : H34 l7 = some (.lst [.ref a4_2, .ref a4_5, .ref a4_9, .ref a4_17, .ref a4_19, .ref a4_28, .ref a4_34, .ref a4_49]) := f7
    rw [e34] at t34 ⊢
    replace r4_3 := r4_3.mono t34
    replace r4_6 := r4_6.mono t34
    replace r4_8 := r4_8.mono t34
    replace r4_10 := r4_10.mono t34
    replace r4_12 := r4_12.mono t34
    replace r4_14 := r4_14.mono t34
    replace r4_16 := r4_16.mono t34
    replace r4_18 := r4_18.mono t34
    replace r4_20 := r4_20.mono t34
    replace r4_23 := r4_23.mono t34
    replace r4_25 := r4_25.mono t34
    replace r4_27 := r4_27.mono t34
    replace r4_29 := r4_29.mono t34
    replace r4_31 := r4_31.mono t34
    replace r4_33 := r4_33.mono t34
    replace r4_35 := r4_35.mono t34
    replace r4_38 := r4_38.mono t34
    replace r4_40 := r4_40.mono t34
    replace r4_42 := r4_42.mono t34
    replace r4_44 := r4_44.mono t34
    replace r4_46 := r4_46.mono t34
    replace r4_48 := r4_48.mono t34
    replace r4_50 := r4_50.mono t34
    replace kp : Keep p H H34 := e34 ▸ keep_put2 kp zl7
    replace hp : H34 p = some o5 := by rw [← e34, upd_ne nl7.symm]; exact hp
    clear e34
    walk_at "lw go"
    refine ⟨_, _, rfl, .inl (SqL.of f7), ?_⟩
    walk_at "lw go"
    rw [show (([.ref a4_2, .ref a4_5, .ref a4_9, .ref a4_17, .ref a4_19, .ref a4_28, .ref a4_34, .ref a4_49] : List V).length : Int) = 8 from rfl]
    refine ⟨p, 8, _, _, rfl, hp, hP, by omega, by decide, by decide, fun d8 o8 d80 d81 hPd8 => ?_⟩
    obtain ⟨H35, e35⟩ : ∃ H35, upd H34 p o8 = H35 := ⟨_, rfl⟩
    have k35 : Keep p H34 H35 := e35 ▸ Keep.refl.put
    have t35 : Tup H34 H35 := purse_tup k35 hp hP
    replace kp := kp.trans k35
    replace hp : H35 p = some o8 := e35 ▸ upd_same
    replace hP := hPd8
    rw [e35]
    clear e35 hPd8
    replace r4_3 := r4_3.mono t35
    replace r4_6 := r4_6.mono t35
    replace r4_8 := r4_8.mono t35
    replace r4_10 := r4_10.mono t35
    replace r4_12 := r4_12.mono t35
    replace r4_14 := r4_14.mono t35
    replace r4_16 := r4_16.mono t35
    replace r4_18 := r4_18.mono t35
    replace r4_20 := r4_20.mono t35
    replace r4_23 := r4_23.mono t35
    replace r4_25 := r4_25.mono t35
    replace r4_27 := r4_27.mono t35
    replace r4_29 := r4_29.mono t35
    replace r4_31 := r4_31.mono t35
    replace r4_33 := r4_33.mono t35
    replace r4_35 := r4_35.mono t35
    replace r4_38 := r4_38.mono t35
    replace r4_40 := r4_40.mono t35
    replace r4_42 := r4_42.mono t35
    replace r4_44 := r4_44.mono t35
    replace r4_46 := r4_46.mono t35
    replace r4_48 := r4_48.mono t35
    replace r4_50 := r4_50.mono t35
    replace f7 := k35 _ _ nl7 f7
    have fin : ∀ u F, FRep F H35 u → Smp F → Q u H35 := fun u F r sm => q u F H35 o8 r sm kp hp (hP.mono (by omega))
    rcases (show d8 = 0 ∨ d8 = 1 ∨ d8 = 2 ∨ d8 = 3 ∨ d8 = 4 ∨ d8 = 5 ∨ d8 = 6 ∨ d8 = 7 by omega) with rfl | rfl | rfl | rfl | rfl | rfl | rfl | rfl
    · exact g_ixL (SqL.of f7) (v := .ref a4_2) (atI_nat (j := 0) (by rfl)) (fin _ _ r4_3 (smp0 hSN))
    · exact g_ixL (SqL.of f7) (v := .ref a4_5) (atI_nat (j := 1) (by rfl)) (fin _ _ r4_6 (smp1 hSN))
    · exact g_ixL (SqL.of f7) (v := .ref a4_9) (atI_nat (j := 2) (by rfl)) (fin _ _ r4_10 (smp2 hSN))
    · exact g_ixL (SqL.of f7) (v := .ref a4_17) (atI_nat (j := 3) (by rfl)) (fin _ _ r4_18 (smp3 hSN))
    · exact g_ixL (SqL.of f7) (v := .ref a4_19) (atI_nat (j := 4) (by rfl)) (fin _ _ r4_20 (smp4 hw))
    · exact g_ixL (SqL.of f7) (v := .ref a4_28) (atI_nat (j := 5) (by rfl)) (fin _ _ r4_29 (smp5 hSN hw))
    · exact g_ixL (SqL.of f7) (v := .ref a4_34) (atI_nat (j := 6) (by rfl)) (fin _ _ r4_35 (smp6 hSN hw ⟨by omega, by omega⟩))
    · exact g_ixL (SqL.of f7) (v := .ref a4_49) (atI_nat (j := 7) (by rfl)) (fin _ _ r4_50 (smp7 hSN))
abbrev N_law_same : List Str := ["_law_one", "_law_other", "_law_grain_here", "_law_spots", "_law_x_here", "_law_z_here"]
theorem sc_law_same : FnScope N_law_same ["_law_one", "_law_other", "_law_grain_here", "_law_spots"] (defScope s_law_same) := ⟨rfl, rfl, rfl, by decide +kernel, rfl, by decide +kernel, by decide +kernel⟩
theorem ok_law_same (F : FnP K "_law_same" s_law_same f fd) (T : Bi mg) (G : Kn K mg) (D_value_at : Df P w K mg base "value_at" ["rules", "seed", "x", "z"] 63 spVal) : FnOk P w K mg base CX0 64 f fd ["_law_one", "_law_other", "_law_grain_here", "_law_spots"] spSame := by
  refine F.ok sc_law_same (fun vs H Q E h => ?_) (fun cdv A outer s H vs Q E hr h => ⟨_, PSs.nox
(pss_cons (ps_for PassesOwn.never rfl (pi_list (pv 3)) (pg_tup (by rfl) (pgs_cons (pg_name (i := 4) sc_law_same.nd rfl (Or.inl rfl)) (pgs_cons (pg_name (i := 5) sc_law_same.nd rfl (Or.inl rfl)) pgs_nil)))
  (pss_one (ps_if (pt_cmpR op_ne (pe_df D_value_at (hr.mono (by first | decide | omega)) (pa_cons (pv 0) (pa_cons (pv 2) (pa_cons (pv 4) (pa_cons (pv 5) pa_nil))))) (pe_df D_value_at (hr.mono (by first | decide | omega)) (pa_cons (pv 1) (pa_cons (pv 2) (pa_cons (pv 4) (pa_cons (pv 5) pa_nil))))) (nomark _))
  (pss_one (ps_ret pe_bl))
  pss_nil)))
  (pss_one (ps_ret pe_bl))), ?_⟩)
  · obtain ⟨u, v, F, G, g, sp, ws, rfl, _⟩ := h
    rfl
  · obtain ⟨u, v, F, G, g, sp, ws, rfl, hF, hG, gF, gG, hva, hsp, hws, q⟩ := h
    walk_at "lw i0"
    walk_at "lw go"
    refine ⟨sp, rfl, ⟨_, SqL.of hsp⟩, for_list (xs := ws) (fun _ σ H' => ∃ (o4 o5 : Option V), σ = [some u, some v, some (.int g), some (.ref sp), o4, o5] ∧ Same H H')
      ⟨_, _, rfl, Same.refl _⟩ (fun _ σ H' _ ⟨_, _, _, s⟩ => SqL.of (s _ _ hsp)) ?_ ?_⟩
    · rintro j y σ H3 hj ⟨o4, o5, rfl, s3⟩
      obtain ⟨t, x, z, rfl, ht, x0, x1, z0, z1⟩ := hws y (List.mem_of_getElem? hj)
      walk_at "lw go"
      refine g_tupT (SqT.of (s3 _ _ ht)) rfl ?_
      walk_at "lw go"
      refine ⟨u, F, g, x, z, rfl, hF.mono (same_tup s3), gF, x0, x1, z0, z1, fun H4 s4 => ?_⟩
      walk_at "lw go"
      refine ⟨v, G, g, x, z, rfl, hG.mono (same_tup (s3.trans s4)), gG, x0, x1, z0, z1, fun H5 s5 => ?_⟩
      rw [hva]
      walk_at "lw go"
      refine iteNS rfl ?_
      walk_at "lw go"
      exact ⟨_, _, rfl, (s3.trans s4).trans s5⟩
    · rintro σ H3 ⟨o4, o5, rfl, s3⟩
      walk_at "lw go"
      exact q _ s3
abbrev N_law_words_right : List Str := ["_law_one", "_law_other", "_law_grain_here", "_law_spots", "_law_named", "_law_both", "_law_pairs", "_law_pair"]
theorem sc_law_words_right : FnScope N_law_words_right ["_law_one", "_law_other", "_law_grain_here", "_law_spots"] (defScope s_law_words_right) := ⟨rfl, rfl, rfl, by decide +kernel, rfl, by decide +kernel, by decide +kernel⟩
theorem ok_law_words_right (F : FnP K "_law_words_right" s_law_words_right f fd) (T : Bi mg) (G : Kn K mg) (D_law_same : Df P w K mg base "_law_same" ["_law_one", "_law_other", "_law_grain_here", "_law_spots"] 64 spSame) : FnOk P w K mg base CX0 65 f fd ["_law_one", "_law_other", "_law_grain_here", "_law_spots"] spWords := by
  refine F.ok sc_law_words_right (fun vs H Q E h => ?_) (fun cdv A outer s H vs Q E hr h => ⟨_, PSs.nox
(pss_cons (ps_set (i := 4) sc_law_words_right.nd rfl (Or.inl rfl) (pe_tup (pa_cons pe_str (pa_cons pe_str pa_nil))))
  (pss_cons (ps_set (i := 5) sc_law_words_right.nd rfl (Or.inl rfl) (pe_tup (pa_cons pe_str (pa_cons (pv 0) (pa_cons (pv 1) pa_nil)))))
  (pss_cons (ps_set (i := 6) sc_law_words_right.nd rfl (Or.inl rfl) (pe_lst (pa_cons (pe_tup (pa_cons (pe_tup (pa_cons pe_str (pa_cons pe_str (pa_cons (pv 0) (pa_cons (pv 4) pa_nil))))) (pa_cons (pv 0) pa_nil))) (pa_cons (pe_tup (pa_cons (pe_tup (pa_cons pe_str (pa_cons pe_str (pa_cons (pv 0) (pa_cons (pe_tup (pa_cons pe_str (pa_cons (pv 4) (pa_cons (pv 1) pa_nil)))) pa_nil))))) (pa_cons (pv 5) pa_nil))) pa_nil))))
  (pss_cons (ps_expr (pe_bm PySem.F.plainAttrs_list PySem.F.slot_list_append PySem.F.type_list_append mt_append (pv 6) (pa_cons (pe_tup (pa_cons (pe_tup (pa_cons pe_str (pa_cons pe_str (pa_cons (pv 0) (pa_cons (pv 4) pa_nil))))) (pa_cons (pe_tup (pa_cons pe_str (pa_cons pe_str (pa_cons (pv 0) (pa_cons (pe_tup (pa_cons pe_str (pa_cons pe_str pa_nil))) pa_nil))))) pa_nil))) pa_nil)))
  (pss_cons (ps_expr (pe_bm PySem.F.plainAttrs_list PySem.F.slot_list_append PySem.F.type_list_append mt_append (pv 6) (pa_cons (pe_tup (pa_cons (pe_tup (pa_cons pe_str (pa_cons pe_int (pa_cons (pe_un un_neg pe_int) (pa_cons (pe_tup (pa_cons pe_str (pa_cons (pe_un un_neg pe_int) (pa_cons pe_int (pa_cons (pv 0) pa_nil))))) pa_nil))))) (pa_cons (pv 0) pa_nil))) pa_nil)))
  (pss_cons (ps_expr (pe_bm PySem.F.plainAttrs_list PySem.F.slot_list_append PySem.F.type_list_append mt_append (pv 6) (pa_cons (pe_tup (pa_cons (pe_tup (pa_cons pe_str (pa_cons pe_int (pa_cons pe_int (pa_cons (pe_tup (pa_cons pe_str (pa_cons pe_int (pa_cons (pe_un un_neg pe_int) (pa_cons (pv 0) pa_nil))))) pa_nil))))) (pa_cons (pe_tup (pa_cons pe_str (pa_cons pe_int (pa_cons (pe_un un_neg pe_int) (pa_cons (pv 0) pa_nil))))) pa_nil))) pa_nil)))
  (pss_cons (ps_expr (pe_bm PySem.F.plainAttrs_list PySem.F.slot_list_append PySem.F.type_list_append mt_append (pv 6) (pa_cons (pe_tup (pa_cons (pe_tup (pa_cons pe_str (pa_cons (pv 5) (pa_cons (pv 1) pa_nil)))) (pa_cons (pv 0) pa_nil))) pa_nil)))
  (pss_cons (ps_expr (pe_bm PySem.F.plainAttrs_list PySem.F.slot_list_append PySem.F.type_list_append mt_append (pv 6) (pa_cons (pe_tup (pa_cons (pe_tup (pa_cons pe_str (pa_cons (pe_tup (pa_cons pe_str (pa_cons (pv 0) (pa_cons (pv 1) pa_nil)))) (pa_cons (pe_tup (pa_cons pe_str (pa_cons (pv 0) (pa_cons (pv 1) pa_nil)))) pa_nil)))) (pa_cons (pv 5) pa_nil))) pa_nil)))
  (pss_cons (ps_expr (pe_bm PySem.F.plainAttrs_list PySem.F.slot_list_append PySem.F.type_list_append mt_append (pv 6) (pa_cons (pe_tup (pa_cons (pe_tup (pa_cons pe_str (pa_cons (pv 0) (pa_cons (pv 1) (pa_cons (pv 0) (pa_cons (pv 1) pa_nil)))))) (pa_cons (pe_tup (pa_cons pe_str (pa_cons (pv 0) (pa_cons (pv 1) pa_nil)))) pa_nil))) pa_nil)))
  (pss_cons (ps_expr (pe_bm PySem.F.plainAttrs_list PySem.F.slot_list_append PySem.F.type_list_append mt_append (pv 6) (pa_cons (pe_tup (pa_cons (pe_tup (pa_cons pe_str (pa_cons (pe_tup (pa_cons pe_str (pa_cons (pv 0) (pa_cons (pe_tup (pa_cons pe_str (pa_cons pe_int pa_nil))) pa_nil)))) (pa_cons pe_int pa_nil)))) (pa_cons (pv 0) pa_nil))) pa_nil)))
  (pss_cons (ps_expr (pe_bm PySem.F.plainAttrs_list PySem.F.slot_list_append PySem.F.type_list_append mt_append (pv 6) (pa_cons (pe_tup (pa_cons (pe_tup (pa_cons pe_str (pa_cons (pv 0) (pa_cons (pv 0) (pa_cons (pv 1) (pa_cons (pv 0) pa_nil)))))) (pa_cons (pv 0) pa_nil))) pa_nil)))
  (pss_cons (ps_expr (pe_bm PySem.F.plainAttrs_list PySem.F.slot_list_append PySem.F.type_list_append mt_append (pv 6) (pa_cons (pe_tup (pa_cons (pe_tup (pa_cons pe_str (pa_cons pe_int (pa_cons pe_int (pa_cons (pv 5) pa_nil))))) (pa_cons (pe_tup (pa_cons pe_str (pa_cons (pe_tup (pa_cons pe_str (pa_cons pe_int (pa_cons pe_int (pa_cons (pv 0) pa_nil))))) (pa_cons (pe_tup (pa_cons pe_str (pa_cons pe_int (pa_cons pe_int (pa_cons (pv 1) pa_nil))))) pa_nil)))) pa_nil))) pa_nil)))
  (pss_one (ps_ret (pe_cmpR (op_eqD hr.units) (pe_lc (own := [("_law_pair", 7)]) (g := gName 7)  rfl sc_law_words_right.nd (pi_list (pv 6)) (blkOk_by (N := N_law_words_right) (sc := defScope s_law_words_right) (by decide +kernel)) (fun _ _ _ _ _ => pg_name (i := 7) sc_law_words_right.nd rfl (Or.inl rfl)) (fun _ _ _ _ _ => (pts_one (pt_not (pt_val (pe_df D_law_same (hr.mono (by first | decide | omega)) (pa_cons (pe_ix (ix_tupK (K := K)) (pv 7) pe_int (fun _ _ => rfl)) (pa_cons (pe_ix (ix_tupK (K := K)) (pv 7) pe_int (fun _ _ => rfl)) (pa_cons (pv 2) (pa_cons (pv 3) pa_nil))))))))) (fun _ _ _ _ _ => (pv 7))) (pe_lst pa_nil) (nomark _)))))))))))))))), ?_⟩)
  · obtain ⟨u, v, F, G, g, sp, ws, rfl, _⟩ := h
    rfl
  · obtain ⟨u, v, F, G, g, sp, ws, rfl, hF, hG, iF, sG, hsp, hws, q⟩ := h
    walk_at "lw i0"
    obtain ⟨H0, e0⟩ : ∃ H0, H = H0 := ⟨_, rfl⟩
    rw [e0] at hF hG
    have S : Same H H0 := e0 ▸ Same.refl _
    have na : NameOk "a" := names4.1
    have nz : NameOk "zz" := ⟨by decide, by decide, by decide +kernel⟩
    have gF := good_of iF
    rw [e0]
    walk_at "lw go"
    refine ⟨by show 2 ≤ sizeLine; decide, fun a4_1 ha4_1 => ?_⟩
    obtain ⟨H1, e1⟩ : ∃ H1, upd H0 a4_1 (.tup [.str "name", .str "a"]) = H1 := ⟨_, rfl⟩
    have s1 : Same H0 H1 := e1 ▸ same_new ha4_1
    have f1 : H1 a4_1 = some (.tup [.str "name", .str "a"]) := e1 ▸ upd_same
    rw [e1]
    clear e1
    have t1 := same_tup s1
    replace hF := hF.mono t1
    replace hG := hG.mono t1
    replace S := S.trans s1
    clear ha4_1
    have r4_2 : FRep (.nm "a") H1 (.ref a4_1) := ⟨a4_1, rfl, f1⟩
    clear f1
    walk_at "lw go"
    refine ⟨by show 3 ≤ sizeLine; decide, fun a4_3 ha4_3 => ?_⟩
    obtain ⟨H2, e2⟩ : ∃ H2, upd H1 a4_3 (.tup [.str "plus", u, v]) = H2 := ⟨_, rfl⟩
    have s2 : Same H1 H2 := e2 ▸ same_new ha4_3
    have f2 : H2 a4_3 = some (.tup [.str "plus", u, v]) := e2 ▸ upd_same
    rw [e2]
    clear e2
    have t2 := same_tup s2
    replace hF := hF.mono t2
    replace hG := hG.mono t2
    replace r4_2 := r4_2.mono t2
    replace S := S.trans s2
    clear ha4_3
    have r4_4 : FRep (.two .plus F G) H2 (.ref a4_3) := ⟨a4_3, u, v, rfl, f2, hF, hG⟩
    clear f2
    walk_at "lw go"
    refine ⟨by show 4 ≤ sizeLine; decide, fun a4_5 ha4_5 => ?_⟩
    obtain ⟨H3, e3⟩ : ∃ H3, upd H2 a4_5 (.tup [.str "let", .str "a", u, .ref a4_1]) = H3 := ⟨_, rfl⟩
    have s3 : Same H2 H3 := e3 ▸ same_new ha4_5
    have f3 : H3 a4_5 = some (.tup [.str "let", .str "a", u, .ref a4_1]) := e3 ▸ upd_same
    rw [e3]
    clear e3
    have t3 := same_tup s3
    replace hF := hF.mono t3
    replace hG := hG.mono t3
    replace r4_2 := r4_2.mono t3
    replace r4_4 := r4_4.mono t3
    replace S := S.trans s3
    clear ha4_5
    have r4_6 : FRep (.lt "a" F (.nm "a")) H3 (.ref a4_5) := ⟨a4_5, u, .ref a4_1, rfl, f3, hF, r4_2⟩
    clear f3
    walk_at "lw go"
    refine ⟨by show 2 ≤ sizeLine; decide, fun p4_7 hp4_7 => ?_⟩
    obtain ⟨H4, e4⟩ : ∃ H4, upd H3 p4_7 (.tup [.ref a4_5, u]) = H4 := ⟨_, rfl⟩
    have s4 : Same H3 H4 := e4 ▸ same_new hp4_7
    have f4 : H4 p4_7 = some (.tup [.ref a4_5, u]) := e4 ▸ upd_same
    rw [e4]
    clear e4
    have t4 := same_tup s4
    replace hF := hF.mono t4
    replace hG := hG.mono t4
    replace r4_2 := r4_2.mono t4
    replace r4_4 := r4_4.mono t4
    replace r4_6 := r4_6.mono t4
    replace S := S.trans s4
    clear hp4_7
    have pp1 : PairV g H4 (.ref p4_7) := ⟨p4_7, .ref a4_5, u, (.lt "a" F (.nm "a")), F, rfl, f4, r4_6, hF, gd_let iF na, gF, fun x z => by rw [ex_let]⟩
    clear f4
    walk_at "lw go"
    clear r4_6
    refine ⟨by show 3 ≤ sizeLine; decide, fun a4_8 ha4_8 => ?_⟩
    obtain ⟨H5, e5⟩ : ∃ H5, upd H4 a4_8 (.tup [.str "plus", .ref a4_1, v]) = H5 := ⟨_, rfl⟩
    have s5 : Same H4 H5 := e5 ▸ same_new ha4_8
    have f5 : H5 a4_8 = some (.tup [.str "plus", .ref a4_1, v]) := e5 ▸ upd_same
    rw [e5]
    clear e5
    have t5 := same_tup s5
    replace hF := hF.mono t5
    replace hG := hG.mono t5
    replace r4_2 := r4_2.mono t5
    replace r4_4 := r4_4.mono t5
    replace pp1 := pp1.mono t5
    replace S := S.trans s5
    clear ha4_8
    have r4_9 : FRep (.two .plus (.nm "a") G) H5 (.ref a4_8) := ⟨a4_8, .ref a4_1, v, rfl, f5, r4_2, hG⟩
    clear f5
    walk_at "lw go"
    refine ⟨by show 4 ≤ sizeLine; decide, fun a4_10 ha4_10 => ?_⟩
    obtain ⟨H6, e6⟩ : ∃ H6, upd H5 a4_10 (.tup [.str "let", .str "a", u, .ref a4_8]) = H6 := ⟨_, rfl⟩
    have s6 : Same H5 H6 := e6 ▸ same_new ha4_10
    have f6 : H6 a4_10 = some (.tup [.str "let", .str "a", u, .ref a4_8]) := e6 ▸ upd_same
    rw [e6]
    clear e6
    have t6 := same_tup s6
    replace hF := hF.mono t6
    replace hG := hG.mono t6
    replace r4_2 := r4_2.mono t6
    replace r4_4 := r4_4.mono t6
    replace pp1 := pp1.mono t6
    replace r4_9 := r4_9.mono t6
    replace S := S.trans s6
    clear ha4_10
    have r4_11 : FRep (.lt "a" F (.two .plus (.nm "a") G)) H6 (.ref a4_10) := ⟨a4_10, u, .ref a4_8, rfl, f6, hF, r4_9⟩
    clear f6
    walk_at "lw go"
    refine ⟨by show 2 ≤ sizeLine; decide, fun p4_12 hp4_12 => ?_⟩
    obtain ⟨H7, e7⟩ : ∃ H7, upd H6 p4_12 (.tup [.ref a4_10, .ref a4_3]) = H7 := ⟨_, rfl⟩
    have s7 : Same H6 H7 := e7 ▸ same_new hp4_12
    have f7 : H7 p4_12 = some (.tup [.ref a4_10, .ref a4_3]) := e7 ▸ upd_same
    rw [e7]
    clear e7
    have t7 := same_tup s7
    replace hF := hF.mono t7
    replace hG := hG.mono t7
    replace r4_2 := r4_2.mono t7
    replace r4_4 := r4_4.mono t7
    replace pp1 := pp1.mono t7
    replace r4_9 := r4_9.mono t7
    replace r4_11 := r4_11.mono t7
    replace S := S.trans s7
    clear hp4_12
    have pp2 : PairV g H7 (.ref p4_12) := ⟨p4_12, .ref a4_10, .ref a4_3, (.lt "a" F (.two .plus (.nm "a") G)), (.two .plus F G), rfl, f7, r4_11, r4_4, gd_letp iF sG, gd_two iF sG (w := .plus) (by decide), fun x z => by rw [ex_letp iF sG]; rfl⟩
    clear f7
    walk_at "lw go"
    clear r4_11
    clear r4_9
    refine ⟨by show 2 ≤ sizeLine; decide, fun l4_13 hl4_13 => ?_⟩
    have zl : H l4_13 = none := none_of_same S hl4_13
    obtain ⟨H8, e8⟩ : ∃ H8, upd H7 l4_13 (.lst [.ref p4_7, .ref p4_12]) = H8 := ⟨_, rfl⟩
    have s8 : Same H7 H8 := e8 ▸ same_new hl4_13
    have f8 : H8 l4_13 = some (.lst [.ref p4_7, .ref p4_12]) := e8 ▸ upd_same
    rw [e8]
    clear e8
    have t8 := same_tup s8
    replace hF := hF.mono t8
    replace hG := hG.mono t8
    replace r4_2 := r4_2.mono t8
    replace r4_4 := r4_4.mono t8
    replace pp1 := pp1.mono t8
    replace pp2 := pp2.mono t8
    replace S := S.trans s8
    clear hl4_13
    walk_at "lw go"
    refine ⟨tyL f8, ?_⟩
    walk_at "lw go"
    refine ⟨by show 4 ≤ sizeLine; decide, fun a4_14 ha4_14 => ?_⟩
    obtain ⟨H9, e9⟩ : ∃ H9, upd H8 a4_14 (.tup [.str "let", .str "a", u, .ref a4_1]) = H9 := ⟨_, rfl⟩
    have s9 : Same H8 H9 := e9 ▸ same_new ha4_14
    have f9 : H9 a4_14 = some (.tup [.str "let", .str "a", u, .ref a4_1]) := e9 ▸ upd_same
    rw [e9]
    clear e9
    have t9 := same_tup s9
    replace hF := hF.mono t9
    replace hG := hG.mono t9
    replace r4_2 := r4_2.mono t9
    replace r4_4 := r4_4.mono t9
    replace pp1 := pp1.mono t9
    replace pp2 := pp2.mono t9
    replace f8 := s9 _ _ f8
    replace S := S.trans s9
    clear ha4_14
    have r4_15 : FRep (.lt "a" F (.nm "a")) H9 (.ref a4_14) := ⟨a4_14, u, .ref a4_1, rfl, f9, hF, r4_2⟩
    clear f9
    walk_at "lw go"
    refine ⟨by show 2 ≤ sizeLine; decide, fun a4_16 ha4_16 => ?_⟩
    obtain ⟨H10, e10⟩ : ∃ H10, upd H9 a4_16 (.tup [.str "name", .str "zz"]) = H10 := ⟨_, rfl⟩
    have s10 : Same H9 H10 := e10 ▸ same_new ha4_16
    have f10 : H10 a4_16 = some (.tup [.str "name", .str "zz"]) := e10 ▸ upd_same
    rw [e10]
    clear e10
    have t10 := same_tup s10
    replace hF := hF.mono t10
    replace hG := hG.mono t10
    replace r4_2 := r4_2.mono t10
    replace r4_4 := r4_4.mono t10
    replace pp1 := pp1.mono t10
    replace pp2 := pp2.mono t10
    replace r4_15 := r4_15.mono t10
    replace f8 := s10 _ _ f8
    replace S := S.trans s10
    clear ha4_16
    have r4_17 : FRep (.nm "zz") H10 (.ref a4_16) := ⟨a4_16, rfl, f10⟩
    clear f10
    walk_at "lw go"
    refine ⟨by show 4 ≤ sizeLine; decide, fun a4_18 ha4_18 => ?_⟩
    obtain ⟨H11, e11⟩ : ∃ H11, upd H10 a4_18 (.tup [.str "let", .str "zz", u, .ref a4_16]) = H11 := ⟨_, rfl⟩
    have s11 : Same H10 H11 := e11 ▸ same_new ha4_18
    have f11 : H11 a4_18 = some (.tup [.str "let", .str "zz", u, .ref a4_16]) := e11 ▸ upd_same
    rw [e11]
    clear e11
    have t11 := same_tup s11
    replace hF := hF.mono t11
    replace hG := hG.mono t11
    replace r4_2 := r4_2.mono t11
    replace r4_4 := r4_4.mono t11
    replace pp1 := pp1.mono t11
    replace pp2 := pp2.mono t11
    replace r4_15 := r4_15.mono t11
    replace r4_17 := r4_17.mono t11
    replace f8 := s11 _ _ f8
    replace S := S.trans s11
    clear ha4_18
    have r4_19 : FRep (.lt "zz" F (.nm "zz")) H11 (.ref a4_18) := ⟨a4_18, u, .ref a4_16, rfl, f11, hF, r4_17⟩
    clear f11
    walk_at "lw go"
    refine ⟨by show 2 ≤ sizeLine; decide, fun p4_20 hp4_20 => ?_⟩
    obtain ⟨H12, e12⟩ : ∃ H12, upd H11 p4_20 (.tup [.ref a4_14, .ref a4_18]) = H12 := ⟨_, rfl⟩
    have s12 : Same H11 H12 := e12 ▸ same_new hp4_20
    have f12 : H12 p4_20 = some (.tup [.ref a4_14, .ref a4_18]) := e12 ▸ upd_same
    rw [e12]
    clear e12
    have t12 := same_tup s12
    replace hF := hF.mono t12
    replace hG := hG.mono t12
    replace r4_2 := r4_2.mono t12
    replace r4_4 := r4_4.mono t12
    replace pp1 := pp1.mono t12
    replace pp2 := pp2.mono t12
    replace r4_15 := r4_15.mono t12
    replace r4_17 := r4_17.mono t12
    replace r4_19 := r4_19.mono t12
    replace f8 := s12 _ _ f8
    replace S := S.trans s12
    clear hp4_20
    have pp3 : PairV g H12 (.ref p4_20) := ⟨p4_20, .ref a4_14, .ref a4_18, (.lt "a" F (.nm "a")), (.lt "zz" F (.nm "zz")), rfl, f12, r4_15, r4_19, gd_let iF na, gd_let iF nz, fun x z => by rw [ex_let, ex_let]⟩
    clear f12
    walk_at "lw go"
    clear r4_15
    clear r4_19
    clear r4_2
    have t13 := tup_putL (o := .lst ([.ref p4_7, .ref p4_12] ++ [.ref p4_20])) f8
    refine g_append f8 (by simp only [List.length_cons, List.length_nil]; exact small1000 (by decide)) ?_
    obtain ⟨H13, e13⟩ : ∃ H13, upd H12 l4_13 (.lst ([.ref p4_7, .ref p4_12] ++ [.ref p4_20])) = H13 := ⟨_, rfl⟩
    replace f8 : H13 l4_13 = some (.lst ([.ref p4_7, .ref p4_12] ++ [.ref p4_20])) := e13 ▸ upd_same
    replace f8 : H13 l4_13 = some (.lst [.ref p4_7, .ref p4_12, .ref p4_20]) := f8
    rw [e13] at t13 ⊢
    replace hF := hF.mono t13
    replace hG := hG.mono t13
    replace r4_4 := r4_4.mono t13
    replace pp1 := pp1.mono t13
    replace pp2 := pp2.mono t13
    replace r4_17 := r4_17.mono t13
    replace pp3 := pp3.mono t13
    replace S : Same H H13 := e13 ▸ same_put S zl
    clear e13
    walk_at "lw go"
    refine ⟨tyL f8, ?_⟩
    walk_at "lw go"
    refine ⟨by show 4 ≤ sizeLine; decide, fun a4_21 ha4_21 => ?_⟩
    obtain ⟨H14, e14⟩ : ∃ H14, upd H13 a4_21 (.tup [.str "shift", .int (-5), .int 7, u]) = H14 := ⟨_, rfl⟩
    have s14 : Same H13 H14 := e14 ▸ same_new ha4_21
    have f14 : H14 a4_21 = some (.tup [.str "shift", .int (-5), .int 7, u]) := e14 ▸ upd_same
    rw [e14]
    clear e14
    have t14 := same_tup s14
    replace hF := hF.mono t14
    replace hG := hG.mono t14
    replace r4_4 := r4_4.mono t14
    replace pp1 := pp1.mono t14
    replace pp2 := pp2.mono t14
    replace r4_17 := r4_17.mono t14
    replace pp3 := pp3.mono t14
    replace f8 := s14 _ _ f8
    replace S := S.trans s14
    clear ha4_21
    have r4_22 : FRep (.shift (-5) (7) F) H14 (.ref a4_21) := ⟨a4_21, u, rfl, f14, hF⟩
    clear f14
    walk_at "lw go"
    refine ⟨by show 4 ≤ sizeLine; decide, fun a4_23 ha4_23 => ?_⟩
    obtain ⟨H15, e15⟩ : ∃ H15, upd H14 a4_23 (.tup [.str "shift", .int 5, .int (-7), .ref a4_21]) = H15 := ⟨_, rfl⟩
    have s15 : Same H14 H15 := e15 ▸ same_new ha4_23
    have f15 : H15 a4_23 = some (.tup [.str "shift", .int 5, .int (-7), .ref a4_21]) := e15 ▸ upd_same
    rw [e15]
    clear e15
    have t15 := same_tup s15
    replace hF := hF.mono t15
    replace hG := hG.mono t15
    replace r4_4 := r4_4.mono t15
    replace pp1 := pp1.mono t15
    replace pp2 := pp2.mono t15
    replace r4_17 := r4_17.mono t15
    replace pp3 := pp3.mono t15
    replace r4_22 := r4_22.mono t15
    replace f8 := s15 _ _ f8
    replace S := S.trans s15
    clear ha4_23
    have r4_24 : FRep (.shift (5) (-7) (.shift (-5) (7) F)) H15 (.ref a4_23) := ⟨a4_23, .ref a4_21, rfl, f15, r4_22⟩
    clear f15
    walk_at "lw go"
    refine ⟨by show 2 ≤ sizeLine; decide, fun p4_25 hp4_25 => ?_⟩
    obtain ⟨H16, e16⟩ : ∃ H16, upd H15 p4_25 (.tup [.ref a4_23, u]) = H16 := ⟨_, rfl⟩
    have s16 : Same H15 H16 := e16 ▸ same_new hp4_25
    have f16 : H16 p4_25 = some (.tup [.ref a4_23, u]) := e16 ▸ upd_same
    rw [e16]
    clear e16
    have t16 := same_tup s16
    replace hF := hF.mono t16
    replace hG := hG.mono t16
    replace r4_4 := r4_4.mono t16
    replace pp1 := pp1.mono t16
    replace pp2 := pp2.mono t16
    replace r4_17 := r4_17.mono t16
    replace pp3 := pp3.mono t16
    replace r4_22 := r4_22.mono t16
    replace r4_24 := r4_24.mono t16
    replace f8 := s16 _ _ f8
    replace S := S.trans s16
    clear hp4_25
    have pp4 : PairV g H16 (.ref p4_25) := ⟨p4_25, .ref a4_23, u, (.shift (5) (-7) (.shift (-5) (7) F)), F, rfl, f16, r4_24, hF, gd_shift2 iF ⟨by decide, by decide⟩ ⟨by decide, by decide⟩ ⟨by decide, by decide⟩ ⟨by decide, by decide⟩ ⟨by decide, by decide⟩ ⟨by decide, by decide⟩, gF, fun x z => v_back _⟩
    clear f16
    walk_at "lw go"
    clear r4_24
    have t17 := tup_putL (o := .lst ([.ref p4_7, .ref p4_12, .ref p4_20] ++ [.ref p4_25])) f8
    refine g_append f8 (by simp only [List.length_cons, List.length_nil]; exact small1000 (by decide)) ?_
    obtain ⟨H17, e17⟩ : ∃ H17, upd H16 l4_13 (.lst ([.ref p4_7, .ref p4_12, .ref p4_20] ++ [.ref p4_25])) = H17 := ⟨_, rfl⟩
    replace f8 : H17 l4_13 = some (.lst ([.ref p4_7, .ref p4_12, .ref p4_20] ++ [.ref p4_25])) := e17 ▸ upd_same
    replace f8 : H17 l4_13 = some (.lst [.ref p4_7, .ref p4_12, .ref p4_20, .ref p4_25]) := f8
    rw [e17] at t17 ⊢
    replace hF := hF.mono t17
    replace hG := hG.mono t17
    replace r4_4 := r4_4.mono t17
    replace pp1 := pp1.mono t17
    replace pp2 := pp2.mono t17
    replace r4_17 := r4_17.mono t17
    replace pp3 := pp3.mono t17
    replace r4_22 := r4_22.mono t17
    replace pp4 := pp4.mono t17
    replace S : Same H H17 := e17 ▸ same_put S zl
    clear e17
    walk_at "lw go"
    refine ⟨tyL f8, ?_⟩
    walk_at "lw go"
    refine ⟨by show 4 ≤ sizeLine; decide, fun a4_26 ha4_26 => ?_⟩
    obtain ⟨H18, e18⟩ : ∃ H18, upd H17 a4_26 (.tup [.str "shift", .int 4, .int (-9), u]) = H18 := ⟨_, rfl⟩
    have s18 : Same H17 H18 := e18 ▸ same_new ha4_26
    have f18 : H18 a4_26 = some (.tup [.str "shift", .int 4, .int (-9), u]) := e18 ▸ upd_same
    rw [e18]
    clear e18
    have t18 := same_tup s18
    replace hF := hF.mono t18
    replace hG := hG.mono t18
    replace r4_4 := r4_4.mono t18
    replace pp1 := pp1.mono t18
    replace pp2 := pp2.mono t18
    replace r4_17 := r4_17.mono t18
    replace pp3 := pp3.mono t18
    replace r4_22 := r4_22.mono t18
    replace pp4 := pp4.mono t18
    replace f8 := s18 _ _ f8
    replace S := S.trans s18
    clear ha4_26
    have r4_27 : FRep (.shift (4) (-9) F) H18 (.ref a4_26) := ⟨a4_26, u, rfl, f18, hF⟩
    clear f18
    walk_at "lw go"
    refine ⟨by show 4 ≤ sizeLine; decide, fun a4_28 ha4_28 => ?_⟩
    obtain ⟨H19, e19⟩ : ∃ H19, upd H18 a4_28 (.tup [.str "shift", .int 2, .int 3, .ref a4_26]) = H19 := ⟨_, rfl⟩
    have s19 : Same H18 H19 := e19 ▸ same_new ha4_28
    have f19 : H19 a4_28 = some (.tup [.str "shift", .int 2, .int 3, .ref a4_26]) := e19 ▸ upd_same
    rw [e19]
    clear e19
    have t19 := same_tup s19
    replace hF := hF.mono t19
    replace hG := hG.mono t19
    replace r4_4 := r4_4.mono t19
    replace pp1 := pp1.mono t19
    replace pp2 := pp2.mono t19
    replace r4_17 := r4_17.mono t19
    replace pp3 := pp3.mono t19
    replace r4_22 := r4_22.mono t19
    replace pp4 := pp4.mono t19
    replace r4_27 := r4_27.mono t19
    replace f8 := s19 _ _ f8
    replace S := S.trans s19
    clear ha4_28
    have r4_29 : FRep (.shift (2) (3) (.shift (4) (-9) F)) H19 (.ref a4_28) := ⟨a4_28, .ref a4_26, rfl, f19, r4_27⟩
    clear f19
    walk_at "lw go"
    refine ⟨by show 4 ≤ sizeLine; decide, fun a4_30 ha4_30 => ?_⟩
    obtain ⟨H20, e20⟩ : ∃ H20, upd H19 a4_30 (.tup [.str "shift", .int 6, .int (-6), u]) = H20 := ⟨_, rfl⟩
    have s20 : Same H19 H20 := e20 ▸ same_new ha4_30
    have f20 : H20 a4_30 = some (.tup [.str "shift", .int 6, .int (-6), u]) := e20 ▸ upd_same
    rw [e20]
    clear e20
    have t20 := same_tup s20
    replace hF := hF.mono t20
    replace hG := hG.mono t20
    replace r4_4 := r4_4.mono t20
    replace pp1 := pp1.mono t20
    replace pp2 := pp2.mono t20
    replace r4_17 := r4_17.mono t20
    replace pp3 := pp3.mono t20
    replace r4_22 := r4_22.mono t20
    replace pp4 := pp4.mono t20
    replace r4_27 := r4_27.mono t20
    replace r4_29 := r4_29.mono t20
    replace f8 := s20 _ _ f8
    replace S := S.trans s20
    clear ha4_30
    have r4_31 : FRep (.shift (6) (-6) F) H20 (.ref a4_30) := ⟨a4_30, u, rfl, f20, hF⟩
    clear f20
    walk_at "lw go"
    refine ⟨by show 2 ≤ sizeLine; decide, fun p4_32 hp4_32 => ?_⟩
    obtain ⟨H21, e21⟩ : ∃ H21, upd H20 p4_32 (.tup [.ref a4_28, .ref a4_30]) = H21 := ⟨_, rfl⟩
    have s21 : Same H20 H21 := e21 ▸ same_new hp4_32
    have f21 : H21 p4_32 = some (.tup [.ref a4_28, .ref a4_30]) := e21 ▸ upd_same
    rw [e21]
    clear e21
    have t21 := same_tup s21
    replace hF := hF.mono t21
    replace hG := hG.mono t21
    replace r4_4 := r4_4.mono t21
    replace pp1 := pp1.mono t21
    replace pp2 := pp2.mono t21
    replace r4_17 := r4_17.mono t21
    replace pp3 := pp3.mono t21
    replace r4_22 := r4_22.mono t21
    replace pp4 := pp4.mono t21
    replace r4_27 := r4_27.mono t21
    replace r4_29 := r4_29.mono t21
    replace r4_31 := r4_31.mono t21
    replace f8 := s21 _ _ f8
    replace S := S.trans s21
    clear hp4_32
    have pp5 : PairV g H21 (.ref p4_32) := ⟨p4_32, .ref a4_28, .ref a4_30, (.shift (2) (3) (.shift (4) (-9) F)), (.shift (6) (-6) F), rfl, f21, r4_29, r4_31, gd_shift2 iF ⟨by decide, by decide⟩ ⟨by decide, by decide⟩ ⟨by decide, by decide⟩ ⟨by decide, by decide⟩ ⟨by decide, by decide⟩ ⟨by decide, by decide⟩, gd_shift iF ⟨by decide, by decide⟩ ⟨by decide, by decide⟩, fun x z => v_sum _⟩
    clear f21
    walk_at "lw go"
    clear r4_29
    clear r4_31
    have t22 := tup_putL (o := .lst ([.ref p4_7, .ref p4_12, .ref p4_20, .ref p4_25] ++ [.ref p4_32])) f8
    refine g_append f8 (by simp only [List.length_cons, List.length_nil]; exact small1000 (by decide)) ?_
    obtain ⟨H22, e22⟩ : ∃ H22, upd H21 l4_13 (.lst ([.ref p4_7, .ref p4_12, .ref p4_20, .ref p4_25] ++ [.ref p4_32])) = H22 := ⟨_, rfl⟩
    replace f8 : H22 l4_13 = some (.lst ([.ref p4_7, .ref p4_12, .ref p4_20, .ref p4_25] ++ [.ref p4_32])) := e22 ▸ upd_same
    replace f8 : H22 l4_13 = some (.lst [.ref p4_7, .ref p4_12, .ref p4_20, .ref p4_25, .ref p4_32]) := f8
    rw [e22] at t22 ⊢
    replace hF := hF.mono t22
    replace hG := hG.mono t22
    replace r4_4 := r4_4.mono t22
    replace pp1 := pp1.mono t22
    replace pp2 := pp2.mono t22
    replace r4_17 := r4_17.mono t22
    replace pp3 := pp3.mono t22
    replace r4_22 := r4_22.mono t22
    replace pp4 := pp4.mono t22
    replace r4_27 := r4_27.mono t22
    replace pp5 := pp5.mono t22
    replace S : Same H H22 := e22 ▸ same_put S zl
    clear e22
    walk_at "lw go"
    refine ⟨tyL f8, ?_⟩
    walk_at "lw go"
    refine ⟨by show 3 ≤ sizeLine; decide, fun a4_33 ha4_33 => ?_⟩
    obtain ⟨H23, e23⟩ : ∃ H23, upd H22 a4_33 (.tup [.str "less", .ref a4_3, v]) = H23 := ⟨_, rfl⟩
    have s23 : Same H22 H23 := e23 ▸ same_new ha4_33
    have f23 : H23 a4_33 = some (.tup [.str "less", .ref a4_3, v]) := e23 ▸ upd_same
    rw [e23]
    clear e23
    have t23 := same_tup s23
    replace hF := hF.mono t23
    replace hG := hG.mono t23
    replace r4_4 := r4_4.mono t23
    replace pp1 := pp1.mono t23
    replace pp2 := pp2.mono t23
    replace r4_17 := r4_17.mono t23
    replace pp3 := pp3.mono t23
    replace r4_22 := r4_22.mono t23
    replace pp4 := pp4.mono t23
    replace r4_27 := r4_27.mono t23
    replace pp5 := pp5.mono t23
    replace f8 := s23 _ _ f8
    replace S := S.trans s23
    clear ha4_33
    have r4_34 : FRep (.two .less (.two .plus F G) G) H23 (.ref a4_33) := ⟨a4_33, .ref a4_3, v, rfl, f23, r4_4, hG⟩
    clear f23
    walk_at "lw go"
    refine ⟨by show 2 ≤ sizeLine; decide, fun p4_35 hp4_35 => ?_⟩
    obtain ⟨H24, e24⟩ : ∃ H24, upd H23 p4_35 (.tup [.ref a4_33, u]) = H24 := ⟨_, rfl⟩
    have s24 : Same H23 H24 := e24 ▸ same_new hp4_35
    have f24 : H24 p4_35 = some (.tup [.ref a4_33, u]) := e24 ▸ upd_same
    rw [e24]
    clear e24
    have t24 := same_tup s24
    replace hF := hF.mono t24
    replace hG := hG.mono t24
    replace r4_4 := r4_4.mono t24
    replace pp1 := pp1.mono t24
    replace pp2 := pp2.mono t24
    replace r4_17 := r4_17.mono t24
    replace pp3 := pp3.mono t24
    replace r4_22 := r4_22.mono t24
    replace pp4 := pp4.mono t24
    replace r4_27 := r4_27.mono t24
    replace pp5 := pp5.mono t24
    replace r4_34 := r4_34.mono t24
    replace f8 := s24 _ _ f8
    replace S := S.trans s24
    clear hp4_35
    have pp6 : PairV g H24 (.ref p4_35) := ⟨p4_35, .ref a4_33, u, (.two .less (.two .plus F G) G), F, rfl, f24, r4_34, hF, gd_less iF sG, gF, fun x z => v_less _ _⟩
    clear f24
    walk_at "lw go"
    clear r4_34
    have t25 := tup_putL (o := .lst ([.ref p4_7, .ref p4_12, .ref p4_20, .ref p4_25, .ref p4_32] ++ [.ref p4_35])) f8
    refine g_append f8 (by simp only [List.length_cons, List.length_nil]; exact small1000 (by decide)) ?_
    obtain ⟨H25, e25⟩ : ∃ H25, upd H24 l4_13 (.lst ([.ref p4_7, .ref p4_12, .ref p4_20, .ref p4_25, .ref p4_32] ++ [.ref p4_35])) = H25 := ⟨_, rfl⟩
    replace f8 : H25 l4_13 = some (.lst ([.ref p4_7, .ref p4_12, .ref p4_20, .ref p4_25, .ref p4_32] ++ [.ref p4_35])) := e25 ▸ upd_same
    replace f8 : H25 l4_13 = some (.lst [.ref p4_7, .ref p4_12, .ref p4_20, .ref p4_25, .ref p4_32, .ref p4_35]) := f8
    rw [e25] at t25 ⊢
    replace hF := hF.mono t25
    replace hG := hG.mono t25
    replace r4_4 := r4_4.mono t25
    replace pp1 := pp1.mono t25
    replace pp2 := pp2.mono t25
    replace r4_17 := r4_17.mono t25
    replace pp3 := pp3.mono t25
    replace r4_22 := r4_22.mono t25
    replace pp4 := pp4.mono t25
    replace r4_27 := r4_27.mono t25
    replace pp5 := pp5.mono t25
    replace pp6 := pp6.mono t25
    replace S : Same H H25 := e25 ▸ same_put S zl
    clear e25
    walk_at "lw go"
    refine ⟨tyL f8, ?_⟩
    walk_at "lw go"
    refine ⟨by show 3 ≤ sizeLine; decide, fun a4_36 ha4_36 => ?_⟩
    obtain ⟨H26, e26⟩ : ∃ H26, upd H25 a4_36 (.tup [.str "least", u, v]) = H26 := ⟨_, rfl⟩
    have s26 : Same H25 H26 := e26 ▸ same_new ha4_36
    have f26 : H26 a4_36 = some (.tup [.str "least", u, v]) := e26 ▸ upd_same
    rw [e26]
    clear e26
    have t26 := same_tup s26
    replace hF := hF.mono t26
    replace hG := hG.mono t26
    replace r4_4 := r4_4.mono t26
    replace pp1 := pp1.mono t26
    replace pp2 := pp2.mono t26
    replace r4_17 := r4_17.mono t26
    replace pp3 := pp3.mono t26
    replace r4_22 := r4_22.mono t26
    replace pp4 := pp4.mono t26
    replace r4_27 := r4_27.mono t26
    replace pp5 := pp5.mono t26
    replace pp6 := pp6.mono t26
    replace f8 := s26 _ _ f8
    replace S := S.trans s26
    clear ha4_36
    have r4_37 : FRep (.two .least F G) H26 (.ref a4_36) := ⟨a4_36, u, v, rfl, f26, hF, hG⟩
    clear f26
    walk_at "lw go"
    refine ⟨by show 3 ≤ sizeLine; decide, fun a4_38 ha4_38 => ?_⟩
    obtain ⟨H27, e27⟩ : ∃ H27, upd H26 a4_38 (.tup [.str "most", u, v]) = H27 := ⟨_, rfl⟩
    have s27 : Same H26 H27 := e27 ▸ same_new ha4_38
    have f27 : H27 a4_38 = some (.tup [.str "most", u, v]) := e27 ▸ upd_same
    rw [e27]
    clear e27
    have t27 := same_tup s27
    replace hF := hF.mono t27
    replace hG := hG.mono t27
    replace r4_4 := r4_4.mono t27
    replace pp1 := pp1.mono t27
    replace pp2 := pp2.mono t27
    replace r4_17 := r4_17.mono t27
    replace pp3 := pp3.mono t27
    replace r4_22 := r4_22.mono t27
    replace pp4 := pp4.mono t27
    replace r4_27 := r4_27.mono t27
    replace pp5 := pp5.mono t27
    replace pp6 := pp6.mono t27
    replace r4_37 := r4_37.mono t27
    replace f8 := s27 _ _ f8
    replace S := S.trans s27
    clear ha4_38
    have r4_39 : FRep (.two .most F G) H27 (.ref a4_38) := ⟨a4_38, u, v, rfl, f27, hF, hG⟩
    clear f27
    walk_at "lw go"
    refine ⟨by show 3 ≤ sizeLine; decide, fun a4_40 ha4_40 => ?_⟩
    obtain ⟨H28, e28⟩ : ∃ H28, upd H27 a4_40 (.tup [.str "plus", .ref a4_36, .ref a4_38]) = H28 := ⟨_, rfl⟩
    have s28 : Same H27 H28 := e28 ▸ same_new ha4_40
    have f28 : H28 a4_40 = some (.tup [.str "plus", .ref a4_36, .ref a4_38]) := e28 ▸ upd_same
    rw [e28]
    clear e28
    have t28 := same_tup s28
    replace hF := hF.mono t28
    replace hG := hG.mono t28
    replace r4_4 := r4_4.mono t28
    replace pp1 := pp1.mono t28
    replace pp2 := pp2.mono t28
    replace r4_17 := r4_17.mono t28
    replace pp3 := pp3.mono t28
    replace r4_22 := r4_22.mono t28
    replace pp4 := pp4.mono t28
    replace r4_27 := r4_27.mono t28
    replace pp5 := pp5.mono t28
    replace pp6 := pp6.mono t28
    replace r4_37 := r4_37.mono t28
    replace r4_39 := r4_39.mono t28
    replace f8 := s28 _ _ f8
    replace S := S.trans s28
    clear ha4_40
    have r4_41 : FRep (.two .plus (.two .least F G) (.two .most F G)) H28 (.ref a4_40) := ⟨a4_40, .ref a4_36, .ref a4_38, rfl, f28, r4_37, r4_39⟩
    clear f28
    walk_at "lw go"
    refine ⟨by show 2 ≤ sizeLine; decide, fun p4_42 hp4_42 => ?_⟩
    obtain ⟨H29, e29⟩ : ∃ H29, upd H28 p4_42 (.tup [.ref a4_40, .ref a4_3]) = H29 := ⟨_, rfl⟩
    have s29 : Same H28 H29 := e29 ▸ same_new hp4_42
    have f29 : H29 p4_42 = some (.tup [.ref a4_40, .ref a4_3]) := e29 ▸ upd_same
    rw [e29]
    clear e29
    have t29 := same_tup s29
    replace hF := hF.mono t29
    replace hG := hG.mono t29
    replace r4_4 := r4_4.mono t29
    replace pp1 := pp1.mono t29
    replace pp2 := pp2.mono t29
    replace r4_17 := r4_17.mono t29
    replace pp3 := pp3.mono t29
    replace r4_22 := r4_22.mono t29
    replace pp4 := pp4.mono t29
    replace r4_27 := r4_27.mono t29
    replace pp5 := pp5.mono t29
    replace pp6 := pp6.mono t29
    replace r4_37 := r4_37.mono t29
    replace r4_39 := r4_39.mono t29
    replace r4_41 := r4_41.mono t29
    replace f8 := s29 _ _ f8
    replace S := S.trans s29
    clear hp4_42
    have pp7 : PairV g H29 (.ref p4_42) := ⟨p4_42, .ref a4_40, .ref a4_3, (.two .plus (.two .least F G) (.two .most F G)), (.two .plus F G), rfl, f29, r4_41, r4_4, gd_lm iF sG, gd_two iF sG (w := .plus) (by decide), fun x z => v_lm _ _⟩
    clear f29
    walk_at "lw go"
    clear r4_41
    have t30 := tup_putL (o := .lst ([.ref p4_7, .ref p4_12, .ref p4_20, .ref p4_25, .ref p4_32, .ref p4_35] ++ [.ref p4_42])) f8
    refine g_append f8 (by simp only [List.length_cons, List.length_nil]; exact small1000 (by decide)) ?_
    obtain ⟨H30, e30⟩ : ∃ H30, upd H29 l4_13 (.lst ([.ref p4_7, .ref p4_12, .ref p4_20, .ref p4_25, .ref p4_32, .ref p4_35] ++ [.ref p4_42])) = H30 := ⟨_, rfl⟩
    replace f8 : H30 l4_13 = some (.lst ([.ref p4_7, .ref p4_12, .ref p4_20, .ref p4_25, .ref p4_32, .ref p4_35] ++ [.ref p4_42])) := e30 ▸ upd_same
    replace f8 : H30 l4_13 = some (.lst [.ref p4_7, .ref p4_12, .ref p4_20, .ref p4_25, .ref p4_32, .ref p4_35, .ref p4_42]) := f8
    rw [e30] at t30 ⊢
    replace hF := hF.mono t30
    replace hG := hG.mono t30
    replace r4_4 := r4_4.mono t30
    replace pp1 := pp1.mono t30
    replace pp2 := pp2.mono t30
    replace r4_17 := r4_17.mono t30
    replace pp3 := pp3.mono t30
    replace r4_22 := r4_22.mono t30
    replace pp4 := pp4.mono t30
    replace r4_27 := r4_27.mono t30
    replace pp5 := pp5.mono t30
    replace pp6 := pp6.mono t30
    replace r4_37 := r4_37.mono t30
    replace r4_39 := r4_39.mono t30
    replace pp7 := pp7.mono t30
    replace S : Same H H30 := e30 ▸ same_put S zl
    clear e30
    walk_at "lw go"
    refine ⟨tyL f8, ?_⟩
    walk_at "lw go"
    refine ⟨by show 5 ≤ sizeLine; decide, fun a4_43 ha4_43 => ?_⟩
    obtain ⟨H31, e31⟩ : ∃ H31, upd H30 a4_43 (.tup [.str "below", u, v, u, v]) = H31 := ⟨_, rfl⟩
    have s31 : Same H30 H31 := e31 ▸ same_new ha4_43
    have f31 : H31 a4_43 = some (.tup [.str "below", u, v, u, v]) := e31 ▸ upd_same
    rw [e31]
    clear e31
    have t31 := same_tup s31
    replace hF := hF.mono t31
    replace hG := hG.mono t31
    replace r4_4 := r4_4.mono t31
    replace pp1 := pp1.mono t31
    replace pp2 := pp2.mono t31
    replace r4_17 := r4_17.mono t31
    replace pp3 := pp3.mono t31
    replace r4_22 := r4_22.mono t31
    replace pp4 := pp4.mono t31
    replace r4_27 := r4_27.mono t31
    replace pp5 := pp5.mono t31
    replace pp6 := pp6.mono t31
    replace r4_37 := r4_37.mono t31
    replace r4_39 := r4_39.mono t31
    replace pp7 := pp7.mono t31
    replace f8 := s31 _ _ f8
    replace S := S.trans s31
    clear ha4_43
    have r4_44 : FRep (.bel F G F G) H31 (.ref a4_43) := ⟨a4_43, u, v, u, v, rfl, f31, hF, hG, hF, hG⟩
    clear f31
    walk_at "lw go"
    refine ⟨by show 3 ≤ sizeLine; decide, fun a4_45 ha4_45 => ?_⟩
    obtain ⟨H32, e32⟩ : ∃ H32, upd H31 a4_45 (.tup [.str "least", u, v]) = H32 := ⟨_, rfl⟩
    have s32 : Same H31 H32 := e32 ▸ same_new ha4_45
    have f32 : H32 a4_45 = some (.tup [.str "least", u, v]) := e32 ▸ upd_same
    rw [e32]
    clear e32
    have t32 := same_tup s32
    replace hF := hF.mono t32
    replace hG := hG.mono t32
    replace r4_4 := r4_4.mono t32
    replace pp1 := pp1.mono t32
    replace pp2 := pp2.mono t32
    replace r4_17 := r4_17.mono t32
    replace pp3 := pp3.mono t32
    replace r4_22 := r4_22.mono t32
    replace pp4 := pp4.mono t32
    replace r4_27 := r4_27.mono t32
    replace pp5 := pp5.mono t32
    replace pp6 := pp6.mono t32
    replace r4_37 := r4_37.mono t32
    replace r4_39 := r4_39.mono t32
    replace pp7 := pp7.mono t32
    replace r4_44 := r4_44.mono t32
    replace f8 := s32 _ _ f8
    replace S := S.trans s32
    clear ha4_45
    have r4_46 : FRep (.two .least F G) H32 (.ref a4_45) := ⟨a4_45, u, v, rfl, f32, hF, hG⟩
    clear f32
    walk_at "lw go"
    refine ⟨by show 2 ≤ sizeLine; decide, fun p4_47 hp4_47 => ?_⟩
    obtain ⟨H33, e33⟩ : ∃ H33, upd H32 p4_47 (.tup [.ref a4_43, .ref a4_45]) = H33 := ⟨_, rfl⟩
    have s33 : Same H32 H33 := e33 ▸ same_new hp4_47
    have f33 : H33 p4_47 = some (.tup [.ref a4_43, .ref a4_45]) := e33 ▸ upd_same
    rw [e33]
    clear e33
    have t33 := same_tup s33
    replace hF := hF.mono t33
    replace hG := hG.mono t33
    replace r4_4 := r4_4.mono t33
    replace pp1 := pp1.mono t33
    replace pp2 := pp2.mono t33
    replace r4_17 := r4_17.mono t33
    replace pp3 := pp3.mono t33
    replace r4_22 := r4_22.mono t33
    replace pp4 := pp4.mono t33
    replace r4_27 := r4_27.mono t33
    replace pp5 := pp5.mono t33
    replace pp6 := pp6.mono t33
    replace r4_37 := r4_37.mono t33
    replace r4_39 := r4_39.mono t33
    replace pp7 := pp7.mono t33
    replace r4_44 := r4_44.mono t33
    replace r4_46 := r4_46.mono t33
    replace f8 := s33 _ _ f8
    replace S := S.trans s33
    clear hp4_47
    have pp8 : PairV g H33 (.ref p4_47) := ⟨p4_47, .ref a4_43, .ref a4_45, (.bel F G F G), (.two .least F G), rfl, f33, r4_44, r4_46, gd_bel1 iF sG, gd_two iF sG (w := .least) (by decide), fun x z => v_bel1 _ _⟩
    clear f33
    walk_at "lw go"
    clear r4_44
    clear r4_46
    have t34 := tup_putL (o := .lst ([.ref p4_7, .ref p4_12, .ref p4_20, .ref p4_25, .ref p4_32, .ref p4_35, .ref p4_42] ++ [.ref p4_47])) f8
    refine g_append f8 (by simp only [List.length_cons, List.length_nil]; exact small1000 (by decide)) ?_
    obtain ⟨H34, e34⟩ : ∃ H34, upd H33 l4_13 (.lst ([.ref p4_7, .ref p4_12, .ref p4_20, .ref p4_25, .ref p4_32, .ref p4_35, .ref p4_42] ++ [.ref p4_47])) = H34 := ⟨_, rfl⟩
    replace f8 : H34 l4_13 = some (.lst ([.ref p4_7, .ref p4_12, .ref p4_20, .ref p4_25, .ref p4_32, .ref p4_35, .ref p4_42] ++ [.ref p4_47])) := e34 ▸ upd_same
    replace f8 : H34 l4_13 = some (.lst [.ref p4_7, .ref p4_12, .ref p4_20, .ref p4_25, .ref p4_32, .ref p4_35, .ref p4_42, .ref p4_47]) := f8
    rw [e34] at t34 ⊢
    replace hF := hF.mono t34
    replace hG := hG.mono t34
    replace r4_4 := r4_4.mono t34
    replace pp1 := pp1.mono t34
    replace pp2 := pp2.mono t34
    replace r4_17 := r4_17.mono t34
    replace pp3 := pp3.mono t34
    replace r4_22 := r4_22.mono t34
    replace pp4 := pp4.mono t34
    replace r4_27 := r4_27.mono t34
    replace pp5 := pp5.mono t34
    replace pp6 := pp6.mono t34
    replace r4_37 := r4_37.mono t34
    replace r4_39 := r4_39.mono t34
    replace pp7 := pp7.mono t34
    replace pp8 := pp8.mono t34
    replace S : Same H H34 := e34 ▸ same_put S zl
    clear e34
    walk_at "lw go"
    refine ⟨tyL f8, ?_⟩
    walk_at "lw go"
    refine ⟨by show 2 ≤ sizeLine; decide, fun a4_48 ha4_48 => ?_⟩
    obtain ⟨H35, e35⟩ : ∃ H35, upd H34 a4_48 (.tup [.str "whole", .int 7]) = H35 := ⟨_, rfl⟩
    have s35 : Same H34 H35 := e35 ▸ same_new ha4_48
    have f35 : H35 a4_48 = some (.tup [.str "whole", .int 7]) := e35 ▸ upd_same
    rw [e35]
    clear e35
    have t35 := same_tup s35
    replace hF := hF.mono t35
    replace hG := hG.mono t35
    replace r4_4 := r4_4.mono t35
    replace pp1 := pp1.mono t35
    replace pp2 := pp2.mono t35
    replace r4_17 := r4_17.mono t35
    replace pp3 := pp3.mono t35
    replace r4_22 := r4_22.mono t35
    replace pp4 := pp4.mono t35
    replace r4_27 := r4_27.mono t35
    replace pp5 := pp5.mono t35
    replace pp6 := pp6.mono t35
    replace r4_37 := r4_37.mono t35
    replace r4_39 := r4_39.mono t35
    replace pp7 := pp7.mono t35
    replace pp8 := pp8.mono t35
    replace f8 := s35 _ _ f8
    replace S := S.trans s35
    clear ha4_48
    have r4_49 : FRep (.whole (7)) H35 (.ref a4_48) := ⟨a4_48, rfl, f35⟩
    clear f35
    walk_at "lw go"
    refine ⟨by show 3 ≤ sizeLine; decide, fun a4_50 ha4_50 => ?_⟩
    obtain ⟨H36, e36⟩ : ∃ H36, upd H35 a4_50 (.tup [.str "times", u, .ref a4_48]) = H36 := ⟨_, rfl⟩
    have s36 : Same H35 H36 := e36 ▸ same_new ha4_50
    have f36 : H36 a4_50 = some (.tup [.str "times", u, .ref a4_48]) := e36 ▸ upd_same
    rw [e36]
    clear e36
    have t36 := same_tup s36
    replace hF := hF.mono t36
    replace hG := hG.mono t36
    replace r4_4 := r4_4.mono t36
    replace pp1 := pp1.mono t36
    replace pp2 := pp2.mono t36
    replace r4_17 := r4_17.mono t36
    replace pp3 := pp3.mono t36
    replace r4_22 := r4_22.mono t36
    replace pp4 := pp4.mono t36
    replace r4_27 := r4_27.mono t36
    replace pp5 := pp5.mono t36
    replace pp6 := pp6.mono t36
    replace r4_37 := r4_37.mono t36
    replace r4_39 := r4_39.mono t36
    replace pp7 := pp7.mono t36
    replace pp8 := pp8.mono t36
    replace r4_49 := r4_49.mono t36
    replace f8 := s36 _ _ f8
    replace S := S.trans s36
    clear ha4_50
    have r4_51 : FRep (.two .times F (.whole (7))) H36 (.ref a4_50) := ⟨a4_50, u, .ref a4_48, rfl, f36, hF, r4_49⟩
    clear f36
    walk_at "lw go"
    refine ⟨by show 3 ≤ sizeLine; decide, fun a4_52 ha4_52 => ?_⟩
    obtain ⟨H37, e37⟩ : ∃ H37, upd H36 a4_52 (.tup [.str "over", .ref a4_50, .int 7]) = H37 := ⟨_, rfl⟩
    have s37 : Same H36 H37 := e37 ▸ same_new ha4_52
    have f37 : H37 a4_52 = some (.tup [.str "over", .ref a4_50, .int 7]) := e37 ▸ upd_same
    rw [e37]
    clear e37
    have t37 := same_tup s37
    replace hF := hF.mono t37
    replace hG := hG.mono t37
    replace r4_4 := r4_4.mono t37
    replace pp1 := pp1.mono t37
    replace pp2 := pp2.mono t37
    replace r4_17 := r4_17.mono t37
    replace pp3 := pp3.mono t37
    replace r4_22 := r4_22.mono t37
    replace pp4 := pp4.mono t37
    replace r4_27 := r4_27.mono t37
    replace pp5 := pp5.mono t37
    replace pp6 := pp6.mono t37
    replace r4_37 := r4_37.mono t37
    replace r4_39 := r4_39.mono t37
    replace pp7 := pp7.mono t37
    replace pp8 := pp8.mono t37
    replace r4_49 := r4_49.mono t37
    replace r4_51 := r4_51.mono t37
    replace f8 := s37 _ _ f8
    replace S := S.trans s37
    clear ha4_52
    have r4_53 : FRep (.over (.two .times F (.whole (7))) (7)) H37 (.ref a4_52) := ⟨a4_52, .ref a4_50, rfl, f37, r4_51⟩
    clear f37
    walk_at "lw go"
    refine ⟨by show 2 ≤ sizeLine; decide, fun p4_54 hp4_54 => ?_⟩
    obtain ⟨H38, e38⟩ : ∃ H38, upd H37 p4_54 (.tup [.ref a4_52, u]) = H38 := ⟨_, rfl⟩
    have s38 : Same H37 H38 := e38 ▸ same_new hp4_54
    have f38 : H38 p4_54 = some (.tup [.ref a4_52, u]) := e38 ▸ upd_same
    rw [e38]
    clear e38
    have t38 := same_tup s38
    replace hF := hF.mono t38
    replace hG := hG.mono t38
    replace r4_4 := r4_4.mono t38
    replace pp1 := pp1.mono t38
    replace pp2 := pp2.mono t38
    replace r4_17 := r4_17.mono t38
    replace pp3 := pp3.mono t38
    replace r4_22 := r4_22.mono t38
    replace pp4 := pp4.mono t38
    replace r4_27 := r4_27.mono t38
    replace pp5 := pp5.mono t38
    replace pp6 := pp6.mono t38
    replace r4_37 := r4_37.mono t38
    replace r4_39 := r4_39.mono t38
    replace pp7 := pp7.mono t38
    replace pp8 := pp8.mono t38
    replace r4_49 := r4_49.mono t38
    replace r4_51 := r4_51.mono t38
    replace r4_53 := r4_53.mono t38
    replace f8 := s38 _ _ f8
    replace S := S.trans s38
    clear hp4_54
    have pp9 : PairV g H38 (.ref p4_54) := ⟨p4_54, .ref a4_52, u, (.over (.two .times F (.whole (7))) (7)), F, rfl, f38, r4_53, hF, gd_over iF, gF, fun x z => v_over _⟩
    clear f38
    walk_at "lw go"
    clear r4_53
    have t39 := tup_putL (o := .lst ([.ref p4_7, .ref p4_12, .ref p4_20, .ref p4_25, .ref p4_32, .ref p4_35, .ref p4_42, .ref p4_47] ++ [.ref p4_54])) f8
    refine g_append f8 (by simp only [List.length_cons, List.length_nil]; exact small1000 (by decide)) ?_
    obtain ⟨H39, e39⟩ : ∃ H39, upd H38 l4_13 (.lst ([.ref p4_7, .ref p4_12, .ref p4_20, .ref p4_25, .ref p4_32, .ref p4_35, .ref p4_42, .ref p4_47] ++ [.ref p4_54])) = H39 := ⟨_, rfl⟩
    replace f8 : H39 l4_13 = some (.lst ([.ref p4_7, .ref p4_12, .ref p4_20, .ref p4_25, .ref p4_32, .ref p4_35, .ref p4_42, .ref p4_47] ++ [.ref p4_54])) := e39 ▸ upd_same
    replace f8 : H39 l4_13 = some (.lst [.ref p4_7, .ref p4_12, .ref p4_20, .ref p4_25, .ref p4_32, .ref p4_35, .ref p4_42, .ref p4_47, .ref p4_54]) := f8
    rw [e39] at t39 ⊢
    replace hF := hF.mono t39
    replace hG := hG.mono t39
    replace r4_4 := r4_4.mono t39
    replace pp1 := pp1.mono t39
    replace pp2 := pp2.mono t39
    replace r4_17 := r4_17.mono t39
    replace pp3 := pp3.mono t39
    replace r4_22 := r4_22.mono t39
    replace pp4 := pp4.mono t39
    replace r4_27 := r4_27.mono t39
    replace pp5 := pp5.mono t39
    replace pp6 := pp6.mono t39
    replace r4_37 := r4_37.mono t39
    replace r4_39 := r4_39.mono t39
    replace pp7 := pp7.mono t39
    replace pp8 := pp8.mono t39
    replace r4_49 := r4_49.mono t39
    replace r4_51 := r4_51.mono t39
    replace pp9 := pp9.mono t39
    replace S : Same H H39 := e39 ▸ same_put S zl
    clear e39
    walk_at "lw go"
    refine ⟨tyL f8, ?_⟩
    walk_at "lw go"
    refine ⟨by show 5 ≤ sizeLine; decide, fun a4_55 ha4_55 => ?_⟩
    obtain ⟨H40, e40⟩ : ∃ H40, upd H39 a4_55 (.tup [.str "below", u, u, v, u]) = H40 := ⟨_, rfl⟩
    have s40 : Same H39 H40 := e40 ▸ same_new ha4_55
    have f40 : H40 a4_55 = some (.tup [.str "below", u, u, v, u]) := e40 ▸ upd_same
    rw [e40]
    clear e40
    have t40 := same_tup s40
    replace hF := hF.mono t40
    replace hG := hG.mono t40
    replace r4_4 := r4_4.mono t40
    replace pp1 := pp1.mono t40
    replace pp2 := pp2.mono t40
    replace r4_17 := r4_17.mono t40
    replace pp3 := pp3.mono t40
    replace r4_22 := r4_22.mono t40
    replace pp4 := pp4.mono t40
    replace r4_27 := r4_27.mono t40
    replace pp5 := pp5.mono t40
    replace pp6 := pp6.mono t40
    replace r4_37 := r4_37.mono t40
    replace r4_39 := r4_39.mono t40
    replace pp7 := pp7.mono t40
    replace pp8 := pp8.mono t40
    replace r4_49 := r4_49.mono t40
    replace r4_51 := r4_51.mono t40
    replace pp9 := pp9.mono t40
    replace f8 := s40 _ _ f8
    replace S := S.trans s40
    clear ha4_55
    have r4_56 : FRep (.bel F F G F) H40 (.ref a4_55) := ⟨a4_55, u, u, v, u, rfl, f40, hF, hF, hG, hF⟩
    clear f40
    walk_at "lw go"
    refine ⟨by show 2 ≤ sizeLine; decide, fun p4_57 hp4_57 => ?_⟩
    obtain ⟨H41, e41⟩ : ∃ H41, upd H40 p4_57 (.tup [.ref a4_55, u]) = H41 := ⟨_, rfl⟩
    have s41 : Same H40 H41 := e41 ▸ same_new hp4_57
    have f41 : H41 p4_57 = some (.tup [.ref a4_55, u]) := e41 ▸ upd_same
    rw [e41]
    clear e41
    have t41 := same_tup s41
    replace hF := hF.mono t41
    replace hG := hG.mono t41
    replace r4_4 := r4_4.mono t41
    replace pp1 := pp1.mono t41
    replace pp2 := pp2.mono t41
    replace r4_17 := r4_17.mono t41
    replace pp3 := pp3.mono t41
    replace r4_22 := r4_22.mono t41
    replace pp4 := pp4.mono t41
    replace r4_27 := r4_27.mono t41
    replace pp5 := pp5.mono t41
    replace pp6 := pp6.mono t41
    replace r4_37 := r4_37.mono t41
    replace r4_39 := r4_39.mono t41
    replace pp7 := pp7.mono t41
    replace pp8 := pp8.mono t41
    replace r4_49 := r4_49.mono t41
    replace r4_51 := r4_51.mono t41
    replace pp9 := pp9.mono t41
    replace r4_56 := r4_56.mono t41
    replace f8 := s41 _ _ f8
    replace S := S.trans s41
    clear hp4_57
    have pp10 : PairV g H41 (.ref p4_57) := ⟨p4_57, .ref a4_55, u, (.bel F F G F), F, rfl, f41, r4_56, hF, gd_bel2 iF sG, gF, fun x z => v_bel2 _ _⟩
    clear f41
    walk_at "lw go"
    clear r4_56
    have t42 := tup_putL (o := .lst ([.ref p4_7, .ref p4_12, .ref p4_20, .ref p4_25, .ref p4_32, .ref p4_35, .ref p4_42, .ref p4_47, .ref p4_54] ++ [.ref p4_57])) f8
    refine g_append f8 (by simp only [List.length_cons, List.length_nil]; exact small1000 (by decide)) ?_
    obtain ⟨H42, e42⟩ : ∃ H42, upd H41 l4_13 (.lst ([.ref p4_7, .ref p4_12, .ref p4_20, .ref p4_25, .ref p4_32, .ref p4_35, .ref p4_42, .ref p4_47, .ref p4_54] ++ [.ref p4_57])) = H42 := ⟨_, rfl⟩
    replace f8 : H42 l4_13 = some (.lst ([.ref p4_7, .ref p4_12, .ref p4_20, .ref p4_25, .ref p4_32, .ref p4_35, .ref p4_42, .ref p4_47, .ref p4_54] ++ [.ref p4_57])) := e42 ▸ upd_same
    replace f8 : H42 l4_13 = some (.lst [.ref p4_7, .ref p4_12, .ref p4_20, .ref p4_25, .ref p4_32, .ref p4_35, .ref p4_42, .ref p4_47, .ref p4_54, .ref p4_57]) := f8
    rw [e42] at t42 ⊢
    replace hF := hF.mono t42
    replace hG := hG.mono t42
    replace r4_4 := r4_4.mono t42
    replace pp1 := pp1.mono t42
    replace pp2 := pp2.mono t42
    replace r4_17 := r4_17.mono t42
    replace pp3 := pp3.mono t42
    replace r4_22 := r4_22.mono t42
    replace pp4 := pp4.mono t42
    replace r4_27 := r4_27.mono t42
    replace pp5 := pp5.mono t42
    replace pp6 := pp6.mono t42
    replace r4_37 := r4_37.mono t42
    replace r4_39 := r4_39.mono t42
    replace pp7 := pp7.mono t42
    replace pp8 := pp8.mono t42
    replace r4_49 := r4_49.mono t42
    replace r4_51 := r4_51.mono t42
    replace pp9 := pp9.mono t42
    replace pp10 := pp10.mono t42
    replace S : Same H H42 := e42 ▸ same_put S zl
    clear e42
    walk_at "lw go"
    refine ⟨tyL f8, ?_⟩
    walk_at "lw go"
    refine ⟨by show 4 ≤ sizeLine; decide, fun a4_58 ha4_58 => ?_⟩
    obtain ⟨H43, e43⟩ : ∃ H43, upd H42 a4_58 (.tup [.str "shift", .int 1, .int 1, .ref a4_3]) = H43 := ⟨_, rfl⟩
    have s43 : Same H42 H43 := e43 ▸ same_new ha4_58
    have f43 : H43 a4_58 = some (.tup [.str "shift", .int 1, .int 1, .ref a4_3]) := e43 ▸ upd_same
    rw [e43]
    clear e43
    have t43 := same_tup s43
    replace hF := hF.mono t43
    replace hG := hG.mono t43
    replace r4_4 := r4_4.mono t43
    replace pp1 := pp1.mono t43
    replace pp2 := pp2.mono t43
    replace r4_17 := r4_17.mono t43
    replace pp3 := pp3.mono t43
    replace r4_22 := r4_22.mono t43
    replace pp4 := pp4.mono t43
    replace r4_27 := r4_27.mono t43
    replace pp5 := pp5.mono t43
    replace pp6 := pp6.mono t43
    replace r4_37 := r4_37.mono t43
    replace r4_39 := r4_39.mono t43
    replace pp7 := pp7.mono t43
    replace pp8 := pp8.mono t43
    replace r4_49 := r4_49.mono t43
    replace r4_51 := r4_51.mono t43
    replace pp9 := pp9.mono t43
    replace pp10 := pp10.mono t43
    replace f8 := s43 _ _ f8
    replace S := S.trans s43
    clear ha4_58
    have r4_59 : FRep (.shift (1) (1) (.two .plus F G)) H43 (.ref a4_58) := ⟨a4_58, .ref a4_3, rfl, f43, r4_4⟩
    clear f43
    walk_at "lw go"
    refine ⟨by show 4 ≤ sizeLine; decide, fun a4_60 ha4_60 => ?_⟩
    obtain ⟨H44, e44⟩ : ∃ H44, upd H43 a4_60 (.tup [.str "shift", .int 1, .int 1, u]) = H44 := ⟨_, rfl⟩
    have s44 : Same H43 H44 := e44 ▸ same_new ha4_60
    have f44 : H44 a4_60 = some (.tup [.str "shift", .int 1, .int 1, u]) := e44 ▸ upd_same
    rw [e44]
    clear e44
    have t44 := same_tup s44
    replace hF := hF.mono t44
    replace hG := hG.mono t44
    replace r4_4 := r4_4.mono t44
    replace pp1 := pp1.mono t44
    replace pp2 := pp2.mono t44
    replace r4_17 := r4_17.mono t44
    replace pp3 := pp3.mono t44
    replace r4_22 := r4_22.mono t44
    replace pp4 := pp4.mono t44
    replace r4_27 := r4_27.mono t44
    replace pp5 := pp5.mono t44
    replace pp6 := pp6.mono t44
    replace r4_37 := r4_37.mono t44
    replace r4_39 := r4_39.mono t44
    replace pp7 := pp7.mono t44
    replace pp8 := pp8.mono t44
    replace r4_49 := r4_49.mono t44
    replace r4_51 := r4_51.mono t44
    replace pp9 := pp9.mono t44
    replace pp10 := pp10.mono t44
    replace r4_59 := r4_59.mono t44
    replace f8 := s44 _ _ f8
    replace S := S.trans s44
    clear ha4_60
    have r4_61 : FRep (.shift (1) (1) F) H44 (.ref a4_60) := ⟨a4_60, u, rfl, f44, hF⟩
    clear f44
    walk_at "lw go"
    refine ⟨by show 4 ≤ sizeLine; decide, fun a4_62 ha4_62 => ?_⟩
    obtain ⟨H45, e45⟩ : ∃ H45, upd H44 a4_62 (.tup [.str "shift", .int 1, .int 1, v]) = H45 := ⟨_, rfl⟩
    have s45 : Same H44 H45 := e45 ▸ same_new ha4_62
    have f45 : H45 a4_62 = some (.tup [.str "shift", .int 1, .int 1, v]) := e45 ▸ upd_same
    rw [e45]
    clear e45
    have t45 := same_tup s45
    replace hF := hF.mono t45
    replace hG := hG.mono t45
    replace r4_4 := r4_4.mono t45
    replace pp1 := pp1.mono t45
    replace pp2 := pp2.mono t45
    replace r4_17 := r4_17.mono t45
    replace pp3 := pp3.mono t45
    replace r4_22 := r4_22.mono t45
    replace pp4 := pp4.mono t45
    replace r4_27 := r4_27.mono t45
    replace pp5 := pp5.mono t45
    replace pp6 := pp6.mono t45
    replace r4_37 := r4_37.mono t45
    replace r4_39 := r4_39.mono t45
    replace pp7 := pp7.mono t45
    replace pp8 := pp8.mono t45
    replace r4_49 := r4_49.mono t45
    replace r4_51 := r4_51.mono t45
    replace pp9 := pp9.mono t45
    replace pp10 := pp10.mono t45
    replace r4_59 := r4_59.mono t45
    replace r4_61 := r4_61.mono t45
    replace f8 := s45 _ _ f8
    replace S := S.trans s45
    clear ha4_62
    have r4_63 : FRep (.shift (1) (1) G) H45 (.ref a4_62) := ⟨a4_62, v, rfl, f45, hG⟩
    clear f45
    walk_at "lw go"
    refine ⟨by show 3 ≤ sizeLine; decide, fun a4_64 ha4_64 => ?_⟩
    obtain ⟨H46, e46⟩ : ∃ H46, upd H45 a4_64 (.tup [.str "plus", .ref a4_60, .ref a4_62]) = H46 := ⟨_, rfl⟩
    have s46 : Same H45 H46 := e46 ▸ same_new ha4_64
    have f46 : H46 a4_64 = some (.tup [.str "plus", .ref a4_60, .ref a4_62]) := e46 ▸ upd_same
    rw [e46]
    clear e46
    have t46 := same_tup s46
    replace hF := hF.mono t46
    replace hG := hG.mono t46
    replace r4_4 := r4_4.mono t46
    replace pp1 := pp1.mono t46
    replace pp2 := pp2.mono t46
    replace r4_17 := r4_17.mono t46
    replace pp3 := pp3.mono t46
    replace r4_22 := r4_22.mono t46
    replace pp4 := pp4.mono t46
    replace r4_27 := r4_27.mono t46
    replace pp5 := pp5.mono t46
    replace pp6 := pp6.mono t46
    replace r4_37 := r4_37.mono t46
    replace r4_39 := r4_39.mono t46
    replace pp7 := pp7.mono t46
    replace pp8 := pp8.mono t46
    replace r4_49 := r4_49.mono t46
    replace r4_51 := r4_51.mono t46
    replace pp9 := pp9.mono t46
    replace pp10 := pp10.mono t46
    replace r4_59 := r4_59.mono t46
    replace r4_61 := r4_61.mono t46
    replace r4_63 := r4_63.mono t46
    replace f8 := s46 _ _ f8
    replace S := S.trans s46
    clear ha4_64
    have r4_65 : FRep (.two .plus (.shift (1) (1) F) (.shift (1) (1) G)) H46 (.ref a4_64) := ⟨a4_64, .ref a4_60, .ref a4_62, rfl, f46, r4_61, r4_63⟩
    clear f46
    walk_at "lw go"
    refine ⟨by show 2 ≤ sizeLine; decide, fun p4_66 hp4_66 => ?_⟩
    obtain ⟨H47, e47⟩ : ∃ H47, upd H46 p4_66 (.tup [.ref a4_58, .ref a4_64]) = H47 := ⟨_, rfl⟩
    have s47 : Same H46 H47 := e47 ▸ same_new hp4_66
    have f47 : H47 p4_66 = some (.tup [.ref a4_58, .ref a4_64]) := e47 ▸ upd_same
    rw [e47]
    clear e47
    have t47 := same_tup s47
    replace hF := hF.mono t47
    replace hG := hG.mono t47
    replace r4_4 := r4_4.mono t47
    replace pp1 := pp1.mono t47
    replace pp2 := pp2.mono t47
    replace r4_17 := r4_17.mono t47
    replace pp3 := pp3.mono t47
    replace r4_22 := r4_22.mono t47
    replace pp4 := pp4.mono t47
    replace r4_27 := r4_27.mono t47
    replace pp5 := pp5.mono t47
    replace pp6 := pp6.mono t47
    replace r4_37 := r4_37.mono t47
    replace r4_39 := r4_39.mono t47
    replace pp7 := pp7.mono t47
    replace pp8 := pp8.mono t47
    replace r4_49 := r4_49.mono t47
    replace r4_51 := r4_51.mono t47
    replace pp9 := pp9.mono t47
    replace pp10 := pp10.mono t47
    replace r4_59 := r4_59.mono t47
    replace r4_61 := r4_61.mono t47
    replace r4_63 := r4_63.mono t47
    replace r4_65 := r4_65.mono t47
    replace f8 := s47 _ _ f8
    replace S := S.trans s47
    clear hp4_66
    have pp11 : PairV g H47 (.ref p4_66) := ⟨p4_66, .ref a4_58, .ref a4_64, (.shift (1) (1) (.two .plus F G)), (.two .plus (.shift (1) (1) F) (.shift (1) (1) G)), rfl, f47, r4_59, r4_65, gd_shb iF sG, gd_shs iF sG, fun x z => rfl⟩
    clear f47
    walk_at "lw go"
    clear r4_59
    clear r4_65
    clear r4_4
    have t48 := tup_putL (o := .lst ([.ref p4_7, .ref p4_12, .ref p4_20, .ref p4_25, .ref p4_32, .ref p4_35, .ref p4_42, .ref p4_47, .ref p4_54, .ref p4_57] ++ [.ref p4_66])) f8
    refine g_append f8 (by simp only [List.length_cons, List.length_nil]; exact small1000 (by decide)) ?_
    obtain ⟨H48, e48⟩ : ∃ H48, upd H47 l4_13 (.lst ([.ref p4_7, .ref p4_12, .ref p4_20, .ref p4_25, .ref p4_32, .ref p4_35, .ref p4_42, .ref p4_47, .ref p4_54, .ref p4_57] ++ [.ref p4_66])) = H48 := ⟨_, rfl⟩
    replace f8 : H48 l4_13 = some (.lst ([.ref p4_7, .ref p4_12, .ref p4_20, .ref p4_25, .ref p4_32, .ref p4_35, .ref p4_42, .ref p4_47, .ref p4_54, .ref p4_57] ++ [.ref p4_66])) := e48 ▸ upd_same
    replace f8 : H48 l4_13 = some (.lst [.ref p4_7, .ref p4_12, .ref p4_20, .ref p4_25, .ref p4_32, .ref p4_35, .ref p4_42, .ref p4_47, .ref p4_54, .ref p4_57, .ref p4_66]) := f8
    rw [e48] at t48 ⊢
    replace hF := hF.mono t48
    replace hG := hG.mono t48
    replace pp1 := pp1.mono t48
    replace pp2 := pp2.mono t48
    replace r4_17 := r4_17.mono t48
    replace pp3 := pp3.mono t48
    replace r4_22 := r4_22.mono t48
    replace pp4 := pp4.mono t48
    replace r4_27 := r4_27.mono t48
    replace pp5 := pp5.mono t48
    replace pp6 := pp6.mono t48
    replace r4_37 := r4_37.mono t48
    replace r4_39 := r4_39.mono t48
    replace pp7 := pp7.mono t48
    replace pp8 := pp8.mono t48
    replace r4_49 := r4_49.mono t48
    replace r4_51 := r4_51.mono t48
    replace pp9 := pp9.mono t48
    replace pp10 := pp10.mono t48
    replace r4_61 := r4_61.mono t48
    replace r4_63 := r4_63.mono t48
    replace pp11 := pp11.mono t48
    replace S : Same H H48 := e48 ▸ same_put S zl
    clear e48
    walk_at "lw go"
    have hps : ∀ y ∈ ([.ref p4_7, .ref p4_12, .ref p4_20, .ref p4_25, .ref p4_32, .ref p4_35, .ref p4_42, .ref p4_47, .ref p4_54, .ref p4_57, .ref p4_66] : List V), PairV g H48 y := fun y hy => by
      simp only [List.mem_cons, List.not_mem_nil, or_false] at hy
      rcases hy with rfl | rfl | rfl | rfl | rfl | rfl | rfl | rfl | rfl | rfl | rfl
      · exact pp1
      · exact pp2
      · exact pp3
      · exact pp4
      · exact pp5
      · exact pp6
      · exact pp7
      · exact pp8
      · exact pp9
      · exact pp10
      · exact pp11
    clear pp1 pp2 pp3 pp4 pp5 pp6 pp7 pp8 pp9 pp10 pp11
    have hsp1 : H48 sp = some (.lst ws) := S _ _ hsp
    have hws1 : SpotsOk H48 ws := hws.mono (same_tup S)
    refine ⟨l4_13, rfl, ⟨_, SqL.of f8⟩, fun D hD => ?_⟩
    have hDH : H D = none := none_of_same S hD
    refine lc_list (xs := [.ref p4_7, .ref p4_12, .ref p4_20, .ref p4_25, .ref p4_32, .ref p4_35, .ref p4_42, .ref p4_47, .ref p4_54, .ref p4_57, .ref p4_66]) (fun k H' => Same H48 H' ∧ H' D = some (.lst [])) ⟨same_new hD, upd_same⟩ (fun k H' _ ⟨s, _⟩ => SqL.of (s _ _ f8)) ?_ ?_
    · rintro k y H' hk ⟨s, hD'⟩
      obtain ⟨t, va, vb, A1, B1, rfl, ht, ra, rb1, ga, gb, hv⟩ := hps y (List.mem_of_getElem? hk)
      walk_at "lw go"
      refine ⟨rfl, ?_⟩
      walk_at "lw go"
      refine g_ixT (SqT.of (s _ _ ht)) (v := va) (atI_nat (j := 0) (by rfl)) ?_
      walk_at "lw go"
      refine g_ixT (SqT.of (s _ _ ht)) (v := vb) (atI_nat (j := 1) (by rfl)) ?_
      walk_at "lw go"
      refine ⟨va, vb, A1, B1, g, sp, ws, rfl, ra.mono (same_tup s), rb1.mono (same_tup s), ga, gb, hv, s _ _ hsp1, hws1.mono (same_tup s), fun H2 s2 => ?_⟩
      walk_at "lw go"
      exact ⟨s.trans s2, s2 _ _ hD'⟩
    rintro H' ⟨s, hD'⟩
    walk_at "lw go"
    refine ⟨by show 0 ≤ sizeLine; decide, fun e he => ?_⟩
    have s5 := same_new (o := .lst []) he
    refine eq_same (d := .list []) (by decide +kernel) (.lst (SqL.of (s5 _ _ hD')) .nil) (.lst (SqL.of upd_same) .nil) ?_
    exact q _ ((S.trans s).trans s5)
abbrev N_law_steps_right : List Str := ["_law_one", "_law_grain_here", "_law_spots", "_law_x_here", "_law_z_here"]
theorem sc_law_steps_right : FnScope N_law_steps_right ["_law_one", "_law_grain_here", "_law_spots"] (defScope s_law_steps_right) := ⟨rfl, rfl, rfl, by decide +kernel, rfl, by decide +kernel, by decide +kernel⟩
theorem ok_law_steps_right (F : FnP K "_law_steps_right" s_law_steps_right f fd) (T : Bi mg) (G : Kn K mg) (D_steps_of : Df P w K mg base "steps_of" ["rules"] 62 spSteps) (D_run_steps : Df P w K mg base "run_steps" ["some", "seed", "x", "z"] 4 (spRunS K)) (D_value_at : Df P w K mg base "value_at" ["rules", "seed", "x", "z"] 63 spVal) : FnOk P w K mg base CX0 64 f fd ["_law_one", "_law_grain_here", "_law_spots"] spStepsR := by
  refine F.ok sc_law_steps_right (fun vs H Q E h => ?_) (fun cdv A outer s H vs Q E hr h => ⟨_, PSs.nox
(pss_cons (ps_if (pt_cmpR op_ne (pe_callB call_len_seq (by rfl) T.len (by decide +kernel) (pa_cons (pe_df D_steps_of (hr.mono (by first | decide | omega)) (pa_cons (pe_tup (pa_cons pe_str (pa_cons (pv 0) (pa_cons (pv 0) pa_nil)))) pa_nil)) pa_nil)) (pe_op op_add (pe_callB call_len_seq (by rfl) T.len (by decide +kernel) (pa_cons (pe_df D_steps_of (hr.mono (by first | decide | omega)) (pa_cons (pv 0) pa_nil)) pa_nil)) pe_int) (nomark _))
  (pss_one (ps_ret pe_bl))
  pss_nil)
  (pss_cons (ps_for PassesOwn.never rfl (pi_list (pv 2)) (pg_tup (by rfl) (pgs_cons (pg_name (i := 3) sc_law_steps_right.nd rfl (Or.inl rfl)) (pgs_cons (pg_name (i := 4) sc_law_steps_right.nd rfl (Or.inl rfl)) pgs_nil)))
  (pss_one (ps_if (pt_cmpR op_ne (pe_df D_run_steps (hr.mono (by first | decide | omega)) (pa_cons (pe_df D_steps_of (hr.mono (by first | decide | omega)) (pa_cons (pv 0) pa_nil)) (pa_cons (pv 1) (pa_cons (pv 3) (pa_cons (pv 4) pa_nil))))) (pe_df D_value_at (hr.mono (by first | decide | omega)) (pa_cons (pv 0) (pa_cons (pv 1) (pa_cons (pv 3) (pa_cons (pv 4) pa_nil))))) (nomark _))
  (pss_one (ps_ret pe_bl))
  pss_nil)))
  (pss_one (ps_ret (pe_cmpR (op_eqD hr.units) (pe_df D_steps_of (hr.mono (by first | decide | omega)) (pa_cons (pe_tup (pa_cons pe_str (pa_cons pe_str (pa_cons (pv 0) (pa_cons (pe_tup (pa_cons pe_str (pa_cons pe_str pa_nil))) pa_nil))))) pa_nil)) (pe_df D_steps_of (hr.mono (by first | decide | omega)) (pa_cons (pv 0) pa_nil)) (nomark _)))))), ?_⟩)
  · obtain ⟨u, F, g, sp, ws, rfl, _⟩ := h
    rfl
  · obtain ⟨u, F, g, sp, ws, rfl, hF, iF, hsp, hws, q⟩ := h
    walk_at "lw i0"
    have gF := good_of iF
    have na : NameOk "a" := names4.1
    walk_at "lw go"
    refine ⟨by show 3 ≤ sizeLine; decide, fun t1 ht1 => ?_⟩
    have s1 := same_new (o := .tup [.str "plus", u, u]) ht1
    walk_at "lw go"
    refine ⟨.ref t1, .two .plus F F, rfl, ⟨t1, u, u, rfl, upd_same, hF.mono (same_tup s1), hF.mono (same_tup s1)⟩, gd_twice iF, fun l1 H1 w1 _ s2 h1 hS1 => ?_⟩
    have s12 := s1.trans s2
    walk_at "lw go"
    refine ⟨_, _, rfl, .inl (SqL.of h1), ?_⟩
    walk_at "lw go"
    refine ⟨u, F, rfl, hF.mono (same_tup s12), gF, fun l2 H2 w2 _ s3 h2 hS2 => ?_⟩
    have s13 := s12.trans s3
    walk_at "lw go"
    refine ⟨_, _, rfl, .inl (SqL.of h2), ?_⟩
    walk_at "lw go"
    have e1 : w1.length = w2.length + 1 := by
      rw [Paired.length hS1, Paired.length hS2]
      exact steps_twice (expand F [])
    refine iteNS (by rw [e1]; rfl) ?_
    walk_at "lw go"
    refine ⟨sp, rfl, ⟨_, SqL.of (s13 _ _ hsp)⟩, for_list (xs := ws) (fun _ σ H' => ∃ (o3 o4 : Option V), σ = [some u, some (.int g), some (.ref sp), o3, o4] ∧ Same H H')
      ⟨_, _, rfl, s13⟩ (fun _ σ H' _ ⟨_, _, _, s⟩ => SqL.of (s _ _ hsp)) ?_ ?_⟩
    · rintro j y σ H3 hj ⟨o3, o4, rfl, s4⟩
      obtain ⟨t, x, z, rfl, ht, x0, x1, z0, z1⟩ := hws y (List.mem_of_getElem? hj)
      have hV := stV gF (g := g) (small_pt x0 x1) (small_pt z0 z1)
      walk_at "lw go"
      refine g_tupT (SqT.of (s4 _ _ ht)) rfl ?_
      walk_at "lw go"
      refine ⟨u, F, rfl, hF.mono (same_tup s4), gF, fun l3 H4 w3 _ s5 h3 hS3 => ?_⟩
      walk_at "lw go"
      refine ⟨l3, w3, _, g, x, z, rfl, SqL.of h3, hS3, hV.ok, hV.oks, hV.szd, hV.ne, hV.len, fun H5 s6 => ?_⟩
      rw [hV.val]
      walk_at "lw go"
      refine ⟨u, F, g, x, z, rfl, hF.mono (same_tup ((s4.trans s5).trans s6)), gF, x0, x1, z0, z1, fun H6 s7 => ?_⟩
      walk_at "lw go"
      refine iteNS rfl ?_
      walk_at "lw go"
      exact ⟨_, _, rfl, ((s4.trans s5).trans s6).trans s7⟩
    · rintro σ H3 ⟨o3, o4, rfl, s4⟩
      walk_at "lw go"
      refine ⟨by show 2 ≤ sizeLine; decide, fun t5 ht5 => ?_⟩
      have s5 := same_new (o := .tup [.str "name", .str "a"]) ht5
      walk_at "lw go"
      refine ⟨by show 4 ≤ sizeLine; decide, fun t6 ht6 => ?_⟩
      have s6 := same_new (o := .tup [.str "let", .str "a", u, .ref t5]) ht6
      have s46 := (s4.trans s5).trans s6
      walk_at "lw go"
      refine ⟨.ref t6, .lt "a" F (.nm "a"), rfl, ⟨t6, u, .ref t5, rfl, upd_same, hF.mono (same_tup s46), t5, rfl, s6 _ _ upd_same⟩, gd_let iF na, fun l7 H7 w7 _ s7 h7 hS7 => ?_⟩
      rw [ex_let] at hS7
      have s47 := s46.trans s7
      walk_at "lw go"
      refine ⟨u, F, rfl, hF.mono (same_tup s47), gF, fun l8 H8 w8 _ s8 h8 hS8 => ?_⟩
      refine eq_same (d := .list ((stepsE (expand F [])).map stepD)) (shaped_steps _) (.lst (SqL.of (s8 _ _ h7)) (dp_steps (hS7.mono (same_tup s8)))) (.lst (SqL.of h8) (dp_steps hS8)) ?_
      exact q _ (s47.trans s8)
abbrev N_law_down_right : List Str := ["_law_purse_here", "_law_one", "_law_grain_here", "_law_area_here", "_law_here", "_law_ahead", "_law_left", "_law_low", "_law_right", "_law_high", "_law_x", "_law_z", "_law_smaller", "_law_found"]
theorem sc_law_down_right : FnScope N_law_down_right ["_law_purse_here", "_law_one", "_law_grain_here", "_law_area_here"] (defScope s_law_down_right) := ⟨rfl, rfl, rfl, by decide +kernel, rfl, by decide +kernel, by decide +kernel⟩
theorem ok_law_down_right (F : FnP K "_law_down_right" s_law_down_right f fd) (T : Bi mg) (G : Kn K mg) (D_bounds_of : Df P w K mg base "bounds_of" ["rules", "seed", "box"] 63 spBnds) (D_law_draw : Df P w K mg base "_law_draw" ["_law_purse_here", "_law_out_of"] 2 spDraw) (D_value_at : Df P w K mg base "value_at" ["rules", "seed", "x", "z"] 63 spVal) : FnOk P w K mg base CX0 64 f fd ["_law_purse_here", "_law_one", "_law_grain_here", "_law_area_here"] spDown := by
  refine F.ok sc_law_down_right (fun vs H Q E h => ?_) (fun cdv A outer s H vs Q E hr h => ⟨_, PSs.nox
(pss_cons (ps_set (i := 4) sc_law_down_right.nd rfl (Or.inl rfl) (pv 3))
  (pss_cons (ps_set (i := 5) sc_law_down_right.nd rfl (Or.inl rfl) (pe_df D_bounds_of (hr.mono (by first | decide | omega)) (pa_cons (pv 1) (pa_cons (pv 2) (pa_cons (pv 4) pa_nil)))))
  (pss_cons (ps_while PassesOwn.never (pt_cmpR (op_neD hr.units) (pe_slice sl_tup (pv 4) po_none (po_some pe_int)) (pe_slice sl_tup (pv 4) (po_some pe_int) po_none) (nomark _))
  (pss_cons (ps_asg (pv 4) (pg_tup (by rfl) (pgs_cons (pg_name (i := 6) sc_law_down_right.nd rfl (Or.inl rfl)) (pgs_cons (pg_name (i := 7) sc_law_down_right.nd rfl (Or.inl rfl)) (pgs_cons (pg_name (i := 8) sc_law_down_right.nd rfl (Or.inl rfl)) (pgs_cons (pg_name (i := 9) sc_law_down_right.nd rfl (Or.inl rfl)) pgs_nil))))))
  (pss_cons (ps_set (i := 10) sc_law_down_right.nd rfl (Or.inl rfl) (pe_op op_fdiv (pe_op op_add (pv 6) (pv 8)) pe_int))
  (pss_cons (ps_set (i := 11) sc_law_down_right.nd rfl (Or.inl rfl) (pe_op op_fdiv (pe_op op_add (pv 7) (pv 9)) pe_int))
  (pss_cons (ps_set (i := 12) sc_law_down_right.nd rfl (Or.inl rfl) (pe_lst (pa_cons (pe_tup (pa_cons (pv 6) (pa_cons (pv 7) (pa_cons (pv 10) (pa_cons (pv 11) pa_nil))))) (pa_cons (pe_tup (pa_cons (pe_callB (call_min2 rfl) (by rfl) T.min (by decide +kernel) (pa_cons (pe_op op_add (pv 10) pe_int) (pa_cons (pv 8) pa_nil))) (pa_cons (pe_callB (call_min2 rfl) (by rfl) T.min (by decide +kernel) (pa_cons (pe_op op_add (pv 11) pe_int) (pa_cons (pv 9) pa_nil))) (pa_cons (pv 8) (pa_cons (pv 9) pa_nil))))) (pa_cons (pe_tup (pa_cons (pv 6) (pa_cons (pv 7) (pa_cons (pv 10) (pa_cons (pv 9) pa_nil))))) pa_nil)))))
  (pss_cons (ps_set (i := 4) sc_law_down_right.nd rfl (Or.inl rfl) (pe_ix ix_list (pv 12) (pe_df D_law_draw (hr.mono (by first | decide | omega)) (pa_cons (pv 0) (pa_cons pe_int pa_nil))) (fun _ _ => rfl)))
  (pss_cons (ps_if (PW.pt (pw_and (pt_cmpR (op_eqD hr.units) (pe_ix ix_list (pv 12) pe_int (fun _ _ => rfl)) (pe_tup (pa_cons (pv 6) (pa_cons (pv 7) (pa_cons (pv 8) (pa_cons (pv 9) pa_nil))))) (nomark _)) (pw_and1 (pt_cmpR (op_eqD hr.units) (pv 4) (pe_ix ix_list (pv 12) pe_int (fun _ _ => rfl)) (nomark _)))))
  (pss_one (ps_set (i := 4) sc_law_down_right.nd rfl (Or.inl rfl) (pe_ix ix_list (pv 12) pe_int (fun _ _ => rfl))))
  pss_nil)
  (pss_cons (ps_set (i := 13) sc_law_down_right.nd rfl (Or.inl rfl) (pe_df D_bounds_of (hr.mono (by first | decide | omega)) (pa_cons (pv 1) (pa_cons (pv 2) (pa_cons (pv 4) pa_nil)))))
  (pss_cons (ps_if (pt_not (Ch.pt_chain3 op_le op_le op_le (pe_ix ix_tup (pv 5) pe_int (fun _ _ => rfl)) (pe_ix ix_tup (pv 13) pe_int (fun _ _ => rfl)) (pe_ix ix_tup (pv 13) pe_int (fun _ _ => rfl)) (pe_ix ix_tup (pv 5) pe_int (fun _ _ => rfl))))
  (pss_one (ps_ret pe_bl))
  pss_nil)
  (pss_one (ps_set (i := 5) sc_law_down_right.nd rfl (Or.inl rfl) (pv 13))))))))))))
  (pss_one (ps_ret (pe_cmpR (op_eqD hr.units) (pv 5) (pe_op op_repT (pe_tup (pa_cons (pe_df D_value_at (hr.mono (by first | decide | omega)) (pa_cons (pv 1) (pa_cons (pv 2) (pa_cons (pe_ix ix_tup (pv 4) pe_int (fun _ _ => rfl)) (pa_cons (pe_ix ix_tup (pv 4) pe_int (fun _ _ => rfl)) pa_nil))))) pa_nil)) pe_int) (nomark _))))))), ?_⟩)
  · obtain ⟨p, u, F, g, x0, z0, x1, z1, m, b, o, rfl, _⟩ := h
    rfl
  · obtain ⟨p, u, F, g, x0, z0, x1, z1, m, b, o, rfl, hp, hP, hm, hF, hG, hb, ob, q⟩ := h
    walk_at "lw i0"
    have okE : OkE (expand F []) := ok_expand F [] hG.ok okR_nil
    walk_at "lw go"
    refine ⟨u, F, g, x0, z0, x1, z1, b, rfl, hF, hG, hb, ob, fun t H1 s1 ht => ?_⟩
    walk_at "lw go"
    refine ⟨fun k σ H' => ∃ (hb2 ab : Addr) (a0 b0 a1 b1 : Int) (o' : HO) (o6 o7 o8 o9 o10 o11 o12 o13 : Option V), σ = [some (.ref p), some u, some (.int g), some (.ref b), some (.ref hb2), some (.ref ab), o6, o7, o8, o9, o10, o11, o12, o13] ∧ Keep p H H' ∧ H' p = some o' ∧ Purse (m + 20000000 - 4 * k) o' ∧
      Bx H' hb2 a0 b0 a1 b1 ∧ onBox a0 b0 a1 b1 ∧ Pr H' ab (rangeG (exactN g) (expand F []) a0 b0 a1 b1) ∧ k = msr a0 b0 a1 b1,
      ⟨_, b, t, x0, z0, x1, z1, o, _, _, _, _, _, _, _, _, rfl, Keep.of_same s1, s1 _ _ hp, hP.mono (by unfold msr; have := ob.1; have := ob.2; omega), s1 _ _ hb, ob, ht, rfl⟩, ?_⟩
    rintro k σ H2 ⟨hb2, ab, a0, b0, a1, b1, o2, o6, o7, o8, o9, o10, o11, o12, o13, rfl, k2, hp2, hP2, hbx, ob2, hab, rfl⟩
    have t2 := purse_tup k2 hp hP
    have hF2 := hF.mono t2
    obtain ⟨⟨i1, i2, i3⟩, j1, j2, j3⟩ := id ob2
    walk_at "lw go"
    refine g_slT (SqT.of hbx) cut2a_ok fun t3 ht3 => ?_
    rw [cut2a]
    obtain ⟨H3, e3⟩ : ∃ H3, upd H2 t3 (.tup [.int a0, .int b0]) = H3 := ⟨_, rfl⟩
    have s3 : Same H2 H3 := e3 ▸ same_new ht3
    have f3 : H3 t3 = some (.tup [.int a0, .int b0]) := e3 ▸ upd_same
    rw [e3]
    clear e3
    walk_at "lw go"
    refine g_slT (SqT.of (s3 _ _ hbx)) cut2b_ok fun t4 ht4 => ?_
    rw [cut2b]
    obtain ⟨H4, e4⟩ : ∃ H4, upd H3 t4 (.tup [.int a1, .int b1]) = H4 := ⟨_, rfl⟩
    have s4 : Same H3 H4 := e4 ▸ same_new ht4
    have f4 : H4 t4 = some (.tup [.int a1, .int b1]) := e4 ▸ upd_same
    rw [e4]
    clear e4
    refine ⟨pairD (a0, b0), pairD (a1, b1), dp_pair (ab := (a0, b0)) (s4 _ _ f3), dp_pair (ab := (a1, b1)) f4, shaped_pair _, shaped_pair _, ?_⟩
    rw [eqv_pair]
    have s24 := s3.trans s4
    have k4 := k2.trans (Keep.of_same s24)
    have hp4 := s24 _ _ hp2
    have hbx4 := s24 _ _ hbx
    have hab4 := s24 _ _ hab
    have hF4 := hF2.mono (same_tup s24)
    clear s3 s4 f3 f4 hbx hab hF2 s24 hp2 k2 t2
    walk_at "lw go"
    refine g_iteN (fun hne => ?_) (fun he => ?_)
    · refine ⟨_, fun _ _ w => w, ?_⟩
      walk_at "lw go"
      refine g_tupT (SqT.of hbx4) rfl ?_
      walk_at "lw go"
      obtain ⟨X, hX⟩ : ∃ X : Int, (a0 + a1) / 2 = X := ⟨_, rfl⟩
      obtain ⟨Z, hZ⟩ : ∃ Z : Int, (b0 + b1) / 2 = Z := ⟨_, rfl⟩
      rw [hX, hZ]
      have x01 : a0 ≤ X ∧ X ≤ a1 ∧ (a0 < a1 → X < a1) := by omega
      have z01 : b0 ≤ Z ∧ Z ≤ b1 ∧ (b0 < b1 → Z < b1) := by omega
      walk_at "lw go"
      refine ⟨by show 4 ≤ sizeLine; decide, fun t5 ht5 => ?_⟩
      obtain ⟨H5, e5⟩ : ∃ H5, upd H4 t5 (.tup [.int a0, .int b0, .int X, .int Z]) = H5 := ⟨_, rfl⟩
      have s5 : Same H4 H5 := e5 ▸ same_new ht5
      have f5 : H5 t5 = some (.tup [.int a0, .int b0, .int X, .int Z]) := e5 ▸ upd_same
      rw [e5]
      clear e5
      walk_at "lw go"
      refine ⟨_, _, rfl, ?_⟩
      rw [min_if]
      walk_at "lw go"
      refine ⟨_, _, rfl, ?_⟩
      rw [min_if]
      walk_at "lw go"
      refine ⟨by show 4 ≤ sizeLine; decide, fun t6 ht6 => ?_⟩
      obtain ⟨H6, e6⟩ : ∃ H6, upd H5 t6 (.tup [.int (min (X + 1) a1), .int (min (Z + 1) b1), .int a1, .int b1]) = H6 := ⟨_, rfl⟩
      have s6 : Same H5 H6 := e6 ▸ same_new ht6
      have f6 : H6 t6 = some (.tup [.int (min (X + 1) a1), .int (min (Z + 1) b1), .int a1, .int b1]) := e6 ▸ upd_same
      rw [e6]
      clear e6
      walk_at "lw go"
      refine ⟨by show 4 ≤ sizeLine; decide, fun t7 ht7 => ?_⟩
      obtain ⟨H7, e7⟩ : ∃ H7, upd H6 t7 (.tup [.int a0, .int b0, .int X, .int b1]) = H7 := ⟨_, rfl⟩
      have s7 : Same H6 H7 := e7 ▸ same_new ht7
      have f7 : H7 t7 = some (.tup [.int a0, .int b0, .int X, .int b1]) := e7 ▸ upd_same
      rw [e7]
      clear e7
      walk_at "lw go"
      refine ⟨by show 3 ≤ sizeLine; decide, fun l8 hl8 => ?_⟩
      obtain ⟨H8, e8⟩ : ∃ H8, upd H7 l8 (.lst [.ref t5, .ref t6, .ref t7]) = H8 := ⟨_, rfl⟩
      have s8 : Same H7 H8 := e8 ▸ same_new hl8
      have f8 : H8 l8 = some (.lst [.ref t5, .ref t6, .ref t7]) := e8 ▸ upd_same
      rw [e8]
      clear e8
      have s48 := ((s5.trans s6).trans s7).trans s8
      have f5 := s8 _ _ (s7 _ _ (s6 _ _ f5))
      have f6 := s8 _ _ (s7 _ _ f6)
      have f7 := s8 _ _ f7
      have hp8 := s48 _ _ hp4
      have np : l8 ≠ p := (ne_of_none (s7 _ _ (s6 _ _ (s5 _ _ hp4))) hl8).symm
      walk_at "lw go"
      refine ⟨p, 3, _, _, rfl, hp8, hP2, by omega, by decide, by decide, fun d o9 d0 d1 hP9 => ?_⟩
      obtain ⟨H9, e9⟩ : ∃ H9, upd H8 p o9 = H9 := ⟨_, rfl⟩
      have k9 : Keep p H8 H9 := e9 ▸ Keep.refl.put
      have hp9 : H9 p = some o9 := e9 ▸ upd_same
      have t9 : Tup H8 H9 := purse_tup k9 hp8 hP2
      rw [e9]
      clear e9
      have f8 := k9 _ _ np f8
      have f5 := t9 _ _ f5
      have f6 := t9 _ _ f6
      have f7 := t9 _ _ f7
      have k49 := k4.trans ((Keep.of_same s48).trans k9)
      have hab9 := t9 _ _ (s48 _ _ hab4)
      have hF9 := (hF4.mono (same_tup s48)).mono t9
      clear s5 s6 s7 s8 s48 hab4 hF4 hbx4 hp4 k4 hp8 k9 t9
      have pt0 : Part a0 b0 a1 b1 a0 b0 X Z := ⟨⟨⟨by omega, by omega, by omega⟩, by omega, by omega, by omega⟩, by omega, by omega, by omega, by omega⟩
      have ms0 : msr a0 b0 X Z < msr a0 b0 a1 b1 := by unfold msr; omega
      obtain ⟨tk, c0, d0', c1, d1', hat, hbk, ptk, msk⟩ : ∃ (tk : Addr) (c0 d0' c1 d1' : Int), atI [V.ref t5, .ref t6, .ref t7] d = some (.ref tk) ∧ Bx H9 tk c0 d0' c1 d1' ∧ Part a0 b0 a1 b1 c0 d0' c1 d1' ∧ (¬ (X = a1 ∧ (c0 = a0 ∧ d0' = b0 ∧ c1 = X ∧ d1' = b1)) → msr c0 d0' c1 d1' < msr a0 b0 a1 b1) := by
        rcases (show d = 0 ∨ d = 1 ∨ d = 2 by omega) with rfl | rfl | rfl
        · exact ⟨t5, _, _, _, _, atI_nat (j := 0) (by rfl), f5, pt0, fun _ => ms0⟩
        · exact ⟨t6, _, _, _, _, atI_nat (j := 1) (by rfl), f6, ⟨⟨⟨by omega, by omega, by omega⟩, by omega, by omega, by omega⟩, by omega, by omega, by omega, by omega⟩, fun _ => by unfold msr; omega⟩
        · exact ⟨t7, _, _, _, _, atI_nat (j := 2) (by rfl), f7, ⟨⟨⟨by omega, by omega, by omega⟩, by omega, by omega, by omega⟩, by omega, by omega, by omega, by omega⟩, fun h => by unfold msr; omega⟩
      refine g_ixL (SqL.of f8) hat ?_
      walk_at "lw go"
      refine g_ixL (SqL.of f8) (v := .ref t7) (atI_nat (j := 2) (by rfl)) ?_
      walk_at "lw go"
      refine ⟨by show 4 ≤ sizeLine; decide, fun t10 ht10 => ?_⟩
      obtain ⟨H10, e10⟩ : ∃ H10, upd H9 t10 (.tup [.int a0, .int b0, .int a1, .int b1]) = H10 := ⟨_, rfl⟩
      have s10 : Same H9 H10 := e10 ▸ same_new ht10
      have f10 : H10 t10 = some (.tup [.int a0, .int b0, .int a1, .int b1]) := e10 ▸ upd_same
      rw [e10]
      clear e10
      refine ⟨quadD a0 b0 X b1, quadD a0 b0 a1 b1, dp_quad (s10 _ _ f7), dp_quad f10, shaped_quad _ _ _ _, shaped_quad _ _ _ _, ?_⟩
      rw [eqv_quad]
      walk_at "lw go"
      refine g_ite (fun hX1 => ?g1) (fun hX1 => ?g2)
      case' g1 =>
        walk_at "lw go"
        refine g_ixL (SqL.of (s10 _ _ f8)) (v := .ref t7) (atI_nat (j := 2) (by rfl)) ?_
        refine ⟨quadD c0 d0' c1 d1', quadD a0 b0 X b1, dp_quad (s10 _ _ hbk), dp_quad (s10 _ _ f7), shaped_quad _ _ _ _, shaped_quad _ _ _ _, ?_⟩
        rw [eqv_quad]
        walk_at "lw go"
        refine g_ite (fun hE => ?g3) (fun hE => ?g4)
      case' g3 =>
        walk_at "lw go"
        refine g_ixL (SqL.of (s10 _ _ f8)) (v := .ref t5) (atI_nat (j := 0) (by rfl)) ?_
        have hbn := s10 _ _ f5
        have ptn := pt0
        have msn := ms0
      case' g4 =>
        have hbn := s10 _ _ hbk
        have ptn := ptk
        have msn := msk (fun e => hE e.2)
      case' g2 =>
        have hbn := s10 _ _ hbk
        have ptn := ptk
        have msn := msk (fun e => hX1 ⟨rfl, rfl, e.1, rfl⟩)
      all_goals
        walk_at "lw go"
        refine ⟨u, F, g, _, _, _, _, _, rfl, hF9.mono (same_tup s10), hG, hbn, ptn.ob, fun t11 H11 s11 ht11 => ?_⟩
        have hab11 := s11 _ _ (s10 _ _ hab9)
        have ri := Rm.range_in (exact_mono g) (expand F []) _ _ _ _ a0 b0 a1 b1 okE ptn.ob.1.2.1 ptn.ob.2.2.1 ptn.h1 ptn.h2 ptn.h3 ptn.h4
        have ro := Rm.range_ok (exact_mono g) (expand F []) _ _ _ _ okE ptn.ob.1.2.1 ptn.ob.2.2.1
        walk_at "lw go"
        refine Ch.g_chain3 ?_
        walk_at "lw go"
        refine g_ixT (SqT.of hab11) (v := .int (rangeG (exactN g) (expand F []) a0 b0 a1 b1).1) (atI_nat (j := 0) (by rfl)) ?_
        walk_at "lw go"
        refine g_ixT (SqT.of ht11) (atI_nat (j := 0) (by rfl)) ?_
        walk_at "lw go"
        rw [decide_eq_true ri.1]
        walk_at "lw go"
        refine g_ixT (SqT.of ht11) (atI_nat (j := 1) (by rfl)) ?_
        walk_at "lw go"
        rw [decide_eq_true ro]
        walk_at "lw go"
        refine g_ixT (SqT.of hab11) (v := .int (rangeG (exactN g) (expand F []) a0 b0 a1 b1).2) (atI_nat (j := 1) (by rfl)) ?_
        walk_at "lw go"
        rw [decide_eq_true ri.2]
        walk_at "lw go"
        exact ⟨_, msn, _, t11, _, _, _, _, o9, _, _, _, _, _, _, _, _, rfl, k49.trans (Keep.of_same (s10.trans s11)), s11 _ _ (s10 _ _ hp9), hP9.mono (by omega), s11 _ _ hbn, ptn.ob, ht11, rfl⟩
    · obtain ⟨rfl, rfl⟩ := he
      rw [range_point] at hab4
      walk_at "lw go"
      refine g_ixT (SqT.of hbx4) (v := .int a0) (atI_nat (j := 0) (by rfl)) ?_
      walk_at "lw go"
      refine g_ixT (SqT.of hbx4) (v := .int b0) (atI_nat (j := 1) (by rfl)) ?_
      walk_at "lw go"
      refine ⟨u, F, g, a0, b0, rfl, hF4, hG, i1, i3, j1, j3, fun H8 s8 => ?_⟩
      walk_at "lw go"
      refine ⟨by show 1 ≤ sizeLine; decide, fun t9 ht9 => ?_⟩
      have s9 := same_new (o := .tup [.int (valE (expand F []) g a0 b0)]) ht9
      walk_at "lw go"
      refine ⟨t9, 2, _, rfl, rfl, SqT.of upd_same, by simp, by decide, by decide, by simp, fun t10 ht10 => ?_⟩
      have s10 := same_new (o := .tup (List.replicate (Int.toNat 2) [V.int (valE (expand F []) g a0 b0)]).flatten) ht10
      refine eq_same (shaped_pair _) (dp_pair (s10 _ _ (s9 _ _ (s8 _ _ hab4)))) (dp_pair upd_same) ?_
      exact q _ _ (k4.trans (Keep.of_same ((s8.trans s9).trans s10))) (s10 _ _ (s9 _ _ (s8 _ _ hp4))) (hP2.mono (by omega))
abbrev N_law_noise_right : List Str := ["_law_purse_here", "_law_grain_here", "_law_spots", "_law_salted", "_law_fine", "_law_wide", "_law_x_here", "_law_z_here", "_law_found", "_law_corners", "_law_k", "_law_x_there", "_law_z_there"]
theorem sc_law_noise_right : FnScope N_law_noise_right ["_law_purse_here", "_law_grain_here", "_law_spots"] (defScope s_law_noise_right) := ⟨rfl, rfl, rfl, by decide +kernel, rfl, by decide +kernel, by decide +kernel⟩
theorem ok_law_noise_right (F : FnP K "_law_noise_right" s_law_noise_right f fd) (T : Bi mg) (G : Kn K mg) (D_law_draw : Df P w K mg base "_law_draw" ["_law_purse_here", "_law_out_of"] 2 spDraw) (D_value_at : Df P w K mg base "value_at" ["rules", "seed", "x", "z"] 63 spVal) (D_knot : Df P w K mg base "knot" ["seed", "salt", "i", "j"] 1 spKnot) : FnOk P w K mg base CX0 64 f fd ["_law_purse_here", "_law_grain_here", "_law_spots"] spNoiseR := by
  refine F.ok sc_law_noise_right (fun vs H Q E h => ?_) (fun cdv A outer s H vs Q E hr h => ⟨_, PSs.nox
(pss_cons (ps_set (i := 3) sc_law_noise_right.nd rfl (Or.inr rfl) (pe_df D_law_draw (hr.mono (by first | decide | omega)) (pa_cons (pv 0) (pa_cons (pe_op op_pow pe_int pe_int) pa_nil))))
  (pss_cons (ps_set (i := 4) sc_law_noise_right.nd rfl (Or.inl rfl) (pe_df D_law_draw (hr.mono (by first | decide | omega)) (pa_cons (pv 0) (pa_cons pe_int pa_nil))))
  (pss_cons (ps_set (i := 5) sc_law_noise_right.nd rfl (Or.inr rfl) (pe_op op_shl pe_int (pv 4)))
  (pss_cons (ps_for PassesOwn.never rfl (pi_list (pv 2)) (pg_tup (by rfl) (pgs_cons (pg_name (i := 6) sc_law_noise_right.nd rfl (Or.inr rfl)) (pgs_cons (pg_name (i := 7) sc_law_noise_right.nd rfl (Or.inr rfl)) pgs_nil)))
  (pss_cons (ps_set (i := 8) sc_law_noise_right.nd rfl (Or.inl rfl) (pe_df D_value_at (hr.mono (by first | decide | omega)) (pa_cons (pe_tup (pa_cons pe_str (pa_cons (pv 3) (pa_cons (pv 4) pa_nil)))) (pa_cons (pv 1) (pa_cons (pv 6) (pa_cons (pv 7) pa_nil))))))
  (pss_cons (ps_setLc (i := 9) (own := [("_law_k", 10)]) (g := gName 10) (tt := tYes) rfl sc_law_noise_right.nd rfl rfl (sw_true rfl rfl rfl (by decide +kernel)) (pi_range1 (by rfl) T.range (pa_cons pe_int pa_nil)) (blkOk_by (N := N_law_noise_right) (sc := defScope s_law_noise_right) (by decide +kernel)) (fun _ _ _ _ _ => pg_name (i := 10) sc_law_noise_right.nd rfl (Or.inl rfl)) (fun _ _ _ _ _ => pts_nil) (fun _ _ _ _ _ => (pe_df D_knot (hr.mono (by first | decide | omega)) (pa_cons (pv 1) (pa_cons (pv 3) (pa_cons (pe_op op_add (pe_op op_fdiv (pv 6) (pv 5)) (pe_op op_mod (pv 10) pe_int)) (pa_cons (pe_op op_add (pe_op op_fdiv (pv 7) (pv 5)) (pe_op op_fdiv (pv 10) pe_int)) pa_nil)))))))
  (pss_cons (ps_if (pt_not (pt_chain op_le op_le (pe_callB (cr_min rfl) (by rfl) T.min (by decide +kernel) (pa_cons (pv 9) pa_nil)) (pv 8) (pe_callB (cr_max rfl) (by rfl) T.max (by decide +kernel) (pa_cons (pv 9) pa_nil))))
  (pss_one (ps_ret pe_bl))
  pss_nil)
  (pss_cons (ps_set (i := 11) sc_law_noise_right.nd rfl (Or.inl rfl) (pe_op op_mul (pe_op op_fdiv (pv 6) (pv 5)) (pv 5)))
  (pss_cons (ps_set (i := 12) sc_law_noise_right.nd rfl (Or.inl rfl) (pe_op op_mul (pe_op op_fdiv (pv 7) (pv 5)) (pv 5)))
  (pss_one (ps_if (PW.pt (pw_and (pt_cmpR op_le (pe_callB call_abs (by rfl) T.abs (by decide +kernel) (pa_cons (pv 11) pa_nil)) (pe_op op_pow pe_int pe_int) (nomark _)) (pw_and1 (pt_cmpR op_le (pe_callB call_abs (by rfl) T.abs (by decide +kernel) (pa_cons (pv 12) pa_nil)) (pe_op op_pow pe_int pe_int) (nomark _)))))
  (pss_one (ps_if (pt_cmpR op_ne (pe_df D_value_at (hr.mono (by first | decide | omega)) (pa_cons (pe_tup (pa_cons pe_str (pa_cons (pv 3) (pa_cons (pv 4) pa_nil)))) (pa_cons (pv 1) (pa_cons (pv 11) (pa_cons (pv 12) pa_nil))))) (pe_ix ix_list (pv 9) pe_int (fun _ _ => rfl)) (nomark _))
  (pss_one (ps_ret pe_bl))
  pss_nil))
  pss_nil))))))))
  (pss_one (ps_ret pe_bl)))))), ?_⟩)
  · obtain ⟨p, sp, g, m, o, ws, rfl, _⟩ := h
    rfl
  · obtain ⟨p, sp, g, m, o, ws, rfl, hp, hP, hm, hsp, hws, q⟩ := h
    walk_at "lw i0"
    have nsp : sp ≠ p := fun e => by
      subst e
      obtain ⟨a, b, c, eo, _⟩ := hP.ex
      rw [hp, eo] at hsp
      have e2 := HO.lst.inj (Option.some.inj hsp)
      obtain ⟨_, _, _, e3, _⟩ := hws (.int a) (by rw [← e2]; exact List.mem_cons_self)
      cases e3
    have z9 : (10 : Int) ^ Int.toNat 9 = 1000000000 := by decide +kernel
    have z6 : (10 : Int) ^ Int.toNat 6 = 1000000 := by decide +kernel
    walk_at "lw go"
    refine ⟨p, _, _, o, rfl, hp, hP, by omega, by decide +kernel, by decide +kernel, fun s0 o1 s00 s01 hP1 => ?_⟩
    obtain ⟨H1, e1⟩ : ∃ H1, upd H p o1 = H1 := ⟨_, rfl⟩
    have k1 : Keep p H H1 := e1 ▸ Keep.refl.put
    have hp1 : H1 p = some o1 := e1 ▸ upd_same
    have t1 : Tup H H1 := purse_tup k1 hp hP
    rw [e1]
    clear e1
    walk_at "lw go"
    refine ⟨p, 9, _, o1, rfl, hp1, hP1, by omega, by decide, by decide, fun l0 o2 l00 l01 hP2 => ?_⟩
    obtain ⟨H2, e2⟩ : ∃ H2, upd H1 p o2 = H2 := ⟨_, rfl⟩
    have k2 : Keep p H1 H2 := e2 ▸ Keep.refl.put
    have hp2 : H2 p = some o2 := e2 ▸ upd_same
    have t2 : Tup H1 H2 := purse_tup k2 hp1 hP1
    rw [e2]
    clear e2
    have hsp2 := k2 _ _ nsp (k1 _ _ nsp hsp)
    have hws2 := (hws.mono t1).mono t2
    have k02 := k1.trans k2
    have hN : (0 ≤ s0 ∧ s0 ≤ 1000000000) ∧ 0 ≤ l0 ∧ l0 ≤ 8 := ⟨⟨s00, by omega⟩, l00, by omega⟩
    obtain ⟨n, rfl⟩ : ∃ n : Nat, l0 = (n : Int) := ⟨l0.toNat, by omega⟩
    obtain ⟨S, e1, e2, S0, S1, SS0, SS1⟩ := log_pow hN.2.1 hN.2.2
    have hS : (2 : Int) ^ n = S := by rw [← e2, Int.toNat_natCast]
    walk_at "lw go"
    refine g_I ⟨hN.2.1, by omega, by decide⟩ ?_
    rw [e1]
    walk_at "lw go"
    refine ⟨sp, rfl, ⟨_, SqL.of hsp2⟩, for_list (xs := ws) (fun _ σ H' => ∃ (o6 o7 o8 o9 o10 o11 o12 : Option V), σ = [some (.ref p), some (.int g), some (.ref sp), some (.int s0), some (.int n), some (.int S), o6, o7, o8, o9, o10, o11, o12] ∧ Same H2 H')
      ⟨_, _, _, _, _, _, _, rfl, Same.refl _⟩ (fun _ σ H' _ ⟨_, _, _, _, _, _, _, _, s⟩ => SqL.of (s _ _ hsp2)) ?_ ?_⟩
    · rintro j y σ H3 hj ⟨o6, o7, o8, o9, o10, o11, o12, rfl, s3⟩
      obtain ⟨t, x, z, rfl, ht, x0, x1, z0, z1⟩ := hws2 y (List.mem_of_getElem? hj)
      have bx := natAbs_div_le x (show 1 ≤ S by omega)
      have bz := natAbs_div_le z (show 1 ≤ S by omega)
      walk_at "lw go"
      refine g_tupT (SqT.of (s3 _ _ ht)) rfl ?_
      walk_at "lw go"
      refine ⟨by show 3 ≤ sizeLine; decide, fun t4 ht4 => ?_⟩
      have s4 := same_new (o := .tup [.str "noise", .int s0, .int n]) ht4
      walk_at "lw go"
      refine ⟨.ref t4, .noise s0 n, g, x, z, rfl, ⟨t4, rfl, upd_same⟩, noise_good hN, x0, x1, z0, z1, fun H5 s5 => ?_⟩
      have s35 := (s3.trans s4).trans s5
      rw [show valE (expand (.noise s0 n) []) g x z = noiseL g s0 n x z from rfl]
      walk_at "lw go"
      refine ⟨_, rfl, by decide, by decide, fun D hD => ?_⟩
      have hDH : H2 D = none := none_of_same s35 hD
      obtain ⟨I, hI⟩ : ∃ I, x / S = I := ⟨_, rfl⟩
      obtain ⟨J, hJ⟩ : ∃ J, z / S = J := ⟨_, rfl⟩
      refine lc_range (n := 4) (fun k H' => Same H2 H' ∧ H' D = some (.lst (((List.range k).map (cornV g s0 I J)).map V.int))) ⟨s35.trans (same_new hD), upd_same⟩ ?_ ?_
      · rintro k H6 hk ⟨s6, d6⟩
        walk_at "lw go"
        refine ⟨rfl, g_yes (iteT ?_)⟩
        walk_at "lw go"
        rw [hI, hJ]
        refine ⟨g, s0, _, _, rfl, ?_⟩
        refine ⟨_, d6, by simp only [List.length_map, List.length_range]; exact small1000 (by omega), same_put s6 hDH, ?_⟩
        rw [upd_same, List.range_succ]
        simp [cornV]
      · rintro H6 ⟨s6, d6⟩
        have e4 : (List.range (Int.toNat 4)).map (cornV g s0 I J) = [knotL g s0 I J, knotL g s0 (I + 1) J, knotL g s0 I (J + 1), knotL g s0 (I + 1) (J + 1)] := by
          simp [cornV, List.range_succ]
        walk_at "lw go"
        rw [show Int.toNat 4 = 4 from rfl] at e4
        rw [e4] at d6
        refine ⟨D, _, rfl, SqL.of d6, by simp, fun mn hmn hmn2 => ?_⟩
        have b1 := min4_le rfl hmn hmn2
        walk_at "lw go"
        have key : ∀ M, (knotL g s0 I J ≤ M ∧ knotL g s0 (I + 1) J ≤ M ∧ knotL g s0 I (J + 1) ≤ M ∧ knotL g s0 (I + 1) (J + 1) ≤ M) → mn ≤ noiseL g s0 n x z ∧ noiseL g s0 n x z ≤ M := fun M hM => by
          rw [← hI, ← hJ] at b1 hM
          exact noise_btw4 hS S0 b1 hM
        rw [decide_eq_true (key 65535 ⟨by have := knot_in g s0 I J; omega, by have := knot_in g s0 (I + 1) J; omega, by have := knot_in g s0 I (J + 1); omega, by have := knot_in g s0 (I + 1) (J + 1); omega⟩).1]
        walk_at "lw go"
        refine ⟨D, _, rfl, SqL.of d6, by simp, fun mx hmx hmx2 => ?_⟩
        have b2 := max4_le rfl hmx hmx2
        walk_at "lw go"
        rw [decide_eq_true (key mx b2).2]
        walk_at "lw go"
        have dx := lo_div (lo := x) S0
        have dz := lo_div (lo := z) S0
        refine ⟨_, rfl, ?_⟩
        walk_at "lw go"
        rw [z6]
        refine g_ite (fun c1 => ?_) (fun c1 => ?_)
        · walk_at "lw go"
          refine ⟨_, rfl, ?_⟩
          walk_at "lw go"
          rw [z6]
          refine g_ite (fun c2 => ?_) (fun c2 => ?_)
          · walk_at "lw go"
            refine ⟨by show 3 ≤ sizeLine; decide, fun t7 ht7 => ?_⟩
            have s7 := same_new (o := .tup [.str "noise", .int s0, .int n]) ht7
            walk_at "lw go"
            refine ⟨.ref t7, .noise s0 n, g, x / S * S, z / S * S, rfl, ⟨t7, rfl, upd_same⟩, noise_good hN, by split at c1 <;> omega, by split at c1 <;> omega, by split at c2 <;> omega, by split at c2 <;> omega, fun H8 s8 => ?_⟩
            have ek : noiseL g s0 n (x / S * S) (z / S * S) = knotL g s0 I J := by
              rw [noise_knot hS S0 (Int.mul_emod_left _ _) (Int.mul_emod_left _ _), Int.mul_ediv_cancel _ (by omega), Int.mul_ediv_cancel _ (by omega), hI, hJ]
            rw [show valE (expand (.noise s0 n) []) g (x / S * S) (z / S * S) = noiseL g s0 n (x / S * S) (z / S * S) from rfl, ek]
            walk_at "lw go"
            refine g_ixL (SqL.of (s8 _ _ (s7 _ _ d6))) (v := .int (knotL g s0 I J)) (atI_nat (j := 0) (by rfl)) ?_
            walk_at "lw go"
            refine iteNS rfl ?_
            walk_at "lw go"
            exact ⟨_, _, _, _, _, _, _, rfl, (s6.trans s7).trans s8⟩
          · walk_at "lw go"
            exact ⟨_, _, _, _, _, _, _, rfl, s6⟩
        · walk_at "lw go"
          exact ⟨_, _, _, _, _, _, _, rfl, s6⟩
    · rintro σ H3 ⟨o6, o7, o8, o9, o10, o11, o12, rfl, s3⟩
      walk_at "lw go"
      exact q _ _ (k02.trans (Keep.of_same s3)) (s3 _ _ hp2) (hP2.mono (by omega))
abbrev N_law : List Str := ["_law_script", "_law_cell", "_law_purse_here", "_law_one", "_law_other", "_law_grain_here", "_law_spots", "_law_k"]
theorem sc_law : FnScope N_law ["_law_script"] (defScope s_law) := ⟨rfl, rfl, rfl, by decide +kernel, rfl, by decide +kernel, by decide +kernel⟩
theorem ok_law (F : FnP K "law" s_law f fd) (T : Bi mg) (G : Kn K mg) (D_law_purse : Df P w K mg base "_law_purse" ["_law_script", "_law_at_here"] 2 (spPurse K)) (D_law_rules : Df P w K mg base "_law_rules" ["_law_purse_here"] 107 spRules) (D_law_simple : Df P w K mg base "_law_simple" ["_law_purse_here"] 4 spSimple) (D_law_grain : Df P w K mg base "_law_grain" ["_law_purse_here"] 3 (spNum 0 1000000000)) (D_law_place : Df P w K mg base "_law_place" ["_law_purse_here"] 3 spPlace) (D_law_down_right : Df P w K mg base "_law_down_right" ["_law_purse_here", "_law_one", "_law_grain_here", "_law_area_here"] 64 spDown) (D_law_noise_right : Df P w K mg base "_law_noise_right" ["_law_purse_here", "_law_grain_here", "_law_spots"] 64 spNoiseR) (D_law_words_right : Df P w K mg base "_law_words_right" ["_law_one", "_law_other", "_law_grain_here", "_law_spots"] 65 spWords) (D_law_steps_right : Df P w K mg base "_law_steps_right" ["_law_one", "_law_grain_here", "_law_spots"] 64 spStepsR) (D_law_area : Df P w K mg base "_law_area" ["_law_purse_here", "_law_wide", "_law_deep"] 4 spArea) : FnOk P w K mg base CX0 108 f fd ["_law_script"] (spLaw K) := by
  refine F.ok sc_law (fun vs H Q E h => ?_) (fun cdv A outer s H vs Q E hr h => ⟨_, PSs.nox
(pss_cons (ps_for PassesOwn.never rfl (pi_range1 (by rfl) T.range (pa_cons pe_int pa_nil)) (pg_name (i := 1) sc_law.nd rfl (Or.inl rfl))
  (pss_cons (ps_set (i := 2) sc_law.nd rfl (Or.inr rfl) (pe_df D_law_purse (hr.mono (by first | decide | omega)) (pa_cons (pv 0) (pa_cons (pv 1) pa_nil))))
  (pss_cons (ps_set (i := 3) sc_law.nd rfl (Or.inl rfl) (pe_df D_law_rules (hr.mono (by first | decide | omega)) (pa_cons (pv 2) pa_nil)))
  (pss_cons (ps_set (i := 4) sc_law.nd rfl (Or.inl rfl) (pe_df D_law_simple (hr.mono (by first | decide | omega)) (pa_cons (pv 2) pa_nil)))
  (pss_cons (ps_set (i := 5) sc_law.nd rfl (Or.inl rfl) (pe_df D_law_grain (hr.mono (by first | decide | omega)) (pa_cons (pv 2) pa_nil)))
  (pss_cons (ps_setLc (i := 6) (own := [("_law_k", 7)]) (g := gName 7) (tt := tYes) rfl sc_law.nd rfl rfl (sw_true rfl rfl rfl (by decide +kernel)) (pi_range1 (by rfl) T.range (pa_cons pe_int pa_nil)) (blkOk_by (N := N_law) (sc := defScope s_law) (by decide +kernel)) (fun _ _ _ _ _ => pg_name (i := 7) sc_law.nd rfl (Or.inl rfl)) (fun _ _ _ _ _ => pts_nil) (fun _ _ _ _ _ => (pe_df D_law_place (hr.mono (by first | decide | omega)) (pa_cons (pv 2) pa_nil))))
  (pss_cons (ps_if (PW.pt (pw_or (pt_not (pt_val (pe_df D_law_words_right (hr.mono (by first | decide | omega)) (pa_cons (pv 3) (pa_cons (pv 4) (pa_cons (pv 5) (pa_cons (pv 6) pa_nil))))))) (pw_or1 (pt_not (pt_val (pe_df D_law_steps_right (hr.mono (by first | decide | omega)) (pa_cons (pv 3) (pa_cons (pv 5) (pa_cons (pv 6) pa_nil)))))))))
  (pss_one (ps_ret pe_bl))
  pss_nil)
  (pss_cons (ps_if (pt_not (pt_val (pe_df D_law_down_right (hr.mono (by first | decide | omega)) (pa_cons (pv 2) (pa_cons (pv 3) (pa_cons (pv 5) (pa_cons (pe_df D_law_area (hr.mono (by first | decide | omega)) (pa_cons (pv 2) (pa_cons pe_int (pa_cons pe_int pa_nil)))) pa_nil)))))))
  (pss_one (ps_ret pe_bl))
  pss_nil)
  (pss_cons (ps_if (pt_not (pt_val (pe_df D_law_down_right (hr.mono (by first | decide | omega)) (pa_cons (pv 2) (pa_cons (pv 4) (pa_cons (pv 5) (pa_cons (pe_tup (pa_cons (pe_un un_neg pe_int) (pa_cons (pe_un un_neg pe_int) (pa_cons pe_int (pa_cons pe_int pa_nil))))) pa_nil)))))))
  (pss_one (ps_ret pe_bl))
  pss_nil)
  (pss_one (ps_if (pt_not (pt_val (pe_df D_law_noise_right (hr.mono (by first | decide | omega)) (pa_cons (pv 2) (pa_cons (pv 5) (pa_cons (pv 6) pa_nil))))))
  (pss_one (ps_ret pe_bl))
  pss_nil)))))))))))
  (pss_one (ps_ret pe_bl))), ?_⟩)
  · obtain ⟨a, ns, rfl, _⟩ := h
    rfl
  · obtain ⟨a, ns, rfl, hS, q⟩ := h
    walk_at "lw i0"
    walk_at "lw go"
    refine ⟨_, rfl, by decide, by decide, for_range (n := 6) (fun i σ H' => ∃ v1 v2 v3 v4 v5 v6 v7 : Option V, σ = [some (.ref a), v1, v2, v3, v4, v5, v6, v7] ∧ SqL K H' a (ns.map V.int))
      ⟨none, none, none, none, none, none, none, rfl, hS⟩ ?_ ?_⟩
    · rintro i σ H1 hi ⟨v1, v2, v3, v4, v5, v6, v7, rfl, hS1⟩
      walk_at "lw go"
      refine ⟨a, ns, _, rfl, hS1, by omega, by omega, fun p o hpn hP => ?_⟩
      have k0 : Keep p H1 (upd H1 p o) := Keep.refl.put
      have hp : (upd H1 p o) p = some o := upd_same
      obtain ⟨H2, e2⟩ : ∃ H2, upd H1 p o = H2 := ⟨_, rfl⟩
      rw [e2] at hp k0
      rw [e2]
      clear e2
      walk_at "lw go"
      refine ⟨p, _, o, rfl, hp, hP, by decide, fun u F H3 o3 hF3 hD3 k3 hp3 hP3 => ?_⟩
      have iF := inn_of hD3
      walk_at "lw go"
      refine ⟨p, _, o3, rfl, hp3, hP3, by decide, fun v G2 H4 o4 hG4 sG k4 hp4 hP4 => ?_⟩
      have hF4 := hF3.mono (purse_tup k4 hp3 hP3)
      walk_at "lw go"
      refine ⟨p, _, o4, rfl, hp4, hP4, by decide, fun g o5 H5 g0 g1 k5 hp5 hP5 => ?_⟩
      have t5 := purse_tup k5 hp4 hP4
      have hF5 := hF4.mono t5
      have hG5 := hG4.mono t5
      have k05 := ((k0.trans k3).trans k4).trans k5
      clear hF3 hF4 hG4 k0 k3 k4 k5 t5 hp hp3 hp4 hP hP3 hP4 hD3
      walk_at "lw go"
      refine ⟨_, rfl, by decide, by decide, fun D hD => ?_⟩
      have nD : D ≠ p := (ne_of_none hp5 hD).symm
      refine lc_range (n := 4) (fun j H' => ∃ (ts : List V) (o' : HO), Keep p H5 H' ∧ H' p = some o' ∧ Purse (64000 + 100000 + 60 + 12 + 40 * j) o' ∧ H' D = some (.lst ts) ∧ ts.length = j ∧ SpotsOk H' ts) ?_ ?_ ?_
      · exact ⟨[], o5, Keep.refl.new hD, by rw [upd_ne nD.symm]; exact hp5, hP5.mono (by omega), upd_same, rfl, fun y hy => (nomatch hy)⟩
      · rintro j H' hj ⟨ts, o', k', hp', hP', ht', hl', hs'⟩
        walk_at "lw go"
        refine ⟨rfl, g_yes (iteT ?_)⟩
        walk_at "lw go"
        refine ⟨p, _, o', rfl, hp', hP', by omega, fun x z t o10 H10 x0 x1 z0 z1 k10 hp10 hP10 ht10 => ?_⟩
        have hD10 := k10 _ _ nD ht'
        have tp := tup_putL (o := .lst (ts ++ [V.ref t])) hD10
        refine ⟨ts, hD10, small1000 (by omega), ts ++ [.ref t], o10, keep_put2 (k'.trans k10) hD, by rw [upd_ne nD.symm]; exact hp10, hP10.mono (by omega), upd_same, by rw [List.length_append, hl']; rfl, fun y hy => ?_⟩
        rcases List.mem_append.mp hy with hy | hy
        · exact ((hs'.mono (purse_tup k10 hp' hP')).mono tp) y hy
        · rw [List.mem_singleton.mp hy]
          exact ⟨t, x, z, rfl, tp _ _ ht10, x0, x1, z0, z1⟩
      · rintro H6 ⟨ts, o6, k6, hp6, hP6, ht6, hl6, hs6⟩
        have t6 := purse_tup k6 hp5 hP5
        have hF6 := hF5.mono t6
        have hG6 := hG5.mono t6
        have k06 := k05.trans k6
        clear hF5 hG5 k05 k6 t6 hp5 hP5 hD hl6
        walk_at "lw go"
        refine ⟨u, v, F, G2, g, D, ts, rfl, hF6, hG6, iF, sG, ht6, hs6, fun H7 s7 => ?_⟩
        walk_at "lw go"
        refine ⟨u, F, g, D, ts, rfl, hF6.mono (same_tup s7), iF, s7 _ _ ht6, hs6.mono (same_tup s7), fun H8 s8 => ?_⟩
        have s68 := s7.trans s8
        have hp8 := s68 _ _ hp6
        walk_at "lw go"
        refine ⟨p, 2000, 500, _, o6, rfl, hp8, hP6, by decide, by decide, by decide, by decide, by decide, fun x0 z0 x1 z1 t9 o9 H9 ob9 k9 hp9 hP9 ht9 => ?_⟩
        have tt9 := purse_tup k9 hp8 hP6
        have hF9 := (hF6.mono (same_tup s68)).mono tt9
        have hG9 := (hG6.mono (same_tup s68)).mono tt9
        have ht9' := k9 _ _ nD (s68 _ _ ht6)
        have hs9 := (hs6.mono (same_tup s68)).mono tt9
        have k09 := (k06.trans (Keep.of_same s68)).trans k9
        clear hF6 hG6 ht6 hs6 k06 s7 s8 s68 k9 tt9 hp6 hp8 hP6
        walk_at "lw go"
        refine ⟨p, u, F, g, x0, z0, x1, z1, _, t9, o9, rfl, hp9, hP9, by decide, hF9, good_of iF, ht9, ob9, fun H10 o10 k10 hp10 hP10 => ?_⟩
        have t10 := purse_tup k10 hp9 hP9
        walk_at "lw go"
        refine ⟨by show 4 ≤ sizeLine; decide, fun b hb => ?_⟩
        obtain ⟨H11, e11⟩ : ∃ H11, upd H10 b (.tup [.int (-1000000), .int (-1000000), .int 1000000, .int 1000000]) = H11 := ⟨_, rfl⟩
        have s11 : Same H10 H11 := e11 ▸ same_new hb
        have f11 : H11 b = some (.tup [.int (-1000000), .int (-1000000), .int 1000000, .int 1000000]) := e11 ▸ upd_same
        rw [e11]
        clear e11
        walk_at "lw go"
        refine ⟨p, v, G2, g, -1000000, -1000000, 1000000, 1000000, _, b, o10, rfl, s11 _ _ hp10, hP10, by decide, (hG9.mono t10).mono (same_tup s11), sG.good, f11, by decide, fun H12 o12 k12 hp12 hP12 => ?_⟩
        have t12 := purse_tup k12 (s11 _ _ hp10) hP10
        walk_at "lw go"
        refine ⟨p, D, g, _, o12, ts, rfl, hp12, hP12, by decide, k12 _ _ nD (s11 _ _ (k10 _ _ nD ht9')), ((hs9.mono t10).mono (same_tup s11)).mono t12, fun H13 o13 k13 hp13 hP13 => ?_⟩
        walk_at "lw go"
        exact ⟨_, _, _, _, _, _, _, rfl, ((((k09.trans k10).trans (Keep.of_same s11)).trans k12).trans k13).seqN hpn hS1⟩
    · rintro σ H1 ⟨v1, v2, v3, v4, v5, v6, v7, rfl, hS1⟩
      walk_at "lw go"
      exact q H1
end

open Hd
theorem facts {P : Program} {w : World} {K : PySem.W.Frag} {h : Heap} {mg : Str → Option Value} {f : Addr} (X : K.In h) (G0 : h.Ns mainGlobals mg) (hfa : mg ("law" : Str) = some (.ref f)) (c0 : He.SaysX fa fn [] [] ex w h K) :
    ∃ fd : FuncData, (∀ (s : Shared) (v : Value), BindsTo s fd ⟨[v], []⟩ [("_law_script", v)]) ∧ ∀ base : Heap, K.In base → base.Ns mainGlobals mg → FnOk P w K mg base CX0 108 f fd ["_law_script"] (spLaw K) := by
  have c : He.SaysD fa fn K := c0.t.d
  obtain ⟨fd_is_from, F_is_from⟩ := c.def_ 0 (d := dd_is_from) rfl
  have g_is_from := He.glo_ok X G0 (c.fact 0 (f := .glo "is_from") rfl)
  obtain ⟨fd_is_name, F_is_name⟩ := c.def_ 1 (d := dd_is_name) rfl
  have g_is_name := He.glo_ok X G0 (c.fact 1 (f := .glo "is_name") rfl)
  obtain ⟨fd_is_point, F_is_point⟩ := c.def_ 2 (d := dd_is_point) rfl
  have g_is_point := He.glo_ok X G0 (c.fact 2 (f := .glo "is_point") rfl)
  obtain ⟨fd_must_point, F_must_point⟩ := c.def_ 3 (d := dd_must_point) rfl
  have g_must_point := He.glo_ok X G0 (c.fact 3 (f := .glo "must_point") rfl)
  obtain ⟨fd_is_box, F_is_box⟩ := c.def_ 4 (d := dd_is_box) rfl
  have g_is_box := He.glo_ok X G0 (c.fact 4 (f := .glo "is_box") rfl)
  obtain ⟨fd_must_box, F_must_box⟩ := c.def_ 5 (d := dd_must_box) rfl
  have g_must_box := He.glo_ok X G0 (c.fact 5 (f := .glo "must_box") rfl)
  obtain ⟨fd_knot, F_knot⟩ := c.def_ 6 (d := dd_knot) rfl
  have g_knot := He.glo_ok X G0 (c.fact 6 (f := .glo "knot") rfl)
  obtain ⟨fd_four_knots, F_four_knots⟩ := c.def_ 7 (d := dd_four_knots) rfl
  have g_four_knots := He.glo_ok X G0 (c.fact 7 (f := .glo "four_knots") rfl)
  obtain ⟨fd_knot_row, F_knot_row⟩ := c.def_ 8 (d := dd_knot_row) rfl
  have g_knot_row := He.glo_ok X G0 (c.fact 8 (f := .glo "knot_row") rfl)
  obtain ⟨fd_noise_value, F_noise_value⟩ := c.def_ 9 (d := dd_noise_value) rfl
  have g_noise_value := He.glo_ok X G0 (c.fact 9 (f := .glo "noise_value") rfl)
  obtain ⟨fd_noise_grid, F_noise_grid⟩ := c.def_ 10 (d := dd_noise_grid) rfl
  have g_noise_grid := He.glo_ok X G0 (c.fact 10 (f := .glo "noise_grid") rfl)
  obtain ⟨fd_knots_beside, F_knots_beside⟩ := c.def_ 11 (d := dd_knots_beside) rfl
  have g_knots_beside := He.glo_ok X G0 (c.fact 11 (f := .glo "knots_beside") rfl)
  obtain ⟨fd_noise_range, F_noise_range⟩ := c.def_ 12 (d := dd_noise_range) rfl
  have g_noise_range := He.glo_ok X G0 (c.fact 12 (f := .glo "noise_range") rfl)
  obtain ⟨fd_corner_values, F_corner_values⟩ := c.def_ 13 (d := dd_corner_values) rfl
  have g_corner_values := He.glo_ok X G0 (c.fact 13 (f := .glo "corner_values") rfl)
  obtain ⟨fd_turns, F_turns⟩ := c.def_ 14 (d := dd_turns) rfl
  have g_turns := He.glo_ok X G0 (c.fact 14 (f := .glo "turns") rfl)
  obtain ⟨fd_value_at, F_value_at⟩ := c.def_ 15 (d := dd_value_at) rfl
  have g_value_at := He.glo_ok X G0 (c.fact 15 (f := .glo "value_at") rfl)
  obtain ⟨fd_steps_of, F_steps_of⟩ := c.def_ 16 (d := dd_steps_of) rfl
  have g_steps_of := He.glo_ok X G0 (c.fact 16 (f := .glo "steps_of") rfl)
  obtain ⟨fd_run_steps, F_run_steps⟩ := c.def_ 17 (d := dd_run_steps) rfl
  have g_run_steps := He.glo_ok X G0 (c.fact 17 (f := .glo "run_steps") rfl)
  obtain ⟨fd_bounds_of, F_bounds_of⟩ := c.def_ 18 (d := dd_bounds_of) rfl
  have g_bounds_of := He.glo_ok X G0 (c.fact 18 (f := .glo "bounds_of") rfl)
  obtain ⟨fd_greatest_of, F_greatest_of⟩ := c.def_ 19 (d := dd_greatest_of) rfl
  have g_greatest_of := He.glo_ok X G0 (c.fact 19 (f := .glo "greatest_of") rfl)
  obtain ⟨fd_weighed, F_weighed⟩ := c.def_ 20 (d := dd_weighed) rfl
  have g_weighed := He.glo_ok X G0 (c.fact 20 (f := .glo "weighed") rfl)
  obtain ⟨fd_weighed_long, F_weighed_long⟩ := c.def_ 21 (d := dd_weighed_long) rfl
  have g_weighed_long := He.glo_ok X G0 (c.fact 21 (f := .glo "weighed_long") rfl)
  obtain ⟨fd_must_ranges, F_must_ranges⟩ := c.def_ 22 (d := dd_must_ranges) rfl
  have g_must_ranges := He.glo_ok X G0 (c.fact 22 (f := .glo "must_ranges") rfl)
  obtain ⟨fd_placed, F_placed⟩ := c.def_ 23 (d := dd_placed) rfl
  have g_placed := He.glo_ok X G0 (c.fact 23 (f := .glo "placed") rfl)
  obtain ⟨fd_run_known, F_run_known⟩ := c.def_ 24 (d := dd_run_known) rfl
  have g_run_known := He.glo_ok X G0 (c.fact 24 (f := .glo "run_known") rfl)
  obtain ⟨fd_steps_range, F_steps_range⟩ := c.def_ 25 (d := dd_steps_range) rfl
  have g_steps_range := He.glo_ok X G0 (c.fact 25 (f := .glo "steps_range") rfl)
  obtain ⟨fd_ranges_of, F_ranges_of⟩ := c.def_ 26 (d := dd_ranges_of) rfl
  have g_ranges_of := He.glo_ok X G0 (c.fact 26 (f := .glo "ranges_of") rfl)
  obtain ⟨fd_below_range, F_below_range⟩ := c.def_ 27 (d := dd_below_range) rfl
  have g_below_range := He.glo_ok X G0 (c.fact 27 (f := .glo "below_range") rfl)
  obtain ⟨fd_joined_range, F_joined_range⟩ := c.def_ 28 (d := dd_joined_range) rfl
  have g_joined_range := He.glo_ok X G0 (c.fact 28 (f := .glo "joined_range") rfl)
  obtain ⟨fd_law_at, F_law_at⟩ := c.def_ 29 (d := dd_law_at) rfl
  have g_law_at := He.glo_ok X G0 (c.fact 29 (f := .glo "_law_at") rfl)
  obtain ⟨fd_law_mixed, F_law_mixed⟩ := c.def_ 30 (d := dd_law_mixed) rfl
  have g_law_mixed := He.glo_ok X G0 (c.fact 30 (f := .glo "_law_mixed") rfl)
  obtain ⟨fd_law_purse, F_law_purse⟩ := c.def_ 31 (d := dd_law_purse) rfl
  have g_law_purse := He.glo_ok X G0 (c.fact 31 (f := .glo "_law_purse") rfl)
  obtain ⟨fd_law_draw, F_law_draw⟩ := c.def_ 32 (d := dd_law_draw) rfl
  have g_law_draw := He.glo_ok X G0 (c.fact 32 (f := .glo "_law_draw") rfl)
  obtain ⟨fd_law_knot, F_law_knot⟩ := c.def_ 33 (d := dd_law_knot) rfl
  have g_law_knot := He.glo_ok X G0 (c.fact 33 (f := .glo "_law_knot") rfl)
  obtain ⟨fd_law_noise, F_law_noise⟩ := c.def_ 34 (d := dd_law_noise) rfl
  have g_law_noise := He.glo_ok X G0 (c.fact 34 (f := .glo "_law_noise") rfl)
  obtain ⟨fd_law_noise_range, F_law_noise_range⟩ := c.def_ 35 (d := dd_law_noise_range) rfl
  have g_law_noise_range := He.glo_ok X G0 (c.fact 35 (f := .glo "_law_noise_range") rfl)
  obtain ⟨fd_law_two_range, F_law_two_range⟩ := c.def_ 36 (d := dd_law_two_range) rfl
  have g_law_two_range := He.glo_ok X G0 (c.fact 36 (f := .glo "_law_two_range") rfl)
  obtain ⟨fd_law_below_range, F_law_below_range⟩ := c.def_ 37 (d := dd_law_below_range) rfl
  have g_law_below_range := He.glo_ok X G0 (c.fact 37 (f := .glo "_law_below_range") rfl)
  obtain ⟨fd_law_range, F_law_range⟩ := c.def_ 38 (d := dd_law_range) rfl
  have g_law_range := He.glo_ok X G0 (c.fact 38 (f := .glo "_law_range") rfl)
  obtain ⟨fd_law_number, F_law_number⟩ := c.def_ 39 (d := dd_law_number) rfl
  have g_law_number := He.glo_ok X G0 (c.fact 39 (f := .glo "_law_number") rfl)
  obtain ⟨fd_law_leaf, F_law_leaf⟩ := c.def_ 40 (d := dd_law_leaf) rfl
  have g_law_leaf := He.glo_ok X G0 (c.fact 40 (f := .glo "_law_leaf") rfl)
  obtain ⟨fd_law_field, F_law_field⟩ := c.def_ 41 (d := dd_law_field) rfl
  have g_law_field := He.glo_ok X G0 (c.fact 41 (f := .glo "_law_field") rfl)
  obtain ⟨fd_law_all_ranges, F_law_all_ranges⟩ := c.def_ 42 (d := dd_law_all_ranges) rfl
  have g_law_all_ranges := He.glo_ok X G0 (c.fact 42 (f := .glo "_law_all_ranges") rfl)
  obtain ⟨fd_law_small, F_law_small⟩ := c.def_ 43 (d := dd_law_small) rfl
  have g_law_small := He.glo_ok X G0 (c.fact 43 (f := .glo "_law_small") rfl)
  obtain ⟨fd_law_rules, F_law_rules⟩ := c.def_ 44 (d := dd_law_rules) rfl
  have g_law_rules := He.glo_ok X G0 (c.fact 44 (f := .glo "_law_rules") rfl)
  obtain ⟨fd_law_grain, F_law_grain⟩ := c.def_ 45 (d := dd_law_grain) rfl
  have g_law_grain := He.glo_ok X G0 (c.fact 45 (f := .glo "_law_grain") rfl)
  obtain ⟨fd_law_place, F_law_place⟩ := c.def_ 46 (d := dd_law_place) rfl
  have g_law_place := He.glo_ok X G0 (c.fact 46 (f := .glo "_law_place") rfl)
  obtain ⟨fd_law_area, F_law_area⟩ := c.def_ 47 (d := dd_law_area) rfl
  have g_law_area := He.glo_ok X G0 (c.fact 47 (f := .glo "_law_area") rfl)
  obtain ⟨fd_law_simple, F_law_simple⟩ := c.def_ 48 (d := dd_law_simple) rfl
  have g_law_simple := He.glo_ok X G0 (c.fact 48 (f := .glo "_law_simple") rfl)
  obtain ⟨fd_law_same, F_law_same⟩ := c.def_ 49 (d := dd_law_same) rfl
  have g_law_same := He.glo_ok X G0 (c.fact 49 (f := .glo "_law_same") rfl)
  obtain ⟨fd_law_words_right, F_law_words_right⟩ := c.def_ 50 (d := dd_law_words_right) rfl
  have g_law_words_right := He.glo_ok X G0 (c.fact 50 (f := .glo "_law_words_right") rfl)
  obtain ⟨fd_law_steps_right, F_law_steps_right⟩ := c.def_ 51 (d := dd_law_steps_right) rfl
  have g_law_steps_right := He.glo_ok X G0 (c.fact 51 (f := .glo "_law_steps_right") rfl)
  obtain ⟨fd_law_down_right, F_law_down_right⟩ := c.def_ 52 (d := dd_law_down_right) rfl
  have g_law_down_right := He.glo_ok X G0 (c.fact 52 (f := .glo "_law_down_right") rfl)
  obtain ⟨fd_law_noise_right, F_law_noise_right⟩ := c.def_ 53 (d := dd_law_noise_right) rfl
  have g_law_noise_right := He.glo_ok X G0 (c.fact 53 (f := .glo "_law_noise_right") rfl)
  obtain ⟨fd_law, F_law⟩ := c.def_ 54 (d := dd_law) rfl
  have g_law := He.glo_ok X G0 (c.fact 54 (f := .glo "law") rfl)
  have T : Bi mg := ⟨He.free_ok X G0 (c.fact 55 (f := .free "isinstance") rfl), He.free_ok X G0 (c.fact 56 (f := .free "int") rfl), He.free_ok X G0 (c.fact 57 (f := .free "bool") rfl), He.free_ok X G0 (c.fact 58 (f := .free "str") rfl), He.free_ok X G0 (c.fact 59 (f := .free "len") rfl), He.free_ok X G0 (c.fact 60 (f := .free "tuple") rfl), He.free_ok X G0 (c.fact 61 (f := .free "reversed") rfl), He.free_ok X G0 (c.fact 62 (f := .free "enumerate") rfl), He.free_ok X G0 (c.fact 63 (f := .free "zip") rfl), He.free_ok X G0 (c.fact 64 (f := .free "min") rfl), He.free_ok X G0 (c.fact 65 (f := .free "max") rfl), He.free_ok X G0 (c.fact 66 (f := .free "range") rfl), He.free_ok X G0 (c.fact 67 (f := .free "list") rfl), He.free_ok X G0 (c.fact 68 (f := .free "abs") rfl), He.free_ok X G0 (c.fact 69 (f := .free "sum") rfl), He.free_ok X G0 (c.fact 70 (f := .free "dict") rfl)⟩
  have hx := c0.more
  obtain ⟨hx_ALL_POINTS, hx⟩ := He.ba hx
  obtain ⟨hx_PAIRS, hx⟩ := He.ba hx
  obtain ⟨hx_PLACE, hx⟩ := He.ba hx
  obtain ⟨hx_NOISE, hx⟩ := He.ba hx
  have G : Kn K mg := ⟨He.int_ok X G0 (c.fact 71 (f := .int "EDGE" (1000000)) rfl), He.glo_ok X G0 (c.fact 78 (f := .glo "ALL_POINTS") rfl), fun H => He.tupB_ok hx_ALL_POINTS H, He.int_ok X G0 (c.fact 72 (f := .int "LONGEST_NAME" (8)) rfl), He.int_ok X G0 (c.fact 73 (f := .int "MOST_SQUARES" (64)) rfl), He.int_ok X G0 (c.fact 74 (f := .int "GREATEST_KNOT" (65535)) rfl), He.int_ok X G0 (c.fact 75 (f := .int "MOST_FIELDS" (200)) rfl), He.int_ok X G0 (c.fact 76 (f := .int "GREATEST_VALUE" (1000000000000000000000000000000)) rfl), He.int_ok X G0 (c.fact 77 (f := .int "BEYOND" (1000000000000000000000000000001)) rfl), He.glo_ok X G0 (c.fact 79 (f := .glo "PAIRS") rfl), fun H => He.tupB_ok hx_PAIRS H, He.glo_ok X G0 (c.fact 80 (f := .glo "PLACE") rfl), fun H => He.tupB_ok hx_PLACE H, He.glo_ok X G0 (c.fact 81 (f := .glo "NOISE") rfl), fun H => He.tupB_ok hx_NOISE H⟩
  have e := hfa.symm.trans g_law
  cases e
  refine ⟨fd_law, fun s v => FunD.bindsA (ps := ["_law_script"]) F_law (fun _ _ _ _ _ _ us hl => match us, hl with | [_], _ => rfl) s [v] rfl, fun base _ _ => ?_⟩
  have D_is_from : Df P w K mg base "is_from" ["thing", "low", "high"] 1 spFrom := ⟨_, _, g_is_from, F_is_from.kp, F_is_from.bindsN fun _ _ _ _ _ _ us hl => match us, hl with | [_, _, _], _ => rfl, ok_is_from F_is_from T G ⟩
  have D_is_name : Df P w K mg base "is_name" ["thing"] 1 spName := ⟨_, _, g_is_name, F_is_name.kp, F_is_name.bindsN fun _ _ _ _ _ _ us hl => match us, hl with | [_], _ => rfl, ok_is_name F_is_name T G ⟩
  have D_is_point : Df P w K mg base "is_point" ["x", "z"] 1 spPt := ⟨_, _, g_is_point, F_is_point.kp, F_is_point.bindsN fun _ _ _ _ _ _ us hl => match us, hl with | [_, _], _ => rfl, ok_is_point F_is_point T G ⟩
  have D_must_point : Df P w K mg base "must_point" ["x", "z"] 2 spMustPt := ⟨_, _, g_must_point, F_must_point.kp, F_must_point.bindsN fun _ _ _ _ _ _ us hl => match us, hl with | [_, _], _ => rfl, ok_must_point F_must_point T G D_is_point⟩
  have D_is_box : Df P w K mg base "is_box" ["thing"] 2 spIsBox := ⟨_, _, g_is_box, F_is_box.kp, F_is_box.bindsN fun _ _ _ _ _ _ us hl => match us, hl with | [_], _ => rfl, ok_is_box F_is_box T G D_is_point⟩
  have D_must_box : Df P w K mg base "must_box" ["box"] 3 spMustBox := ⟨_, _, g_must_box, F_must_box.kp, F_must_box.bindsN fun _ _ _ _ _ _ us hl => match us, hl with | [_], _ => rfl, ok_must_box F_must_box T G D_is_box⟩
  have D_knot : Df P w K mg base "knot" ["seed", "salt", "i", "j"] 1 spKnot := ⟨_, _, g_knot, F_knot.kp, F_knot.bindsN fun _ _ _ _ _ _ us hl => match us, hl with | [_, _, _, _], _ => rfl, ok_knot F_knot T G ⟩
  have D_four_knots : Df P w K mg base "four_knots" ["seed", "salt", "i", "j"] 1 spFour := ⟨_, _, g_four_knots, F_four_knots.kp, F_four_knots.bindsN fun _ _ _ _ _ _ us hl => match us, hl with | [_, _, _, _], _ => rfl, ok_four_knots F_four_knots T G ⟩
  have D_knot_row : Df P w K mg base "knot_row" ["seed", "salt", "i", "places"] 1 spKrow := ⟨_, _, g_knot_row, F_knot_row.kp, F_knot_row.bindsN fun _ _ _ _ _ _ us hl => match us, hl with | [_, _, _, _], _ => rfl, ok_knot_row F_knot_row T G ⟩
  have D_noise_value : Df P w K mg base "noise_value" ["seed", "salt", "log", "x", "z", "known"] 2 spNV := ⟨_, _, g_noise_value, F_noise_value.kp, F_noise_value.bindsN fun _ _ _ _ _ _ us hl => match us, hl with | [_, _, _, _, _, _], _ => rfl, ok_noise_value F_noise_value T G D_knot D_four_knots⟩
  have D_knots_beside : Df P w K mg base "knots_beside" ["log", "zs"] 1 spBeside := ⟨_, _, g_knots_beside, F_knots_beside.kp, F_knots_beside.bindsN fun _ _ _ _ _ _ us hl => match us, hl with | [_, _], _ => rfl, ok_knots_beside F_knots_beside T G ⟩
  have D_noise_grid : Df P w K mg base "noise_grid" ["seed", "salt", "log", "xs", "zs"] 2 spGrid := ⟨_, _, g_noise_grid, F_noise_grid.kp, F_noise_grid.bindsN fun _ _ _ _ _ _ us hl => match us, hl with | [_, _, _, _, _], _ => rfl, ok_noise_grid F_noise_grid T G D_knots_beside D_knot_row⟩
  have D_corner_values : Df P w K mg base "corner_values" ["seed", "salt", "log", "box"] 2 spCorner := ⟨_, _, g_corner_values, F_corner_values.kp, F_corner_values.bindsN fun _ _ _ _ _ _ us hl => match us, hl with | [_, _, _, _], _ => rfl, ok_corner_values F_corner_values T G D_four_knots⟩
  have D_turns : Df P w K mg base "turns" ["low", "high", "log"] 1 spTurns := ⟨_, _, g_turns, F_turns.kp, F_turns.bindsN fun _ _ _ _ _ _ us hl => match us, hl with | [_, _, _], _ => rfl, ok_turns F_turns T G ⟩
  have D_noise_range : Df P w K mg base "noise_range" ["seed", "salt", "log", "box"] 3 spNRx := ⟨_, _, g_noise_range, F_noise_range.kp, F_noise_range.bindsN fun _ _ _ _ _ _ us hl => match us, hl with | [_, _, _, _], _ => rfl, ok_noise_range F_noise_range T G D_corner_values D_noise_grid D_turns⟩
  have DW := ok_weighed F_weighed F_weighed_long T G g_weighed F_weighed.kp (F_weighed.bindsN (ps := ["field", "lets"]) fun _ _ _ _ _ _ us hl => match us, hl with | [_, _], _ => rfl) g_weighed_long F_weighed_long.kp (F_weighed_long.bindsN (ps := ["field", "lets"]) fun _ _ _ _ _ _ us hl => match us, hl with | [_, _], _ => rfl) D_is_from D_is_name (base := base)
  have D_weighed : Df P w K mg base "weighed" ["field", "lets"] 42 (spW K 20) := ⟨_, _, g_weighed, F_weighed.kp, F_weighed.bindsN fun _ _ _ _ _ _ us hl => match us, hl with | [_, _], _ => rfl, (DW 20).1⟩
  have D_greatest_of : Df P w K mg base "greatest_of" ["rules"] 43 spGr := ⟨_, _, g_greatest_of, F_greatest_of.kp, F_greatest_of.bindsN fun _ _ _ _ _ _ us hl => match us, hl with | [_], _ => rfl, ok_greatest_of F_greatest_of T G D_weighed⟩
  have D_placed : Df P w K mg base "placed" ["field", "dx", "dz", "lets", "made"] 61 (spPlaced 60) :=
    have bb := F_placed.bindsN (ps := ["field", "dx", "dz", "lets", "made"]) fun _ _ _ _ _ _ us hl => match us, hl with | [_, _, _, _, _], _ => rfl
    ⟨_, _, g_placed, F_placed.kp, bb, ok_placed F_placed T G  g_placed F_placed.kp bb 60⟩
  have D_below_range : Df P w K mg base "below_range" ["parts"] 1 spBelw := ⟨_, _, g_below_range, F_below_range.kp, F_below_range.bindsN fun _ _ _ _ _ _ us hl => match us, hl with | [_], _ => rfl, ok_below_range F_below_range T G ⟩
  have D_joined_range : Df P w K mg base "joined_range" ["word", "one", "other"] 1 spJoin := ⟨_, _, g_joined_range, F_joined_range.kp, F_joined_range.bindsN fun _ _ _ _ _ _ us hl => match us, hl with | [_, _, _], _ => rfl, ok_joined_range F_joined_range T G ⟩
  have D_ranges_of : Df P w K mg base "ranges_of" ["some", "seed", "box"] 4 (spRgs K) := ⟨_, _, g_ranges_of, F_ranges_of.kp, F_ranges_of.bindsN fun _ _ _ _ _ _ us hl => match us, hl with | [_, _, _], _ => rfl, ok_ranges_of F_ranges_of T G D_noise_range D_below_range D_joined_range⟩
  have D_must_ranges : Df P w K mg base "must_ranges" ["steps"] 5 (spMust K) := ⟨_, _, g_must_ranges, F_must_ranges.kp, F_must_ranges.bindsN fun _ _ _ _ _ _ us hl => match us, hl with | [_], _ => rfl, ok_must_ranges F_must_ranges T G D_ranges_of⟩
  have D_steps_of : Df P w K mg base "steps_of" ["rules"] 62 spSteps := ⟨_, _, g_steps_of, F_steps_of.kp, F_steps_of.bindsN fun _ _ _ _ _ _ us hl => match us, hl with | [_], _ => rfl, ok_steps_of F_steps_of T G D_greatest_of D_placed D_must_ranges⟩
  have D_run_known : Df P w K mg base "run_known" ["some", "seed", "x", "z", "known"] 3 (spRun K) := ⟨_, _, g_run_known, F_run_known.kp, F_run_known.bindsN fun _ _ _ _ _ _ us hl => match us, hl with | [_, _, _, _, _], _ => rfl, ok_run_known F_run_known T G D_noise_value⟩
  have D_run_steps : Df P w K mg base "run_steps" ["some", "seed", "x", "z"] 4 (spRunS K) := ⟨_, _, g_run_steps, F_run_steps.kp, F_run_steps.bindsN fun _ _ _ _ _ _ us hl => match us, hl with | [_, _, _, _], _ => rfl, ok_run_steps F_run_steps T G D_run_known⟩
  have D_value_at : Df P w K mg base "value_at" ["rules", "seed", "x", "z"] 63 spVal := ⟨_, _, g_value_at, F_value_at.kp, F_value_at.bindsN fun _ _ _ _ _ _ us hl => match us, hl with | [_, _, _, _], _ => rfl, ok_value_at F_value_at T G D_steps_of D_must_point D_run_steps⟩
  have D_steps_range : Df P w K mg base "steps_range" ["steps", "seed", "box"] 5 (spStR K) := ⟨_, _, g_steps_range, F_steps_range.kp, F_steps_range.bindsN fun _ _ _ _ _ _ us hl => match us, hl with | [_, _, _], _ => rfl, ok_steps_range F_steps_range T G D_run_steps D_ranges_of⟩
  have D_bounds_of : Df P w K mg base "bounds_of" ["rules", "seed", "box"] 63 spBnds := ⟨_, _, g_bounds_of, F_bounds_of.kp, F_bounds_of.bindsN fun _ _ _ _ _ _ us hl => match us, hl with | [_, _, _], _ => rfl, ok_bounds_of F_bounds_of T G D_steps_of D_must_box D_steps_range⟩
  have D_law_at : Df P w K mg base "_law_at" ["_law_script", "_law_k"] 1 (spAt K) := ⟨_, _, g_law_at, F_law_at.kp, F_law_at.bindsN fun _ _ _ _ _ _ us hl => match us, hl with | [_, _], _ => rfl, ok_law_at F_law_at T G ⟩
  have D_law_mixed : Df P w K mg base "_law_mixed" ["_law_cell", "_law_k"] 1 spMixed := ⟨_, _, g_law_mixed, F_law_mixed.kp, F_law_mixed.bindsN fun _ _ _ _ _ _ us hl => match us, hl with | [_, _], _ => rfl, ok_law_mixed F_law_mixed T G ⟩
  have D_law_purse : Df P w K mg base "_law_purse" ["_law_script", "_law_at_here"] 2 (spPurse K) := ⟨_, _, g_law_purse, F_law_purse.kp, F_law_purse.bindsN fun _ _ _ _ _ _ us hl => match us, hl with | [_, _], _ => rfl, ok_law_purse F_law_purse T G D_law_at⟩
  have D_law_draw : Df P w K mg base "_law_draw" ["_law_purse_here", "_law_out_of"] 2 spDraw := ⟨_, _, g_law_draw, F_law_draw.kp, F_law_draw.bindsN fun _ _ _ _ _ _ us hl => match us, hl with | [_, _], _ => rfl, ok_law_draw F_law_draw T G D_law_mixed⟩
  have D_law_knot : Df P w K mg base "_law_knot" ["_law_grain_here", "_law_salted", "_law_left", "_law_right"] 1 spKnot := ⟨_, _, g_law_knot, F_law_knot.kp, F_law_knot.bindsN fun _ _ _ _ _ _ us hl => match us, hl with | [_, _, _, _], _ => rfl, ok_law_knot F_law_knot T G ⟩
  have D_law_noise : Df P w K mg base "_law_noise" ["_law_field_here", "_law_grain_here", "_law_x", "_law_z"] 2 spNoise := ⟨_, _, g_law_noise, F_law_noise.kp, F_law_noise.bindsN fun _ _ _ _ _ _ us hl => match us, hl with | [_, _, _, _], _ => rfl, ok_law_noise F_law_noise T G D_law_knot⟩
  have D_law_noise_range : Df P w K mg base "_law_noise_range" ["_law_field_here", "_law_grain_here", "_law_area_here"] 3 spNR := ⟨_, _, g_law_noise_range, F_law_noise_range.kp, F_law_noise_range.bindsN fun _ _ _ _ _ _ us hl => match us, hl with | [_, _, _], _ => rfl, ok_law_noise_range F_law_noise_range T G D_law_noise⟩
  have D_law_two_range : Df P w K mg base "_law_two_range" ["_law_word", "_law_a", "_law_b"] 1 spTwoR := ⟨_, _, g_law_two_range, F_law_two_range.kp, F_law_two_range.bindsN fun _ _ _ _ _ _ us hl => match us, hl with | [_, _, _], _ => rfl, ok_law_two_range F_law_two_range T G ⟩
  have D_law_below_range : Df P w K mg base "_law_below_range" ["_law_a", "_law_b", "_law_yes", "_law_no"] 1 spBelR := ⟨_, _, g_law_below_range, F_law_below_range.kp, F_law_below_range.bindsN fun _ _ _ _ _ _ us hl => match us, hl with | [_, _, _, _], _ => rfl, ok_law_below_range F_law_below_range T G ⟩
  have D_law_range : Df P w K mg base "_law_range" ["_law_field_here", "_law_grain_here", "_law_area_here", "_law_bound"] 64 (spRange 60) :=
    have bb := F_law_range.bindsN (ps := ["_law_field_here", "_law_grain_here", "_law_area_here", "_law_bound"]) fun _ _ _ _ _ _ us hl => match us, hl with | [_, _, _, _], _ => rfl
    ⟨_, _, g_law_range, F_law_range.kp, bb, ok_law_range F_law_range T G D_law_two_range D_law_noise_range D_law_below_range g_law_range F_law_range.kp bb 60⟩
  have D_law_number : Df P w K mg base "_law_number" ["_law_purse_here", "_law_most"] 3 spNumber := ⟨_, _, g_law_number, F_law_number.kp, F_law_number.bindsN fun _ _ _ _ _ _ us hl => match us, hl with | [_, _], _ => rfl, ok_law_number F_law_number T G D_law_draw⟩
  have D_law_leaf : Df P w K mg base "_law_leaf" ["_law_purse_here", "_law_known"] 4 spLeaf := ⟨_, _, g_law_leaf, F_law_leaf.kp, F_law_leaf.bindsN fun _ _ _ _ _ _ us hl => match us, hl with | [_, _], _ => rfl, ok_law_leaf F_law_leaf T G D_law_draw D_law_number⟩
  have D_law_field : Df P w K mg base "_law_field" ["_law_purse_here", "_law_deep", "_law_known"] 13 (spField 8) :=
    have bb := F_law_field.bindsN (ps := ["_law_purse_here", "_law_deep", "_law_known"]) fun _ _ _ _ _ _ us hl => match us, hl with | [_, _, _], _ => rfl
    ⟨_, _, g_law_field, F_law_field.kp, bb, ok_law_field F_law_field T G D_law_draw D_law_leaf D_law_number g_law_field F_law_field.kp bb 8⟩
  have D_law_all_ranges : Df P w K mg base "_law_all_ranges" ["_law_field_here", "_law_area_here", "_law_bound"] 105 (spAllR 40) :=
    have bb := F_law_all_ranges.bindsN (ps := ["_law_field_here", "_law_area_here", "_law_bound"]) fun _ _ _ _ _ _ us hl => match us, hl with | [_, _, _], _ => rfl
    ⟨_, _, g_law_all_ranges, F_law_all_ranges.kp, bb, ok_law_all_ranges F_law_all_ranges T G D_law_range g_law_all_ranges F_law_all_ranges.kp bb 40⟩
  have D_law_small : Df P w K mg base "_law_small" ["_law_field_here"] 106 spSmall := ⟨_, _, g_law_small, F_law_small.kp, F_law_small.bindsN fun _ _ _ _ _ _ us hl => match us, hl with | [_], _ => rfl, ok_law_small F_law_small T G D_law_all_ranges⟩
  have D_law_rules : Df P w K mg base "_law_rules" ["_law_purse_here"] 107 spRules := ⟨_, _, g_law_rules, F_law_rules.kp, F_law_rules.bindsN fun _ _ _ _ _ _ us hl => match us, hl with | [_], _ => rfl, ok_law_rules F_law_rules T G D_law_field D_law_small D_law_draw⟩
  have D_law_grain : Df P w K mg base "_law_grain" ["_law_purse_here"] 3 (spNum 0 1000000000) := ⟨_, _, g_law_grain, F_law_grain.kp, F_law_grain.bindsN fun _ _ _ _ _ _ us hl => match us, hl with | [_], _ => rfl, ok_law_grain F_law_grain T G D_law_draw⟩
  have D_law_place : Df P w K mg base "_law_place" ["_law_purse_here"] 3 spPlace := ⟨_, _, g_law_place, F_law_place.kp, F_law_place.bindsN fun _ _ _ _ _ _ us hl => match us, hl with | [_], _ => rfl, ok_law_place F_law_place T G D_law_draw⟩
  have D_law_area : Df P w K mg base "_law_area" ["_law_purse_here", "_law_wide", "_law_deep"] 4 spArea := ⟨_, _, g_law_area, F_law_area.kp, F_law_area.bindsN fun _ _ _ _ _ _ us hl => match us, hl with | [_, _, _], _ => rfl, ok_law_area F_law_area T G D_law_place D_law_draw⟩
  have D_law_simple : Df P w K mg base "_law_simple" ["_law_purse_here"] 4 spSimple := ⟨_, _, g_law_simple, F_law_simple.kp, F_law_simple.bindsN fun _ _ _ _ _ _ us hl => match us, hl with | [_], _ => rfl, ok_law_simple F_law_simple T G D_law_number D_law_draw⟩
  have D_law_same : Df P w K mg base "_law_same" ["_law_one", "_law_other", "_law_grain_here", "_law_spots"] 64 spSame := ⟨_, _, g_law_same, F_law_same.kp, F_law_same.bindsN fun _ _ _ _ _ _ us hl => match us, hl with | [_, _, _, _], _ => rfl, ok_law_same F_law_same T G D_value_at⟩
  have D_law_words_right : Df P w K mg base "_law_words_right" ["_law_one", "_law_other", "_law_grain_here", "_law_spots"] 65 spWords := ⟨_, _, g_law_words_right, F_law_words_right.kp, F_law_words_right.bindsN fun _ _ _ _ _ _ us hl => match us, hl with | [_, _, _, _], _ => rfl, ok_law_words_right F_law_words_right T G D_law_same⟩
  have D_law_steps_right : Df P w K mg base "_law_steps_right" ["_law_one", "_law_grain_here", "_law_spots"] 64 spStepsR := ⟨_, _, g_law_steps_right, F_law_steps_right.kp, F_law_steps_right.bindsN fun _ _ _ _ _ _ us hl => match us, hl with | [_, _, _], _ => rfl, ok_law_steps_right F_law_steps_right T G D_steps_of D_run_steps D_value_at⟩
  have D_law_down_right : Df P w K mg base "_law_down_right" ["_law_purse_here", "_law_one", "_law_grain_here", "_law_area_here"] 64 spDown := ⟨_, _, g_law_down_right, F_law_down_right.kp, F_law_down_right.bindsN fun _ _ _ _ _ _ us hl => match us, hl with | [_, _, _, _], _ => rfl, ok_law_down_right F_law_down_right T G D_bounds_of D_law_draw D_value_at⟩
  have D_law_noise_right : Df P w K mg base "_law_noise_right" ["_law_purse_here", "_law_grain_here", "_law_spots"] 64 spNoiseR := ⟨_, _, g_law_noise_right, F_law_noise_right.kp, F_law_noise_right.bindsN fun _ _ _ _ _ _ us hl => match us, hl with | [_, _, _], _ => rfl, ok_law_noise_right F_law_noise_right T G D_law_draw D_value_at D_knot⟩
  exact ok_law F_law T G D_law_purse D_law_rules D_law_simple D_law_grain D_law_place D_law_down_right D_law_noise_right D_law_words_right D_law_steps_right D_law_area
end L22
open PySem PySem.W PySem.Calls PyProof.Rows
theorem PySem.Challenge.cw_landweave_k22_whole_fields_holds : PySem.Challenge.rw_landweave_k22_whole_fields.Holds := by
  refine L22.Hd.pre fun w mg fa h Y G hmg => ?_
  obtain ⟨K, KX, c⟩ := Y
  obtain ⟨fd, hb, hF⟩ := L22.facts (P := (PySem.Challenge.rw_landweave_k22_whole_fields).prog) (w := w) KX G hmg c
  exact ⟨K, fd, L22.spLaw K, KX, hb, fun H a ns hl _ hS => ⟨a, ns, rfl, hS, fun _ => rfl⟩, hF⟩

