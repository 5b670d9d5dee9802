import PyProof.Rows.All
import Wide.All
import OpenK.AllK
import Wide.FinOn
import KE.KStateDown
import Lean
import HandS.ForMost
import HandS.More
import HandS.Defaults
import HandS.Wide
import HandS.WideBits
import HandS.IsInst
import HandS.Flow
import HandS.Head0
import HandS.Head1
import HandS.Head2
import HandS.HeadEnd
import HandS.HeadHook1
import HandS.HeadHook2
import KE.KExcIs
import KE.KExcInit
import HandS.ExcInit
import HandS.HeadHook4
import HandS.ExcOwn
import HandS.ExcValue
import PyProof.ReprRoads
import HandS.Ends
import HandS.Star
import HandS.TupAny
import HandS.WordsExc
import HandS.StrMore
import HandS.TupLen
import HandS.Conv
import HandS.Style
import HandS.Deep
import HandS.TryOnly
import PySem.Challenge.RW_landweave_k65_brushes_looked_at
import PyProof.DictUpdate
import PyProof.DictDisplay
import PyProof.DictTable
import PyProof.EvalArms
import HandS.Dict
import PyProof.DictMoreH
import PyProof.WalkInts
import HandS.List
import HandS.Exc
import HandS.Walk
import PyProof.ReprReads
import PyProof.StrLawsRepr
import PyProof.FitsInt
import KE.GoesEnum
import HandS.Zip
import PyProof.EqKinds
set_option Elab.async false
set_option linter.all false
set_option maxRecDepth 100000
set_option maxHeartbeats 4000000
/-! Words of my own over the hand layer: defs by name, readings rule by rule. -/
namespace Lw
open PySem PySem.Spec PyProof.Rows L2

/-! ### a def of the top by its name -/
structure Df (P : Program) (w : World) (K : PySem.W.Frag) (mg : Str → Option Value) (base : Heap) (x : Str) (ps : List Str) (k : Nat) (sp : Sp) : Prop where
  ex : ∃ (f : Addr) (fd : FuncData), mg x = some (.ref f) ∧ PySem.W.keepIn K (.ref f) = true ∧ Binds K fd ps [] ∧ FnOk P w K mg base CX0 k f fd ps sp
section
variable {X : Cx} {k : Nat} {ps ks : List Str} {sp : Sp} {x : Str} {p pos : Pos} {e : Expr} {es : List Expr} {kws : List Keyword} {t tk : TA} {g : List Value → List Value → List Value} {gV : List V → List V → List V}
theorem pe_df (D : Df X.prog X.w X.K X.mg X.base x ps k sp) (hr : Room k X.A) (ha : PA X (e :: es) t) (hg : Gl X x := by rfl) (hdb : (x == ("__debug__" : Str)) = false := by decide)
    (he : starEach (e :: es) X.env = (false, eval e X.env) :: starEach es X.env := by rfl) (hpl : (backTo pos (starEach es X.env)).any (·.1) = false := by rfl) :
    PE X (.Call (.Name x p) (e :: es) [] pos) (tCall sp [] E0 t) := by
  obtain ⟨f, fd, hm, hk, hb, F⟩ := D.ex
  exact pe_call F hr hg hm hk hb .nil pass0 ha hdb he hpl
theorem pe_df0 (D : Df X.prog X.w X.K X.mg X.base x ps k sp) (hr : Room k X.A) (hg : Gl X x := by rfl) (hdb : (x == ("__debug__" : Str)) = false := by decide) :
    PE X (.Call (.Name x p) [] [] pos) (tCall sp [] E0 tNil) := by
  obtain ⟨f, fd, hm, hk, hb, F⟩ := D.ex
  exact pe_call0 F hr hg hm hk hb .nil pass0 hdb
/-- f(k = v, ..) -/
theorem pe_callK0 {CX : CXT} {f : Addr} {fd : FuncData} {E : XK} (F : FnOk X.prog X.w X.K X.mg X.base CX k f fd ps sp) (hr : Room k X.A) (hg : Gl X x) (hm : X.mg x = some (.ref f)) (hk : PySem.W.keepIn X.K (.ref f) = true) (hb : KBinds X.K fd ps ks g gV) (hx : Passes CX X E)
    (hkw : PK X kws tk) (hall : (backToKw pos (keywordEach kws X.env)).all (·.1.isSome) = true := by rfl) (hks : (backToKw pos (keywordEach kws X.env)).filterMap (·.1) = ks := by rfl)
    (hdb : (x == ("__debug__" : Str)) = false := by decide)
    (hpl : ((backTo pos (starEach [] X.env)).any (·.1) || (backToKw pos (keywordEach kws X.env)).any (·.1.isNone)) = false := by rfl) :
    PE X (.Call (.Name x p) [] kws pos) (tCallK sp gV E tNil tk) := by
  refine ⟨fun pins s σ H Q I h => ?_⟩
  refine wpAny_Call_Name_kw (ld_glob I hg hm ?_ hdb)
  refine PySem.W.callWith_KW0 (h₀ := X.base) I.ok.mod.kin hk hall ?_ hpl
  refine thn (hkw.run pos pins s σ H _ I h) fun ws s2 ⟨zs, H2, I2, rz, q2⟩ => ⟨I2.kIn, ?_⟩
  rw [hks]
  exact run_fnk (us := []) (vs := []) F hr hb hx I2 .nil rz q2
/-- the same def by keywords -/
structure DfK (P : Program) (w : World) (K : PySem.W.Frag) (mg : Str → Option Value) (base : Heap) (x : Str) (ps ks : List Str) (gV : List V → List V → List V) (k : Nat) (sp : Sp) : Prop where
  ex : ∃ (f : Addr) (fd : FuncData) (g : List Value → List Value → List Value), mg x = some (.ref f) ∧ PySem.W.keepIn K (.ref f) = true ∧ KBinds K fd ps ks g gV ∧ FnOk P w K mg base CX0 k f fd ps sp
theorem pe_dfK0 (D : DfK X.prog X.w X.K X.mg X.base x ps ks gV k sp) (hr : Room k X.A) (hkw : PK X kws tk) (hg : Gl X x := by rfl)
    (hall : (backToKw pos (keywordEach kws X.env)).all (·.1.isSome) = true := by rfl) (hks : (backToKw pos (keywordEach kws X.env)).filterMap (·.1) = ks := by rfl)
    (hdb : (x == ("__debug__" : Str)) = false := by decide)
    (hpl : ((backTo pos (starEach [] X.env)).any (·.1) || (backToKw pos (keywordEach kws X.env)).any (·.1.isNone)) = false := by rfl) :
    PE X (.Call (.Name x p) [] kws pos) (tCallK sp gV E0 tNil tk) := by
  obtain ⟨f, fd, g, hm, hk, hb, F⟩ := D.ex
  exact pe_callK0 F hr hg hm hk hb pass0 hkw hall hks hdb hpl
theorem vals_rev : ∀ {zs : List V} {ws : List Value}, Vals zs ws → Vals zs.reverse ws.reverse
  | _, _, .nil => .nil
  | _, _, .cons r t => by
    rw [List.reverse_cons, List.reverse_cons]
    exact Vals.append (vals_rev t) (.cons r .nil)
/-- by keywords alone, in another order -/
def onlyK {α : Type} (g : List α → List α) : List α → List α → List α
  | [], ws => g ws
  | _ :: _, _ => []
theorem kb_of {K : PySem.W.Frag} {x qual : Str} {params : Arguments} {body : List Stmt} {scope : Scope} {kws : List (Str × V)} {f : Addr} {fd : FuncData} {ps ks : List Str} (g : {α : Type} → List α → List α) (F : FunD K x qual params body scope [] kws f fd) (hp : 0 < ps.length)
    (hl : ∀ ws : List Value, (g ws).length = ps.length → ws.length = ps.length) (hr : ∀ {zs : List V} {ws : List Value}, Vals zs ws → Vals (g zs) (g ws))
    (h : ∀ (kV doc pm : Value) (an : Option Addr) (cdv ct : Value) (ws : List Value), ws.length = ps.length → bindArgs (PySem.W.fnOf x qual params body scope .none kV doc pm an cdv ct) ⟨[], ks.zip ws⟩ = pure (ps.zip (g ws))) :
    KBinds K fd ps ks (onlyK g) (onlyK g) := by
  obtain ⟨oc, od, dV, kV, doc, pm, an, cdv, ct, osl, rfl, lk, hcd, hD, hK⟩ := F.ex
  rcases hD with ⟨_, rfl⟩ | ⟨e, _⟩
  · refine ⟨fun s us ws X e => ?_, fun {vs us zs ws} r1 r2 => ?_⟩
    · cases us with
      | nil => exact BindsTo.of_eq (h kV doc pm an cdv ct ws (hl ws e))
      | cons u us =>
        have z : (0 : Nat) = ps.length := e
        omega
    · cases r1 with
      | nil => exact hr r2
      | cons _ _ => exact .nil
  · exact absurd rfl e
/-! ### ** of a great base -/
def CPowW (i j : Int) : Prop := 0 ≤ j ∧ (Builtin.Int.intBits i : Int) * j ≤ 2 ^ 27
theorem op_powW : OpR X (binaryOp .Pow) (rI CPowW fun i j => .int (i ^ j.toNat)) := opI fun _ _ _ _ _ _ _ hc q => pow_int hc.1 hc.2 q
end

/-! ### rules whose reading names the written part itself (for the blocks of comprehensions) -/
section
variable {X : Cx} {K : PySem.W.Frag}
theorem ix_tupK (h : X.K = K := by rfl) : IxR X (rIxT K) := by subst h; exact ix_tup
theorem ix_listK (h : X.K = K := by rfl) : IxR X (rIxL K) := by subst h; exact ix_list
theorem sl_tupK (h : X.K = K := by rfl) : SlR X (rSlT K) := by subst h; exact sl_tup
theorem sl_listK (h : X.K = K := by rfl) : SlR X (rSlL K) := by subst h; exact sl_list
theorem call_lenK (h : X.K = K := by rfl) : CallR X (.builtin "len") (fun xs H Q => ∃ p ys, xs = [.ref p] ∧ (SqL K H p ys ∨ SqT K H p ys) ∧ Q (.int ys.length) H) := by subst h; exact call_len_seq
theorem call_isiK2 (h : X.K = K := by rfl) : CallR X (.builtin "isinstance") (rIsi K) := by subst h; exact call_isi
theorem op_inK (h : X.K = K := by rfl) : OpR X (compareOp .In) (rIn K false) := by subst h; exact op_in_seq
end
/-! ### readings -/
section
variable {σ σ' : L2.St} {H : Hp} {Q : VK} {v x y z : V} {ta tb tc te : TE} {r r' : R2} {i j : Int} {n : Nat} {D : Ends} {t u : TS} {c : TT} {K : PySem.W.Frag} {p : Addr} {xs : List V}
theorem g_var {m : Nat} (h : σ[m]? = some (some v)) (q : Q v H) : tVar m σ H Q := ⟨v, h, q⟩
theorem g_c (q : Q v H) : tC v σ H Q := q
theorem g_op (q : ta σ H fun x H1 => tb σ H1 fun y H2 => r x y H2 Q) : tOp r ta tb σ H Q := q
theorem g_un {r : V → Hp → VK → Prop} (q : ta σ H fun x H1 => r x H1 Q) : tUn r ta σ H Q := q
theorem g_U {g : Int → V} (q : Q (g i) H) : rU g (.int i) H Q := ⟨i, rfl, q⟩
theorem g_I0 {g : Int → Int → V} (q : Q (g i j) H) : rI0 g (.int i) (.int j) H Q := ⟨i, j, rfl, rfl, q⟩
theorem g_I {C : Int → Int → Prop} {g : Int → Int → V} (c : C i j) (q : Q (g i j) H) : rI C g (.int i) (.int j) H Q := ⟨i, j, rfl, rfl, c, q⟩
theorem g_eq (h : scal x y = true) (q : Q (.bl (decide (x = y))) H) : rEq x y H Q := ⟨h, q⟩
theorem g_ne (h : scal x y = true) (q : Q (.bl (!decide (x = y))) H) : rNe x y H Q := ⟨h, q⟩
theorem g_test {te : TE} {Q : Bool → Hp → Prop} (q : te σ H fun x H' => ∃ k, x = .bl k ∧ Q k H') : tTest te σ H Q := q
theorem g_B {te : TE} {Q : Bool → Hp → Prop} (q : te σ H fun x H' => ∃ k, x = .bl k ∧ Q k H') : tB te σ H Q := q
theorem g_bl {b : Bool} {P : Bool → Prop} (q : P b) : ∃ k, V.bl b = .bl k ∧ P k := ⟨b, rfl, q⟩
theorem g_and {t u : TT} {Q : Bool → Hp → Prop} (q : t σ H fun c H1 => if c = true then u σ H1 Q else Q false H1) : tAnd t u σ H Q := q
theorem g_or {t u : TT} {Q : Bool → Hp → Prop} (q : t σ H fun c H1 => if c = true then Q true H1 else u σ H1 Q) : tOr t u σ H Q := q
theorem g_not {t : TT} {Q : Bool → Hp → Prop} (q : t σ H fun c H1 => Q (!c) H1) : tNot t σ H Q := q
theorem g_andV (q : ta σ H fun x H1 => ∃ c, x = .bl c ∧ if c = true then tb σ H1 Q else Q (.bl false) H1) : tAndV ta tb σ H Q := q
theorem g_orV (q : ta σ H fun x H1 => ∃ c, x = .bl c ∧ if c = true then Q (.bl true) H1 else tb σ H1 Q) : tOrV ta tb σ H Q := q
theorem g_notV (q : ta σ H fun x H1 => ∃ c, x = .bl c ∧ Q (.bl (!c)) H1) : tNotV ta σ H Q := q
theorem g_if {t : TT} (q : t σ H fun c H1 => if c = true then ta σ H1 Q else tb σ H1 Q) : tIf t ta tb σ H Q := q
theorem g_chain (q : ta σ H fun x H1 => tb σ H1 fun y H2 => r x y H2 fun z H3 => ∃ k, z = .bl k ∧ (if k = true then tc σ H3 fun w' H4 => r' y w' H4 Q else Q (.bl false) H3)) : tChain r r' ta tb tc σ H Q := q
theorem g_seq (q : t { D with nx := u D } σ H) : tSeq t u D σ H := q
theorem g_next (q : D.nx σ H) : tNext D σ H := q
theorem g_asg {g : TG} (q : te σ H fun x H1 => g x σ H1 D.nx) : tAsg te g D σ H := q
theorem g_name {m : Nat} {Q : L2.St → Hp → Prop} (q : Q (σ.set m (some v)) H) : gName m v σ H Q := q
theorem g_nameN {m : Nat} {σ2 : L2.St} {Q : L2.St → Hp → Prop} (e : σ.set m (some v) = σ2) (q : Q σ2 H) : gName m v σ H Q := by
  subst e
  exact q
theorem g_cast {t : TS} {σ2 : L2.St} (e : σ = σ2) (q : t D σ2 H) : t D σ H := e ▸ q
theorem g_sub {s : TSet} {Q : L2.St → Hp → Prop} (q : ta σ H fun o H1 => tb σ H1 fun i H2 => s o i v H2 fun H3 => Q σ H3) : gSub ta tb s v σ H Q := q
theorem g_setL {Q : Hp → Prop} {m : Nat} (h : H p = some (.lst xs)) (hj : ixN xs.length i = some m) (q : Q (upd H p (.lst (xs.set m v)))) : rSetL (.ref p) (.int i) v H Q := ⟨p, xs, i, m, rfl, rfl, h, hj, q⟩
theorem g_par {i j : Nat} {ta : TA} (q : ta σ H fun vs H1 => ∃ v w, vs = [v, w] ∧ D.nx ((σ.set i (some v)).set j (some w)) H1) : tPar i j ta D σ H := q
theorem g_drop (q : te σ H fun _ H1 => D.nx σ H1) : tDrop te D σ H := q
theorem g_ret (q : te σ H D.rt) : tRet te D σ H := q
theorem g_retN (q : D.rt .non H) : tRetN D σ H := q
theorem g_ifS (q : c σ H fun b H1 => if b = true then t D σ H1 else u D σ H1) : tIfS c t u D σ H := q
theorem g_nil {Q : List V → Hp → Prop} (q : Q [] H) : tNil σ H Q := q
theorem g_cons {ts : TA} {Q : List V → Hp → Prop} (q : ta σ H fun x H1 => ts σ H1 fun xs H2 => Q (x :: xs) H2) : tCons ta ts σ H Q := q
theorem g_tup {ts : TA} (q : ts σ H fun xs H1 => xs.length ≤ sizeLine ∧ ∀ p, H1 p = none → Q (.ref p) (upd H1 p (.tup xs))) : tTup ts σ H Q := q
theorem g_lst {ts : TA} (q : ts σ H fun xs H1 => xs.length ≤ sizeLine ∧ ∀ p, H1 p = none → Q (.ref p) (upd H1 p (.lst xs))) : tLst ts σ H Q := q
theorem g_CB {f : List V → Hp → VK → Prop} {ts : TA} (q : ts σ H fun vs H1 => f vs H1 Q) : tCB f ts σ H Q := q
theorem g_call {sp : Sp} {E : XK} {ts : TA} (q : ts σ H fun vs H1 => sp vs H1 Q E) : tCall sp [] E ts σ H Q := by
  unfold tCall
  simp only [List.append_nil]
  exact q
theorem g_callK {sp : Sp} {E : XK} {gV : List V → List V → List V} {ts tk : TA} (q : ts σ H fun vs H1 => tk σ H1 fun zs H2 => sp (gV vs zs) H2 Q E) : tCallK sp gV E ts tk σ H Q := q
theorem g_bits (h : ta σ H fun x H1 => ∃ i, x = .int i ∧ Q (.int (Builtin.Int.intBits i : Nat)) H1) : tBits ta σ H Q := h
theorem g_int {P : Int → Prop} (q : P i) : ∃ j, V.int i = .int j ∧ P j := ⟨i, rfl, q⟩
theorem g_for {wi : TI} {g : TG} {tb : TS} (q : wi σ H fun J H1 => ∃ W : Nat → Nat → L2.St → Hp → Prop, (∃ m, W 0 m σ H1) ∧ ∀ i m σ H, W i m σ H →
      (J.stop i H ∧ D.nx σ H) ∨ (J.go i H ∧ ∃ N : L2.St → Hp → Prop, (∀ σ' H', N σ' H' → ∃ m', m' < m ∧ W (i + 1) m' σ' H') ∧ ∀ x H', J.yld i H x H' → g x σ H' fun σ2 H2 => tb { D with nx := N, ct := N, bk := D.nx } σ2 H2)) : tFor wi g tb D σ H := q
theorem g_rng1 {ts : TA} {R : It → Hp → Prop} (q : ts σ H fun vs H1 => ∃ j : Int, vs = [.int j] ∧ -(2 ^ 62) ≤ j ∧ j < 2 ^ 62 ∧ R (Itr 0 j.toNat) H1) : iRng1 ts σ H R := q
theorem g_ixL (h : SqL K H p xs) (ha : atI xs i = some v) (q : Q v H) : rIxL K (.ref p) (.int i) H Q := ⟨p, xs, i, v, rfl, rfl, h, ha, q⟩
theorem g_ixT (h : SqT K H p xs) (ha : atI xs i = some v) (q : Q v H) : rIxT K (.ref p) (.int i) H Q := ⟨p, xs, i, v, rfl, rfl, h, ha, q⟩
/-- a test that the facts leave open -/
theorem g_ite {c A B : Prop} [Decidable c] (h1 : c → A) (h2 : ¬ c → B) : if decide c = true then A else B := by
  by_cases h : c
  · rw [decide_eq_true h]; exact iteT (h1 h)
  · rw [decide_eq_false h]; exact iteF (h2 h)
theorem g_iteN {c A B : Prop} [Decidable c] (h1 : ¬ c → A) (h2 : c → B) : if (!decide c) = true then A else B := by
  by_cases h : c
  · rw [decide_eq_true h]; exact iteF (h2 h)
  · rw [decide_eq_false h]; exact iteT (h1 h)
theorem iteNT {A B : Prop} (h : B) : if (!true) = true then A else B := iteF h
theorem iteNF {A B : Prop} (h : A) : if (!false) = true then A else B := iteT h
theorem iteS {c A B : Prop} [Decidable c] (hc : c) (h : A) : if decide c = true then A else B := by
  rw [decide_eq_true hc]
  exact iteT h
theorem iteNo {c A B : Prop} [Decidable c] (hc : ¬ c) (h : B) : if decide c = true then A else B := by
  rw [decide_eq_false hc]
  exact iteF h
theorem iteSE {a b : Str} {A B : Prop} (h : a = b) (q : A) : if decide (V.str a = V.str b) = true then A else B := iteS (by rw [h]) q
theorem iteSN {a b : Str} {A B : Prop} (h : decide (a = b) = false) (q : B) : if decide (V.str a = V.str b) = true then A else B := iteNo (fun e => by cases e; simp at h) q
theorem g_dget {td ty : TE} (q : td σ H fun x H1 => ty σ H1 fun y H2 => ∃ a v, x = .ref a ∧ DGet H2 a y (some v) ∧ Q v H2) : tDGet td ty σ H Q := q
theorem g_dput {td ty tv : TE} (q : tv σ H fun v H1 => td σ H1 fun x H2 => ty σ H2 fun y H3 => ∃ a H4, x = .ref a ∧ DPut H3 a y v H4 ∧ D.nx σ H4) : sDPut td ty tv D σ H := q
theorem g_dnew (q : ∀ p, H p = none → Q (.ref p) (upd H p (.dK []))) : tDNewK σ H Q := q
theorem g_tupT {t : TGs} {Q : L2.St → Hp → Prop} {m : Nat} (h : SqT K H p xs) (hl : xs.length = m) (q : t xs σ H Q) : gTup K m t (.ref p) σ H Q := ⟨p, xs, rfl, h, hl, q⟩
theorem g_gcons {t : TG} {u : TGs} {Q : L2.St → Hp → Prop} (q : t v σ H fun σ' H' => u xs σ' H' Q) : gCons t u (v :: xs) σ H Q := ⟨v, xs, rfl, q⟩
theorem g_gnil {Q : L2.St → Hp → Prop} (q : Q σ H) : gNil [] σ H Q := ⟨rfl, q⟩
theorem g_itup {tl : TE} {R : It → Hp → Prop} (q : tl σ H fun x H1 => ∃ a, x = .ref a ∧ (∃ xs, SqT K H1 a xs) ∧ R (Itt K a) H1) : iTup K tl σ H R := q
theorem g_ilist {tl : TE} {R : It → Hp → Prop} (q : tl σ H fun x H1 => ∃ a, x = .ref a ∧ (∃ xs, SqL K H1 a xs) ∧ R (Itl K a) H1) : iList K tl σ H R := q
theorem g_sl {s : V → Option Int → Option Int → Hp → VK → Prop} {tl th : TO} (q : te σ H fun x H1 => tl σ H1 fun l H2 => th σ H2 fun u H3 => s x l u H3 Q) : tSl s te tl th σ H Q := q
theorem g_part {Q : Option Int → Hp → Prop} (q : te σ H fun x H1 => ∃ i, x = .int i ∧ Q (some i) H1) : tPart te σ H Q := q
theorem g_nopart {Q : Option Int → Hp → Prop} (q : Q none H) : tNoPart σ H Q := q
theorem g_slT {lo hi : Option Int} (h : SqT K H p xs) (hw : ¬ (HT.sIx xs.length 0 lo = 0 ∧ HT.sIx xs.length xs.length hi = xs.length)) (q : ∀ p', H p' = none → Q (.ref p') (upd H p' (.tup (cutV xs lo hi)))) : rSlT K (.ref p) lo hi H Q := ⟨p, xs, rfl, h, hw, q⟩
theorem g_slL {lo hi : Option Int} (h : SqL K H p xs) (q : ∀ p', H p' = none → Q (.ref p') (upd H p' (.lst (cutV xs lo hi)))) : rSlL K (.ref p) lo hi H Q := ⟨p, xs, rfl, h, q⟩
theorem g_cat {l b : Addr} {xs zs : List V} (h1 : H l = some (.lst xs)) (h2 : H b = some (.lst zs)) (hl : xs.length + zs.length ≤ sizeLine) (q : ∀ p', H p' = none → Q (.ref p') (upd H p' (.lst (xs ++ zs)))) : rCat (.ref l) (.ref b) H Q := ⟨l, b, xs, zs, rfl, rfl, h1, h2, hl, q⟩
theorem g_lc {wi : TI} {g : TG} {tt : TT} {vs : List Nat} (q : wi σ H fun J H1 => ∀ D, H1 D = none → ∃ W : Nat → Nat → Hp → Prop, (∃ m, W 0 m (upd H1 D (.lst []))) ∧ ∀ i m H, W i m H →
  (J.stop i H ∧ Q (.ref D) H) ∨ (J.go i H ∧ ∃ Nx : Hp → Prop, (∀ H', Nx H' → ∃ m', m' < m ∧ W (i + 1) m' H') ∧ ∀ x H', J.yld i H x H' → g x (wipe σ vs) H' fun σ2 H2 => wipe σ2 vs = wipe σ vs ∧ tt σ2 H2 fun b H3 =>
    if b = true then te σ2 H3 fun y H4 => ∃ acc, H4 D = some (.lst acc) ∧ acc.length < sizeLine ∧ Nx (upd H4 D (.lst (acc ++ [y]))) else Nx H3)) : tLc wi g tt te vs σ H Q := q
theorem g_bm {T : String} {r : V → List V → Hp → VK → Prop} {t : TA} (q : te σ H fun x H1 => tyV K T x H1 ∧ t σ H1 fun xs H2 => r x xs H2 Q) : tBM K T r te t σ H Q := q
theorem g_bm0 {T : String} {r : V → List V → Hp → VK → Prop} (q : te σ H fun x H1 => tyV K T x H1 ∧ r x [] H1 Q) : tBM0 K T r te σ H Q := q
theorem g_append {l : Addr} {y : V} (h : H l = some (.lst xs)) (hl : xs.length < sizeLine) (q : Q .non (upd H l (.lst (xs ++ [y])))) : rAppend (.ref l) [y] H Q := ⟨l, xs, y, rfl, rfl, h, hl, q⟩
theorem tyL {l : Addr} (h : H l = some (.lst xs)) : tyV K "list" (.ref l) H := .inl ⟨rfl, _, SqL.of h⟩
theorem g_max2 {i j : Int} {P : Int → Prop} (q : P (if j > i then j else i)) : ∃ i' j' : Int, [V.int i, V.int j] = [V.int i', V.int j'] ∧ P (if j' > i' then j' else i') := ⟨i, j, rfl, q⟩
end
theorem upd_self {H : Hp} {p : Addr} {o : HO} (h : H p = some o) : upd H p o = H := by
  funext b
  unfold upd
  by_cases e : b = p
  · rw [if_pos e, e, h]
  · rw [if_neg e]
/-- all but p is kept -/
def Keep (p : Addr) (H H' : Hp) : Prop := ∀ b u, b ≠ p → H b = some u → H' b = some u
theorem Keep.refl {p : Addr} {H : Hp} : Keep p H H := fun _ _ _ h => h
theorem Keep.trans {p : Addr} {H H1 H2 : Hp} (a : Keep p H H1) (b : Keep p H1 H2) : Keep p H H2 := fun c u n h => b c u n (a c u n h)
theorem Keep.put {p : Addr} {H H' : Hp} {o : HO} (a : Keep p H H') : Keep p H (upd H' p o) := fun c u n h => by
  rw [upd_ne n]
  exact a c u n h
theorem Keep.new {p x : Addr} {H H' : Hp} {o : HO} (a : Keep p H H') (hx : H' x = none) : Keep p H (upd H' x o) := fun c u n h => by
  rw [upd_ne (ne_of_none (a c u n h) hx)]
  exact a c u n h
theorem Keep.seq {K : PySem.W.Frag} {p a : Addr} {H H' : Hp} {xs : List V} (k : Keep p H H') (n : a ≠ p) (h : SqL K H a xs) : SqL K H' a xs := by
  rcases h with (h | ⟨o, h⟩) | h
  · exact .inl (.inl (k _ _ n h))
  · exact .inl (.inr ⟨o, k _ _ n h⟩)
  · exact .inr h
theorem Keep.seqN {K : PySem.W.Frag} {p a : Addr} {H H' : Hp} {xs : List V} (k : Keep p H H') (n : H p = none) (h : SqL K H a xs) : SqL K H' a xs := by
  rcases h with (h | ⟨o, h⟩) | h
  · exact .inl (.inl (k _ _ (ne_of_none h n) h))
  · exact .inl (.inr ⟨o, k _ _ (ne_of_none h n) h⟩)
  · exact .inr h
/-! ### numbers -/
theorem bits_le {n : Int} (h0 : 0 ≤ n) (h : n ≤ 1000000000000000000000000000000) : Builtin.Int.intBits n ≤ 100 := by
  have e : (2 : Nat) ^ 100 = 1267650600228229401496703205376 := by decide
  have hb : n.natAbs < 2 ^ 100 := by omega
  have l := PySem.Flt.log2_lt_of (by decide) hb
  unfold Builtin.Int.intBits
  split <;> omega
theorem div_ok {i n : Int} (h0 : 0 < n) (h : n ≤ 1000000000000000000000000000000) : CDivW i n := by
  have e : (2 : Nat) ^ 100 = 1267650600228229401496703205376 := by decide
  exact wide_div h0 (b := 100) (by omega) (by decide) (by decide)
theorem pow_ok {i j : Int} (h : decide (0 ≤ j ∧ (Builtin.Int.intBits i : Int) * j ≤ 2 ^ 27) = true) : CPowW i j := (show _ ∧ _ from of_decide_eq_true h)
end Lw

/-! The call of a class of errors that has its own __init__, whatever built-in class it stands over; keywords too. -/
namespace PySem
namespace EcP
open PySem.W PySem.Calls PyProof.Rows
section
variable {M : Model} {prog : Program} {w : World} {A : Around} {E : Value → Shared → Prop} {R : Result → Shared → Prop} {h : Heap} {g : Array GenState} {d : Drawn} {t : Nat} {os : OsState}
variable {nm q : Str} {C N : Addr} {bs bm bmB : List Value} {hdct : Bool} {sn : List Str} {sub : List Value} {ab : Bool} {col : Option Bool} {dd : Option Addr} {k0 k1 k2 k3 k5 : Option Value} {B newId initId : String} {rest : List Value} {kw : List (Str × Value)}
/-- what the tail of a class of errors must hold, that B's own maker makes its instances -/
structure Tail (bm : List Value) (B : String) : Prop where
  b : bm.contains (.type B) = true
  a : bm.contains (.type "AttributeError") = false
  n : bm.contains (.type "NameError") = false
theorem Tail.c {C : Addr} (T : Tail bm B) : ((Value.ref C :: bm).contains (.type B) = true ∧ (Value.ref C :: bm).contains (.type "AttributeError") = false) ∧ (Value.ref C :: bm).contains (.type "NameError") = false := by
  refine ⟨⟨?_, ?_⟩, ?_⟩ <;> rw [List.contains_cons]
  · rw [T.b, Bool.or_true]
  · rw [T.a]; rfl
  · rw [T.n]; rfl
theorem ask_new (F : ExcBaseFacts B newId initId bmB) (T : Tail bm B) {Q : Unit → Shared → Prop} (hC : h.get? C = some (excClassObj nm q C N bs bm hdct sn sub ab col dd k0 k1 k2 k3 k5 newId)) (hq : Q () ⟨h, g, d, t, os⟩) :
    wpAny M A (checkBuiltinCall newId ⟨.ref C :: rest, kw⟩) Q E ⟨h, g, d, t, os⟩ := by
  have c := (T.c (C := C)).1.1
  have st := F.noStar
  simp only [checkBuiltinCall, F.newKind, F.newSplit, F.newRow]
  repeat (first
    | refine wpAny_loadPart_at hC ?_
    | (refine wpAny_isSubtype_exc hC ?_; rw [c])
    | refine wpAny_staticBase_exc hC ?_
    | refine wpAny_madeBy_exc hC ?_
    | simp only [bne_self_eq_false, Bool.false_eq_true, if_false]
    | wp_step)
  exact hq
theorem run_new (F : ExcBaseFacts B newId initId bmB) (T : Tail bm B) (hC : h.get? C = some (excClassObj nm q C N bs bm hdct sn sub ab col dd k0 k1 k2 k3 k5 newId)) (hz : rest.length ≤ sizeLine)
    (hq : R (.ok (.ret (.ref (h.objs.size + 1)))) ⟨(h.push (kdv_tup rest)).push (HandSPX.excO C h.objs.size), g, d, t, os⟩) :
    codeAny (model prog w) A (.builtin newId ⟨.ref C :: rest, kw⟩) R ⟨h, g, d, t, os⟩ := by
  have en := F.ends
  obtain ⟨⟨cB, cA⟩, cN⟩ := T.c (C := C)
  refine codeAny_builtinAt F.entry ?_
  unfold Builtin.«BaseException.__new__»
  refine wpAt_bind ?_
  show wpAt _ _ _ (stack >>= _) _ _ _
  refine wpAt_bind (wpAt_stack fun p0 below0 => wpAt_of_wpAny ?_)
  wp_walk
  refine wpAt_of_wpAny ?_
  rw [F.owner]
  repeat (first
    | with_reducible refine wpAny_madeHere_exc F.canon hC ?_
    | with_reducible refine wpAny_loadPart_at hC ?_
    | (with_reducible refine wpAny_isSubtype_exc hC ?_; first | rw [cB] | rw [cA] | rw [cN])
    | wp_step)
  show R _ _
  rw [Heap.size_push]
  exact hq
theorem run_type (F : ExcBaseFacts B newId initId bmB) (T : Tail bm B) {fI : Addr} {Q : Fin → Shared → Prop} (hC : h.get? C = some (excClassObj nm q C N bs bm hdct sn sub ab col dd k0 k1 k2 k3 k5 newId))
    (hi : Looks (model prog w) h (typeLookup (.ref C) "__init__") (some (.ref fI))) (hb : ∀ x, Looks (model prog w) h (bindSpecial (.ref fI) x) (.ref fI, [x])) (hz : rest.length ≤ sizeLine)
    (hq : codeAny (model prog w) A (.call (.ref fI) ⟨.ref (h.objs.size + 1) :: rest, kw⟩)
      (fun r s' => match r with | .ok (.ret v) => v = .none ∧ Q (.done (.ret (.ref (h.objs.size + 1)))) s' | .ok _ => False | .error e => E e s') ⟨(h.push (kdv_tup rest)).push (HandSPX.excO C h.objs.size), g, d, t, os⟩) :
    wpAny (model prog w) A (Builtin.«type.__call__» ⟨.ref C :: rest, kw⟩) Q E ⟨h, g, d, t, os⟩ := by
  repeat (first
    | with_reducible refine wpAny_loadPart_at hC ?_
    | with_reducible refine wpAny_madeBy_exc hC ?_
    | wp_step)
  refine codeAny_call_builtin_code (Code.quiet_builtin _ F.quiet) (ask_new F T hC (run_new F T hC hz ?_))
  show wpAny _ _ _ _ _ _
  have up : ∀ b o, h.get? b = some o → ((h.push (kdv_tup rest)).push (HandSPX.excO C h.objs.size)).get? b = some o := fun b o e => Heap.get?_push_of_some _ (Heap.get?_push_of_some _ e)
  have hC1 := up _ _ hC
  have at1 : ((h.push (kdv_tup rest)).push (HandSPX.excO C h.objs.size)).get? (h.objs.size + 1) = some (HandSPX.excO C h.objs.size) := by heap_get
  have cC : (Value.ref C :: bm).contains (.ref C) = true := by simp
  have i1 := hi.keeps up
  have b1 := (hb (.ref (h.objs.size + 1))).keeps up
  unfold isInstance
  repeat (first
    | with_reducible refine wpAny_loadPart_at at1 ?_
    | (with_reducible refine wpAny_isSubtype_exc hC1 ?_; rw [cC])
    | wp_step)
  show wpAny _ _ (typeLookup (.ref C) _) _ _ _
  refine i1.at (wpAny_holding (wpAny_bind (b1.at (wpAny_bind (wpAny_call (codeAny_mono hq fun r s' z => ?_))))))
  rcases r with e | (v | _ | _ | _) <;> first | exact z | exact z.elim | skip
  obtain ⟨rfl, z⟩ := z
  first | exact wpAny_pure (wpAny_pure z) | (wp_walk; exact z)
theorem ask_type {Q : Unit → Shared → Prop} (hC : h.get? C = some (excClassObj nm q C N bs bm hdct sn sub ab col dd k0 k1 k2 k3 k5 newId)) (hq : Q () ⟨h, g, d, t, os⟩) :
    wpAny M A (checkBuiltinCall "type.__call__" ⟨.ref C :: rest, kw⟩) Q E ⟨h, g, d, t, os⟩ := by
  have ts := tc_sub
  have ty : (⟨h, g, d, t, os⟩ : Shared).TypeIs (.ref C) "type" := ⟨_, hC, rfl⟩
  simp only [checkBuiltinCall, tc_kind, tc_split]
  repeat (any_goals (first
    | assumption
    | with_reducible refine wpAny_loadPart_at hC ?_
    | with_reducible refine wpAny_onRaise ?_
    | with_reducible refine wpAny_map ?_
    | wp_step))
/-- C(.., k = ..), C with an __init__ of its own -/
theorem call_make (F : ExcBaseFacts B newId initId bmB) (T : Tail bm B) {fI : Addr} (hC : h.get? C = some (excClassObj nm q C N bs bm hdct sn sub ab col dd k0 k1 k2 k3 k5 newId))
    (hi : Looks (model prog w) h (typeLookup (.ref C) "__init__") (some (.ref fI))) (hb : ∀ x, Looks (model prog w) h (bindSpecial (.ref fI) x) (.ref fI, [x])) (hz : rest.length ≤ sizeLine)
    (hq : codeAny (model prog w) (A.under (.builtin "type.__call__" ⟨.ref C :: rest, kw⟩)) (.call (.ref fI) ⟨.ref (h.objs.size + 1) :: rest, kw⟩) (InitBack (h.objs.size + 1) R) ⟨(h.push (kdv_tup rest)).push (HandSPX.excO C h.objs.size), g, d, t, os⟩) :
    codeAny (model prog w) A (.call (.ref C) ⟨rest, kw⟩) R ⟨h, g, d, t, os⟩ := by
  have tl := tc_lookup
  have tb := tc_bind (.ref C)
  have ty : (⟨h, g, d, t, os⟩ : Shared).TypeIs (.ref C) "type" := ⟨_, hC, rfl⟩
  refine codeAny_of_tree ?_
  show wpAny _ _ (callAny (.ref C) _) _ _ _
  repeat (any_goals (first | assumption | with_reducible refine wpAny_loadPart_at hC ?_ | wp_step))
  refine ⟨rfl, codeAny_call_builtin_at (Code.quiet_builtin _ (by decide +kernel)) entry_typeCall (ask_type hC (run_type F T hC hi hb hz (codeAny_mono hq fun r s' z => ?_)))⟩
  rcases r with e | (v | _ | _ | _) <;> exact z
end
end EcP
end PySem

namespace PySem
namespace F
theorem store_KeyError : StoreFacts "KeyError" [.type "KeyError", .type "LookupError", .type "Exception", .type "BaseException", .type "object"] "object.__setattr__" "object" := ⟨by kernel_rfl,
  .of (owner := "object") (n := "__setattr__") (by rw [typeLookup_type, builtinLookup_eq_fast]; kernel_rfl) (by decide +kernel) (by decide +kernel) (by decide +kernel) (by first | exact .inl (by decide +kernel) | exact .inr (by decide +kernel))
    (by rw [isSubtype_type]; kernel_rfl), entry_object_sa, by decide +kernel, by decide +kernel, by decide +kernel, fun a b c => by unfold argsOk; kernel_rfl, fun self => by kernel_rfl⟩
end F
namespace EcP
open PySem.W PySem.Calls PyProof.Rows
def tailV : List Value := [.type "ValueError", .type "Exception", .type "BaseException", .type "object"]
def tailK : List Value := [.type "KeyError", .type "LookupError", .type "Exception", .type "BaseException", .type "object"]
/-- a built-in class of errors over which own classes may stand -/
structure Base (B newId : String) (bmT : List Value) : Prop where
  ex : ∃ initId bmB, ExcBaseFacts B newId initId bmB
  t : Tail bmT B
  s : ∃ T, StoreFacts T bmT "object.__setattr__" "object"
theorem baseV : Base "ValueError" "ValueError.__new__" tailV := ⟨⟨_, _, F.excBase_ValueError⟩, ⟨by decide +kernel, by decide +kernel, by decide +kernel⟩, ⟨_, F.store_ValueError⟩⟩
theorem baseK : Base "LookupError" "LookupError.__new__" tailK := ⟨⟨_, _, F.excBase_LookupError⟩, ⟨by decide +kernel, by decide +kernel, by decide +kernel⟩, ⟨_, F.store_KeyError⟩⟩
theorem Tail.of {bmT bm : List Value} {B : String} (T : Tail bmT B) (e : excTail bmT bm = true) : Tail bm B := ⟨(excTail_contains B _ e).trans T.b, (excTail_contains _ _ e).trans T.a, (excTail_contains _ _ e).trans T.n⟩

/-! ### self.f = v -/
section
open Builtin Builtin.ObjectAttr
variable {prog : Program} {w : World} {A : Around} {R : Result → Shared → Prop} {hp : Heap} {g : Array GenState} {d : Drawn} {t : Nat} {os : OsState}
variable {K : Frag} {name : Str} {tk : Tok} {v : Value} {x C : Addr} {fv : Array Value} {cd : ClassData} {T : String} {bmT : List Value}
theorem put_new (SF : StoreFacts T bmT "object.__setattr__" "object") (X : K.In hp) (hx : hp.get? x = some { cls := .ref C, data := .fields fv }) (ov : excOver K C bmT = true) (hcd : clsIn K C = some cd) (hh : cd.hasDict = true) (ha : findIn K (.ref C) name = some none)
    (hq : ∀ h' tk' dx, (∀ b o, b ≠ x → hp.get? b = some o → h'.get? b = some o) → hp.objs.size ≤ dx → dx ≠ x → h'.get? x = some { cls := .ref C, dict := some dx, data := .fields fv } → h'.Ns1 dx (fun y => if y = name then some v else none) → R (.ok (.ret .none)) ⟨h', g, d, tk', os⟩) :
    codeAny (model prog w) A (.call (.builtin "object.__setattr__") ⟨[.ref x, .str name tk, v], []⟩) R ⟨hp, g, d, t, os⟩ := by
  have I : InstAt hp x { cls := .ref C, data := .fields fv } C none := ⟨hx, rfl, rfl, trivial⟩
  have ne : x ≠ hp.objs.size := Nat.ne_of_lt (Heap.lt_size hx)
  have lc : Looks (model prog w) hp (classData C) cd := looks_clsIn X hcd
  refine osa_openX (r := none) SF X I ov (by unfold takerIn; rw [ha]; rfl) fun b => ?_
  show wpAny _ _ (storeInOwnDict (.ref x) (.ref C) (.str name tk) name v b) _ _ _
  obtain ⟨nm, bs, mro, ns, qn, hd, sn, sb, ab, col, del⟩ := cd
  dsimp only at hh
  subst hh
  unfold storeInOwnDict ownDictForStores
  repeat (first
    | with_reducible refine HandSPX.store_in_new ?_ ?_
    | with_reducible refine wpAny_loadPart_at hx ?_
    | with_reducible refine lc.at ?_
    | wp_step)
  · exact ⟨_, #[], _, (Heap.get?_update_ne _ _ _ _ ne.symm).trans (Heap.get?_push_at rfl rfl), rfl, fun e he => absurd he (by simp), fun _ => rfl⟩
  · intro h' tk' hn' hs
    have hx1 : (hp.push { cls := .type "dict", data := .dict #[] }).get? x = some { cls := .ref C, data := .fields fv } := Heap.get?_push_of_some _ hx
    exact hq h' tk' hp.objs.size (fun b o hb ho => (hs.2 b (Nat.ne_of_lt (Heap.lt_size ho))).trans ((Heap.get?_update_ne _ _ _ _ hb).trans (Heap.get?_push_of_some _ ho))) (Nat.le_refl _) ne.symm ((hs.2 x ne).trans (Heap.get?_update_self _ hx1 rfl)) hn'
theorem put_old {dx : Addr} {m0 : Str → Option Value} {nl : List Str} (SF : StoreFacts T bmT "object.__setattr__" "object") (X : K.In hp) (hx : hp.get? x = some { cls := .ref C, dict := some dx, data := .fields fv }) (hns : hp.Ns1 dx m0) (hw : Within m0 nl) (hz : nl.length ≤ 1000)
    (ov : excOver K C bmT = true) (hcd : clsIn K C = some cd) (hh : cd.hasDict = true) (ha : findIn K (.ref C) name = some none)
    (hq : ∀ h' tk', (∀ b o, b ≠ dx → hp.get? b = some o → h'.get? b = some o) → h'.Ns1 dx (fun y => if y = name then some v else m0 y) → R (.ok (.ret .none)) ⟨h', g, d, tk', os⟩) :
    codeAny (model prog w) A (.call (.builtin "object.__setattr__") ⟨[.ref x, .str name tk, v], []⟩) R ⟨hp, g, d, t, os⟩ := by
  obtain ⟨oD, esD, epD, hoD, hdD, _⟩ := hns.count hw
  have I : InstAt hp x { cls := .ref C, dict := some dx, data := .fields fv } C (some oD) := ⟨hx, rfl, rfl, hoD⟩
  have lc : Looks (model prog w) hp (classData C) cd := looks_clsIn X hcd
  refine osa_openX (r := none) SF X I ov (by unfold takerIn; rw [ha]; rfl) fun b => ?_
  show wpAny _ _ (storeInOwnDict (.ref x) (.ref C) (.str name tk) name v b) _ _ _
  obtain ⟨nm, bs, mro, ns, qn, hd, sn, sb, ab, col, del⟩ := cd
  dsimp only at hh
  subst hh
  unfold storeInOwnDict ownDictForStores
  repeat (first
    | with_reducible refine OEX.store_in_old hns hw hz ?_
    | with_reducible refine wpAny_loadPart_at hx ?_
    | with_reducible refine lc.at ?_
    | wp_step)
  exact fun h' tk' hn' hs => hq h' tk' (fun b o hb ho => (hs.2 b hb).trans ho) hn'
end
end EcP
end PySem

/-! Errors as values: made, written, their fields read, asked for their class. -/
namespace Ec
open PySem PySem.Spec PyProof.Rows L2

/-! ### what the written part says of an own class of errors -/
def Shape (K : PySem.W.Frag) (C : Addr) (bmT : List Value) (newId : String) : Prop :=
  ∃ nm q N bs bm sn sub ab col dd k0 k1 k2 k3 k5, K.lookup C = some (excClassObj nm q C N bs bm true sn sub ab col dd k0 k1 k2 k3 k5 newId) ∧ PySem.W.excTail bmT bm = true
def shapeB (K : PySem.W.Frag) (C : Addr) (bmT : List Value) (newId : String) : Bool := match K.lookup C with
  | some ⟨.type "type", _, .cls cd, sl⟩ => (match cd.mro, sl.toList with
    | .ref D :: bm, [_, _, _, _, some (.builtin n), _] => D == C && (n == newId && (cd.hasDict && (!cd.hasDel && PySem.W.excTail bmT bm)))
    | _, _ => false)
  | _ => false
theorem shape_ok {K : PySem.W.Frag} {C : Addr} {bmT : List Value} {newId : String} (h : shapeB K C bmT newId = true) : Shape K C bmT newId := by
  unfold shapeB at h
  split at h
  · rename_i dd cd sl hl
    split at h
    · rename_i D bm k0 k1 k2 k3 n k5 e1 e2
      obtain ⟨nm, bs, mro, ns, qn, hd, sn, sub, ab, col, hdel⟩ := cd
      obtain ⟨sll⟩ := sl
      simp only [Bool.and_eq_true, beq_iff_eq, Bool.not_eq_true'] at h e1 e2
      obtain ⟨rfl, rfl, rfl, rfl, hr⟩ := h
      subst e1
      subst e2
      exact ⟨nm, qn, ns, bs, bm, sn, sub, ab, col, dd, k0, k1, k2, k3, k5, hl, hr⟩
    · cases h
  · cases h
structure Own (K : PySem.W.Frag) (C : Addr) : Prop where
  maker : ∃ B newId bmT, PySem.EcP.Base B newId bmT ∧ Shape K C bmT newId
  sa : PySem.W.findIn K (.ref C) "__setattr__" = some (some (.builtin "object.__setattr__"))
  exC : PySem.W.subIn K (.ref C) (.type "BaseException") = some true
  tyC : PySem.W.typeIn K (.ref C) = some (.type "type")
  kC : PySem.W.keepIn K (.ref C) = true
  cl : (PySem.W.clsIn K C).isSome = true
  ga : PySem.W.findIn K (.ref C) "__getattribute__" = some (some (.builtin "BaseException.__getattribute__"))
  gg : PySem.W.findIn K (.ref C) "__getattr__" = some none
  ca : PySem.W.findIn K (.ref C) "__class__" = some (some (.builtin "object.__class__"))
  sp : PySem.W.specialIn K (.builtin "object.__class__") "__get__" = some (some (.builtin "getset_descriptor.__get__"))
  tk : PySem.W.takesIn K (.builtin "object.__class__") = some true
  mr : PySem.W.mroIn K C (.type "object") = some true
  hd : PySem.W.hasDictIn K C = true
def ownB (K : PySem.W.Frag) (C : Addr) : Bool := (shapeB K C PySem.EcP.tailV "ValueError.__new__" || shapeB K C PySem.EcP.tailK "LookupError.__new__") && (decide (PySem.W.findIn K (.ref C) "__setattr__" = some (some (.builtin "object.__setattr__"))) &&
  (decide (PySem.W.subIn K (.ref C) (.type "BaseException") = some true) && (decide (PySem.W.typeIn K (.ref C) = some (.type "type")) && (PySem.W.keepIn K (.ref C) && ((PySem.W.clsIn K C).isSome &&
  (decide (PySem.W.findIn K (.ref C) "__getattribute__" = some (some (.builtin "BaseException.__getattribute__"))) && (decide (PySem.W.findIn K (.ref C) "__getattr__" = some none) && (decide (PySem.W.findIn K (.ref C) "__class__" = some (some (.builtin "object.__class__"))) &&
  (decide (PySem.W.specialIn K (.builtin "object.__class__") "__get__" = some (some (.builtin "getset_descriptor.__get__"))) && (decide (PySem.W.takesIn K (.builtin "object.__class__") = some true) && (decide (PySem.W.mroIn K C (.type "object") = some true) && PySem.W.hasDictIn K C)))))))))))
theorem own_ok {K : PySem.W.Frag} {C : Addr} (h : ownB K C = true) : Own K C := by
  unfold ownB at h
  simp only [Bool.and_eq_true, Bool.or_eq_true, decide_eq_true_eq] at h
  obtain ⟨h1, h2, h3, h4, h5, h6, h7, h8, h9, h10, h11, h12, h13⟩ := h
  exact ⟨h1.elim (fun z => ⟨_, _, _, PySem.EcP.baseV, shape_ok z⟩) (fun z => ⟨_, _, _, PySem.EcP.baseK, shape_ok z⟩), h2, h3, h4, h5, h6, h7, h8, h9, h10, h11, h12, h13⟩

/-- at a: an error that was raised once, of this class, its dict d -/
def exg (a : Addr) (cls : Value) (d : Option Addr) : HO := .ext fun h => ∃ oe vs, h.get? a = some oe ∧ Zc cls d oe ∧ oe.data = .fields vs
theorem exg_ok {P : Program} {w : World} {H : Hp} {h : Heap} {a : Addr} {cls : Value} {d : Option Addr} {oe : Obj} {vs : Array Value} (e : h.get? a = some oe) (z : Zc cls d oe) (v : oe.data = .fields vs) : ObjOk P w H h a (exg a cls d) :=
  ⟨⟨oe, vs, e, z, v⟩, ⟨oe, e⟩, fun _ _ ⟨o, u, q, r⟩ k => ⟨o, u, k o q, r⟩⟩
theorem exg_at {P : Program} {w : World} {H : Hp} {h : Heap} {a C : Addr} {d : Option Addr} (hok : HOk P w H h) (he : H a = some (exg a (.ref C) d)) : ∃ oe, h.get? a = some oe ∧ oe.cls = .ref C ∧ oe.dict = d ∧ PySem.W.notCls oe = true := by
  have x : ObjOk P w H h a (.ext fun h => ∃ oe vs, h.get? a = some oe ∧ Zc (.ref C) d oe ∧ oe.data = .fields vs) := hok a _ he
  obtain ⟨oe, vs, e, z, v⟩ := x.1
  exact ⟨oe, e, z.1, z.2, by unfold PySem.W.notCls; rw [v] <;> rfl⟩
/-- at a: an error of the class at C, with these fields; made, or caught -/
inductive Exc (H : Hp) (a C : Addr) : List (Str × V) → Prop
  | bare (h : H a = some (exo a C none)) : Exc H a C []
  | dict {d : Addr} {fs : List (Str × V)} (h : H a = some (exo a C (some d))) (hd : H d = some (exd d fs)) : Exc H a C fs
  | heldB (h : H a = some (exg a (.ref C) none)) : Exc H a C []
  | heldD {d : Addr} {fs : List (Str × V)} (h : H a = some (exg a (.ref C) (some d))) (hd : H d = some (.xd fs)) : Exc H a C fs
theorem Exc.keep {H H' : Hp} {a C : Addr} {fs : List (Str × V)} (e : Exc H a C fs) (k : ∀ b u, H b = some u → H' b = some u) : Exc H' a C fs := by
  cases e with
  | bare h => exact .bare (k _ _ h)
  | dict h hd => exact .dict (k _ _ h) (k _ _ hd)
  | heldB h => exact .heldB (k _ _ h)
  | heldD h hd => exact .heldD (k _ _ h) (k _ _ hd)
theorem xd_at {P : Program} {w : World} {H : Hp} {h : Heap} {d : Addr} {fs : List (Str × V)} (hok : HOk P w H h) (e : H d = some (.xd fs)) : ∃ mA, h.Ns1 d mA ∧ ∀ f, RelO (fs.lookup f) (mA f) := by
  have x : ObjOk P w H h d (.xd fs) := hok d _ e
  exact x
theorem Exc.inst {P : Program} {w : World} {H : Hp} {h : Heap} {a C : Addr} {fs : List (Str × V)} (hok : HOk P w H h) (e : Exc H a C fs) : ∃ ox od, PySem.W.InstAt h a ox C od := by
  cases e with
  | bare q =>
    obtain ⟨t, ho⟩ := exo_at hok q
    exact ⟨_, none, ho, rfl, rfl, trivial⟩
  | dict q qd =>
    obtain ⟨t, ho⟩ := exo_at hok q
    obtain ⟨mA, hns, _⟩ := exd_at hok qd
    obtain ⟨o, hd, _⟩ := lookIn_ns hns
    exact ⟨_, some o, ho, rfl, rfl, hd⟩
  | heldB q =>
    obtain ⟨oe, ho, hc, hd, hn⟩ := exg_at hok q
    exact ⟨oe, none, ho, hc, hn, by rw [hd]; trivial⟩
  | heldD q qd =>
    obtain ⟨oe, ho, hc, hd, hn⟩ := exg_at hok q
    obtain ⟨mA, hns, _⟩ := xd_at hok qd
    obtain ⟨o, ho2, _⟩ := lookIn_ns hns
    exact ⟨oe, some o, ho, hc, hn, by rw [hd]; exact ho2⟩

/-! ### isinstance of such a value -/
def rIsX (K : PySem.W.Frag) : List V → Hp → VK → Prop := fun xs H Q => ∃ (a C : Addr) (fs : List (Str × V)) (c : V) (u : Value) (b : Bool), xs = [.ref a, c] ∧ Own K C ∧ Exc H a C fs ∧ ClsV c u ∧ PySem.W.kitOne K (.ref C) u = some b ∧ Q (.bl b) H
section
variable {X : Cx}
theorem call_isX : CallR X (.builtin "isinstance") (rIsX X.K) := by
  intro pins s σ H xs us Q I r h
  obtain ⟨a, C, fs, c, u, b, rfl, O, x, k, e, q⟩ := h
  obtain ⟨u1, u2, rfl, r1, r2⟩ := r.two
  cases (show u1 = Value.ref a from r1)
  have e2 := k.eq r2
  subst e2
  obtain ⟨ox, od, J⟩ := x.inst I.hok
  exact PySem.W.kia_one (PySem.W.kitx_exc O.cl O.ga O.gg O.exC O.ca O.sp O.tk O.mr) I.kIn J e (fun z => nomatch z) fun tk => ⟨.bl b, H, I.tok tk, rfl, q⟩
/-- isinstance of a plain value or of such an error -/
theorem call_isXi : CallR X (.builtin "isinstance") (fun xs H Q => rIsX X.K xs H Q ∨ rIsi X.K xs H Q) := fun pins s σ H xs us Q I r h => h.elim (call_isX pins s σ H xs us Q I r) (call_isi pins s σ H xs us Q I r)

/-! ### a field of such a value -/
def tFx (K : PySem.W.Frag) (f : Str) (te : TE) : TE := fun σ H Q => te σ H fun x H1 => ∃ (a C : Addr) (fs : List (Str × V)) (v : V), x = .ref a ∧ Own K C ∧ PySem.W.findIn K (.ref C) f = some none ∧ Exc H1 a C fs ∧ fs.lookup f = some v ∧ Q v H1
theorem pe_fx {e : Expr} {te : TE} {pos : Pos} {n : Str} (he : PE X e te) (hb : attributeBase e n X.env (eval e X.env) = eval e X.env := by rfl) :
    PE X (.Attribute e n pos) (tFx X.K n te) := by
  refine ⟨fun pins s σ H Q I h => attr_of hb (thn (he.run pins s σ H _ I h) fun u s1 hh => ?_)⟩
  obtain ⟨x, H1, I1, rx, a, C, fs, v, ex, O, hno, ee, l, q⟩ := hh
  subst ex
  obtain rfl : u = Value.ref a := rx
  have fin : ∀ {d : Addr} {mA : Str → Option Value} {oe : Obj}, s1.heap.get? a = some oe → oe.cls = .ref C → oe.dict = some d → PySem.W.notCls oe = true → s1.heap.Ns1 d mA → (∀ f, RelO (fs.lookup f) (mA f)) → wpAny (model X.prog X.w) X.A (getAttr (.ref a) n true) (EP X pins σ Q) X.xe s1 :=
    fun {d mA oe} ho hc hd hn hns hr => by
      obtain ⟨od, hod, hl⟩ := lookIn_ns hns
      obtain ⟨u, hu, ru⟩ := RelO.some_of (v := v) (o := mA n) (by rw [← l]; exact hr n)
      have J : PySem.W.InstAt s1.heap a oe C (some od) := ⟨ho, hc, hn, by rw [hd]; exact hod⟩
      exact HandSPX.exc_get I1.kIn J O.ga O.gg O.exC (PySem.W.findObj_own O.hd hno rfl (by rw [hl, hu])) (handed_of ru) ⟨v, H1, I1.tok _, ru, q⟩
  cases ee with
  | bare _ => cases l
  | heldB _ => cases l
  | dict ea ed =>
    obtain ⟨t1, ho⟩ := exo_at I1.hok ea
    obtain ⟨mA, hns, hr⟩ := exd_at I1.hok ed
    exact fin ho rfl rfl rfl hns hr
  | heldD ea ed =>
    obtain ⟨oe, ho, hc, hd, hn⟩ := exg_at I1.hok ea
    obtain ⟨mA, hns, hr⟩ := xd_at I1.hok ed
    exact fin ho hc hd hn hns hr

/-! ### self.f = y -/
variable {pins : List (Addr × Obj)} {σ : L2.St} {H : Hp} {s : Shared} {a C dx : Addr} {f : Str} {y : V} {u : Value} {fs : List (Str × V)} {Q : Unit → Shared → Prop} {E : Value → Shared → Prop} {A : Around}
theorem Own.cd {K : PySem.W.Frag} {C : Addr} (O : Own K C) : ∃ T bmT cd, StoreFacts T bmT "object.__setattr__" "object" ∧ PySem.W.excOver K C bmT = true ∧ PySem.W.clsIn K C = some cd ∧ cd.hasDict = true := by
  obtain ⟨B, newId, bmT, Bs, nm, q, N, bs, bm, sn, sub, ab, col, dd, k0, k1, k2, k3, k5, hC, ht⟩ := O.maker
  obtain ⟨T, SF⟩ := Bs.s
  have hcl : PySem.W.clsIn K C = some { name := nm, bases := bs, mro := .ref C :: bm, ns := N, qualname := q, hasDict := true, slotNames := sn, subclasses := sub, abstract := ab, collection := col, hasDel := false } := by unfold PySem.W.clsIn; rw [hC] <;> rfl
  refine ⟨T, bmT, _, SF, ?_, hcl, rfl⟩
  unfold PySem.W.excOver
  rw [hcl]
  show (C == C && PySem.W.excTail bmT bm) = true
  rw [ht, beq_self_eq_true] <;> rfl
/-- two tracked objects changed at once: the error, and the dict that it gets -/
theorem un_dict {h h' : Heap} {t1 : Addr} {o : HO} {fo : Obj} (hok : HOk X.prog X.w H h) (e : H a = some (exo a C none)) (n : h.objs.size ≤ dx) (ne : dx ≠ a) (k : ∀ b o, b ≠ a → h.get? b = some o → h'.get? b = some o) (hx : h'.get? a = some fo) :
    Un X.fs [] H (upd (upd H dx (exd dx fs)) a (exo a C (some dx))) h h' := by
  have hd : H dx = none := hok.fresh n
  have nd : ∀ {b : Addr} {o : Obj}, h.get? b = some o → b ≠ dx := fun {b o} q => Nat.ne_of_lt (Nat.lt_of_lt_of_le (Heap.lt_size q) n)
  have na : ∀ {b : Addr}, H b = none → b ≠ a := fun {b} q z => by rw [z, e] at q; cases q
  have low : ∀ {b : Addr} {v : HO}, H b = some v → b ≠ a → upd (upd H dx (exd dx fs)) a (exo a C (some dx)) b = some v := fun {b v} q z => by rw [upd_ne z, upd_ne (ne_of_none q hd)]; exact q
  refine ⟨fun b o q z _ _ => k b o (na z) q, fun b o q z _ _ => ⟨o.slots, k b o (na z) q⟩, fun b o q z _ => ?_, fun b o q _ => ?_, fun b xs q => low q (at_ne e q exo_tup), fun b o v q => low q (at_ne e q exo_frz), fun b ps q => ⟨#[], ?_⟩⟩
  · rw [upd_ne (na z), upd_ne (nd q)]
    exact z
  · by_cases hb : b = a
    · exact ⟨_, by rw [hb]; exact hx⟩
    · exact ⟨o, k b o hb q⟩
  · rw [low q (at_ne e q exo_tbl)]
    simp
theorem put_first (O : Own X.K C) (I : Inv X pins σ H s) (e : H a = some (exo a C none)) (hno : PySem.W.findIn X.K (.ref C) f = some none) (ry : RelV y u)
    (h : ∀ dx s', H dx = none → dx ≠ a → Inv X pins σ (upd (upd H dx (exd dx [(f, y)])) a (exo a C (some dx))) s' → Q () s') : wpAny (model X.prog X.w) A (setAttr (.ref a) f u) Q E s := by
  obtain ⟨T, bmT, cd, SF, ov, hcl, hh⟩ := O.cd
  obtain ⟨t1, ho⟩ := exo_at I.hok e
  obtain ⟨hp, g, d, t, os⟩ := s
  refine PySem.W.set_plain I.kIn (ox := { cls := .ref C, dict := none, data := .fields #[.ref t1, .none, .none, .none, .bool false, .none] }) (od := none) ⟨ho, rfl, rfl, trivial⟩ O.sa ?_
  refine PySem.EcP.put_new SF I.kIn ho ov hcl hh hno fun h' tk' dx k dn dne hx hn => ?_
  have hnd : H dx = none := I.hok.fresh dn
  refine h dx _ hnd dne (I.un (t' := tk') (un_dict (t1 := t1) (o := exd dx []) I.hok e dn dne k hx) fun b o q => ?_)
  by_cases hb : b = a
  · subst hb
    rw [upd_same] at q
    cases q
    exact exo_ok hx
  by_cases hd : b = dx
  · subst hd
    rw [upd_ne hb, upd_same] at q
    cases q
    exact exd_ok hn (relO_put (fs := []) ry fun g => True.intro)
  rw [upd_ne hb, upd_ne hd] at q
  refine (I.hok b o q).stay (fun c v hc z => k c v ?_ z) (fun c hc => ?_) fun c xs hc => ?_
  · rcases hc with rfl | hc
    · exact hb
    · exact at_ne e hc exo_own
  · rw [upd_ne (at_ne e hc exo_own), upd_ne (ne_of_none hc hnd)]
    exact hc
  · rw [upd_ne (at_ne e hc exo_tup), upd_ne (ne_of_none hc hnd)]
    exact hc
theorem put_more (O : Own X.K C) (I : Inv X pins σ H s) (e : H a = some (exo a C (some dx))) (ed : H dx = some (exd dx fs)) (hl : fs.length ≤ 900) (hno : PySem.W.findIn X.K (.ref C) f = some none) (ry : RelV y u)
    (h : ∀ s', Inv X pins σ (upd H dx (exd dx ((f, y) :: fs))) s' → Q () s') : wpAny (model X.prog X.w) A (setAttr (.ref a) f u) Q E s := by
  obtain ⟨T, bmT, cd, SF, ov, hcl, hh⟩ := O.cd
  obtain ⟨t1, ho⟩ := exo_at I.hok e
  obtain ⟨mA, hns, rel⟩ := exd_at I.hok ed
  have hw := within_of rel
  obtain ⟨hp, g, d, t, os⟩ := s
  obtain ⟨oD, _, _, hoD, _, _⟩ := hns.count hw
  refine PySem.W.set_plain I.kIn (ox := { cls := .ref C, dict := some dx, data := .fields #[.ref t1, .none, .none, .none, .bool false, .none] }) (od := some oD) ⟨ho, rfl, rfl, hoD⟩ O.sa ?_
  refine PySem.EcP.put_old SF I.kIn ho hns hw (by rw [List.length_map]; omega) ov hcl hh hno fun h' tk' k hn => ?_
  have hd : ∃ o, h'.get? dx = some o := by
    obtain ⟨o, _, _, e', _⟩ := hn
    exact ⟨o, e'⟩
  exact h _ (I.write (t' := tk') (x := dx) (e := dx) (o := exd dx ((f, y) :: fs)) (by rw [ed]; exact True.intro) (.inl rfl) k hd (exd_ok hn (relO_put ry rel)))
def tSt (K : PySem.W.Frag) (f : Str) (to te : TE) : TS := fun D σ H => te σ H fun y H1 => to σ H1 fun x H2 => ∃ a C : Addr, x = .ref a ∧ Own K C ∧ PySem.W.findIn K (.ref C) f = some none ∧
  ((H2 a = some (exo a C none) ∧ ∀ dx, H2 dx = none → dx ≠ a → D.nx σ (upd (upd H2 dx (exd dx [(f, y)])) a (exo a C (some dx)))) ∨
    ∃ (dx : Addr) (fs : List (Str × V)), H2 a = some (exo a C (some dx)) ∧ H2 dx = some (exd dx fs) ∧ fs.length ≤ 900 ∧ D.nx σ (upd H2 dx (exd dx ((f, y) :: fs))))
theorem ps_st {o e : Expr} {to te : TE} {f : Str} {p' pos : Pos} (ho : PE X o to) (he : PE X e te) (hs : swapsWith e (some (.Attribute o f p')) pos.line X.env = pure false := by rfl) : PS X (.Assign [.Attribute o f p'] e pos) (tSt X.K f to te) := by
  refine ⟨fun pins s σ H D I h => plainObj_wpAny_Assign_Attribute (thn (he.run pins s σ H _ I h) fun v s1 ⟨y, H1, I1, r1, q1⟩ => thn (ho.run pins s1 σ H1 _ I1 q1) fun u s2 ⟨x, H2, I2, r2, a, C, ex, O, hno, q⟩ => ?_) hs⟩
  subst ex
  obtain rfl : u = Value.ref a := r2
  rcases q with ⟨ea, q⟩ | ⟨dx, fs, ea, ed, hl, q⟩
  · exact put_first O I2 ea hno r1 fun dx s' n ne J => ⟨σ, _, J, q dx n ne⟩
  · exact put_more O I2 ea ed hl hno r1 fun s' J => ⟨σ, _, J, q⟩
end
end Ec

/-! Errors as values: the calls that make them. -/
namespace Ec
open PySem PySem.Spec PyProof.Rows L2
/-- the class at C has an __init__ of its own, at fI -/
structure Init (K : PySem.W.Frag) (C fI : Addr) : Prop where
  own : Own K C
  i : PySem.W.findIn K (.ref C) "__init__" = some (some (.ref fI))
  ty : PySem.W.typeIn K (.ref fI) = some (.type "function")
section
variable {X : Cx} {pins : List (Addr × Obj)} {σ : L2.St} {H : Hp} {s : Shared} {C fI : Addr} {fd : FuncData} {k : Nat} {ps ks : List Str} {sp : Sp} {Q : VK}
theorem make_at {us : List Value} {kw : List (Str × Value)} {args : Addr → List Value} {argV : Addr → List V} (N : Init X.K C fI) (F : FnOk X.prog X.w X.K X.mg X.base CX0 k fI fd ps sp) (hr : Room (k + 1) X.A) (I : Inv X pins σ H s) (hz : us.length ≤ sizeLine)
    (hb : ∀ (s : Shared) (a : Addr), X.K.In s.heap → (args a).length = ps.length → BindsTo s fd ⟨.ref a :: us, kw⟩ (ps.zip (args a))) (hv : ∀ a, Vals (argV a) (args a))
    (q : ∀ a, H a = none → sp (argV a) (upd H a (exo a C none)) (fun v H2 => v = .non ∧ Q (.ref a) H2) E0) : wpAny (model X.prog X.w) X.A (call (.ref C) us kw) (EP X pins σ Q) X.xe s := by
  obtain ⟨B, newId, bmT, Bs, nm, qn, Nn, bs, bm, sn, sub, ab, col, dd, k0, k1, k2, k3, k5, hC, ht⟩ := N.own.maker
  obtain ⟨initId, bmB, FB⟩ := Bs.ex
  obtain ⟨hp, g, dr, tk, os⟩ := s
  have hsz : hp.objs.size ≤ hp.objs.size + 1 := Nat.le_succ _
  have hn : H (hp.objs.size + 1) = none := I.hok.fresh hsz
  have hq := q (hp.objs.size + 1) hn
  have up : ∀ b o, hp.get? b = some o → ((hp.push (PySem.W.kdv_tup us)).push (PySem.HandSPX.excO C hp.objs.size)).get? b = some o := fun b o e => Heap.get?_push_of_some _ (Heap.get?_push_of_some _ e)
  have at1 : ((hp.push (PySem.W.kdv_tup us)).push (PySem.HandSPX.excO C hp.objs.size)).get? (hp.objs.size + 1) = some (PySem.HandSPX.excO C hp.objs.size) := by heap_get
  have I2 : Inv X pins σ (upd H (hp.objs.size + 1) (exo (hp.objs.size + 1) C none)) ⟨(hp.push (PySem.W.kdv_tup us)).push (PySem.HandSPX.excO C hp.objs.size), g, dr, tk, os⟩ := I.laid (t' := tk) (a := hp.objs.size + 1) (o := exo (hp.objs.size + 1) C none) up hsz (exo_ok at1)
  have hl : (args (hp.objs.size + 1)).length = ps.length := by rw [← (hv _).length]; exact F.len _ _ _ _ hq
  refine wpAny_call (PySem.EcP.call_make FB (Bs.t.of ht) (I.kIn _ _ hC) (PySem.W.looks_findIn I.kIn N.i) (fun x => PySem.W.bind_fn I.kIn x N.ty) hz (codeAny_mono (F.run _ X.stack _ _ ⟨Value.ref (hp.objs.size + 1) :: us, kw⟩ (args (hp.objs.size + 1)) _ _ E0 (hr.make C us kw) (I2.env0.make C us kw) (hb _ _ I2.kIn hl) (hv _) hq) fun r s' hq' => ?_))
  cases r with
  | error er => exact pass0 pins σ _ _ er s' I2 hq'
  | ok fl =>
    cases fl with
    | ret u =>
      obtain ⟨v, H2, J, rv, ev, q2⟩ := I2.after hq'
      subst ev
      exact ⟨rv, .ref (hp.objs.size + 1), H2, J, rfl, q2⟩
    | next => exact False.elim hq'
    | brk => exact False.elim hq'
    | cont => exact False.elim hq'
/-- a class without an __init__ of its own -/
structure Plain (K : PySem.W.Frag) (C : Addr) : Prop where
  own : Own K C
  e : PySem.W.excIn K C PySem.EcP.tailV "ValueError.__new__" = true
theorem make_plain {us : List Value} (N : Plain X.K C) (I : Inv X pins σ H s) (hz : us.length ≤ sizeLine) (q : ∀ a, H a = none → Q (.ref a) (upd H a (exo a C none))) : wpAny (model X.prog X.w) X.A (call (.ref C) us) (EP X pins σ Q) X.xe s := by
  obtain ⟨bm, N', nm, qn, bs, hdct, sn, sub, ab, col, dd, k0, k1, k2, k3, k5, mN, hC, hN, hni, T⟩ := exc_obj I.kIn N.e
  obtain ⟨hp, g, dr, tk, os⟩ := s
  refine wpAny_call_exc_subT F.excBase_ValueError T hC hN hni (fun h' a hm => ?_) hz
  have hn : H a = none := I.hok.gone hm.new
  obtain ⟨t, ht, _, _⟩ := hm.there
  exact ⟨.ref a, upd H a (exo a C none), I.laidN hm.keeps hm.new hn (exo_ok ht), rfl, q a hn⟩
end

/-! ### the rules -/
/-- C(e, ..), its own __init__ keeps sp -/
def tMkI (C : Addr) (sp : Sp) (dvs : List V) (t : TA) : TE := fun σ H Q => t σ H fun vs H1 => vs.length ≤ 1000 ∧ ∀ a, H1 a = none → sp (.ref a :: (vs ++ dvs)) (upd H1 a (exo a C none)) (fun v H2 => v = .non ∧ Q (.ref a) H2) E0
/-- C(k = e, ..) -/
def tMkK (C : Addr) (sp : Sp) (gV : List V → List V → List V) (tk : TA) : TE := fun σ H Q => tk σ H fun zs H1 => ∀ a, H1 a = none → sp (gV [.ref a] zs) (upd H1 a (exo a C none)) (fun v H2 => v = .non ∧ Q (.ref a) H2) E0
/-- C(e, ..), without an __init__ of its own -/
def tMkP (C : Addr) (t : TA) : TE := fun σ H Q => t σ H fun vs H1 => vs.length ≤ 1000 ∧ ∀ a, H1 a = none → Q (.ref a) (upd H1 a (exo a C none))
section
variable {X : Cx} {C fI : Addr} {fd : FuncData} {k : Nat} {ps ks : List Str} {sp : Sp} {ds : List Value} {dvs : List V} {x : Str} {p pos : Pos} {e : Expr} {es : List Expr} {kws : List Keyword} {t tk : TA} {g : List Value → List Value → List Value} {gV : List V → List V → List V}
theorem len_line {vs : List V} {us : List Value} (r : Vals vs us) (h : vs.length ≤ 1000) : us.length ≤ sizeLine := by
  rw [← Paired.length r, sizeLine_eq]
  omega
theorem pe_mkI (N : Init X.K C fI) (F : FnOk X.prog X.w X.K X.mg X.base CX0 k fI fd ps sp) (hr : Room (k + 1) X.A) (hb : Binds X.K fd ps ds) (hd : Vals dvs ds) (hm : X.mg x = some (.ref C)) (ha : PA X (e :: es) t) (hg : Gl X x := by rfl)
    (hdb : (x == ("__debug__" : Str)) = false := by decide) (he : starEach (e :: es) X.env = (false, eval e X.env) :: starEach es X.env := by rfl) (hpl : (backTo pos (starEach es X.env)).any (·.1) = false := by rfl) :
    PE X (.Call (.Name x p) (e :: es) [] pos) (tMkI C sp dvs t) := by
  refine ⟨fun pins s σ H Q I h => wpAny_Call_Name_kw (ld_glob I hg hm ?_ hdb)⟩
  refine PySem.W.callWith_K (h₀ := X.base) I.ok.mod.kin N.own.kC (thn (ha.run pos pins s σ H _ I h) fun us s1 ⟨vs, H1, I1, r1, hz, q1⟩ => ⟨I1.kIn, ?_⟩) he hpl
  exact make_at (args := fun a => .ref a :: (us ++ ds)) (argV := fun a => .ref a :: (vs ++ dvs)) N F hr I1 (len_line r1 hz) (fun s a K e => hb s (.ref a :: us) K e) (fun a => .cons rfl (r1.append hd)) q1
theorem pe_mkI0 (N : Init X.K C fI) (F : FnOk X.prog X.w X.K X.mg X.base CX0 k fI fd ps sp) (hr : Room (k + 1) X.A) (hb : Binds X.K fd ps ds) (hd : Vals dvs ds) (hm : X.mg x = some (.ref C)) (hg : Gl X x := by rfl) (hdb : (x == ("__debug__" : Str)) = false := by decide) :
    PE X (.Call (.Name x p) [] [] pos) (tMkI C sp dvs tNil) := by
  refine ⟨fun pins s σ H Q I h => wpAny_Call_Name_kw (ld_glob I hg hm ?_ hdb)⟩
  refine PySem.W.callWith_K0 I.kIn N.own.kC ?_
  obtain ⟨hz, q⟩ := h
  rw [List.nil_append] at q
  refine make_at (us := []) (args := fun a => .ref a :: ds) (argV := fun a => .ref a :: dvs) N F hr I (Nat.zero_le _) (fun s a K e => ?_) (fun a => .cons rfl hd) q
  have z := hb s [.ref a] K
  rw [show [Value.ref a] ++ ds = .ref a :: ds from rfl] at z
  exact z e
theorem pe_mkK (N : Init X.K C fI) (F : FnOk X.prog X.w X.K X.mg X.base CX0 k fI fd ps sp) (hr : Room (k + 1) X.A) (hb : KBinds X.K fd ps ks g gV) (hm : X.mg x = some (.ref C)) (hkw : PK X kws tk) (hg : Gl X x := by rfl)
    (hall : (backToKw pos (keywordEach kws X.env)).all (·.1.isSome) = true := by rfl) (hks : (backToKw pos (keywordEach kws X.env)).filterMap (·.1) = ks := by rfl) (hdb : (x == ("__debug__" : Str)) = false := by decide)
    (hpl : ((backTo pos (starEach [] X.env)).any (·.1) || (backToKw pos (keywordEach kws X.env)).any (·.1.isNone)) = false := by rfl) :
    PE X (.Call (.Name x p) [] kws pos) (tMkK C sp gV tk) := by
  refine ⟨fun pins s σ H Q I h => wpAny_Call_Name_kw (ld_glob I hg hm ?_ hdb)⟩
  refine PySem.W.callWith_KW0 (h₀ := X.base) I.ok.mod.kin N.own.kC hall ?_ hpl
  refine thn (hkw.run pos pins s σ H _ I h) fun ws s2 ⟨zs, H2, I2, rz, q2⟩ => ⟨I2.kIn, ?_⟩
  rw [hks]
  exact make_at (us := []) (kw := ks.zip ws) (args := fun a => g [.ref a] ws) (argV := fun a => gV [.ref a] zs) N F hr I2 (Nat.zero_le _) (fun s a K e => hb.to s [.ref a] ws K e) (fun a => hb.rel (.cons rfl .nil) rz) q2
theorem pe_mkP (N : Plain X.K C) (hm : X.mg x = some (.ref C)) (ha : PA X (e :: es) t) (hg : Gl X x := by rfl) (hdb : (x == ("__debug__" : Str)) = false := by decide)
    (he : starEach (e :: es) X.env = (false, eval e X.env) :: starEach es X.env := by rfl) (hpl : (backTo pos (starEach es X.env)).any (·.1) = false := by rfl) : PE X (.Call (.Name x p) (e :: es) [] pos) (tMkP C t) := by
  refine ⟨fun pins s σ H Q I h => wpAny_Call_Name_kw (ld_glob I hg hm ?_ hdb)⟩
  exact PySem.W.callWith_K (h₀ := X.base) I.ok.mod.kin N.own.kC (thn (ha.run pos pins s σ H _ I h) fun us s1 ⟨vs, H1, I1, r1, hz, q1⟩ => ⟨I1.kIn, make_plain N I1 (len_line r1 hz) q1⟩) he hpl
theorem pe_mkP0 (N : Plain X.K C) (hm : X.mg x = some (.ref C)) (hg : Gl X x := by rfl) (hdb : (x == ("__debug__" : Str)) = false := by decide) : PE X (.Call (.Name x p) [] [] pos) (tMkP C tNil) := by
  refine ⟨fun pins s σ H Q I h => wpAny_Call_Name_kw (ld_glob I hg hm ?_ hdb)⟩
  exact PySem.W.callWith_K0 I.kIn N.own.kC (make_plain (us := []) N I (Nat.zero_le _) h.2)
end
end Ec

/-! Calls by keywords of a def with defaults; what the head tells of a program's classes of errors. -/
namespace Ec
open PySem PySem.Spec PyProof.Rows L2
def grd {α : Type} (n m : Nat) (g : List α → List α → List α) (us ws : List α) : List α := if us.length = n ∧ ws.length = m then g us ws else []
theorem grd_eq {α : Type} {n m : Nat} {g : List α → List α → List α} {us ws : List α} (h : us.length = n) (h' : ws.length = m) : grd n m g us ws = g us ws := if_pos ⟨h, h'⟩
section
variable {K : PySem.W.Frag} {x qual : Str} {params : Arguments} {body : List Stmt} {scope : Scope} {dvs : List V} {kws : List (Str × V)} {f : Addr} {fd : FuncData} {ps ks : List Str}
/-- n values by place, m by keywords, the others from the defaults -/
theorem kb_dfl (G : {α : Type} → List α → List α → List α → List α) (n m : Nat) (F : FunD K x qual params body scope dvs kws f fd) (hd : dvs ≠ []) (hp : 0 < ps.length)
    (hr : ∀ {vs zs ds : List V} {us ws its : List Value}, Vals vs us → Vals zs ws → Vals ds its → Vals (G vs zs ds) (G us ws its))
    (h : ∀ (T : Addr) (kV doc pm : Value) (an : Option Addr) (cdv ct : Value) (us ws its : List Value), us.length = n → ws.length = m → its.length = dvs.length →
      ∃ k, bindArgs (PySem.W.fnOf x qual params body scope (.ref T) kV doc pm an cdv ct) ⟨us, ks.zip ws⟩ = seqItems? (.ref T) >>= k ∧ k (some its.toArray) = pure (ps.zip (G us ws its))) :
    ∃ g, KBinds K fd ps ks g (grd n m fun vs zs => G vs zs dvs) := by
  obtain ⟨oc, od, dV, kV, doc, pm, an, cdv, ct, osl, rfl, lk, hcd, hD, hK⟩ := F.ex
  rcases hD with ⟨e, _⟩ | ⟨_, T, o, its, mm, rfl, lT, oT, rT⟩
  · exact absurd e hd
  refine ⟨grd n m fun us ws => G us ws its, fun s us ws X hlen => ?_, fun {vs us zs ws} r1 r2 => ?_⟩
  · unfold grd at hlen ⊢
    by_cases c : us.length = n ∧ ws.length = m
    · rw [if_pos c] at hlen ⊢
      obtain ⟨k, e1, e2⟩ := h T kV doc pm an cdv ct us ws its c.1 c.2 rT.length.symm
      refine BindsTo.of_looks fun M => ?_
      rw [e1]
      exact looks_items X lT oT (.of_pure e2)
    · rw [if_neg c] at hlen
      have z : (0 : Nat) = ps.length := hlen
      omega
  · unfold grd
    rw [r1.length, r2.length]
    by_cases c : us.length = n ∧ ws.length = m
    · rw [if_pos c, if_pos c]
      exact hr r1 r2 rT
    · rw [if_neg c, if_neg c]
      exact .nil
end

/-! ### a program's classes of errors -/
/-- the classes: name, has it an __init__ of its own, its fields -/
abbrev Cl : Type := Str × Bool × List Str
abbrev cA (K : PySem.W.Frag) (x : Str) : Addr := He.ga K x
abbrev iA (K : PySem.W.Frag) (x : Str) : Addr := He.fAd K (x, some "__init__")
def clB (K : PySem.W.Frag) (c : Cl) : Bool := ownB K (cA K c.1) && ((if c.2.1 = true then decide (PySem.W.findIn K (.ref (cA K c.1)) "__init__" = some (some (.ref (iA K c.1)))) && decide (PySem.W.typeIn K (.ref (iA K c.1)) = some (.type "function")) else PySem.W.excIn K (cA K c.1) PySem.EcP.tailV "ValueError.__new__") &&
  c.2.2.all fun f => decide (PySem.W.findIn K (.ref (cA K c.1)) f = some none))
def kinB (K : PySem.W.Frag) (p : Str × Str × Bool) : Bool := decide (PySem.W.kitOne K (.ref (cA K p.1)) (.ref (cA K p.2.1)) = some p.2.2)
def kitB (K : PySem.W.Frag) (p : Str × String × Bool) : Bool := decide (PySem.W.kitOne K (.ref (cA K p.1)) (.type p.2.1) = some p.2.2)
def exB (cs : List Cl) (ks : List (Str × Str × Bool)) (bs : List (Str × String × Bool)) (K : PySem.W.Frag) : Bool := cs.all (clB K) && (ks.all (kinB K) && bs.all (kitB K))
structure Errs (cs : List Cl) (ks : List (Str × Str × Bool)) (bs : List (Str × String × Bool)) (K : PySem.W.Frag) : Prop where
  cl : ∀ c ∈ cs, clB K c = true
  kin : ∀ p ∈ ks, PySem.W.kitOne K (.ref (cA K p.1)) (.ref (cA K p.2.1)) = some p.2.2
  kit : ∀ p ∈ bs, PySem.W.kitOne K (.ref (cA K p.1)) (.type p.2.1) = some p.2.2
section
variable {cs : List Cl} {ks : List (Str × Str × Bool)} {bs : List (Str × String × Bool)} {K : PySem.W.Frag}
theorem errs_of (h : exB cs ks bs K = true) : Errs cs ks bs K := by
  unfold exB at h
  simp only [Bool.and_eq_true, List.all_eq_true] at h
  exact ⟨h.1, fun p hp => of_decide_eq_true (h.2.1 p hp), fun p hp => of_decide_eq_true (h.2.2 p hp)⟩
theorem Errs.own (E : Errs cs ks bs K) {x : Str} {b : Bool} {fs : List Str} (h : (x, b, fs) ∈ cs) : Own K (cA K x) := by
  have z := E.cl _ h
  unfold clB at z
  exact own_ok (Bool.and_eq_true_iff.mp z).1
theorem Errs.init (E : Errs cs ks bs K) {x : Str} {fs : List Str} (h : (x, true, fs) ∈ cs) : Init K (cA K x) (iA K x) := by
  have z := E.cl _ h
  unfold clB at z
  obtain ⟨z1, z⟩ := Bool.and_eq_true_iff.mp z
  obtain ⟨z2, _⟩ := Bool.and_eq_true_iff.mp z
  rw [if_pos rfl] at z2
  obtain ⟨z3, z4⟩ := Bool.and_eq_true_iff.mp z2
  exact ⟨own_ok z1, of_decide_eq_true z3, of_decide_eq_true z4⟩
theorem Errs.plain (E : Errs cs ks bs K) {x : Str} {fs : List Str} (h : (x, false, fs) ∈ cs) : Plain K (cA K x) := by
  have z := E.cl _ h
  unfold clB at z
  obtain ⟨z1, z⟩ := Bool.and_eq_true_iff.mp z
  obtain ⟨z2, _⟩ := Bool.and_eq_true_iff.mp z
  exact ⟨own_ok z1, z2⟩
theorem Errs.fld (E : Errs cs ks bs K) {x f : Str} {b : Bool} {fs : List Str} (h : (x, b, fs) ∈ cs) (hf : f ∈ fs) : PySem.W.findIn K (.ref (cA K x)) f = some none := by
  have z := E.cl _ h
  unfold clB at z
  obtain ⟨_, z⟩ := Bool.and_eq_true_iff.mp z
  obtain ⟨_, z⟩ := Bool.and_eq_true_iff.mp z
  exact of_decide_eq_true (List.all_eq_true.mp z f hf)
end
end Ec

/-! The law's def, run where no repr is under way around it: so repr of data is its text. -/
namespace Gd
open PySem PySem.Spec PyProof.Rows L2
/-- a def's promise where nothing that guards is under way around the call -/
structure FnG (P : Program) (w : World) (K : PySem.W.Frag) (mg : Str → Option Value) (base : Heap) (CX : CXT) (k : Nat) (f : Addr) (fd : FuncData) (ps : List Str) (sp : Sp) : Prop where
  ar : ∀ xs G Q E, sp xs G Q E → xs.length = ps.length
  go : ∀ (B : Around) (out : List Env) (t : Shared) (G : Hp) (as : Args) (us : List Value) (xs : List V) (Q : VK) (E : XK), B.guards = some [] → Room k B → Env0 P w K mg base B out t G → BindsTo t fd as (ps.zip us) → Vals xs us → sp xs G Q E →
    codeAny (model P w) B (.call (.ref f) as) (CR CX out P w G t Q E) t
theorem fnG_of {CX : CXT} {P : Program} {w : World} {K : PySem.W.Frag} {mg : Str → Option Value} {base : Heap} {k : Nat} {f : Addr} {x qu : Str} {pr : Arguments} {bd : List Stmt} {sc : Scope} {v1 v2 v3 v4 v5 v6 v7 : Value} {a1 a2 : Option Addr}
    {sl : Array (Option Value)} {N ps : List Str} {sp : Sp} (at_ : K.lookup f = some ⟨v7, a2, .func (PySem.W.fnOf x qu pr bd sc v1 v2 v3 v4 a1 v5 v6), sl⟩) (co : PySem.W.codeIn K v5 qu = true) (S : FnScope N ps sc) (ar : ∀ xs G Q E, sp xs G Q E → xs.length = ps.length)
    (body : ∀ (B : Around) (out : List Env) (t : Shared) (G : Hp) (xs : List V) (Q : VK) (E : XK), B.guards = some [] → Room k (B.deeper (envOfC qu sc t.heap.objs.size f v5)) → sp xs G Q E →
      ∃ rd, PSs (cxOf CX P w K mg base N qu sc f v5 B out t G E) bd rd ∧ rd { nx := fun _ G' => Q .non G', rt := Q } (start N xs) G) :
    FnG P w K mg base CX (k + 1) f (PySem.W.fnOf x qu pr bd sc v1 v2 v3 v4 a1 v5 v6) ps sp := by
  constructor
  · exact ar
  intro B out t G as us xs Q E gs room en bi rel pr0
  have n0 := ar _ _ _ _ pr0
  have inK : K.In t.heap := en.mod.kin.keeps fun a u z => (en.bs a u z).1
  have noL : t.heap.NoLimit := en.mod.nolimit.keeps fun a u z => (en.bs a u z).1
  have kinds : ∀ q ∈ ps.zip us, sc.names.lookup q.1 = some .local ∨ (sc.names.lookup q.1 = some .cell ∧ ((cellsFrom (t.heap.objs.size + 1) sc.names []).lookup q.1).isSome = true) := by
    rintro ⟨z, u⟩ hq
    rcases S.par z (List.of_mem_zip hq).1 with h | h
    · exact Or.inl h
    · exact Or.inr ⟨h, PySem.W.cellsFrom_some _ _ _ (Or.inl h)⟩
  refine codeAny_call_function room.depth (inK _ _ at_) rfl S.co S.gen rfl (PySem.W.codeRec_of inK co) (bi _ _ _ _ ?_)
  refine wpAny_newFunctionEnv_cells S.kind kinds fun en1 z1 t1 in1 => ?_
  subst z1
  refine ⟨noL.keeps in1.toInCall.keep, codeAny_func ?_⟩
  obtain ⟨rd, tm, hrd⟩ := body B out t G xs Q E gs (room.deeper _) pr0
  have J : Inv (cxOf CX P w K mg base N qu sc f v5 B out t G E) [] (start N xs) G t1 := inv_start S room.hd en n0 rel in1
  refine wpAny_mono (tm.run [] t1 (start N xs) G _ J hrd) (fun fl t2 end_ => ?_) fun _ _ z => z
  cases fl with
  | ret u =>
    obtain ⟨y, st, G2, J2, ry, hy⟩ := end_
    exact ⟨y, G2, J2.os, J2.bare, J2.base, J2.hok, ry, hy⟩
  | next =>
    obtain ⟨st, G2, J2, hy⟩ := end_
    exact ⟨V.non, G2, J2.os, J2.bare, J2.base, J2.hok, (rfl : Value.none = Value.none), hy⟩
  | brk =>
    obtain ⟨_, _, _, z⟩ := end_
    exact z.elim
  | cont =>
    obtain ⟨_, _, _, z⟩ := end_
    exact z.elim
theorem okG {CX : CXT} {P : Program} {w : World} {K : PySem.W.Frag} {mg : Str → Option Value} {base : Heap} {k : Nat} {x qu : Str} {pr : Arguments} {bd : List Stmt} {sc : Scope} {f : Addr} {fd : FuncData} {N ps : List Str} {sp : Sp} {dvs : List V} {kws : List (Str × V)} (F : FunD K x qu pr bd sc dvs kws f fd) (S : FnScope N ps sc)
    (ar : ∀ xs G Q E, sp xs G Q E → xs.length = ps.length)
    (body : ∀ (cdv : Value) (B : Around) (out : List Env) (t : Shared) (G : Hp) (xs : List V) (Q : VK) (E : XK), B.guards = some [] → Room k (B.deeper (envOfC qu sc t.heap.objs.size f cdv)) → sp xs G Q E →
      ∃ rd, PSs (cxOf CX P w K mg base N qu sc f cdv B out t G E) bd rd ∧ rd { nx := fun _ G' => Q .non G', rt := Q } (start N xs) G) : FnG P w K mg base CX (k + 1) f fd ps sp := by
  obtain ⟨_, _, _, _, _, _, _, cdv, _, _, rfl, at_, co, _, _⟩ := F.ex
  exact fnG_of at_ co S ar fun B out t G xs Q E gs room pr0 => body cdv B out t G xs Q E gs room pr0
/-- the call of the law behind the top -/
theorem callG {P : Program} {w : World} {K : PySem.W.Frag} {mg mb : Str → Option Value} {CX : CXT} {k : Nat} {f b0 : Addr} {fd : FuncData} {x : Str} {sp : Sp} {t : Shared} {us : List Value} {ks : List Int}
    (inK : K.In t.heap) (ns1 : t.heap.Ns mainGlobals mg) (ns2 : t.heap.Ns builtinsNs mb) (boot : ∀ z : Str, z ≠ "__name__" → mb z = bootBuiltins z) (noL : t.heap.NoLimit) (nog : t.gens = #[])
    (at_ : t.heap.get? b0 = some { cls := .type "list", data := .seq us.toArray }) (are : IntsAre us ks) (few : ks.length ≤ sizeLine) (room : Room k callerA)
    (F : ∀ base : Heap, K.In base → base.Ns mainGlobals mg → FnG P w K mg base CX k f fd [x] sp) (bi : ∀ (t : Shared) (u : Value), BindsTo t fd ⟨[u], []⟩ [(x, u)])
    (pr0 : ∀ G : Hp, Only G → SqL K G b0 (ks.map V.int) → sp [.ref b0] G (fun v _ => v = .bl true) fun _ _ _ => False)
    (noX : ∀ G e t', CX [] G t (fun _ _ _ => False) e t' → False) :
    codeAny (model P w) callerA (.call (.ref f) ⟨[.ref b0], []⟩) (fun r t' => r = .ok (.ret (.bool true)) ∧ OldK t.heap t'.heap ∧ t'.os = t.os ∧ AllBare t'.gens) t := by
  have rel := vals_ints are
  have many := are.length
  -- what is tracked: the script at most
  have main : ∀ G : Hp, Only G → SqL K G b0 (ks.map V.int) → HOk P w G t.heap → (∀ a, G a ≠ none → a = b0) → (G b0 ≠ none → K.lookup b0 = none) →
      codeAny (model P w) callerA (.call (.ref f) ⟨[.ref b0], []⟩) (fun r t' => r = .ok (.ret (.bool true)) ∧ OldK t.heap t'.heap ∧ t'.os = t.os ∧ AllBare t'.gens) t := by
    intro G oG sG okG oneG kG
    have there : ∀ {a : Addr} {u : Obj}, t.heap.get? a = some u → G a = none → (hidT t.heap G).get? a = some u := fun h1 h2 => hidT_get h1 h2
    have free : ∀ {a : Addr} {u : Obj} {es : Array DictEntry} {ep : Nat}, t.heap.get? a = some u → u.data = .dict es ep → G a = none := by
      intro a u es ep h1 h2
      rcases hG : G a with _ | y
      · rfl
      · obtain rfl : a = b0 := oneG a (by rw [hG]; simp)
        rw [at_] at h1
        cases h1
        have h3 : Data.seq us.toArray _ = Data.dict es ep := h2
        cases h3
    have keepN : ∀ {a : Addr} {m : Str → Option Value}, t.heap.Ns a m → (hidT t.heap G).Ns a m := by
      rintro a m ⟨u, es, ep, h1, h2, h3⟩
      exact ⟨u, es, ep, there h1 (free h1 h2), h2, h3⟩
    have inB : K.In (hidT t.heap G) := by
      intro a u h1
      refine there (inK a u h1) ?_
      rcases hG : G a with _ | y
      · rfl
      · obtain rfl : a = b0 := oneG a (by rw [hG]; simp)
        rw [kG (by rw [hG]; simp)] at h1
        cases h1
    have mo : Mod K mg (hidT t.heap G) := ⟨inB, keepN ns1, ⟨mb, keepN ns2, boot⟩, by obtain ⟨mc, h1, h2⟩ := noL; exact ⟨mc, keepN h1, h2⟩⟩
    have en : Env0 P w K mg (hidT t.heap G) callerA [] t G := ⟨rfl, mo, fun a u h => of_hidT h, Nat.le_of_eq (hidT_size _ _), True.intro, fun a h => absurd (show a ∈ ([] : List Addr) from h) List.not_mem_nil, okG, .of_eq nog⟩
    have run1 := (F _ inB (keepN ns1)).go callerA [] t G ⟨[.ref b0], []⟩ [.ref b0] [.ref b0] _ _ rfl room en (bi t (.ref b0)) (.cons rfl .nil) (pr0 G oG sG)
    refine codeAny_mono run1 fun r t' h => ?_
    rcases r with e | fl
    · exact (noX G e t' h).elim
    · cases fl with
      | next => exact (h : False).elim
      | brk => exact (h : False).elim
      | cont => exact (h : False).elim
      | ret u =>
        obtain ⟨y, G2, h1, h2, h3, h4, h5, h6⟩ := h
        obtain rfl : y = .bl true := h6
        obtain rfl : u = Value.bool true := h5
        refine ⟨rfl, OldK.of_keep fun a u h => ?_, h1, h2⟩
        rcases hG : G a with _ | y
        · exact h3.keep a u h hG (fun z => absurd (show a ∈ ([] : List Addr) from z) List.not_mem_nil) (by simp)
        · rcases oG a with z | ⟨oz, ys, z⟩
          · rw [hG] at z; cases z
          · obtain ⟨q1, _⟩ := okG a _ z
            obtain ⟨q2, _⟩ := h4 a _ (h3.frzs a oz _ z)
            rw [h] at q1
            cases q1
            exact q2
  rcases hk : K.lookup b0 with _ | u
  · refine main (fun a => if a = b0 then some (.frz { cls := .type "list", data := .seq us.toArray } (.lst (ks.map V.int))) else none) (fun a => ?_) (Or.inl (Or.inr ⟨{ cls := .type "list", data := .seq us.toArray }, if_pos rfl⟩)) (fun a u z => ?_) (fun a z => ?_) fun _ => hk
    · by_cases e : a = b0
      · exact Or.inr ⟨_, _, if_pos e⟩
      · exact Or.inl (if_neg e)
    · by_cases e : a = b0
      · have z2 := (if_pos e).symm.trans z
        cases z2
        subst e
        exact ⟨at_, by rw [List.length_map]; exact few, us, _, rel, at_⟩
      · have z2 := (if_neg e).symm.trans z
        cases z2
    · by_cases e : a = b0
      · exact e
      · exact absurd (if_neg e) z
  · -- the script is an object of the module's own
    have h1 := inK b0 u hk
    rw [at_] at h1
    cases h1
    refine main (fun _ => none) (fun _ => Or.inl rfl) (Or.inr ⟨_, us.toArray, _, hk, rfl, rfl, rfl, by rw [List.size_toArray, many]; exact few, by simpa using rel⟩) (fun a u z => nomatch (z : (none : Option HO) = some u)) (fun a z => absurd rfl z) fun z => absurd rfl z
/-- a law's end, with callG -/
theorem walk_ofG {l : PySem.W.OpenLaw} {n k : Nat} {q : Program} {loose : List Str} {XP : (Str → Option Value) → Heap → Prop} {YP : World → Heap → Prop} {d : DefRec} {CX : CXT} {x : Str}
    (hn : l.most = some n) (few : n ≤ sizeLine) (nod : d.params.defaults = []) (room : Room k callerA)
    (F : ∀ (w : World) (mg : Str → Option Value) (f : Addr) (h : Heap), YP w h → h.Ns mainGlobals mg → mg d.name = some (.ref f) →
      ∃ (K : PySem.W.Frag) (fd : FuncData) (sp : Sp), K.In h ∧ (∀ (t : Shared) (u : Value), BindsTo t fd ⟨[u], []⟩ [(x, u)]) ∧
        (∀ (G : Hp) (b0 : Addr) (ks : List Int), ks.length ≤ n → Only G → SqL K G b0 (ks.map V.int) → sp [.ref b0] G (fun v _ => v = .bl true) fun _ _ _ => False) ∧
        ∀ base : Heap, K.In base → base.Ns mainGlobals mg → FnG l.prog w K mg base CX k f fd [x] sp)
    (noX : ∀ (G : Hp) (t : Shared) (e : Value) (t' : Shared), CX [] G t (fun _ _ _ => False) e t' → False) :
    PySem.W.WalkO q loose XP YP l.row.toRowW d [] (fun f vs => PySem.call f vs) := by
  refine Att.attach_call hn nod fun w t0 t1 mg mb f ob _ _ _ b0 us ks Gr Y _ _ _ e1 e2 are le1 nog => ?_
  obtain ⟨K, fd, sp, inK, bi, pr0, F1⟩ := F w mg f _ Y Gr.T.g e1
  exact callG inK Gr.T.g Gr.T.b Gr.T.builtins Gr.T.nolimit nog e2 are (Nat.le_trans le1 few) room F1 bi (fun G o z => pr0 G b0 ks le1 o z) fun G e t' => noX G t1 e t'
/-- repr of data that stands in the heap -/
theorem call_reprD {X : Cx} (gs : X.A.guards = some []) (hu : X.A.units + 100 < cLine) : CallR X (.builtin "repr") (fun xs G Q => ∃ p d, xs = [.ref p] ∧ Dp X.K G (.ref p) d ∧ d.showable = true ∧ d.hasDict = false ∧ d.depth ≤ 60 ∧ d.shown.length ≤ sizeLine ∧ Q (.str d.shown) G) := by
  intro pins t σ G xs us Q I rel h
  obtain ⟨p, d, rfl, hd, h1, h2, h3, h4, hq⟩ := h
  obtain ⟨u, rfl, r1⟩ := vals1 rel
  obtain rfl : u = Value.ref p := r1
  obtain ⟨as, rd⟩ := Dp.reads I d _ _ hd rfl
  refine repr_of_reads' rd h1 (fun z => by rw [h2] at z; cases z) gs (by omega) (fun _ _ z => z) (fun h' u tk k => ?_) h4
  exact ⟨.str d.shown, G, I.kept k, ⟨_, rfl⟩, hq⟩
end Gd

/-! Dicts of the top, with text keys, whose values are tuples: told by names. -/
namespace Kt
open PySem PySem.Spec PyProof.Rows L2 Lw
/-- the dict at d: its keys have these tuples; none of the texts zs is a key -/
structure TabC (K : PySem.W.Frag) (w : World) (d : Addr) (kvs : List (Str × List He.Dv)) (zs : List Str) : Prop where
  kd : ∃ es n, KDict K w d es n
  at_ : ∀ q ∈ kvs, ∃ t, PySem.W.nsIn K d q.1 = some (some (.ref t)) ∧ ∀ H : Hp, SqT K H t (q.2.map (He.Dv.v K))
  no : ∀ z ∈ zs, PySem.W.nsIn K d z = some none
def tupAt (K : PySem.W.Frag) (r : Option (Option Value)) (vs : List He.Dv) : Bool := match r with
  | some (some (.ref t)) => (match K.lookup t with
    | some ⟨.type c, _, .seq its _, _⟩ => decide (c = "tuple") && (decide (its.size ≤ sizeLine) && He.relAll (vs.map (He.Dv.v K)) its.toList)
    | _ => false)
  | _ => false
def noAt (r : Option (Option Value)) : Bool := match r with
  | some none => true
  | _ => false
def tabB (K : PySem.W.Frag) (d : Addr) (kvs : List (Str × List He.Dv)) (zs : List Str) : Bool := kvs.all (fun q => tupAt K (PySem.W.nsIn K d q.1) q.2) && zs.all fun z => noAt (PySem.W.nsIn K d z)
theorem noAt_ok {r : Option (Option Value)} (h : noAt r = true) : r = some none := by
  unfold noAt at h
  split at h
  · rfl
  · cases h
theorem tupAt_ok {K : PySem.W.Frag} {r : Option (Option Value)} {vs : List He.Dv} (h : tupAt K r vs = true) : ∃ t, r = some (some (.ref t)) ∧ ∀ H : Hp, SqT K H t (vs.map (He.Dv.v K)) := by
  unfold tupAt at h
  split at h
  · rename_i t
    refine ⟨t, rfl, fun H => ?_⟩
    split at h
    · rename_i c od its n sl q
      obtain ⟨e1, h2⟩ := He.ba h
      obtain ⟨e2, e3⟩ := He.ba h2
      obtain rfl : c = "tuple" := of_decide_eq_true e1
      exact .inr ⟨_, its, n, q, rfl, rfl, of_decide_eq_true e2, He.relAll_ok e3⟩
    · cases h
  · cases h
theorem tab_of {K : PySem.W.Frag} {w : World} {d : Addr} {kvs : List (Str × List He.Dv)} {zs : List Str} (k : ∃ es n, KDict K w d es n) (h : tabB K d kvs zs = true) : TabC K w d kvs zs := by
  obtain ⟨h1, h2⟩ := He.ba h
  exact ⟨k, fun q hq => tupAt_ok (List.all_eq_true.mp h1 q hq), fun z hz => noAt_ok (List.all_eq_true.mp h2 z hz)⟩
/-- d[key] -/
def rIxD (X : Cx) (d : Addr) : R2 := fun x y H Q => ∃ (z : Str) (t : Addr), x = .ref d ∧ y = .str z ∧ PySem.W.nsIn X.K d z = some (some (.ref t)) ∧ Q (.ref t) H
theorem ix_kd {X : Cx} {d : Addr} (D : ∃ es n, KDict X.K X.w d es n) : IxR X (rIxD X d) := by
  intro value slice pins s σ H x y v u Q I rx ry h hs
  obtain ⟨es, n, D⟩ := D
  obtain ⟨z, t, rfl, rfl, e, q⟩ := h
  cases rx
  obtain ⟨tk, rfl⟩ := ry
  exact subscriptTail_builtinR (x := .ref t) (kd_type D I) PySem.F.slot_dict_getitem.lookup
    (wpAny_getItem_of (PySem.strKind_is X.prog X.w z tk) (PySem.W.mapOf_K (prog := X.prog) I.kIn D.at_ D.lit) (PySem.W.find_K D.at_ e) ⟨rfl, .ref t, H, I.tok _, rfl, q⟩) hs
/-- word not in d -/
def rNoD (X : Cx) (d : Addr) : R2 := fun x y H Q => ∃ (z : Str) (r : Option Value), x = .str z ∧ y = .ref d ∧ PySem.W.nsIn X.K d z = some r ∧ Q (.bl (!r.isSome)) H
theorem op_notIn {X : Cx} {d : Addr} (D : ∃ es n, KDict X.K X.w d es n) : OpR X (compareOp .NotIn) (rNoD X d) := by
  obtain ⟨es, n, D⟩ := D
  exact op_notIn_kd D
theorem pa_starK {X : Cx} {K : PySem.W.Frag} {e : Expr} {es : List Expr} {te : TE} {t : TA} {p : Pos} (he : PE X e te) (hr : PA X es t) (h : X.K = K := by rfl) (hs : starEach (.Starred e p :: es) X.env = (true, eval e X.env) :: starEach es X.env := by rfl) : PA X (.Starred e p :: es) (StX.tStar K te t) := by
  subst h
  exact StX.pa_star he hr hs
theorem g_star {K : PySem.W.Frag} {te : TE} {t : TA} {σ : L2.St} {H : Hp} {Q : List V → Hp → Prop} (q : te σ H fun x H1 => ∃ p xs, x = V.ref p ∧ (SqT K H1 p xs ∨ SqL K H1 p xs) ∧ t σ H1 fun ys H2 => Q (xs ++ ys) H2) : StX.tStar K te t σ H Q := q
end Kt

namespace L65
open PySem PySem.Spec PyProof.Rows L2
open Ec
def top (i : Nat) : Stmt := PySem.Challenge.pw_landweave_k65_brushes_looked_at.main.body.getD i (.Pass ⟨0, 0, 0, 0⟩)
-- ahead
def meth (s : Stmt) (i : Nat) : Stmt := match s with
  | .ClassDef _ _ _ b _ _ _ _ _ _ _ => b.getD i (.Pass ⟨0, 0, 0, 0⟩)
  | _ => .Pass ⟨0, 0, 0, 0⟩
abbrev iS_NoBrush : Stmt := meth (top 2) 0
def csK : List Cl := [("NoBrush", true, ["path", "why"])]
def kinsK : List (Str × Str × Bool) := [("NoBrush", "NoBrush", true), ("NoBrush", "LandError", true)]
-- ahead end
abbrev s_is_from : Stmt := top 4
abbrev s_box_around : Stmt := top 6
abbrev s_weighed : Stmt := top 17
abbrev s_rows_of : Stmt := top 15
abbrev s_things_of : Stmt := top 16
abbrev s_must_brush : Stmt := top 14
abbrev s_sums : Stmt := top 21
abbrev s_moved_marks : Stmt := top 22
abbrev s_around_marks : Stmt := top 23
abbrev s_reach_of_rows : Stmt := top 19
abbrev s_reach_of_row : Stmt := top 20
abbrev s_reach_of : Stmt := top 18
abbrev s_law_mixed : Stmt := top 25
abbrev s_law_purse : Stmt := top 26
abbrev s_law_draw : Stmt := top 27
abbrev s_law_rows : Stmt := top 29
abbrev s_law_counts : Stmt := top 31
abbrev s_law_brush : Stmt := top 30
abbrev s_law_hull : Stmt := top 32
abbrev s_law_reached : Stmt := top 33
abbrev s_law_is_whole : Stmt := top 34
abbrev s_law_spans : Stmt := top 35
abbrev s_law_fault : Stmt := top 37
abbrev s_law_row_fault : Stmt := top 36
abbrev s_law_first : Stmt := top 38
abbrev s_law_told : Stmt := top 39
abbrev s_law_bent_row : Stmt := top 40
abbrev s_law_bent : Stmt := top 41
abbrev s_law_great_right : Stmt := top 42
abbrev s_law : Stmt := top 43
namespace Hd
/-! ### the head: facts by names, the run -/
def dd_is_from : He.DefD := ⟨("is_from", none), "is_from", "is_from", defArgs s_is_from, defBody s_is_from, defScope s_is_from, [], []⟩
def dd_box_around : He.DefD := ⟨("box_around", none), "box_around", "box_around", defArgs s_box_around, defBody s_box_around, defScope s_box_around, [], []⟩
def dd_must_brush : He.DefD := ⟨("must_brush", none), "must_brush", "must_brush", defArgs s_must_brush, defBody s_must_brush, defScope s_must_brush, [], []⟩
def dd_rows_of : He.DefD := ⟨("rows_of", none), "rows_of", "rows_of", defArgs s_rows_of, defBody s_rows_of, defScope s_rows_of, [], []⟩
def dd_things_of : He.DefD := ⟨("things_of", none), "things_of", "things_of", defArgs s_things_of, defBody s_things_of, defScope s_things_of, [], []⟩
def dd_weighed : He.DefD := ⟨("weighed", none), "weighed", "weighed", defArgs s_weighed, defBody s_weighed, defScope s_weighed, [], []⟩
def dd_reach_of : He.DefD := ⟨("reach_of", none), "reach_of", "reach_of", defArgs s_reach_of, defBody s_reach_of, defScope s_reach_of, [], []⟩
def dd_reach_of_rows : He.DefD := ⟨("reach_of_rows", none), "reach_of_rows", "reach_of_rows", defArgs s_reach_of_rows, defBody s_reach_of_rows, defScope s_reach_of_rows, [], []⟩
def dd_reach_of_row : He.DefD := ⟨("reach_of_row", none), "reach_of_row", "reach_of_row", defArgs s_reach_of_row, defBody s_reach_of_row, defScope s_reach_of_row, [], []⟩
def dd_sums : He.DefD := ⟨("sums", none), "sums", "sums", defArgs s_sums, defBody s_sums, defScope s_sums, [], []⟩
def dd_moved_marks : He.DefD := ⟨("moved_marks", none), "moved_marks", "moved_marks", defArgs s_moved_marks, defBody s_moved_marks, defScope s_moved_marks, [], []⟩
def dd_around_marks : He.DefD := ⟨("around_marks", none), "around_marks", "around_marks", defArgs s_around_marks, defBody s_around_marks, defScope s_around_marks, [], []⟩
def dd_law_mixed : He.DefD := ⟨("_law_mixed", none), "_law_mixed", "_law_mixed", defArgs s_law_mixed, defBody s_law_mixed, defScope s_law_mixed, [], []⟩
def dd_law_purse : He.DefD := ⟨("_law_purse", none), "_law_purse", "_law_purse", defArgs s_law_purse, defBody s_law_purse, defScope s_law_purse, [], []⟩
def dd_law_draw : He.DefD := ⟨("_law_draw", none), "_law_draw", "_law_draw", defArgs s_law_draw, defBody s_law_draw, defScope s_law_draw, [], []⟩
def dd_law_rows : He.DefD := ⟨("_law_rows", none), "_law_rows", "_law_rows", defArgs s_law_rows, defBody s_law_rows, defScope s_law_rows, [], []⟩
def dd_law_brush : He.DefD := ⟨("_law_brush", none), "_law_brush", "_law_brush", defArgs s_law_brush, defBody s_law_brush, defScope s_law_brush, [], []⟩
def dd_law_counts : He.DefD := ⟨("_law_counts", none), "_law_counts", "_law_counts", defArgs s_law_counts, defBody s_law_counts, defScope s_law_counts, [], []⟩
def dd_law_hull : He.DefD := ⟨("_law_hull", none), "_law_hull", "_law_hull", defArgs s_law_hull, defBody s_law_hull, defScope s_law_hull, [], []⟩
def dd_law_reached : He.DefD := ⟨("_law_reached", none), "_law_reached", "_law_reached", defArgs s_law_reached, defBody s_law_reached, defScope s_law_reached, [], []⟩
def dd_law_is_whole : He.DefD := ⟨("_law_is_whole", none), "_law_is_whole", "_law_is_whole", defArgs s_law_is_whole, defBody s_law_is_whole, defScope s_law_is_whole, [], []⟩
def dd_law_spans : He.DefD := ⟨("_law_spans", none), "_law_spans", "_law_spans", defArgs s_law_spans, defBody s_law_spans, defScope s_law_spans, [], []⟩
def dd_law_row_fault : He.DefD := ⟨("_law_row_fault", none), "_law_row_fault", "_law_row_fault", defArgs s_law_row_fault, defBody s_law_row_fault, defScope s_law_row_fault, [], []⟩
def dd_law_fault : He.DefD := ⟨("_law_fault", none), "_law_fault", "_law_fault", defArgs s_law_fault, defBody s_law_fault, defScope s_law_fault, [], []⟩
def dd_law_first : He.DefD := ⟨("_law_first", none), "_law_first", "_law_first", defArgs s_law_first, defBody s_law_first, defScope s_law_first, [], []⟩
def dd_law_told : He.DefD := ⟨("_law_told", none), "_law_told", "_law_told", defArgs s_law_told, defBody s_law_told, defScope s_law_told, [], []⟩
def dd_law_bent_row : He.DefD := ⟨("_law_bent_row", none), "_law_bent_row", "_law_bent_row", defArgs s_law_bent_row, defBody s_law_bent_row, defScope s_law_bent_row, [], []⟩
def dd_law_bent : He.DefD := ⟨("_law_bent", none), "_law_bent", "_law_bent", defArgs s_law_bent, defBody s_law_bent, defScope s_law_bent, [], []⟩
def dd_law_great_right : He.DefD := ⟨("_law_great_right", none), "_law_great_right", "_law_great_right", defArgs s_law_great_right, defBody s_law_great_right, defScope s_law_great_right, [], []⟩
def dd_law : He.DefD := ⟨("law", none), "law", "law", defArgs s_law, defBody s_law, defScope s_law, [], []⟩
def dd_ini_NoBrush : He.DefD := ⟨("NoBrush", some "__init__"), "__init__", "NoBrush.__init__", defArgs iS_NoBrush, defBody iS_NoBrush, defScope iS_NoBrush, [.adr (He.dflAt ("NoBrush", some "__init__") 0), .str ""], []⟩
def fn : List He.DefD := [dd_is_from, dd_box_around, dd_must_brush, dd_rows_of, dd_things_of, dd_weighed, dd_reach_of, dd_reach_of_rows, dd_reach_of_row, dd_sums, dd_moved_marks, dd_around_marks, dd_law_mixed, dd_law_purse, dd_law_draw, dd_law_rows, dd_law_brush, dd_law_counts, dd_law_hull, dd_law_reached, dd_law_is_whole, dd_law_spans, dd_law_row_fault, dd_law_fault, dd_law_first, dd_law_told, dd_law_bent_row, dd_law_bent, dd_law_great_right, dd_law, dd_ini_NoBrush]
def fa : List He.Fa := [.glo "is_from", .glo "box_around", .glo "must_brush", .glo "rows_of", .glo "things_of", .glo "weighed", .glo "reach_of", .glo "reach_of_rows", .glo "reach_of_row", .glo "sums", .glo "moved_marks", .glo "around_marks", .glo "_law_mixed", .glo "_law_purse", .glo "_law_draw", .glo "_law_rows", .glo "_law_brush", .glo "_law_counts", .glo "_law_hull", .glo "_law_reached", .glo "_law_is_whole", .glo "_law_spans", .glo "_law_row_fault", .glo "_law_fault", .glo "_law_first", .glo "_law_told", .glo "_law_bent_row", .glo "_law_bent", .glo "_law_great_right", .glo "law", .free "isinstance", .free "int", .free "bool", .free "min", .free "max", .free "list", .free "enumerate", .free "tuple", .free "str", .free "len", .free "zip", .free "sum", .free "range", .free "repr", .int "MOST_MARKS" (60), .int "MOST_ROWS" (2000), .glo "MARKS", .glo "HERE", .glo "NoBrush", .glo "LandError", .glo "SHAPES", .glo "NUMBERS"]
def tabs : List He.Tab := [(fun K => He.ga K "SHAPES", ["move", "mark", "often", "if"]), (fun K => He.ga K "NUMBERS", ["offset", "side", "figures", "count"])]
def loose : List Str := (["LandError", "NoBrush", "is_from", "box_around", "MOST_MARKS", "MOST_ROWS", "MARKS", "HERE", "SHAPES", "NUMBERS", "must_brush", "rows_of", "things_of", "weighed", "reach_of", "reach_of_rows", "reach_of_row", "sums", "moved_marks", "around_marks", "_law_mixed", "_law_purse", "_law_draw", "_law_order", "_law_rows", "_law_brush", "_law_counts", "_law_hull", "_law_reached", "_law_is_whole"] : List Str) ++ (["_law_spans", "_law_row_fault", "_law_fault", "_law_first", "_law_told", "_law_bent_row", "_law_bent", "_law_great_right"] : List Str)
abbrev R : PySem.W.OpenRow := PySem.W.OpenLaw.row PySem.Challenge.rw_landweave_k65_brushes_looked_at
def ex (K : PySem.W.Frag) : Bool := He.tupB K "MARKS" [.str "set", .str "raise", .str "least", .str "most"] && (He.tupB K "HERE" [.int (0), .int (0), .int (0), .int (0)] && (exB csK kinsK [] K && (decide (PySem.W.exmOne K (.ref (cA K "NoBrush")) (.ref (cA K "LandError")) = some true) && (decide (PySem.W.kitOne K (.type "NoneType") (.ref (cA K "NoBrush")) = some false) && (shapeB K (cA K "NoBrush") PySem.EcP.tailV "ValueError.__new__" && (Kt.tabB K (He.ga K "SHAPES") [("move", [.str "offset", .str "offset"]), ("mark", [.str "word", .str "side", .str "side", .str "figures"]), ("often", [.str "count", .str "rows"]), ("if", [.str "figures", .str "rows", .str "rows"])] ["Move"] && (Kt.tabB K (He.ga K "NUMBERS") [("offset", [.int (-100), .int (100)]), ("side", [.int (1), .int (50)]), ("figures", [.int (-999999999), .int (999999999)]), ("count", [.int (0), .int (20)])] [] && (true))))))))
abbrev hk : PySem.W.Hook := He.hookX 4 fa fn tabs [] ex
def ob (s : PySem.W.SharedT) : He.AlX := He.obsX 4 fa fn tabs [] ex (HandSHeadRun.getT s)
theorem ob_eq (s : PySem.W.SharedT) : ob s = hk.obs s.abs := He.obsX_eq (HandSHeadRun.getT_eq s)
theorem run_f (w : World) : HandSHeadRun.RunEq R (PySem.W.view R.prog [43]) hk ob 30000 loose (w.withFollow "special-get-raises" false) := by
  intro os
  kernel_rfl
theorem run_t (w : World) : HandSHeadRun.RunEq R (PySem.W.view R.prog [43]) hk ob 30000 loose (w.withFollow "special-get-raises" true) := by
  intro os
  kernel_rfl
theorem run (w : World) : HandSHeadRun.RunEq R (PySem.W.view R.prog [43]) hk ob 30000 loose w := PySem.W.byRow2 "special-get-raises" run_f run_t w
open PySem.W in
theorem pre (F : ∀ (w : World) (mg : Str → Option Value) (fa : Addr) (h : Heap), hk.says w h → h.Ns mainGlobals mg → mg ("law" : Str) = some (.ref fa) →
      ∃ (K : PySem.W.Frag) (fd : FuncData) (sp : Sp), K.In h ∧ (∀ (s : Shared) (u : Value), BindsTo s fd ⟨[u], []⟩ [("_law_script", u)]) ∧
        (∀ (H : Hp) (a : Addr) (ns : List Int), ns.length ≤ 63 → Only H → SqL K H a (ns.map V.int) → sp [.ref a] H (fun v _ => v = .bl true) fun _ _ _ => False) ∧
        ∀ base : Heap, K.In base → base.Ns mainGlobals mg → Gd.FnG (PySem.Challenge.rw_landweave_k65_brushes_looked_at).prog w K mg base L2.CX0 60 fa fd ["_law_script"] sp) : PySem.Challenge.rw_landweave_k65_brushes_looked_at.Holds := by
  w_on; o_law
  refine HandSHeadRun.head_any (r := R) (q := PySem.W.view R.prog [43]) (H := hk) (ob := ob) (M := 30000) (loose := loose) (d := HandSHeadRun.topDef R.prog 43) (kwd := []) ob_eq
    (by kernel_rfl) (fun s => by kernel_rfl) run (by kernel_rfl) (by kernel_rfl) (by kernel_rfl) (by rfl) (by first | assumption | decide +kernel) (by decide +kernel) ⟨rfl, rfl, rfl, rfl, rfl, by decide +kernel⟩ ?hw ?hc
  case hw => w_witness2
  case hc =>
    refine Gd.walk_ofG (l := PySem.Challenge.rw_landweave_k65_brushes_looked_at) (n := 63) (k := 60) (x := "_law_script") (CX := L2.CX0) rfl (by decide) (by kernel_rfl) ⟨rfl, by decide, by decide⟩ ?F (fun _ _ _ _ z => z)
    intro w mg fa h Y G hmg0
    have e : (HandSHeadRun.topDef R.prog 43).name = ("law" : PySem.Str) := by kernel_rfl
    exact F w mg fa h Y G (e ▸ hmg0)
end Hd
end L65

/-! Fields as plain data: with names (Fd), without (Ex); values, sizes. -/
namespace Fm
open PySem
/-! ### knots -/
def kA (seed salt : Int) : Int := (seed + 48271 * salt + 7) % 2147483647
def kB (a i : Int) : Int := (a * a + 69621 * i + 1) % 2147483629
def kC (b j : Int) : Int := (b * b + 16807 * j + 1) % 2147483587
def kD (c : Int) : Int := (c * c + c) % 2147483579 % 65536
def knotL (seed salt i j : Int) : Int := kD (kC (kB (kA seed salt) i) j)
theorem knot_in (a b c d : Int) : 0 ≤ knotL a b c d ∧ knotL a b c d < 65536 := by
  unfold knotL kD
  omega
theorem knot_mul (a b c d : Int) : -(2 ^ 64) < knotL a b c d ∧ knotL a b c d < 2 ^ 64 := by
  have := knot_in a b c d
  omega
theorem log_pow {l : Int} (h0 : 0 ≤ l) (h8 : l ≤ 8) : ∃ S : Int, (1 : Int) * 2 ^ l.toNat = S ∧ (2 : Int) ^ l.toNat = S ∧ 0 < S ∧ S ≤ 256 ∧ 0 < S * S ∧ S * S ≤ 65536 := by
  rcases (show l = 0 ∨ l = 1 ∨ l = 2 ∨ l = 3 ∨ l = 4 ∨ l = 5 ∨ l = 6 ∨ l = 7 ∨ l = 8 by omega) with rfl | rfl | rfl | rfl | rfl | rfl | rfl | rfl | rfl <;>
    exact ⟨_, rfl, by decide, by decide, by decide, by decide, by decide⟩
/-! ### fields -/
inductive W2 where
  | plus | less | times | least | most
  deriving DecidableEq
def W2.word : W2 → Str
  | .plus => "plus" | .less => "less" | .times => "times" | .least => "least" | .most => "most"
def isW2 (s : Str) : Bool := decide (s = "plus") || (decide (s = "less") || (decide (s = "times") || (decide (s = "least") || decide (s = "most"))))
theorem word_ne {s : Str} (h : isW2 s = false) (w : W2) : decide (w.word = s) = false := by
  refine decide_eq_false fun e => ?_
  subst e
  revert h
  cases w <;> decide +kernel
def W2.op : W2 → Int → Int → Int
  | .plus, a, b => a + b
  | .less, a, b => a - b
  | .times, a, b => a * b
  | .least, a, b => if b < a then b else a
  | .most, a, b => if b > a then b else a
/-- a field without names -/
inductive Ex where
  | whole (n : Int) | px | pz | noise (s l : Int) | two (w : W2) (a b : Ex) | over (a : Ex) (n : Int) | bel (a b c d : Ex) | shift (dx dz : Int) (a : Ex)
/-- a field as it is written -/
inductive Fd where
  | whole (n : Int) | px | pz | noise (s l : Int) | two (w : W2) (a b : Fd) | over (a : Fd) (n : Int) | bel (a b c d : Fd) | shift (dx dz : Int) (a : Fd) | lt (x : Str) (a b : Fd) | nm (x : Str)
abbrev Env := List (Str × Ex)
def look : Env → Str → Ex
  | [], _ => .whole 0
  | (y, e) :: r, x => if x = y then e else look r x
def expand : Fd → Env → Ex
  | .whole n, _ => .whole n
  | .px, _ => .px
  | .pz, _ => .pz
  | .noise s l, _ => .noise s l
  | .two w a b, r => .two w (expand a r) (expand b r)
  | .over a n, r => .over (expand a r) n
  | .bel a b c d, r => .bel (expand a r) (expand b r) (expand c r) (expand d r)
  | .shift dx dz a, r => .shift dx dz (expand a r)
  | .lt x a b, r => expand b ((x, expand a r) :: r)
  | .nm x, r => look r x
/-- all names are bound -/
def Bnd : Fd → List Str → Prop
  | .two _ a b, r => Bnd a r ∧ Bnd b r
  | .over a _, r => Bnd a r
  | .bel a b c d, r => Bnd a r ∧ Bnd b r ∧ Bnd c r ∧ Bnd d r
  | .shift _ _ a, r => Bnd a r
  | .lt x a b, r => Bnd a r ∧ Bnd b (x :: r)
  | .nm x, r => x ∈ r
  | _, _ => True
/-- how deep a walk along names goes; r tells how deep each name's field goes -/
def udep : Fd → List (Str × Nat) → Nat
  | .two _ a b, r => 1 + max (udep a r) (udep b r)
  | .over a _, r => 1 + udep a r
  | .bel a b c d, r => 1 + max (max (udep a r) (udep b r)) (max (udep c r) (udep d r))
  | .shift _ _ a, r => 1 + udep a r
  | .lt x a b, r => 1 + udep b ((x, udep a r) :: r)
  | .nm x, r => 1 + (r.lookup x).getD 0
  | _, _ => 1
/-! ### values -/
def noiseL (seed salt log x z : Int) : Int :=
  let S : Int := 2 ^ log.toNat
  let p := x % S
  let q := z % S
  let i := (x - p) / S
  let j := (z - q) / S
  ((S - p) * (S - q) * knotL seed salt i j + p * (S - q) * knotL seed salt (i + 1) j + (S - p) * q * knotL seed salt i (j + 1) + p * q * knotL seed salt (i + 1) (j + 1)) / (S * S)
def valE : Ex → Int → Int → Int → Int
  | .whole n, _, _, _ => n
  | .px, _, x, _ => x
  | .pz, _, _, z => z
  | .noise s l, g, x, z => noiseL g s l x z
  | .two w a b, g, x, z => w.op (valE a g x z) (valE b g x z)
  | .over a n, g, x, z => valE a g x z / n
  | .bel a b c d, g, x, z => if valE a g x z < valE b g x z then valE c g x z else valE d g x z
  | .shift dx dz a, g, x, z => valE a g (x + dx) (z + dz)
/-- the numbers of a field lie within their bounds -/
def OkE : Ex → Prop
  | .whole n => -999999999 ≤ n ∧ n ≤ 999999999
  | .noise s l => (0 ≤ s ∧ s ≤ 1000000000) ∧ 0 ≤ l ∧ l ≤ 8
  | .two _ a b => OkE a ∧ OkE b
  | .over a n => OkE a ∧ 1 ≤ n ∧ n ≤ 1000000000
  | .bel a b c d => OkE a ∧ OkE b ∧ OkE c ∧ OkE d
  | .shift dx dz a => (-1000 ≤ dx ∧ dx ≤ 1000) ∧ (-1000 ≤ dz ∧ dz ≤ 1000) ∧ OkE a
  | _ => True
theorem two_pow_pos (n : Nat) : (0 : Int) < 2 ^ n := Int.pow_pos (by decide)
/-- a mean of four numbers by weights -/
theorem mean4 {S p q a b c d m M : Int} (hS : 0 < S) (hp : 0 ≤ p) (hp2 : p ≤ S) (hq : 0 ≤ q) (hq2 : q ≤ S) (ha : m ≤ a) (ha2 : a ≤ M) (hb : m ≤ b) (hb2 : b ≤ M) (hc : m ≤ c) (hc2 : c ≤ M) (hd : m ≤ d) (hd2 : d ≤ M) :
    m ≤ ((S - p) * (S - q) * a + p * (S - q) * b + (S - p) * q * c + p * q * d) / (S * S) ∧ ((S - p) * (S - q) * a + p * (S - q) * b + (S - p) * q * c + p * q * d) / (S * S) ≤ M := by
  have w1 : 0 ≤ (S - p) * (S - q) := Int.mul_nonneg (by omega) (by omega)
  have w2 : 0 ≤ p * (S - q) := Int.mul_nonneg (by omega) (by omega)
  have w3 : 0 ≤ (S - p) * q := Int.mul_nonneg (by omega) (by omega)
  have w4 : 0 ≤ p * q := Int.mul_nonneg (by omega) (by omega)
  have tot : (S - p) * (S - q) + p * (S - q) + (S - p) * q + p * q = S * S := by
    have e1 : (S - p) * (S - q) + p * (S - q) = S * (S - q) := by rw [← Int.add_mul]; congr 1; omega
    have e2 : (S - p) * q + p * q = S * q := by rw [← Int.add_mul]; congr 1; omega
    have e3 : S * (S - q) + S * q = S * S := by rw [← Int.mul_add]; congr 1; omega
    omega
  have SS : 0 < S * S := Int.mul_pos hS hS
  have lo : ∀ {w v : Int}, 0 ≤ w → m ≤ v → w * m ≤ w * v := fun h1 h2 => Int.mul_le_mul_of_nonneg_left h2 h1
  have hi : ∀ {w v : Int}, 0 ≤ w → v ≤ M → w * v ≤ w * M := fun h1 h2 => Int.mul_le_mul_of_nonneg_left h2 h1
  have sumL : ∀ t : Int, (S - p) * (S - q) * t + p * (S - q) * t + (S - p) * q * t + p * q * t = S * S * t := fun t => by
    rw [← Int.add_mul, ← Int.add_mul, ← Int.add_mul, tot]
  constructor
  · refine (Int.le_ediv_iff_mul_le SS).mpr ?_
    have := lo w1 ha; have := lo w2 hb; have := lo w3 hc; have := lo w4 hd
    have := sumL m
    rw [Int.mul_comm m]
    omega
  · have h := hi w1 ha2; have := hi w2 hb2; have := hi w3 hc2; have := hi w4 hd2
    have := sumL M
    have : ((S - p) * (S - q) * a + p * (S - q) * b + (S - p) * q * c + p * q * d) ≤ M * (S * S) := by
      rw [Int.mul_comm M]
      omega
    exact Int.ediv_le_of_le_mul SS this
theorem noise_in (g s l x z : Int) : 0 ≤ noiseL g s l x z ∧ noiseL g s l x z ≤ 65535 := by
  have hS := two_pow_pos l.toNat
  have k := fun i j => knot_in g s i j
  have h := mean4 (S := 2 ^ l.toNat) (p := x % 2 ^ l.toNat) (q := z % 2 ^ l.toNat) (a := knotL g s ((x - x % 2 ^ l.toNat) / 2 ^ l.toNat) ((z - z % 2 ^ l.toNat) / 2 ^ l.toNat))
    (b := knotL g s ((x - x % 2 ^ l.toNat) / 2 ^ l.toNat + 1) ((z - z % 2 ^ l.toNat) / 2 ^ l.toNat)) (c := knotL g s ((x - x % 2 ^ l.toNat) / 2 ^ l.toNat) ((z - z % 2 ^ l.toNat) / 2 ^ l.toNat + 1))
    (d := knotL g s ((x - x % 2 ^ l.toNat) / 2 ^ l.toNat + 1) ((z - z % 2 ^ l.toNat) / 2 ^ l.toNat + 1)) (m := 0) (M := 65535) hS
    (Int.emod_nonneg _ (by omega)) (Int.le_of_lt (Int.emod_lt_of_pos _ hS)) (Int.emod_nonneg _ (by omega)) (Int.le_of_lt (Int.emod_lt_of_pos _ hS))
    (k _ _).1 (by have := (k ((x - x % 2 ^ l.toNat) / 2 ^ l.toNat) ((z - z % 2 ^ l.toNat) / 2 ^ l.toNat)).2; omega)
    (k _ _).1 (by have := (k ((x - x % 2 ^ l.toNat) / 2 ^ l.toNat + 1) ((z - z % 2 ^ l.toNat) / 2 ^ l.toNat)).2; omega)
    (k _ _).1 (by have := (k ((x - x % 2 ^ l.toNat) / 2 ^ l.toNat) ((z - z % 2 ^ l.toNat) / 2 ^ l.toNat + 1)).2; omega)
    (k _ _).1 (by have := (k ((x - x % 2 ^ l.toNat) / 2 ^ l.toNat + 1) ((z - z % 2 ^ l.toNat) / 2 ^ l.toNat + 1)).2; omega)
  exact h
/-! ### sizes -/
/-- bits of the values, k bits being those of the coordinates -/
def vb : Ex → Nat → Nat
  | .whole _, _ => 34
  | .px, k => k
  | .pz, k => k
  | .noise _ _, _ => 17
  | .two w a b, k => match w with
    | .times => vb a k + vb b k
    | _ => max (vb a k) (vb b k) + 1
  | .over a _, k => vb a k
  | .bel a b c d, k => max (max (vb a k) (vb b k)) (max (vb c k) (vb d k))
  | .shift _ _ a, k => vb a (k + 1)
theorem pow_le {a b : Nat} (h : a ≤ b) : 2 ^ a ≤ 2 ^ b := Nat.pow_le_pow_right (by decide) h
theorem lt_pow_of {n a b : Nat} (h : n < 2 ^ a) (l : a ≤ b) : n < 2 ^ b := Nat.lt_of_lt_of_le h (pow_le l)
theorem natAbs_div_le (a : Int) {n : Int} (h : 1 ≤ n) : (a / n).natAbs ≤ a.natAbs := by
  rcases Int.lt_or_le a 0 with ha | ha
  · have h1 : a / n < 0 := Int.ediv_neg_of_neg_of_pos ha (by omega)
    have h2 : a ≤ a / n := by
      refine (Int.le_ediv_iff_mul_le (by omega)).mpr ?_
      have := Int.mul_le_mul_of_nonpos_left (a := a) (by omega) h
      omega
    omega
  · have h1 : 0 ≤ a / n := Int.ediv_nonneg ha (by omega)
    have h2 : a / n ≤ a := Int.ediv_le_self _ ha
    omega
theorem vb_two (w : W2) (a b : Ex) (k : Nat) : vb a k ≤ vb (.two w a b) k ∧ vb b k ≤ vb (.two w a b) k := by
  cases w <;> simp only [vb] <;> omega
theorem val_bits : ∀ (e : Ex) (g x z : Int) (k : Nat), OkE e → 34 ≤ k → x.natAbs < 2 ^ k → z.natAbs < 2 ^ k → (valE e g x z).natAbs < 2 ^ (vb e k)
  | .whole n, _, _, _, k, h, _, _, _ => by
    have e : (2 : Nat) ^ 34 = 17179869184 := by decide
    have h1 : -999999999 ≤ n := h.1
    have h2 : n ≤ 999999999 := h.2
    show n.natAbs < 2 ^ 34
    omega
  | .px, _, _, _, _, _, _, hx, _ => hx
  | .pz, _, _, _, _, _, _, _, hz => hz
  | .noise s l, g, x, z, k, _, _, _, _ => by
    have e : (2 : Nat) ^ 17 = 131072 := by decide
    have h := noise_in g s l x z
    show (noiseL g s l x z).natAbs < 2 ^ 17
    omega
  | .two w a b, g, x, z, k, h, hk, hx, hz => by
    have ha := val_bits a g x z k h.1 hk hx hz
    have hb := val_bits b g x z k h.2 hk hx hz
    have ha2 := lt_pow_of ha (Nat.le_max_left (vb a k) (vb b k))
    have hb2 := lt_pow_of hb (Nat.le_max_right (vb a k) (vb b k))
    cases w with
    | times =>
      show (valE a g x z * valE b g x z).natAbs < 2 ^ (vb a k + vb b k)
      rw [Int.natAbs_mul, Nat.pow_add]
      exact Nat.mul_lt_mul'' ha hb
    | plus =>
      show (valE a g x z + valE b g x z).natAbs < 2 ^ (max (vb a k) (vb b k) + 1)
      rw [Nat.pow_succ]
      omega
    | less =>
      show (valE a g x z - valE b g x z).natAbs < 2 ^ (max (vb a k) (vb b k) + 1)
      rw [Nat.pow_succ]
      omega
    | least =>
      show (if valE b g x z < valE a g x z then valE b g x z else valE a g x z).natAbs < 2 ^ (max (vb a k) (vb b k) + 1)
      rw [Nat.pow_succ]
      split <;> omega
    | most =>
      show (if valE b g x z > valE a g x z then valE b g x z else valE a g x z).natAbs < 2 ^ (max (vb a k) (vb b k) + 1)
      rw [Nat.pow_succ]
      split <;> omega
  | .over a n, g, x, z, k, h, hk, hx, hz => Nat.lt_of_le_of_lt (natAbs_div_le _ h.2.1) (val_bits a g x z k h.1 hk hx hz)
  | .bel a b c d, g, x, z, k, h, hk, hx, hz => by
    have hc := val_bits c g x z k h.2.2.1 hk hx hz
    have hd := val_bits d g x z k h.2.2.2 hk hx hz
    show (if valE a g x z < valE b g x z then valE c g x z else valE d g x z).natAbs < 2 ^ (max (max (vb a k) (vb b k)) (max (vb c k) (vb d k)))
    split
    · exact lt_pow_of hc (by omega)
    · exact lt_pow_of hd (by omega)
  | .shift dx dz a, g, x, z, k, h, hk, hx, hz => by
    have e : (2 : Nat) ^ 34 = 17179869184 := by decide
    have hp := pow_le hk
    have h1 : -1000 ≤ dx := h.1.1
    have h2 : dx ≤ 1000 := h.1.2
    have h3 : -1000 ≤ dz := h.2.1.1
    have h4 : dz ≤ 1000 := h.2.1.2
    refine val_bits a g (x + dx) (z + dz) (k + 1) h.2.2 (by omega) ?_ ?_
    · rw [Nat.pow_succ]; omega
    · rw [Nat.pow_succ]; omega
theorem mul_ok {a b : Ex} {g x z : Int} {k : Nat} (ha : OkE a) (hb : OkE b) (hk : 34 ≤ k) (hx : x.natAbs < 2 ^ k) (hz : z.natAbs < 2 ^ k) (hv : vb a k + vb b k ≤ 400000) : L2.CMulW (valE a g x z) (valE b g x z) :=
  L2.wide_mul (lt_pow_of (val_bits a g x z k ha hk hx hz) (Nat.le_succ _)) (lt_pow_of (val_bits b g x z k hb hk hx hz) (Nat.le_succ _)) (Nat.succ_pos _) (Nat.succ_pos _) (by omega)
theorem shift_bits {x dx : Int} {k : Nat} (h : -1000 ≤ dx ∧ dx ≤ 1000) (hk : 34 ≤ k) (hx : x.natAbs < 2 ^ k) : (x + dx).natAbs < 2 ^ (k + 1) := by
  have e : (2 : Nat) ^ 34 = 17179869184 := by decide
  have hp := pow_le hk
  rw [Nat.pow_succ]
  omega
/-! ### ranges -/
def mn4 (a b c d : Int) : Int := min (min a b) (min c d)
def mx4 (a b c d : Int) : Int := max (max a b) (max c d)
def W2.rng : W2 → Int × Int → Int × Int → Int × Int
  | .plus, a, b => (a.1 + b.1, a.2 + b.2)
  | .less, a, b => (a.1 - b.2, a.2 - b.1)
  | .times, a, b => (mn4 (a.1 * b.1) (a.1 * b.2) (a.2 * b.1) (a.2 * b.2), mx4 (a.1 * b.1) (a.1 * b.2) (a.2 * b.1) (a.2 * b.2))
  | .least, a, b => (min a.1 b.1, min a.2 b.2)
  | .most, a, b => (max a.1 b.1, max a.2 b.2)
def belR (a b c d : Int × Int) : Int × Int := if a.2 < b.1 then c else if b.2 ≤ a.1 then d else (min c.1 d.1, max c.2 d.2)
abbrev NR := Int → Int → Int → Int → Int → Int → Int × Int
def rangeG (N : NR) : Ex → Int → Int → Int → Int → Int × Int
  | .whole n, _, _, _, _ => (n, n)
  | .px, x0, _, x1, _ => (x0, x1)
  | .pz, _, z0, _, z1 => (z0, z1)
  | .noise s l, x0, z0, x1, z1 => N s l x0 z0 x1 z1
  | .two w a b, x0, z0, x1, z1 => w.rng (rangeG N a x0 z0 x1 z1) (rangeG N b x0 z0 x1 z1)
  | .over a n, x0, z0, x1, z1 => ((rangeG N a x0 z0 x1 z1).1 / n, (rangeG N a x0 z0 x1 z1).2 / n)
  | .bel a b c d, x0, z0, x1, z1 => belR (rangeG N a x0 z0 x1 z1) (rangeG N b x0 z0 x1 z1) (rangeG N c x0 z0 x1 z1) (rangeG N d x0 z0 x1 z1)
  | .shift dx dz a, x0, z0, x1, z1 => rangeG N a (x0 + dx) (z0 + dz) (x1 + dx) (z1 + dz)
/-- noise of many squares -/
def wideN : NR := fun _ _ _ _ _ _ => (0, 65535)
def NOk (N : NR) : Prop := ∀ s l x0 z0 x1 z1, (0 ≤ (N s l x0 z0 x1 z1).1 ∧ (N s l x0 z0 x1 z1).1 ≤ 65535) ∧ 0 ≤ (N s l x0 z0 x1 z1).2 ∧ (N s l x0 z0 x1 z1).2 ≤ 65535
theorem wide_ok : NOk wideN := fun _ _ _ _ _ _ => ⟨⟨Int.le_refl 0, (by decide : (0 : Int) ≤ 65535)⟩, (by decide : (0 : Int) ≤ 65535), Int.le_refl 65535⟩
abbrev B2 (p : Int × Int) (k : Nat) : Prop := p.1.natAbs < 2 ^ k ∧ p.2.natAbs < 2 ^ k
theorem B2.mono {p : Int × Int} {a b : Nat} (h : B2 p a) (l : a ≤ b) : B2 p b := ⟨lt_pow_of h.1 l, lt_pow_of h.2 l⟩
theorem mul_lt {a b : Int} {m n : Nat} (ha : a.natAbs < 2 ^ m) (hb : b.natAbs < 2 ^ n) : (a * b).natAbs < 2 ^ (m + n) := by
  rw [Int.natAbs_mul, Nat.pow_add]
  exact Nat.mul_lt_mul'' ha hb
theorem rng_bits (w : W2) {a b : Int × Int} {m n : Nat} (ha : B2 a m) (hb : B2 b n) : B2 (w.rng a b) (match w with | .times => m + n | _ => max m n + 1) := by
  have ha2 := ha.mono (Nat.le_max_left m n)
  have hb2 := hb.mono (Nat.le_max_right m n)
  obtain ⟨a1, a2⟩ := a
  obtain ⟨b1, b2⟩ := b
  obtain ⟨h1, h2⟩ := ha2
  obtain ⟨h3, h4⟩ := hb2
  cases w with
  | times =>
    have p1 := mul_lt ha.1 hb.1
    have p2 := mul_lt ha.1 hb.2
    have p3 := mul_lt ha.2 hb.1
    have p4 := mul_lt ha.2 hb.2
    simp only [W2.rng, mn4, mx4]
    constructor <;> simp only at * <;> omega
  | plus => simp only [W2.rng, B2] at *; rw [Nat.pow_succ]; omega
  | less => simp only [W2.rng, B2] at *; rw [Nat.pow_succ]; omega
  | least => simp only [W2.rng, B2] at *; rw [Nat.pow_succ]; omega
  | most => simp only [W2.rng, B2] at *; rw [Nat.pow_succ]; omega
theorem range_bits {N : NR} (hN : NOk N) : ∀ (e : Ex) (x0 z0 x1 z1 : Int) (k : Nat), OkE e → 34 ≤ k → B2 (x0, x1) k → B2 (z0, z1) k → B2 (rangeG N e x0 z0 x1 z1) (vb e k)
  | .whole n, _, _, _, _, k, h, _, _, _ => by
    have e : (2 : Nat) ^ 34 = 17179869184 := by decide
    have h1 : -999999999 ≤ n := h.1
    have h2 : n ≤ 999999999 := h.2
    show B2 (n, n) 34
    simp only [B2]
    omega
  | .px, _, _, _, _, _, _, _, hx, _ => hx
  | .pz, _, _, _, _, _, _, _, _, hz => hz
  | .noise s l, x0, z0, x1, z1, k, _, _, _, _ => by
    have e : (2 : Nat) ^ 17 = 131072 := by decide
    have h := hN s l x0 z0 x1 z1
    show B2 (N s l x0 z0 x1 z1) 17
    simp only [B2]
    omega
  | .two w a b, x0, z0, x1, z1, k, h, hk, hx, hz => by
    have r := rng_bits w (range_bits hN a x0 z0 x1 z1 k h.1 hk hx hz) (range_bits hN b x0 z0 x1 z1 k h.2 hk hx hz)
    cases w <;> exact r
  | .over a n, x0, z0, x1, z1, k, h, hk, hx, hz => by
    have r := range_bits hN a x0 z0 x1 z1 k h.1 hk hx hz
    exact ⟨Nat.lt_of_le_of_lt (natAbs_div_le _ h.2.1) r.1, Nat.lt_of_le_of_lt (natAbs_div_le _ h.2.1) r.2⟩
  | .bel a b c d, x0, z0, x1, z1, k, h, hk, hx, hz => by
    have r3 := range_bits hN c x0 z0 x1 z1 k h.2.2.1 hk hx hz
    have r4 := range_bits hN d x0 z0 x1 z1 k h.2.2.2 hk hx hz
    have q3 := r3.mono (b := vb (.bel a b c d) k) (by simp only [vb]; omega)
    have q4 := r4.mono (b := vb (.bel a b c d) k) (by simp only [vb]; omega)
    show B2 (belR _ _ _ _) _
    unfold belR
    split
    · exact q3
    · split
      · exact q4
      · obtain ⟨h1, h2⟩ := q3
        obtain ⟨h3, h4⟩ := q4
        simp only [B2]
        omega
  | .shift dx dz a, x0, z0, x1, z1, k, h, hk, hx, hz => by
    have e : (2 : Nat) ^ 34 = 17179869184 := by decide
    have hp := pow_le hk
    have h1 := h.1
    have h2 := h.2.1
    obtain ⟨a1, a2⟩ := hx
    obtain ⟨a3, a4⟩ := hz
    refine range_bits hN a (x0 + dx) (z0 + dz) (x1 + dx) (z1 + dz) (k + 1) h.2.2 (by omega) ?_ ?_ <;> (simp only [B2] at *; rw [Nat.pow_succ]; omega)
theorem cols_ge {S x0 x1 : Int} (S0 : 0 < S) (S1 : S ≤ 256) (h : 20000 ≤ x1 - x0) : 65 ≤ x1 / S - x0 / S + 1 := by
  have e1 := Int.mul_ediv_add_emod x1 S
  have e2 := Int.mul_ediv_add_emod x0 S
  have m1 := Int.emod_lt_of_pos x1 S0
  have m0 := Int.emod_nonneg x0 (show S ≠ 0 by omega)
  rcases Int.lt_or_le (x1 / S - x0 / S) 64 with hlt | hge
  · exfalso
    have d : S * (x1 / S) - S * (x0 / S) = S * (x1 / S - x0 / S) := (Int.mul_sub S _ _).symm
    have : S * (x1 / S - x0 / S) ≤ 256 * 63 := by
      rcases Int.lt_or_le (x1 / S - x0 / S) 0 with hn | hp
      · have := Int.mul_nonpos_of_nonneg_of_nonpos (Int.le_of_lt S0) (Int.le_of_lt hn)
        omega
      · exact Int.mul_le_mul S1 (by omega) hp (by decide)
    omega
  · omega
theorem many {a b : Int} (ha : 65 ≤ a) (hb : 65 ≤ b) : 64 < a * b := by
  have : 65 * 65 ≤ a * b := Int.mul_le_mul ha hb (by decide) (by omega)
  omega
/-! ### all ranges -/
def allE (N : NR) : Ex → Int → Int → Int → Int → List (Int × Int)
  | .two w a b, x0, z0, x1, z1 => rangeG N (.two w a b) x0 z0 x1 z1 :: (allE N a x0 z0 x1 z1 ++ allE N b x0 z0 x1 z1)
  | .over a n, x0, z0, x1, z1 => rangeG N (.over a n) x0 z0 x1 z1 :: allE N a x0 z0 x1 z1
  | .bel a b c d, x0, z0, x1, z1 => rangeG N (.bel a b c d) x0 z0 x1 z1 :: (allE N a x0 z0 x1 z1 ++ (allE N b x0 z0 x1 z1 ++ (allE N c x0 z0 x1 z1 ++ allE N d x0 z0 x1 z1)))
  | .shift dx dz a, x0, z0, x1, z1 => rangeG N (.shift dx dz a) x0 z0 x1 z1 :: allE N a (x0 + dx) (z0 + dz) (x1 + dx) (z1 + dz)
  | e, x0, z0, x1, z1 => [rangeG N e x0 z0 x1 z1]
def cn : Ex → Nat
  | .two _ a b => 1 + (cn a + cn b)
  | .over a _ => 1 + cn a
  | .bel a b c d => 1 + (cn a + (cn b + (cn c + cn d)))
  | .shift _ _ a => 1 + cn a
  | _ => 1
theorem allE_len (N : NR) : ∀ (e : Ex) (x0 z0 x1 z1 : Int), (allE N e x0 z0 x1 z1).length = cn e
  | .whole _, _, _, _, _ => rfl
  | .px, _, _, _, _ => rfl
  | .pz, _, _, _, _ => rfl
  | .noise _ _, _, _, _, _ => rfl
  | .two _ a b, x0, z0, x1, z1 => by simp only [allE, cn, List.length_cons, List.length_append, allE_len N a, allE_len N b]; omega
  | .over a _, x0, z0, x1, z1 => by simp only [allE, cn, List.length_cons, allE_len N a]; omega
  | .bel a b c d, x0, z0, x1, z1 => by simp only [allE, cn, List.length_cons, List.length_append, allE_len N a, allE_len N b, allE_len N c, allE_len N d]; omega
  | .shift _ _ a, x0, z0, x1, z1 => by simp only [allE, cn, List.length_cons, allE_len N a]; omega
/-! ### drawn fields -/
def dep : Fd → Nat
  | .two _ a b => 1 + max (dep a) (dep b)
  | .over a _ => 1 + dep a
  | .bel a b c d => 1 + max (max (dep a) (dep b)) (max (dep c) (dep d))
  | .shift _ _ a => 1 + dep a
  | .lt _ a b => 1 + max (dep a) (dep b)
  | _ => 0
/-- a name: one to eight small letters -/
def NameOk (s : Str) : Prop := 1 ≤ s.length ∧ s.length ≤ 8 ∧ ∀ c ∈ s.cps.toList, 97 ≤ c ∧ c ≤ 122
def OkF : Fd → Prop
  | .whole n => -999999999 ≤ n ∧ n ≤ 999999999
  | .noise s l => (0 ≤ s ∧ s ≤ 1000000000) ∧ 0 ≤ l ∧ l ≤ 8
  | .two _ a b => OkF a ∧ OkF b
  | .over a n => OkF a ∧ 1 ≤ n ∧ n ≤ 1000000000
  | .bel a b c d => OkF a ∧ OkF b ∧ OkF c ∧ OkF d
  | .shift dx dz a => (-1000 ≤ dx ∧ dx ≤ 1000) ∧ (-1000 ≤ dz ∧ dz ≤ 1000) ∧ OkF a
  | .lt x a b => NameOk x ∧ OkF a ∧ OkF b
  | .nm x => NameOk x
  | _ => True
def OkR (r : Env) : Prop := ∀ x, OkE (look r x)
theorem okR_nil : OkR [] := fun _ => ⟨by decide, by decide⟩
theorem okR_cons {x : Str} {e : Ex} {r : Env} (he : OkE e) (h : OkR r) : OkR ((x, e) :: r) := fun y => by
  unfold look
  split
  · exact he
  · exact h y
theorem ok_expand : ∀ (F : Fd) (r : Env), OkF F → OkR r → OkE (expand F r)
  | .whole _, _, h, _ => h
  | .px, _, _, _ => True.intro
  | .pz, _, _, _ => True.intro
  | .noise _ _, _, h, _ => h
  | .two _ a b, r, h, hr => ⟨ok_expand a r h.1 hr, ok_expand b r h.2 hr⟩
  | .over a _, r, h, hr => ⟨ok_expand a r h.1 hr, h.2⟩
  | .bel a b c d, r, h, hr => ⟨ok_expand a r h.1 hr, ok_expand b r h.2.1 hr, ok_expand c r h.2.2.1 hr, ok_expand d r h.2.2.2 hr⟩
  | .shift _ _ a, r, h, hr => ⟨h.1, h.2.1, ok_expand a r h.2.2 hr⟩
  | .lt x a b, r, h, hr => ok_expand b _ h.2.2 (okR_cons (ok_expand a r h.2.1 hr) hr)
  | .nm x, r, _, hr => hr x
theorem bnd_perm : ∀ {a b : List Str}, (∀ y, y ∈ a → y ∈ b) → ∀ F : Fd, Bnd F a → Bnd F b
  | _, _, _, .whole _, _ => True.intro
  | _, _, _, .px, _ => True.intro
  | _, _, _, .pz, _ => True.intro
  | _, _, _, .noise _ _, _ => True.intro
  | _, _, s, .two _ a b, h => ⟨bnd_perm s a h.1, bnd_perm s b h.2⟩
  | _, _, s, .over a _, h => bnd_perm s a h
  | _, _, s, .bel a b c d, h => ⟨bnd_perm s a h.1, bnd_perm s b h.2.1, bnd_perm s c h.2.2.1, bnd_perm s d h.2.2.2⟩
  | _, _, s, .shift _ _ a, h => bnd_perm s a h
  | _, _, s, .lt x a b, h => ⟨bnd_perm s a h.1, bnd_perm (fun y hy => by
    rcases List.mem_cons.mp hy with e | e
    · rw [e]; exact List.mem_cons_self
    · exact List.mem_cons_of_mem _ (s y e)) b h.2⟩
  | _, _, s, .nm x, h => s x h
/-- the weight of an expansion, its shifts one in another -/
def wt : Ex → Nat
  | .two _ a b => wt a + wt b
  | .over a _ => wt a
  | .bel a b c d => max (max (wt a) (wt b)) (max (wt c) (wt d))
  | .shift _ _ a => wt a
  | _ => 1
def sh : Ex → Nat
  | .two _ a b => max (sh a) (sh b)
  | .over a _ => sh a
  | .bel a b c d => max (max (sh a) (sh b)) (max (sh c) (sh d))
  | .shift _ _ a => sh a + 1
  | _ => 0
theorem wt_pos : ∀ e : Ex, 1 ≤ wt e
  | .whole _ => Nat.le_refl 1
  | .px => Nat.le_refl 1
  | .pz => Nat.le_refl 1
  | .noise _ _ => Nat.le_refl 1
  | .two _ a b => by have := wt_pos a; simp only [wt]; omega
  | .over a _ => wt_pos a
  | .bel a b c d => by have := wt_pos a; simp only [wt]; omega
  | .shift _ _ a => wt_pos a
theorem vb_le : ∀ (e : Ex) (k : Nat), 34 ≤ k → vb e k ≤ wt e * (k + sh e + 1)
  | .whole _, k, h => by simp only [vb, wt, sh]; omega
  | .px, k, h => by simp only [vb, wt, sh]; omega
  | .pz, k, h => by simp only [vb, wt, sh]; omega
  | .noise _ _, k, h => by simp only [vb, wt, sh]; omega
  | .two w a b, k, h => by
    have ha := vb_le a k h
    have hb := vb_le b k h
    have ha1 : wt a * (k + sh a + 1) ≤ wt a * (k + max (sh a) (sh b) + 1) := Nat.mul_le_mul_left _ (by omega)
    have hb1 : wt b * (k + sh b + 1) ≤ wt b * (k + max (sh a) (sh b) + 1) := Nat.mul_le_mul_left _ (by omega)
    have pa : 1 * (k + max (sh a) (sh b) + 1) ≤ wt a * (k + max (sh a) (sh b) + 1) := Nat.mul_le_mul_right _ (wt_pos a)
    have pb : 1 * (k + max (sh a) (sh b) + 1) ≤ wt b * (k + max (sh a) (sh b) + 1) := Nat.mul_le_mul_right _ (wt_pos b)
    have e : wt (.two w a b) * (k + sh (.two w a b) + 1) = wt a * (k + max (sh a) (sh b) + 1) + wt b * (k + max (sh a) (sh b) + 1) := by
      simp only [wt, sh]
      rw [Nat.add_mul]
    rw [e]
    cases w <;> simp only [vb] <;> omega
  | .over a _, k, h => vb_le a k h
  | .bel a b c d, k, h => by
    have up : ∀ {x s w m : Nat}, x ≤ w * (k + s + 1) → w ≤ wt (.bel a b c d) → s ≤ sh (.bel a b c d) → x ≤ wt (.bel a b c d) * (k + sh (.bel a b c d) + 1) := fun {x s w m} h1 h2 h3 =>
      Nat.le_trans h1 (Nat.mul_le_mul h2 (by omega))
    have ha := up (m := 0) (vb_le a k h) (by simp only [wt]; omega) (by simp only [sh]; omega)
    have hb := up (m := 0) (vb_le b k h) (by simp only [wt]; omega) (by simp only [sh]; omega)
    have hc := up (m := 0) (vb_le c k h) (by simp only [wt]; omega) (by simp only [sh]; omega)
    have hd := up (m := 0) (vb_le d k h) (by simp only [wt]; omega) (by simp only [sh]; omega)
    simp only [vb]
    omega
  | .shift _ _ a, k, h => by
    have ha := vb_le a (k + 1) (by omega)
    simp only [vb, wt, sh]
    have e : k + 1 + sh a + 1 = k + (sh a + 1) + 1 := by omega
    rw [← e]
    exact ha
def Wd : Nat → Nat → Nat
  | 0, N => max 1 N
  | d + 1, N => 2 * Wd d (max N (Wd d N))
def Sd : Nat → Nat → Nat
  | 0, N => N
  | d + 1, N => 1 + Sd d (max N (Sd d N))
def Ud : Nat → Nat → Nat
  | 0, N => N + 1
  | d + 1, N => 1 + Ud d (max N (Ud d N))
theorem Wd_mono : ∀ {d : Nat} {a b : Nat}, a ≤ b → Wd d a ≤ Wd d b
  | 0, a, b, h => by simp only [Wd]; omega
  | d + 1, a, b, h => by
    have h1 := Wd_mono (d := d) h
    have h2 := Wd_mono (d := d) (show max a (Wd d a) ≤ max b (Wd d b) by omega)
    simp only [Wd]
    omega
theorem Sd_mono : ∀ {d : Nat} {a b : Nat}, a ≤ b → Sd d a ≤ Sd d b
  | 0, a, b, h => h
  | d + 1, a, b, h => by
    have h1 := Sd_mono (d := d) h
    have h2 := Sd_mono (d := d) (show max a (Sd d a) ≤ max b (Sd d b) by omega)
    simp only [Sd]
    omega
theorem Ud_mono : ∀ {d : Nat} {a b : Nat}, a ≤ b → Ud d a ≤ Ud d b
  | 0, a, b, h => by simp only [Ud]; omega
  | d + 1, a, b, h => by
    have h1 := Ud_mono (d := d) h
    have h2 := Ud_mono (d := d) (show max a (Ud d a) ≤ max b (Ud d b) by omega)
    simp only [Ud]
    omega
def Cd : Nat → Nat → Nat
  | 0, N => max 1 N
  | d + 1, N => 1 + 4 * Cd d (max N (Cd d N))
theorem Cd_mono : ∀ {d : Nat} {a b : Nat}, a ≤ b → Cd d a ≤ Cd d b
  | 0, a, b, h => by simp only [Cd]; omega
  | d + 1, a, b, h => by
    have h1 := Cd_mono (d := d) h
    have h2 := Cd_mono (d := d) (show max a (Cd d a) ≤ max b (Cd d b) by omega)
    simp only [Cd]
    omega
theorem cn_le : ∀ (F : Fd) (d : Nat) (r : Env) (c : Nat), dep F ≤ d → (∀ x, cn (look r x) ≤ max 1 c) → cn (expand F r) ≤ Cd d c := by
  have base : ∀ (d c : Nat), 1 ≤ Cd d c ∧ max 1 c ≤ Cd d c := by
    intro d
    induction d with
    | zero => intro c; simp only [Cd]; omega
    | succ d ih =>
      intro c
      have h1 := ih (max c (Cd d c))
      simp only [Cd]
      omega
  have step : ∀ (d c : Nat), 1 + 4 * Cd d c ≤ Cd (d + 1) c := by
    intro d c
    have h1 := Cd_mono (d := d) (show c ≤ max c (Cd d c) by omega)
    simp only [Cd]
    omega
  intro F
  induction F with
  | whole n => intro d r c _ N; have := base d c; simp only [expand, cn]; omega
  | px => intro d r c _ N; have := base d c; simp only [expand, cn]; omega
  | pz => intro d r c _ N; have := base d c; simp only [expand, cn]; omega
  | noise a l => intro d r c _ N; have := base d c; simp only [expand, cn]; omega
  | nm x => intro d r c _ N; have := base d c; have h1 := N x; simp only [expand]; omega
  | two w a b iha ihb =>
    intro d r c h N
    have h' : 1 + max (dep a) (dep b) ≤ d := h
    obtain ⟨d, rfl⟩ : ∃ d', d = d' + 1 := ⟨d - 1, by omega⟩
    have ha := iha d r c (by omega) N
    have hb := ihb d r c (by omega) N
    have st := step d c
    simp only [expand, cn]
    omega
  | over a n iha =>
    intro d r c h N
    have h' : 1 + dep a ≤ d := h
    obtain ⟨d, rfl⟩ : ∃ d', d = d' + 1 := ⟨d - 1, by omega⟩
    have ha := iha d r c (by omega) N
    have st := step d c
    simp only [expand, cn]
    omega
  | bel a b e f iha ihb ihc ihe =>
    intro d r c h N
    have h' : 1 + max (max (dep a) (dep b)) (max (dep e) (dep f)) ≤ d := h
    obtain ⟨d, rfl⟩ : ∃ d', d = d' + 1 := ⟨d - 1, by omega⟩
    have ha := iha d r c (by omega) N
    have hb := ihb d r c (by omega) N
    have hc := ihc d r c (by omega) N
    have he := ihe d r c (by omega) N
    have st := step d c
    simp only [expand, cn]
    omega
  | shift dx dz a iha =>
    intro d r c h N
    have h' : 1 + dep a ≤ d := h
    obtain ⟨d, rfl⟩ : ∃ d', d = d' + 1 := ⟨d - 1, by omega⟩
    have ha := iha d r c (by omega) N
    have st := step d c
    simp only [expand, cn]
    omega
  | lt x a b iha ihb =>
    intro d r c h N
    have h' : 1 + max (dep a) (dep b) ≤ d := h
    obtain ⟨d, rfl⟩ : ∃ d', d = d' + 1 := ⟨d - 1, by omega⟩
    have ha := iha d r c (by omega) N
    have hb := ihb d ((x, expand a r) :: r) (max c (Cd d c)) (by omega) (fun y => by
      have := N y
      unfold look
      split <;> omega)
    simp only [expand, Cd]
    omega
/-- the numbers of an environment -/
structure Num (r : Env) (δ : List (Str × Nat)) (w s u : Nat) : Prop where
  w : ∀ x, wt (look r x) ≤ max 1 w
  s : ∀ x, sh (look r x) ≤ s
  u : ∀ x, (δ.lookup x).getD 0 ≤ u
theorem num_nil : Num [] [] 0 0 0 := ⟨fun _ => Nat.le_refl 1, fun _ => Nat.le_refl 0, fun _ => Nat.le_refl 0⟩
theorem Num.mono {r : Env} {δ : List (Str × Nat)} {w s u w' s' u' : Nat} (h : Num r δ w s u) (hw : w ≤ w') (hs : s ≤ s') (hu : u ≤ u') : Num r δ w' s' u' :=
  ⟨fun x => Nat.le_trans (h.w x) (by omega), fun x => Nat.le_trans (h.s x) hs, fun x => Nat.le_trans (h.u x) hu⟩
theorem Num.cons {r : Env} {δ : List (Str × Nat)} {w s u w' s' u' n : Nat} {x : Str} {e : Ex} (h : Num r δ w s u) (hw : wt e ≤ w') (hs : sh e ≤ s') (hu : n ≤ u') : Num ((x, e) :: r) ((x, n) :: δ) (max w w') (max s s') (max u u') :=
  ⟨fun y => by have := h.w y; unfold look; split <;> omega, fun y => by have := h.s y; unfold look; split <;> omega, fun y => by
    by_cases e : y = x
    · subst e; simp [List.lookup]; omega
    · have hb : (y == x) = false := by simpa using e
      have := h.u y
      simp only [List.lookup, hb]
      omega⟩
theorem nums : ∀ (F : Fd) (d : Nat) (r : Env) (δ : List (Str × Nat)) (w s u : Nat), dep F ≤ d → Num r δ w s u → wt (expand F r) ≤ Wd d w ∧ sh (expand F r) ≤ Sd d s ∧ udep F δ ≤ Ud d u := by
  have base : ∀ (d w s u : Nat), 1 ≤ Wd d w ∧ max 1 w ≤ Wd d w ∧ s ≤ Sd d s ∧ u + 1 ≤ Ud d u := by
    intro d
    induction d with
    | zero => intro w s u; simp only [Wd, Sd, Ud]; omega
    | succ d ih =>
      intro w s u
      have h1 := ih (max w (Wd d w)) (max s (Sd d s)) (max u (Ud d u))
      simp only [Wd, Sd, Ud]
      omega
  have step : ∀ (d w s u : Nat), Wd d w + Wd d w ≤ Wd (d + 1) w ∧ 1 + Sd d s ≤ Sd (d + 1) s ∧ 1 + Ud d u ≤ Ud (d + 1) u := by
    intro d w s u
    have h1 := Wd_mono (d := d) (show w ≤ max w (Wd d w) by omega)
    have h2 := Sd_mono (d := d) (show s ≤ max s (Sd d s) by omega)
    have h3 := Ud_mono (d := d) (show u ≤ max u (Ud d u) by omega)
    simp only [Wd, Sd, Ud]
    omega
  intro F
  induction F with
  | whole n => intro d r δ w s u _ N; have := base d w s u; simp only [expand, wt, sh, udep]; omega
  | px => intro d r δ w s u _ N; have := base d w s u; simp only [expand, wt, sh, udep]; omega
  | pz => intro d r δ w s u _ N; have := base d w s u; simp only [expand, wt, sh, udep]; omega
  | noise a l => intro d r δ w s u _ N; have := base d w s u; simp only [expand, wt, sh, udep]; omega
  | nm x =>
    intro d r δ w s u _ N
    have := base d w s u
    have h1 := N.w x; have h2 := N.s x; have h3 := N.u x
    simp only [expand, udep]
    omega
  | two c a b iha ihb =>
    intro d r δ w s u h N
    have h' : 1 + max (dep a) (dep b) ≤ d := h
    obtain ⟨d, rfl⟩ : ∃ d', d = d' + 1 := ⟨d - 1, by omega⟩
    have ha := iha d r δ w s u (by omega) N
    have hb := ihb d r δ w s u (by omega) N
    have st := step d w s u
    simp only [expand, wt, sh, udep]
    omega
  | over a n iha =>
    intro d r δ w s u h N
    have h' : 1 + dep a ≤ d := h
    obtain ⟨d, rfl⟩ : ∃ d', d = d' + 1 := ⟨d - 1, by omega⟩
    have ha := iha d r δ w s u (by omega) N
    have st := step d w s u
    simp only [expand, wt, sh, udep]
    omega
  | bel a b c e iha ihb ihc ihe =>
    intro d r δ w s u h N
    have h' : 1 + max (max (dep a) (dep b)) (max (dep c) (dep e)) ≤ d := h
    obtain ⟨d, rfl⟩ : ∃ d', d = d' + 1 := ⟨d - 1, by omega⟩
    have ha := iha d r δ w s u (by omega) N
    have hb := ihb d r δ w s u (by omega) N
    have hc := ihc d r δ w s u (by omega) N
    have he := ihe d r δ w s u (by omega) N
    have st := step d w s u
    simp only [expand, wt, sh, udep]
    omega
  | shift dx dz a iha =>
    intro d r δ w s u h N
    have h' : 1 + dep a ≤ d := h
    obtain ⟨d, rfl⟩ : ∃ d', d = d' + 1 := ⟨d - 1, by omega⟩
    have ha := iha d r δ w s u (by omega) N
    have st := step d w s u
    simp only [expand, wt, sh, udep]
    omega
  | lt x a b iha ihb =>
    intro d r δ w s u h N
    have h' : 1 + max (dep a) (dep b) ≤ d := h
    obtain ⟨d, rfl⟩ : ∃ d', d = d' + 1 := ⟨d - 1, by omega⟩
    have ha := iha d r δ w s u (by omega) N
    have hb := ihb d ((x, expand a r) :: r) ((x, udep a δ) :: δ) _ _ _ (by omega) (N.cons ha.1 ha.2.1 ha.2.2)
    have bs := base d w s u
    simp only [expand, udep, Wd, Sd, Ud]
    omega
end Fm

/-! Fields as they stand in the heap. -/
namespace Fr
open PySem L2 Lw Fm
/-- all tuples are kept -/
def Tup (H H' : Hp) : Prop := ∀ a xs, H a = some (.tup xs) → H' a = some (.tup xs)
theorem Tup.refl {H : Hp} : Tup H H := fun _ _ h => h
theorem Tup.trans {H H1 H2 : Hp} (a : Tup H H1) (b : Tup H1 H2) : Tup H H2 := fun c o h => b c o (a c o h)
theorem same_tup {H H' : Hp} (s : Same H H') : Tup H H' := fun a xs h => s a _ h
theorem keep_tup {p : Addr} {H H' : Hp} {xs : List V} (k : Keep p H H') (hp : H p = some (.lst xs)) : Tup H H' := fun a ys h => k a _ (ne_of h hp (by intro z; cases z)) h
theorem same_new {H : Hp} {p : Addr} {o : HO} (h : H p = none) : Same H (upd H p o) := fun b x e => by
  rw [upd_ne (ne_of_none e h)]
  exact e
theorem same_put {H H' : Hp} {p : Addr} {o : HO} (s : Same H H') (hp : H p = none) : Same H (upd H' p o) := fun b x e => by
  rw [upd_ne (ne_of_none e hp)]
  exact s b x e
def FRep : Fd → Hp → V → Prop
  | .whole n, H, v => ∃ p, v = .ref p ∧ H p = some (.tup [.str "whole", .int n])
  | .px, H, v => ∃ p, v = .ref p ∧ H p = some (.tup [.str "x"])
  | .pz, H, v => ∃ p, v = .ref p ∧ H p = some (.tup [.str "z"])
  | .noise s l, H, v => ∃ p, v = .ref p ∧ H p = some (.tup [.str "noise", .int s, .int l])
  | .two w a b, H, v => ∃ p u1 u2, v = .ref p ∧ H p = some (.tup [.str w.word, u1, u2]) ∧ FRep a H u1 ∧ FRep b H u2
  | .over a n, H, v => ∃ p u1, v = .ref p ∧ H p = some (.tup [.str "over", u1, .int n]) ∧ FRep a H u1
  | .bel a b c d, H, v => ∃ p u1 u2 u3 u4, v = .ref p ∧ H p = some (.tup [.str "below", u1, u2, u3, u4]) ∧ FRep a H u1 ∧ FRep b H u2 ∧ FRep c H u3 ∧ FRep d H u4
  | .shift dx dz a, H, v => ∃ p u1, v = .ref p ∧ H p = some (.tup [.str "shift", .int dx, .int dz, u1]) ∧ FRep a H u1
  | .lt x a b, H, v => ∃ p u1 u2, v = .ref p ∧ H p = some (.tup [.str "let", .str x, u1, u2]) ∧ FRep a H u1 ∧ FRep b H u2
  | .nm x, H, v => ∃ p, v = .ref p ∧ H p = some (.tup [.str "name", .str x])
theorem FRep.mono {H H' : Hp} (t : Tup H H') : ∀ {F : Fd} {v : V}, FRep F H v → FRep F H' v
  | .whole _, _, ⟨p, e, h⟩ => ⟨p, e, t _ _ h⟩
  | .px, _, ⟨p, e, h⟩ => ⟨p, e, t _ _ h⟩
  | .pz, _, ⟨p, e, h⟩ => ⟨p, e, t _ _ h⟩
  | .noise _ _, _, ⟨p, e, h⟩ => ⟨p, e, t _ _ h⟩
  | .two _ a b, _, ⟨p, u1, u2, e, h, h1, h2⟩ => ⟨p, u1, u2, e, t _ _ h, FRep.mono t (F := a) h1, FRep.mono t (F := b) h2⟩
  | .over a _, _, ⟨p, u1, e, h, h1⟩ => ⟨p, u1, e, t _ _ h, FRep.mono t (F := a) h1⟩
  | .bel a b c d, _, ⟨p, u1, u2, u3, u4, e, h, h1, h2, h3, h4⟩ => ⟨p, u1, u2, u3, u4, e, t _ _ h, FRep.mono t (F := a) h1, FRep.mono t (F := b) h2, FRep.mono t (F := c) h3, FRep.mono t (F := d) h4⟩
  | .shift _ _ a, _, ⟨p, u1, e, h, h1⟩ => ⟨p, u1, e, t _ _ h, FRep.mono t (F := a) h1⟩
  | .lt _ a b, _, ⟨p, u1, u2, e, h, h1, h2⟩ => ⟨p, u1, u2, e, t _ _ h, FRep.mono t (F := a) h1, FRep.mono t (F := b) h2⟩
  | .nm _, _, ⟨p, e, h⟩ => ⟨p, e, t _ _ h⟩
/-- at d a dict of what the names stand for, lets within lets at most n deep -/
def EnvR : Nat → Hp → Addr → Fm.Env → List (Str × Nat) → Prop
  | 0, H, d, r, δ => H d = some (.dK []) ∧ r = [] ∧ δ = []
  | n + 1, H, d, r, δ => ∃ kvs, H d = some (.dK kvs) ∧ kvs.length ≤ r.length ∧ ∀ x, x ∈ r.map (·.1) → ∃ t u d' F r' δ', valV kvs (Sum.inr x : Key) = some (.ref t) ∧ H t = some (.tup [u, .ref d']) ∧ FRep F H u ∧ EnvR n H d' r' δ' ∧
      Bnd F (r'.map (·.1)) ∧ expand F r' = look r x ∧ udep F δ' ≤ (δ.lookup x).getD 0 ∧ r'.length ≤ r.length
theorem EnvR.up : ∀ {n : Nat} {H : Hp} {d : Addr} {r : Fm.Env} {δ : List (Str × Nat)}, EnvR n H d r δ → EnvR (n + 1) H d r δ
  | 0, H, d, r, δ, ⟨h, e1, e2⟩ => by
    subst e1 e2
    exact ⟨[], h, Nat.le_refl _, fun x hx => by cases hx⟩
  | n + 1, H, d, r, δ, ⟨kvs, h, l, q⟩ => ⟨kvs, h, l, fun x hx => by
    obtain ⟨t, u, d', F, r', δ', a1, a2, a3, a4, a5⟩ := q x hx
    exact ⟨t, u, d', F, r', δ', a1, a2, a3, a4.up, a5⟩⟩
theorem EnvR.mono : ∀ {n : Nat} {H H' : Hp} {d : Addr} {r : Fm.Env} {δ : List (Str × Nat)}, Same H H' → EnvR n H d r δ → EnvR n H' d r δ
  | 0, _, _, _, _, _, s, ⟨h, e⟩ => ⟨s _ _ h, e⟩
  | n + 1, _, _, _, _, _, s, ⟨kvs, h, l, q⟩ => ⟨kvs, s _ _ h, l, fun x hx => by
    obtain ⟨t, u, d', F, r', δ', a1, a2, a3, a4, a5⟩ := q x hx
    exact ⟨t, u, d', F, r', δ', a1, s _ _ a2, a3.mono (same_tup s), a4.mono s, a5⟩⟩
theorem EnvR.dict : ∀ {n : Nat} {H : Hp} {d : Addr} {r : Fm.Env} {δ : List (Str × Nat)}, EnvR n H d r δ → ∃ kvs, H d = some (.dK kvs) ∧ kvs.length ≤ r.length
  | 0, _, _, _, _, ⟨h, e1, _⟩ => ⟨[], h, Nat.zero_le _⟩
  | _ + 1, _, _, _, _, ⟨kvs, h, l, _⟩ => ⟨kvs, h, l⟩
/-- one let more -/
theorem EnvR.let_ {n : Nat} {H H' : Hp} {d p t : Addr} {r : Fm.Env} {δ : List (Str × Nat)} {kvs : List (Key × V)} {x : Str} {u : V} {F : Fd} (E : EnvR n H d r δ) (hd : H d = some (.dK kvs)) (s : Same H H') (hp : H' p = some (.dK (putK kvs (Sum.inr x : Key) (.ref t))))
    (ht : H' t = some (.tup [u, .ref d])) (hF : FRep F H u) (hB : Bnd F (r.map (·.1))) : EnvR (n + 1) H' p ((x, expand F r) :: r) ((x, udep F δ) :: δ) := by
  obtain ⟨k0, e0, l0⟩ := E.dict
  have ek : k0 = kvs := by rw [hd] at e0; cases e0; rfl
  subst ek
  refine ⟨_, hp, ?_, fun y hy => ?_⟩
  · have := length_putK k0 (Sum.inr x : Key) (V.ref t)
    simp only [List.length_cons]
    omega
  · by_cases e : y = x
    · subst e
      refine ⟨t, u, d, F, r, δ, ?_, ht, hF.mono (same_tup s), E.mono s, hB, ?_, ?_, ?_⟩
      · rw [valV_put, if_pos rfl]
      · simp [look]
      · simp [List.lookup]
      · simp
    · have hy' : y ∈ r.map (·.1) := by
        simp only [List.map_cons, List.mem_cons] at hy
        exact hy.resolve_left e
      have hne : ¬ (Sum.inr y : Key) = Sum.inr x := fun z => e (Sum.inr.inj z)
      have key : ∃ t' u' d' F' r' δ', valV k0 (Sum.inr y : Key) = some (.ref t') ∧ H t' = some (.tup [u', .ref d']) ∧ FRep F' H u' ∧ EnvR n H d' r' δ' ∧ Bnd F' (r'.map (·.1)) ∧ expand F' r' = look r y ∧ udep F' δ' ≤ (δ.lookup y).getD 0 ∧ r'.length ≤ r.length := by
        cases n with
        | zero =>
          obtain ⟨_, e1, _⟩ := E
          subst e1
          cases hy'
        | succ n =>
          obtain ⟨k1, e1, _, q⟩ := E
          have : k1 = k0 := by rw [hd] at e1; cases e1; rfl
          subst this
          obtain ⟨t', u', d', F', r', δ', a1, a2, a3, a4, a5⟩ := q y hy'
          exact ⟨t', u', d', F', r', δ', a1, a2, a3, a4.up, a5⟩
      obtain ⟨t', u', d', F', r', δ', a1, a2, a3, a4, a5, a6, a7, a8⟩ := key
      refine ⟨t', u', d', F', r', δ', ?_, s _ _ a2, a3.mono (same_tup s), a4.mono s, a5, ?_, ?_, ?_⟩
      · rw [valV_put, if_neg hne]; exact a1
      · rw [a6]; simp [look, e]
      · have hb : (y == x) = false := by simpa using e
        simpa [List.lookup, hb] using a7
      · simp only [List.length_cons]; omega
/-- a part is no harder than the whole -/
structure Sub (A F : Fd) : Prop where
  bnd : ∀ l, Bnd F l → Bnd A l
  ud : ∀ δ, udep A δ + 1 ≤ udep F δ
  ok : ∀ r, OkE (expand F r) → OkE (expand A r)
  vb : ∀ r k, Fm.vb (expand A r) k ≤ Fm.vb (expand F r) k
  cn : ∀ r, Fm.cn (expand A r) ≤ Fm.cn (expand F r)
def PartOk (H : Hp) (v : V) : Option Fd → Prop
  | some A => FRep A H v
  | none => (∃ n, v = .int n) ∨ ∃ s, v = .str s
def plainWord (w : Str) : Prop := decide (w = "name") = false ∧ decide (w = "let") = false ∧ decide (w = "shift") = false
abbrev partR (N : NR) (r : Fm.Env) (x0 z0 x1 z1 : Int) (q : V × Option Fd) : List (Int × Int) := match q.2 with
  | some A => allE N (expand A r) x0 z0 x1 z1
  | none => []
theorem kinds (F : Fd) : (∃ x, F = .nm x) ∨ (∃ x A B, F = .lt x A B) ∨ (∃ dx dz A, F = .shift dx dz A) ∨ ((∀ dx dz A, F ≠ .shift dx dz A) ∧ (∀ x A B, F ≠ .lt x A B) ∧ ∀ x, F ≠ .nm x) := by
  cases F with
  | nm x => exact .inl ⟨x, rfl⟩
  | lt x A B => exact .inr (.inl ⟨x, A, B, rfl⟩)
  | shift dx dz A => exact .inr (.inr (.inl ⟨dx, dz, A, rfl⟩))
  | _ => exact .inr (.inr (.inr ⟨fun _ _ _ e => (nomatch e), fun _ _ _ e => (nomatch e), fun _ e => (nomatch e)⟩))
theorem frep_ref {H : Hp} {v : V} : ∀ {F : Fd}, FRep F H v → ∃ p xs, v = .ref p ∧ H p = some (.tup xs)
  | .whole _, ⟨p, e, h⟩ => ⟨p, _, e, h⟩
  | .px, ⟨p, e, h⟩ => ⟨p, _, e, h⟩
  | .pz, ⟨p, e, h⟩ => ⟨p, _, e, h⟩
  | .noise _ _, ⟨p, e, h⟩ => ⟨p, _, e, h⟩
  | .two _ _ _, ⟨p, _, _, e, h, _⟩ => ⟨p, _, e, h⟩
  | .over _ _, ⟨p, _, e, h, _⟩ => ⟨p, _, e, h⟩
  | .bel _ _ _ _, ⟨p, _, _, _, _, e, h, _⟩ => ⟨p, _, e, h⟩
  | .shift _ _ _, ⟨p, _, e, h, _⟩ => ⟨p, _, e, h⟩
  | .lt _ _ _, ⟨p, _, _, e, h, _⟩ => ⟨p, _, e, h⟩
  | .nm _, ⟨p, e, h⟩ => ⟨p, _, e, h⟩
structure Parts (F : Fd) (H : Hp) (u : V) : Prop where
  ex : ∃ (p : Addr) (w : Str) (ps : List (V × Option Fd)), u = .ref p ∧ H p = some (.tup (.str w :: ps.map (·.1))) ∧ (∀ q ∈ ps, PartOk H q.1 q.2) ∧ ps.length ≤ 4 ∧ plainWord w ∧ (∀ q ∈ ps, ∀ A, q.2 = some A → Sub A F) ∧
    ∀ (N : NR) (r : Fm.Env) (x0 z0 x1 z1 : Int), allE N (expand F r) x0 z0 x1 z1 = rangeG N (expand F r) x0 z0 x1 z1 :: ps.flatMap (partR N r x0 z0 x1 z1)
theorem sub_two1 (w : W2) (a b : Fd) : Sub a (.two w a b) := ⟨fun _ h => h.1, fun δ => by simp only [udep]; omega, fun _ h => h.1, fun r k => (vb_two w _ _ k).1, fun r => by simp only [expand, Fm.cn]; omega⟩
theorem sub_two2 (w : W2) (a b : Fd) : Sub b (.two w a b) := ⟨fun _ h => h.2, fun δ => by simp only [udep]; omega, fun _ h => h.2, fun r k => (vb_two w _ _ k).2, fun r => by simp only [expand, Fm.cn]; omega⟩
theorem plain_w2 (w : W2) : plainWord w.word := ⟨word_ne (by decide +kernel) w, word_ne (by decide +kernel) w, word_ne (by decide +kernel) w⟩
theorem parts {F : Fd} {H : Hp} {u : V} (h : FRep F H u) (h1 : ∀ dx dz A, F ≠ .shift dx dz A) (h2 : ∀ x A B, F ≠ .lt x A B) (h3 : ∀ x, F ≠ .nm x) : Parts F H u := by
  cases F with
  | whole n =>
    obtain ⟨p, e, hp⟩ := h
    refine ⟨p, "whole", [(.int n, none)], e, hp, ?_, by simp, ⟨by decide +kernel, by decide +kernel, by decide +kernel⟩, ?_, fun N r x0 z0 x1 z1 => rfl⟩
    · intro q hq; rw [List.mem_singleton.mp hq]; exact .inl ⟨n, rfl⟩
    · intro q hq A e; rw [List.mem_singleton.mp hq] at e; cases e
  | px =>
    obtain ⟨p, e, hp⟩ := h
    exact ⟨p, "x", [], e, hp, fun q hq => (nomatch hq), by decide, ⟨by decide +kernel, by decide +kernel, by decide +kernel⟩, fun q hq => (nomatch hq), fun N r x0 z0 x1 z1 => rfl⟩
  | pz =>
    obtain ⟨p, e, hp⟩ := h
    exact ⟨p, "z", [], e, hp, fun q hq => (nomatch hq), by decide, ⟨by decide +kernel, by decide +kernel, by decide +kernel⟩, fun q hq => (nomatch hq), fun N r x0 z0 x1 z1 => rfl⟩
  | noise s l =>
    obtain ⟨p, e, hp⟩ := h
    refine ⟨p, "noise", [(.int s, none), (.int l, none)], e, hp, ?_, by simp, ⟨by decide +kernel, by decide +kernel, by decide +kernel⟩, ?_, fun N r x0 z0 x1 z1 => rfl⟩
    · intro q hq
      simp only [List.mem_cons, List.not_mem_nil, or_false] at hq
      rcases hq with rfl | rfl
      · exact .inl ⟨s, rfl⟩
      · exact .inl ⟨l, rfl⟩
    · intro q hq A e
      simp only [List.mem_cons, List.not_mem_nil, or_false] at hq
      rcases hq with rfl | rfl <;> cases e
  | two w a b =>
    obtain ⟨p, u1, u2, e, hp, ha, hb⟩ := h
    refine ⟨p, w.word, [(u1, some a), (u2, some b)], e, hp, ?_, by simp, plain_w2 w, ?_, fun N r x0 z0 x1 z1 => by simp [allE, expand, partR]⟩
    · intro q hq
      simp only [List.mem_cons, List.not_mem_nil, or_false] at hq
      rcases hq with rfl | rfl
      · exact ha
      · exact hb
    · intro q hq A e
      simp only [List.mem_cons, List.not_mem_nil, or_false] at hq
      rcases hq with rfl | rfl <;> cases e
      · exact sub_two1 w a b
      · exact sub_two2 w a b
  | over a n =>
    obtain ⟨p, u1, e, hp, ha⟩ := h
    refine ⟨p, "over", [(u1, some a), (.int n, none)], e, hp, ?_, by simp, ⟨by decide +kernel, by decide +kernel, by decide +kernel⟩, ?_, fun N r x0 z0 x1 z1 => by simp [allE, expand, partR]⟩
    · intro q hq
      simp only [List.mem_cons, List.not_mem_nil, or_false] at hq
      rcases hq with rfl | rfl
      · exact ha
      · exact .inl ⟨n, rfl⟩
    · intro q hq A e
      simp only [List.mem_cons, List.not_mem_nil, or_false] at hq
      rcases hq with rfl | rfl <;> cases e
      exact ⟨fun _ h => h, fun δ => by simp only [udep]; omega, fun _ h => h.1, fun r k => Nat.le_refl _, fun r => by simp only [expand, Fm.cn]; omega⟩
  | bel a b c d =>
    obtain ⟨p, u1, u2, u3, u4, e, hp, ha, hb, hc, hd⟩ := h
    refine ⟨p, "below", [(u1, some a), (u2, some b), (u3, some c), (u4, some d)], e, hp, ?_, by simp, ⟨by decide +kernel, by decide +kernel, by decide +kernel⟩, ?_, fun N r x0 z0 x1 z1 => by simp [allE, expand, partR]⟩
    · intro q hq
      simp only [List.mem_cons, List.not_mem_nil, or_false] at hq
      rcases hq with rfl | rfl | rfl | rfl
      · exact ha
      · exact hb
      · exact hc
      · exact hd
    · intro q hq A e
      simp only [List.mem_cons, List.not_mem_nil, or_false] at hq
      rcases hq with rfl | rfl | rfl | rfl <;> cases e
      · exact ⟨fun _ h => h.1, fun δ => by simp only [udep]; omega, fun _ h => h.1, fun r k => by simp only [expand, Fm.vb]; omega, fun r => by simp only [expand, Fm.cn]; omega⟩
      · exact ⟨fun _ h => h.2.1, fun δ => by simp only [udep]; omega, fun _ h => h.2.1, fun r k => by simp only [expand, Fm.vb]; omega, fun r => by simp only [expand, Fm.cn]; omega⟩
      · exact ⟨fun _ h => h.2.2.1, fun δ => by simp only [udep]; omega, fun _ h => h.2.2.1, fun r k => by simp only [expand, Fm.vb]; omega, fun r => by simp only [expand, Fm.cn]; omega⟩
      · exact ⟨fun _ h => h.2.2.2, fun δ => by simp only [udep]; omega, fun _ h => h.2.2.2, fun r k => by simp only [expand, Fm.vb]; omega, fun r => by simp only [expand, Fm.cn]; omega⟩
  | shift dx dz a => exact absurd rfl (h1 dx dz a)
  | lt x a b => exact absurd rfl (h2 x a b)
  | nm x => exact absurd rfl (h3 x)
/-- a list of pairs -/
abbrev PairsR (H : Hp) : List V → List (Int × Int) → Prop := Paired fun v ab => ∃ p, v = V.ref p ∧ H p = some (.tup [.int ab.1, .int ab.2])
theorem PairsR.mono {H H' : Hp} (s : Same H H') : ∀ {vs : List V} {ps : List (Int × Int)}, PairsR H vs ps → PairsR H' vs ps
  | _, _, .nil => .nil
  | _, _, .cons ⟨p, e, h⟩ t => .cons ⟨p, e, s _ _ h⟩ (PairsR.mono s t)
theorem pairs_at {H : Hp} : ∀ {vs : List V} {ps : List (Int × Int)} {i : Nat} {y : V}, PairsR H vs ps → vs[i]? = some y → ∃ ab, ps[i]? = some ab ∧ ∃ p, y = V.ref p ∧ H p = some (.tup [.int ab.1, .int ab.2])
  | _, _, _, _, .nil, h => by simp at h
  | _, _, 0, y, .cons (b := b) a _, h => by
    simp at h
    subst h
    exact ⟨b, rfl, a⟩
  | _, _, i + 1, y, .cons _ t, h => by
    obtain ⟨ab, h1, h2⟩ := pairs_at (i := i) (y := y) t (by simpa using h)
    exact ⟨ab, by simpa using h1, h2⟩
theorem PairsR.append {H : Hp} : ∀ {vs ws : List V} {ps qs : List (Int × Int)}, PairsR H vs ps → PairsR H ws qs → PairsR H (vs ++ ws) (ps ++ qs)
  | _, _, _, _, .nil, h => h
  | _, _, _, _, .cons a t, h => .cons a (PairsR.append t h)
end Fr

/-! Steps: fields without names as a list in which nothing stands twice. -/
namespace Sm
open PySem Fm
inductive Stp where
  | whole (n : Int) | px (d : Int) | pz (d : Int) | noise (s l dx dz : Int) | two (w : W2) (i j : Nat) | over (i : Nat) (n : Int) | bel (a b c d : Nat)
  deriving DecidableEq
/-- what a step leans on lies ahead of place n -/
def Stp.lt : Stp → Nat → Prop
  | .two _ i j, n => i < n ∧ j < n
  | .over i _, n => i < n
  | .bel a b c d, n => a < n ∧ b < n ∧ c < n ∧ d < n
  | _, _ => True
theorem Stp.lt_mono {s : Stp} {m n : Nat} (h : s.lt m) (l : m ≤ n) : s.lt n := by
  cases s <;> simp only [Stp.lt] at * <;> omega
/-- put a step in, where it isn't there -/
def put (st : List Stp) (s : Stp) : List Stp × Nat := if s ∈ st then (st, st.idxOf s) else (st ++ [s], st.length)
def into : Ex → Int → Int → List Stp → List Stp × Nat
  | .whole n, _, _, st => put st (.whole n)
  | .px, dx, _, st => put st (.px dx)
  | .pz, _, dz, st => put st (.pz dz)
  | .noise s l, dx, dz, st => put st (.noise s l dx dz)
  | .two w a b, dx, dz, st =>
    let p := into a dx dz st
    let q := into b dx dz p.1
    put q.1 (.two w p.2 q.2)
  | .over a n, dx, dz, st =>
    let p := into a dx dz st
    put p.1 (.over p.2 n)
  | .bel a b c d, dx, dz, st =>
    let p := into a dx dz st
    let q := into b dx dz p.1
    let r := into c dx dz q.1
    let t := into d dx dz r.1
    put t.1 (.bel p.2 q.2 r.2 t.2)
  | .shift ex ez a, dx, dz, st => into a (dx + ex) (dz + ez) st
def stepsE (e : Ex) : List Stp := (into e 0 0 []).1
/-! ### what steps make, in any kind of values -/
structure Alg (α : Type) where
  dflt : α
  whole : Int → α
  px : Int → α
  pz : Int → α
  noise : Int → Int → Int → Int → α
  two : W2 → α → α → α
  over : α → Int → α
  bel : α → α → α → α → α
variable {α : Type}
def Alg.step (A : Alg α) (s : Stp) (vs : List α) : α := match s with
  | .whole n => A.whole n
  | .px d => A.px d
  | .pz d => A.pz d
  | .noise s l dx dz => A.noise s l dx dz
  | .two w i j => A.two w (vs.getD i A.dflt) (vs.getD j A.dflt)
  | .over i n => A.over (vs.getD i A.dflt) n
  | .bel a b c d => A.bel (vs.getD a A.dflt) (vs.getD b A.dflt) (vs.getD c A.dflt) (vs.getD d A.dflt)
def Alg.run (A : Alg α) (st : List Stp) : List α := st.foldl (fun vs s => vs ++ [A.step s vs]) []
theorem run_snoc (A : Alg α) (st : List Stp) (s : Stp) : A.run (st ++ [s]) = A.run st ++ [A.step s (A.run st)] := by
  simp [Alg.run, List.foldl_append]
theorem snoc_ind {β : Type} {P : List β → Prop} (h0 : P []) (h1 : ∀ l a, P l → P (l ++ [a])) (l : List β) : P l := by
  have key : ∀ l : List β, P l.reverse := by
    intro l
    induction l with
    | nil => exact h0
    | cons a r ih => rw [List.reverse_cons]; exact h1 _ _ ih
  have := key l.reverse
  rwa [List.reverse_reverse] at this
theorem run_len (A : Alg α) (st : List Stp) : (A.run st).length = st.length := by
  refine snoc_ind (P := fun st => (A.run st).length = st.length) rfl (fun st s ih => ?_) st
  rw [run_snoc]; simp [ih]
/-- more steps change no earlier value -/
theorem run_append (A : Alg α) (st : List Stp) : ∀ more : List Stp, ∃ t, A.run (st ++ more) = A.run st ++ t := by
  intro more
  refine snoc_ind (P := fun more => ∃ t, A.run (st ++ more) = A.run st ++ t) ⟨[], by simp⟩ (fun r s ih => ?_) more
  obtain ⟨t, h⟩ := ih
  rw [← List.append_assoc, run_snoc, h]
  exact ⟨_, List.append_assoc _ _ _⟩
theorem run_get (A : Alg α) {st st' : List Stp} (h : st <+: st') {i : Nat} (hi : i < st.length) : (A.run st').getD i A.dflt = (A.run st).getD i A.dflt := by
  obtain ⟨m, rfl⟩ := h
  obtain ⟨t, e⟩ := run_append A st m
  rw [e]
  have hl : i < (A.run st).length := by rw [run_len]; exact hi
  simp [List.getD, List.getElem?_append_left hl]
/-- steps lean on steps ahead -/
def Ok (st : List Stp) : Prop := ∀ (j : Nat) (s : Stp), st[j]? = some s → s.lt j
theorem ok_nil : Ok [] := fun j s h => by simp at h
theorem ok_snoc {st : List Stp} {s : Stp} (h : Ok st) (hs : s.lt st.length) : Ok (st ++ [s]) := fun j t e => by
  rcases Nat.lt_trichotomy j st.length with l | l | l
  · rw [List.getElem?_append_left l] at e; exact h j t e
  · subst l; simp at e; subst e; exact hs
  · rw [List.getElem?_append_right (by omega)] at e
    have : 1 ≤ j - st.length := by omega
    rw [List.getElem?_eq_none (by simp; omega)] at e
    cases e
/-- a step's value leans on what stands ahead of it alone -/
theorem step_eq (A : Alg α) {s : Stp} {n : Nat} {vs ws : List α} (hs : s.lt n) (h : ∀ i, i < n → vs.getD i A.dflt = ws.getD i A.dflt) : A.step s vs = A.step s ws := by
  cases s with
  | two w i j => simp only [Alg.step]; rw [h i hs.1, h j hs.2]
  | over i m => simp only [Alg.step]; rw [h i hs]
  | bel a b c d => simp only [Alg.step]; rw [h a hs.1, h b hs.2.1, h c hs.2.2.1, h d hs.2.2.2]
  | _ => rfl
theorem run_at (A : Alg α) {st : List Stp} (h : Ok st) {j : Nat} {s : Stp} (hj : st[j]? = some s) : (A.run st).getD j A.dflt = A.step s (A.run st) := by
  have hl : j < st.length := (List.getElem?_eq_some_iff.mp hj).1
  have e1 : st.take (j + 1) = st.take j ++ [s] := by rw [List.take_add_one, hj]; rfl
  have hp : st.take (j + 1) <+: st := List.take_prefix _ _
  have hp0 : st.take j <+: st := List.take_prefix _ _
  have hlen : (st.take j).length = j := by rw [List.length_take]; omega
  rw [run_get A hp (by rw [List.length_take]; omega), e1, run_snoc]
  have hr : (A.run (st.take j)).length = j := by rw [run_len, hlen]
  have e2 : (A.run (st.take j) ++ [A.step s (A.run (st.take j))]).getD j A.dflt = A.step s (A.run (st.take j)) := by
    simp [List.getD, List.getElem?_append_right (Nat.le_of_eq hr), hr]
  rw [e2]
  exact step_eq A (h j s hj) fun i hi => (run_get A hp0 (by omega)).symm
structure Put (st : List Stp) (s : Stp) (r : List Stp × Nat) : Prop where
  pre : st <+: r.1
  lt : r.2 < r.1.length
  at_ : r.1[r.2]? = some s
  ok : Ok st → s.lt st.length → Ok r.1
  nd : st.Nodup → r.1.Nodup
  len : r.1.length ≤ st.length + 1
theorem put_ok (st : List Stp) (s : Stp) : Put st s (put st s) := by
  unfold put
  split
  · rename_i h
    have hl := List.idxOf_lt_length_iff.mpr h
    exact ⟨List.prefix_refl _, hl, by rw [List.getElem?_eq_getElem hl, List.getElem_idxOf], fun o _ => o, fun n => n, Nat.le_succ _⟩
  · rename_i h
    refine ⟨List.prefix_append _ _, by simp, by simp, fun o hs => ok_snoc o hs, fun n => ?_, by simp⟩
    exact List.nodup_append.mpr ⟨n, by simp, fun a ha b hb e => by simp at hb; subst hb; subst e; exact h ha⟩
def foldE (A : Alg α) : Ex → Int → Int → α
  | .whole n, _, _ => A.whole n
  | .px, dx, _ => A.px dx
  | .pz, _, dz => A.pz dz
  | .noise s l, dx, dz => A.noise s l dx dz
  | .two w a b, dx, dz => A.two w (foldE A a dx dz) (foldE A b dx dz)
  | .over a n, dx, dz => A.over (foldE A a dx dz) n
  | .bel a b c d, dx, dz => A.bel (foldE A a dx dz) (foldE A b dx dz) (foldE A c dx dz) (foldE A d dx dz)
  | .shift ex ez a, dx, dz => foldE A a (dx + ex) (dz + ez)
structure Into (st : List Stp) (e : Ex) (dx dz : Int) (r : List Stp × Nat) : Prop where
  pre : st <+: r.1
  lt : r.2 < r.1.length
  ok : Ok st → Ok r.1
  nd : st.Nodup → r.1.Nodup
  val : Ok st → ∀ {α : Type} (A : Alg α), (A.run r.1).getD r.2 A.dflt = foldE A e dx dz
  len : r.1.length ≤ st.length + cn e
theorem leaf_into {st : List Stp} {s : Stp} {e : Ex} {dx dz : Int} (hs : ∀ n, s.lt n) (hv : ∀ {α : Type} (A : Alg α) (vs : List α), A.step s vs = foldE A e dx dz) (hc : cn e = 1) : Into st e dx dz (put st s) := by
  have p := put_ok st s
  exact ⟨p.pre, p.lt, fun o => p.ok o (hs _), p.nd, fun o α A => by rw [run_at A (p.ok o (hs _)) p.at_]; exact hv A _, by rw [hc]; exact p.len⟩
theorem into_ok : ∀ (e : Ex) (dx dz : Int) (st : List Stp), Into st e dx dz (into e dx dz st)
  | .whole n, dx, dz, st => leaf_into (fun _ => True.intro) (fun _ _ => rfl) rfl
  | .px, dx, dz, st => leaf_into (fun _ => True.intro) (fun _ _ => rfl) rfl
  | .pz, dx, dz, st => leaf_into (fun _ => True.intro) (fun _ _ => rfl) rfl
  | .noise s l, dx, dz, st => leaf_into (fun _ => True.intro) (fun _ _ => rfl) rfl
  | .two w a b, dx, dz, st => by
    have ha := into_ok a dx dz st
    have hb := into_ok b dx dz (into a dx dz st).1
    have p := put_ok (into b dx dz (into a dx dz st).1).1 (.two w (into a dx dz st).2 (into b dx dz (into a dx dz st).1).2)
    have lb := hb.pre.length_le
    have hs : (Stp.two w (into a dx dz st).2 (into b dx dz (into a dx dz st).1).2).lt (into b dx dz (into a dx dz st).1).1.length := ⟨Nat.lt_of_lt_of_le ha.lt lb, hb.lt⟩
    refine ⟨ha.pre.trans (hb.pre.trans p.pre), p.lt, fun o => p.ok (hb.ok (ha.ok o)) hs, fun n => p.nd (hb.nd (ha.nd n)), fun o α A => ?_, ?_⟩
    · show (A.run (put _ _).1).getD (put _ _).2 A.dflt = _
      rw [run_at A (p.ok (hb.ok (ha.ok o)) hs) p.at_]
      show A.two w _ _ = A.two w _ _
      rw [run_get A p.pre hs.1, run_get A p.pre hs.2, run_get A hb.pre ha.lt, ha.val o A, hb.val (ha.ok o) A]
    · have := p.len; have := ha.len; have := hb.len
      show (put _ _).1.length ≤ st.length + (1 + (cn a + cn b))
      omega
  | .over a n, dx, dz, st => by
    have ha := into_ok a dx dz st
    have p := put_ok (into a dx dz st).1 (.over (into a dx dz st).2 n)
    have hs : (Stp.over (into a dx dz st).2 n).lt (into a dx dz st).1.length := ha.lt
    refine ⟨ha.pre.trans p.pre, p.lt, fun o => p.ok (ha.ok o) hs, fun m => p.nd (ha.nd m), fun o α A => ?_, ?_⟩
    · show (A.run (put _ _).1).getD (put _ _).2 A.dflt = _
      rw [run_at A (p.ok (ha.ok o) hs) p.at_]
      show A.over _ n = A.over _ n
      rw [run_get A p.pre hs, ha.val o A]
    · have := p.len; have := ha.len
      show (put _ _).1.length ≤ st.length + (1 + cn a)
      omega
  | .bel a b c d, dx, dz, st => by
    have ha := into_ok a dx dz st
    have hb := into_ok b dx dz (into a dx dz st).1
    have hc := into_ok c dx dz (into b dx dz (into a dx dz st).1).1
    have hd := into_ok d dx dz (into c dx dz (into b dx dz (into a dx dz st).1).1).1
    have p := put_ok (into d dx dz (into c dx dz (into b dx dz (into a dx dz st).1).1).1).1 (.bel (into a dx dz st).2 (into b dx dz (into a dx dz st).1).2 (into c dx dz (into b dx dz (into a dx dz st).1).1).2 (into d dx dz (into c dx dz (into b dx dz (into a dx dz st).1).1).1).2)
    have lb := hb.pre.length_le
    have lc := hc.pre.length_le
    have ld := hd.pre.length_le
    have la' := ha.lt
    have lb' := hb.lt
    have lc' := hc.lt
    have hs : (Stp.bel (into a dx dz st).2 (into b dx dz (into a dx dz st).1).2 (into c dx dz (into b dx dz (into a dx dz st).1).1).2 (into d dx dz (into c dx dz (into b dx dz (into a dx dz st).1).1).1).2).lt (into d dx dz (into c dx dz (into b dx dz (into a dx dz st).1).1).1).1.length :=
      ⟨by omega, by omega, by omega, hd.lt⟩
    have od := fun o => hd.ok (hc.ok (hb.ok (ha.ok o)))
    refine ⟨ha.pre.trans (hb.pre.trans (hc.pre.trans (hd.pre.trans p.pre))), p.lt, fun o => p.ok (od o) hs, fun n => p.nd (hd.nd (hc.nd (hb.nd (ha.nd n)))), fun o α A => ?_, ?_⟩
    · show (A.run (put _ _).1).getD (put _ _).2 A.dflt = _
      rw [run_at A (p.ok (od o) hs) p.at_]
      show A.bel _ _ _ _ = A.bel _ _ _ _
      rw [run_get A p.pre hs.1, run_get A p.pre hs.2.1, run_get A p.pre hs.2.2.1, run_get A p.pre hs.2.2.2]
      rw [run_get A (hb.pre.trans (hc.pre.trans hd.pre)) ha.lt, run_get A (hc.pre.trans hd.pre) hb.lt, run_get A hd.pre hc.lt, ha.val o A, hb.val (ha.ok o) A, hc.val (hb.ok (ha.ok o)) A, hd.val (hc.ok (hb.ok (ha.ok o))) A]
    · have := p.len; have := ha.len; have := hb.len; have := hc.len; have := hd.len
      show (put _ _).1.length ≤ st.length + (1 + (cn a + (cn b + (cn c + cn d))))
      omega
  | .shift ex ez a, dx, dz, st => by
    have ha := into_ok a (dx + ex) (dz + ez) st
    refine ⟨ha.pre, ha.lt, ha.ok, ha.nd, fun o α A => ha.val o A, ?_⟩
    have := ha.len
    show (into a (dx + ex) (dz + ez) st).1.length ≤ st.length + (1 + cn a)
    omega
/-- a field's own step is the last one, where anything was put in -/
theorem put_top {st : List Stp} {s : Stp} (h : Ok st) (no : ∀ p, s.lt p → ¬ p < st.length) : (put st s).2 + 1 = (put st s).1.length := by
  unfold put
  split
  · rename_i m
    have hl := List.idxOf_lt_length_iff.mpr m
    exact absurd hl (no _ (h _ s (by rw [List.getElem?_eq_getElem hl, List.getElem_idxOf])))
  · simp
theorem put_any (st : List Stp) (s : Stp) : (put st s).1 = st ∨ (put st s).2 + 1 = (put st s).1.length := by
  unfold put
  split
  · exact .inl rfl
  · right; simp
theorem into_top : ∀ (e : Ex) (dx dz : Int) (st : List Stp), Ok st → (into e dx dz st).1 = st ∨ (into e dx dz st).2 + 1 = (into e dx dz st).1.length
  | .whole _, _, _, st, _ => put_any st _
  | .px, _, _, st, _ => put_any st _
  | .pz, _, _, st, _ => put_any st _
  | .noise _ _, _, _, st, _ => put_any st _
  | .two w a b, dx, dz, st, ok => by
    have oa := (into_ok a dx dz st).ok ok
    have ob := (into_ok b dx dz (into a dx dz st).1).ok oa
    show (put (into b dx dz (into a dx dz st).1).1 (.two w (into a dx dz st).2 (into b dx dz (into a dx dz st).1).2)).1 = st ∨ _
    rcases into_top b dx dz _ oa with hb | hb
    · rcases into_top a dx dz st ok with ha | ha
      · have e : (into b dx dz (into a dx dz st).1).1 = st := by rw [hb, ha]
        have := put_any (into b dx dz (into a dx dz st).1).1 (.two w (into a dx dz st).2 (into b dx dz (into a dx dz st).1).2)
        rcases this with h | h
        · exact .inl (h.trans e)
        · exact .inr h
      · refine .inr (put_top ob fun p hp => ?_)
        have h1 : (into a dx dz st).2 < p := hp.1
        rw [hb]
        omega
    · refine .inr (put_top ob fun p hp => ?_)
      have h1 : (into b dx dz (into a dx dz st).1).2 < p := hp.2
      omega
  | .over a n, dx, dz, st, ok => by
    have oa := (into_ok a dx dz st).ok ok
    show (put (into a dx dz st).1 (.over (into a dx dz st).2 n)).1 = st ∨ _
    rcases into_top a dx dz st ok with ha | ha
    · rcases put_any (into a dx dz st).1 (.over (into a dx dz st).2 n) with h | h
      · exact .inl (h.trans ha)
      · exact .inr h
    · refine .inr (put_top oa fun p hp => ?_)
      have h1 : (into a dx dz st).2 < p := hp
      omega
  | .bel a b c d, dx, dz, st, ok => by
    obtain ⟨qa, ea⟩ : ∃ q, into a dx dz st = q := ⟨_, rfl⟩
    obtain ⟨qb, eb⟩ : ∃ q, into b dx dz qa.1 = q := ⟨_, rfl⟩
    obtain ⟨qc, ec⟩ : ∃ q, into c dx dz qb.1 = q := ⟨_, rfl⟩
    obtain ⟨qd, ed⟩ : ∃ q, into d dx dz qc.1 = q := ⟨_, rfl⟩
    have oa := (into_ok a dx dz st).ok ok
    rw [ea] at oa
    have ob := (into_ok b dx dz qa.1).ok oa
    rw [eb] at ob
    have oc := (into_ok c dx dz qb.1).ok ob
    rw [ec] at oc
    have od := (into_ok d dx dz qc.1).ok oc
    rw [ed] at od
    have ta := into_top a dx dz st ok
    have tb := into_top b dx dz qa.1 oa
    have tc := into_top c dx dz qb.1 ob
    have td := into_top d dx dz qc.1 oc
    rw [ea] at ta
    rw [eb] at tb
    rw [ec] at tc
    rw [ed] at td
    have e : into (.bel a b c d) dx dz st = put qd.1 (.bel qa.2 qb.2 qc.2 qd.2) := by
      simp only [into, ea, eb, ec, ed]
    rw [e]
    by_cases hd : qd.1 = qc.1
    · by_cases hc : qc.1 = qb.1
      · by_cases hb : qb.1 = qa.1
        · by_cases ha : qa.1 = st
          · have e2 : qd.1 = st := by rw [hd, hc, hb, ha]
            rcases put_any qd.1 (.bel qa.2 qb.2 qc.2 qd.2) with h | h
            · exact .inl (h.trans e2)
            · exact .inr h
          · have h1 := ta.resolve_left ha
            refine .inr (put_top od fun p hp => ?_)
            have h2 : qa.2 < p := hp.1
            rw [hd, hc, hb]
            omega
        · have h1 := tb.resolve_left hb
          refine .inr (put_top od fun p hp => ?_)
          have h2 : qb.2 < p := hp.2.1
          rw [hd, hc]
          omega
      · have h1 := tc.resolve_left hc
        refine .inr (put_top od fun p hp => ?_)
        have h2 : qc.2 < p := hp.2.2.1
        rw [hd]
        omega
    · have h1 := td.resolve_left hd
      refine .inr (put_top od fun p hp => ?_)
      have h2 : qd.2 < p := hp.2.2.2
      omega
  | .shift ex ez a, dx, dz, st, ok => into_top a (dx + ex) (dz + ez) st ok
/-! ### values, ranges -/
def valA (g x z : Int) : Alg Int := ⟨0, fun n => n, fun d => x + d, fun d => z + d, fun s l dx dz => noiseL g s l (x + dx) (z + dz), W2.op, fun a n => a / n, fun a b c d => if a < b then c else d⟩
def rngA (N : NR) (x0 z0 x1 z1 : Int) : Alg (Int × Int) := ⟨(0, 0), fun n => (n, n), fun d => (x0 + d, x1 + d), fun d => (z0 + d, z1 + d), fun s l dx dz => N s l (x0 + dx) (z0 + dz) (x1 + dx) (z1 + dz), W2.rng, fun a n => (a.1 / n, a.2 / n), belR⟩
theorem fold_val : ∀ (e : Ex) (g x z dx dz : Int), foldE (valA g x z) e dx dz = valE e g (x + dx) (z + dz)
  | .whole _, _, _, _, _, _ => rfl
  | .px, _, _, _, _, _ => rfl
  | .pz, _, _, _, _, _ => rfl
  | .noise _ _, _, _, _, _, _ => rfl
  | .two w a b, g, x, z, dx, dz => by simp only [foldE, valE, fold_val a, fold_val b]; rfl
  | .over a n, g, x, z, dx, dz => by simp only [foldE, valE, fold_val a]; rfl
  | .bel a b c d, g, x, z, dx, dz => by simp only [foldE, valE, fold_val a, fold_val b, fold_val c, fold_val d]; rfl
  | .shift ex ez a, g, x, z, dx, dz => by simp only [foldE, valE, fold_val a, Int.add_assoc]
theorem fold_rng (N : NR) : ∀ (e : Ex) (x0 z0 x1 z1 dx dz : Int), foldE (rngA N x0 z0 x1 z1) e dx dz = rangeG N e (x0 + dx) (z0 + dz) (x1 + dx) (z1 + dz)
  | .whole _, _, _, _, _, _, _ => rfl
  | .px, _, _, _, _, _, _ => rfl
  | .pz, _, _, _, _, _, _ => rfl
  | .noise _ _, _, _, _, _, _, _ => rfl
  | .two w a b, x0, z0, x1, z1, dx, dz => by simp only [foldE, rangeG, fold_rng N a, fold_rng N b]; rfl
  | .over a n, x0, z0, x1, z1, dx, dz => by simp only [foldE, rangeG, fold_rng N a]; rfl
  | .bel a b c d, x0, z0, x1, z1, dx, dz => by simp only [foldE, rangeG, fold_rng N a, fold_rng N b, fold_rng N c, fold_rng N d]; rfl
  | .shift ex ez a, x0, z0, x1, z1, dx, dz => by simp only [foldE, rangeG, fold_rng N a, Int.add_assoc]
end Sm

/-! Ranges hold: in a part of the box they are no wider; values lie between. -/
namespace Rm
open PySem Fm
def In (a b : Int × Int) : Prop := b.1 ≤ a.1 ∧ a.2 ≤ b.2
theorem In.refl (a : Int × Int) : In a a := ⟨Int.le_refl _, Int.le_refl _⟩
theorem In.trans {a b c : Int × Int} (h : In a b) (k : In b c) : In a c := ⟨Int.le_trans k.1 h.1, Int.le_trans h.2 k.2⟩
/-- a product of one factor lies between those of its ends -/
theorem mul_ends {lo hi x : Int} (y : Int) (h1 : lo ≤ x) (h2 : x ≤ hi) : min (lo * y) (hi * y) ≤ x * y ∧ x * y ≤ max (lo * y) (hi * y) := by
  rcases Int.le_total 0 y with hy | hy
  · have a := Int.mul_le_mul_of_nonneg_right h1 hy
    have b := Int.mul_le_mul_of_nonneg_right h2 hy
    omega
  · have a := Int.mul_le_mul_of_nonpos_right h1 hy
    have b := Int.mul_le_mul_of_nonpos_right h2 hy
    omega
theorem mul_in {a b : Int × Int} {x y : Int} (h1 : a.1 ≤ x) (h2 : x ≤ a.2) (h3 : b.1 ≤ y) (h4 : y ≤ b.2) : (W2.rng .times a b).1 ≤ x * y ∧ x * y ≤ (W2.rng .times a b).2 := by
  have e1 := mul_ends y h1 h2
  have e2 := mul_ends a.1 h3 h4
  have e3 := mul_ends a.2 h3 h4
  rw [Int.mul_comm b.1 a.1, Int.mul_comm b.2 a.1, Int.mul_comm y a.1] at e2
  rw [Int.mul_comm b.1 a.2, Int.mul_comm b.2 a.2, Int.mul_comm y a.2] at e3
  simp only [W2.rng, mn4, mx4]
  omega
theorem rng_ok (w : W2) {a b : Int × Int} (ha : a.1 ≤ a.2) (hb : b.1 ≤ b.2) : (w.rng a b).1 ≤ (w.rng a b).2 := by
  cases w with
  | times =>
    have := mul_in (a := a) (b := b) (Int.le_refl a.1) ha (Int.le_refl b.1) hb
    omega
  | _ => simp only [W2.rng]; omega
theorem rng_in (w : W2) {a b a' b' : Int × Int} (ha : a.1 ≤ a.2) (hb : b.1 ≤ b.2) (h1 : In a a') (h2 : In b b') : In (w.rng a b) (w.rng a' b') := by
  obtain ⟨p1, p2⟩ := h1
  obtain ⟨q1, q2⟩ := h2
  cases w with
  | times =>
    have c1 := mul_in (a := a') (b := b') (x := a.1) (y := b.1) p1 (by omega) q1 (by omega)
    have c2 := mul_in (a := a') (b := b') (x := a.1) (y := b.2) p1 (by omega) (by omega) q2
    have c3 := mul_in (a := a') (b := b') (x := a.2) (y := b.1) (by omega) p2 q1 (by omega)
    have c4 := mul_in (a := a') (b := b') (x := a.2) (y := b.2) (by omega) p2 (by omega) q2
    simp only [In]
    simp only [W2.rng, mn4, mx4] at *
    omega
  | _ => simp only [In, W2.rng]; omega
theorem op_in (w : W2) {a b : Int × Int} {x y : Int} (h1 : a.1 ≤ x) (h2 : x ≤ a.2) (h3 : b.1 ≤ y) (h4 : y ≤ b.2) : (w.rng a b).1 ≤ w.op x y ∧ w.op x y ≤ (w.rng a b).2 := by
  cases w with
  | times => exact mul_in h1 h2 h3 h4
  | plus => simp only [W2.rng, W2.op]; omega
  | less => simp only [W2.rng, W2.op]; omega
  | least => simp only [W2.rng, W2.op]; split <;> omega
  | most => simp only [W2.rng, W2.op]; split <;> omega
theorem bel_ok {a b c d : Int × Int} (hc : c.1 ≤ c.2) (hd : d.1 ≤ d.2) : (belR a b c d).1 ≤ (belR a b c d).2 := by
  unfold belR
  split
  · exact hc
  · split
    · exact hd
    · show min c.1 d.1 ≤ max c.2 d.2
      omega
theorem bel_in {a b c d a' b' c' d' : Int × Int} (ha : a.1 ≤ a.2) (hb : b.1 ≤ b.2) (hc : c.1 ≤ c.2) (hd : d.1 ≤ d.2) (h1 : In a a') (h2 : In b b') (h3 : In c c') (h4 : In d d') : In (belR a b c d) (belR a' b' c' d') := by
  obtain ⟨p1, p2⟩ := h1
  obtain ⟨q1, q2⟩ := h2
  obtain ⟨r1, r2⟩ := h3
  obtain ⟨s1, s2⟩ := h4
  unfold belR
  by_cases t1 : a'.2 < b'.1
  · rw [if_pos t1, if_pos (show a.2 < b.1 by omega)]
    exact ⟨r1, r2⟩
  · rw [if_neg t1]
    by_cases t2 : b'.2 ≤ a'.1
    · rw [if_pos t2, if_neg (show ¬ a.2 < b.1 by omega), if_pos (show b.2 ≤ a.1 by omega)]
      exact ⟨s1, s2⟩
    · rw [if_neg t2]
      by_cases t3 : a.2 < b.1
      · rw [if_pos t3]
        show min c'.1 d'.1 ≤ c.1 ∧ c.2 ≤ max c'.2 d'.2
        omega
      · rw [if_neg t3]
        by_cases t4 : b.2 ≤ a.1
        · rw [if_pos t4]
          show min c'.1 d'.1 ≤ d.1 ∧ d.2 ≤ max c'.2 d'.2
          omega
        · rw [if_neg t4]
          show min c'.1 d'.1 ≤ min c.1 d.1 ∧ max c.2 d.2 ≤ max c'.2 d'.2
          omega
/-- ranges of noise that hold: no less than one another in parts -/
structure NMono (N N' : NR) : Prop where
  ok : ∀ s l x0 z0 x1 z1, x0 ≤ x1 → z0 ≤ z1 → (N s l x0 z0 x1 z1).1 ≤ (N s l x0 z0 x1 z1).2
  sub : ∀ s l x0 z0 x1 z1 x0' z0' x1' z1', x0 ≤ x1 → z0 ≤ z1 → x0' ≤ x0 → x1 ≤ x1' → z0' ≤ z0 → z1 ≤ z1' → In (N s l x0 z0 x1 z1) (N' s l x0' z0' x1' z1')
theorem wide_mono : NMono wideN wideN := ⟨fun _ _ _ _ _ _ _ _ => (by decide : (0 : Int) ≤ 65535), fun _ _ _ _ _ _ _ _ _ _ _ _ _ _ _ _ => In.refl _⟩
theorem div_le {a b n : Int} (h : a ≤ b) (hn : 1 ≤ n) : a / n ≤ b / n := Int.ediv_le_ediv (by omega) h
theorem range_ok {N N' : NR} (hN : NMono N N') : ∀ (e : Ex) (x0 z0 x1 z1 : Int), OkE e → x0 ≤ x1 → z0 ≤ z1 → (rangeG N e x0 z0 x1 z1).1 ≤ (rangeG N e x0 z0 x1 z1).2
  | .whole _, _, _, _, _, _, _, _ => Int.le_refl _
  | .px, _, _, _, _, _, hx, _ => hx
  | .pz, _, _, _, _, _, _, hz => hz
  | .noise s l, x0, z0, x1, z1, _, hx, hz => hN.ok s l x0 z0 x1 z1 hx hz
  | .two w a b, x0, z0, x1, z1, h, hx, hz => rng_ok w (range_ok hN a x0 z0 x1 z1 h.1 hx hz) (range_ok hN b x0 z0 x1 z1 h.2 hx hz)
  | .over a n, x0, z0, x1, z1, h, hx, hz => div_le (range_ok hN a x0 z0 x1 z1 h.1 hx hz) h.2.1
  | .bel a b c d, x0, z0, x1, z1, h, hx, hz => bel_ok (range_ok hN c x0 z0 x1 z1 h.2.2.1 hx hz) (range_ok hN d x0 z0 x1 z1 h.2.2.2 hx hz)
  | .shift dx dz a, x0, z0, x1, z1, h, hx, hz => range_ok hN a _ _ _ _ h.2.2 (by omega) (by omega)
theorem range_in {N N' : NR} (hN : NMono N N') : ∀ (e : Ex) (x0 z0 x1 z1 x0' z0' x1' z1' : Int), OkE e → x0 ≤ x1 → z0 ≤ z1 → x0' ≤ x0 → x1 ≤ x1' → z0' ≤ z0 → z1 ≤ z1' → In (rangeG N e x0 z0 x1 z1) (rangeG N' e x0' z0' x1' z1')
  | .whole _, _, _, _, _, _, _, _, _, _, _, _, _, _, _, _ => In.refl _
  | .px, _, _, _, _, _, _, _, _, _, _, _, h1, h2, _, _ => ⟨h1, h2⟩
  | .pz, _, _, _, _, _, _, _, _, _, _, _, _, _, h3, h4 => ⟨h3, h4⟩
  | .noise s l, x0, z0, x1, z1, _, _, _, _, _, hx, hz, h1, h2, h3, h4 => hN.sub s l _ _ _ _ _ _ _ _ hx hz h1 h2 h3 h4
  | .two w a b, x0, z0, x1, z1, x0', z0', x1', z1', h, hx, hz, h1, h2, h3, h4 =>
    rng_in w (range_ok hN a x0 z0 x1 z1 h.1 hx hz) (range_ok hN b x0 z0 x1 z1 h.2 hx hz) (range_in hN a x0 z0 x1 z1 x0' z0' x1' z1' h.1 hx hz h1 h2 h3 h4) (range_in hN b x0 z0 x1 z1 x0' z0' x1' z1' h.2 hx hz h1 h2 h3 h4)
  | .over a n, x0, z0, x1, z1, x0', z0', x1', z1', h, hx, hz, h1, h2, h3, h4 => by
    have i := range_in hN a x0 z0 x1 z1 x0' z0' x1' z1' h.1 hx hz h1 h2 h3 h4
    exact ⟨div_le i.1 h.2.1, div_le i.2 h.2.1⟩
  | .bel a b c d, x0, z0, x1, z1, x0', z0', x1', z1', h, hx, hz, h1, h2, h3, h4 =>
    bel_in (range_ok hN a x0 z0 x1 z1 h.1 hx hz) (range_ok hN b x0 z0 x1 z1 h.2.1 hx hz) (range_ok hN c x0 z0 x1 z1 h.2.2.1 hx hz) (range_ok hN d x0 z0 x1 z1 h.2.2.2 hx hz)
      (range_in hN a x0 z0 x1 z1 x0' z0' x1' z1' h.1 hx hz h1 h2 h3 h4) (range_in hN b x0 z0 x1 z1 x0' z0' x1' z1' h.2.1 hx hz h1 h2 h3 h4) (range_in hN c x0 z0 x1 z1 x0' z0' x1' z1' h.2.2.1 hx hz h1 h2 h3 h4) (range_in hN d x0 z0 x1 z1 x0' z0' x1' z1' h.2.2.2 hx hz h1 h2 h3 h4)
  | .shift dx dz a, x0, z0, x1, z1, x0', z0', x1', z1', h, hx, hz, h1, h2, h3, h4 => range_in hN a _ _ _ _ _ _ _ _ h.2.2 (by omega) (by omega) (by omega) (by omega) (by omega) (by omega)
/-- noise lies in its range -/
def NHolds (g : Int) (N : NR) : Prop := ∀ s l x0 z0 x1 z1 x z, x0 ≤ x → x ≤ x1 → z0 ≤ z → z ≤ z1 → (N s l x0 z0 x1 z1).1 ≤ noiseL g s l x z ∧ noiseL g s l x z ≤ (N s l x0 z0 x1 z1).2
theorem wide_holds (g : Int) : NHolds g wideN := fun s l _ _ _ _ x z _ _ _ _ => noise_in g s l x z
theorem val_in {g : Int} {N : NR} (hN : NHolds g N) : ∀ (e : Ex) (x0 z0 x1 z1 x z : Int), OkE e → x0 ≤ x → x ≤ x1 → z0 ≤ z → z ≤ z1 → (rangeG N e x0 z0 x1 z1).1 ≤ valE e g x z ∧ valE e g x z ≤ (rangeG N e x0 z0 x1 z1).2
  | .whole _, _, _, _, _, _, _, _, _, _, _, _ => ⟨Int.le_refl _, Int.le_refl _⟩
  | .px, _, _, _, _, _, _, _, h1, h2, _, _ => ⟨h1, h2⟩
  | .pz, _, _, _, _, _, _, _, _, _, h3, h4 => ⟨h3, h4⟩
  | .noise s l, x0, z0, x1, z1, x, z, _, h1, h2, h3, h4 => hN s l x0 z0 x1 z1 x z h1 h2 h3 h4
  | .two w a b, x0, z0, x1, z1, x, z, h, h1, h2, h3, h4 => by
    have i := val_in hN a x0 z0 x1 z1 x z h.1 h1 h2 h3 h4
    have j := val_in hN b x0 z0 x1 z1 x z h.2 h1 h2 h3 h4
    exact op_in w i.1 i.2 j.1 j.2
  | .over a n, x0, z0, x1, z1, x, z, h, h1, h2, h3, h4 => by
    have i := val_in hN a x0 z0 x1 z1 x z h.1 h1 h2 h3 h4
    exact ⟨div_le i.1 h.2.1, div_le i.2 h.2.1⟩
  | .bel a b c d, x0, z0, x1, z1, x, z, h, h1, h2, h3, h4 => by
    have i := val_in hN a x0 z0 x1 z1 x z h.1 h1 h2 h3 h4
    have j := val_in hN b x0 z0 x1 z1 x z h.2.1 h1 h2 h3 h4
    have k := val_in hN c x0 z0 x1 z1 x z h.2.2.1 h1 h2 h3 h4
    have m := val_in hN d x0 z0 x1 z1 x z h.2.2.2 h1 h2 h3 h4
    show (belR _ _ _ _).1 ≤ (if _ then _ else _) ∧ (if _ then _ else _) ≤ (belR _ _ _ _).2
    unfold belR
    by_cases t : valE a g x z < valE b g x z
    · rw [if_pos t]
      split
      · exact k
      · split
        · omega
        · show min _ _ ≤ _ ∧ _ ≤ max _ _
          omega
    · rw [if_neg t]
      split
      · omega
      · split
        · exact m
        · show min _ _ ≤ _ ∧ _ ≤ max _ _
          omega
  | .shift dx dz a, x0, z0, x1, z1, x, z, h, h1, h2, h3, h4 => val_in hN a _ _ _ _ _ _ h.2.2 (by omega) (by omega) (by omega) (by omega)
/-- all ranges of a field in a part of the box lie within those of the box, one by one -/
theorem all_in {N N' : NR} (hN : NMono N N') (B : Int × Int) : ∀ (e : Ex) (x0 z0 x1 z1 x0' z0' x1' z1' : Int), OkE e → x0 ≤ x1 → z0 ≤ z1 → x0' ≤ x0 → x1 ≤ x1' → z0' ≤ z0 → z1 ≤ z1' →
    (∀ p ∈ allE N' e x0' z0' x1' z1', In p B) → ∀ p ∈ allE N e x0 z0 x1 z1, In p B
  | .whole n, x0, z0, x1, z1, x0', z0', x1', z1', h, hx, hz, h1, h2, h3, h4, q, p, hp => by
    have e := List.mem_singleton.mp hp
    rw [e]
    exact (range_in hN (.whole n) _ _ _ _ _ _ _ _ h hx hz h1 h2 h3 h4).trans (q _ (List.mem_singleton.mpr rfl))
  | .px, x0, z0, x1, z1, x0', z0', x1', z1', h, hx, hz, h1, h2, h3, h4, q, p, hp => by
    have e := List.mem_singleton.mp hp
    rw [e]
    exact (range_in hN .px _ _ _ _ _ _ _ _ h hx hz h1 h2 h3 h4).trans (q _ (List.mem_singleton.mpr rfl))
  | .pz, x0, z0, x1, z1, x0', z0', x1', z1', h, hx, hz, h1, h2, h3, h4, q, p, hp => by
    have e := List.mem_singleton.mp hp
    rw [e]
    exact (range_in hN .pz _ _ _ _ _ _ _ _ h hx hz h1 h2 h3 h4).trans (q _ (List.mem_singleton.mpr rfl))
  | .noise s l, x0, z0, x1, z1, x0', z0', x1', z1', h, hx, hz, h1, h2, h3, h4, q, p, hp => by
    have e := List.mem_singleton.mp hp
    rw [e]
    exact (range_in hN (.noise s l) _ _ _ _ _ _ _ _ h hx hz h1 h2 h3 h4).trans (q _ (List.mem_singleton.mpr rfl))
  | .two w a b, x0, z0, x1, z1, x0', z0', x1', z1', h, hx, hz, h1, h2, h3, h4, q, p, hp => by
    rcases List.mem_cons.mp hp with e | hp
    · rw [e]
      exact (range_in hN (.two w a b) _ _ _ _ _ _ _ _ h hx hz h1 h2 h3 h4).trans (q _ List.mem_cons_self)
    · rcases List.mem_append.mp hp with hp | hp
      · exact all_in hN B a _ _ _ _ _ _ _ _ h.1 hx hz h1 h2 h3 h4 (fun p hp => q p (List.mem_cons_of_mem _ (List.mem_append_left _ hp))) p hp
      · exact all_in hN B b _ _ _ _ _ _ _ _ h.2 hx hz h1 h2 h3 h4 (fun p hp => q p (List.mem_cons_of_mem _ (List.mem_append_right _ hp))) p hp
  | .over a n, x0, z0, x1, z1, x0', z0', x1', z1', h, hx, hz, h1, h2, h3, h4, q, p, hp => by
    rcases List.mem_cons.mp hp with e | hp
    · rw [e]
      exact (range_in hN (.over a n) _ _ _ _ _ _ _ _ h hx hz h1 h2 h3 h4).trans (q _ List.mem_cons_self)
    · exact all_in hN B a _ _ _ _ _ _ _ _ h.1 hx hz h1 h2 h3 h4 (fun p hp => q p (List.mem_cons_of_mem _ hp)) p hp
  | .bel a b c d, x0, z0, x1, z1, x0', z0', x1', z1', h, hx, hz, h1, h2, h3, h4, q, p, hp => by
    rcases List.mem_cons.mp hp with e | hp
    · rw [e]
      exact (range_in hN (.bel a b c d) _ _ _ _ _ _ _ _ h hx hz h1 h2 h3 h4).trans (q _ List.mem_cons_self)
    · rcases List.mem_append.mp hp with hp | hp
      · exact all_in hN B a _ _ _ _ _ _ _ _ h.1 hx hz h1 h2 h3 h4 (fun p hp => q p (List.mem_cons_of_mem _ (List.mem_append_left _ hp))) p hp
      · rcases List.mem_append.mp hp with hp | hp
        · exact all_in hN B b _ _ _ _ _ _ _ _ h.2.1 hx hz h1 h2 h3 h4 (fun p hp => q p (List.mem_cons_of_mem _ (List.mem_append_right _ (List.mem_append_left _ hp)))) p hp
        · rcases List.mem_append.mp hp with hp | hp
          · exact all_in hN B c _ _ _ _ _ _ _ _ h.2.2.1 hx hz h1 h2 h3 h4 (fun p hp => q p (List.mem_cons_of_mem _ (List.mem_append_right _ (List.mem_append_right _ (List.mem_append_left _ hp))))) p hp
          · exact all_in hN B d _ _ _ _ _ _ _ _ h.2.2.2 hx hz h1 h2 h3 h4 (fun p hp => q p (List.mem_cons_of_mem _ (List.mem_append_right _ (List.mem_append_right _ (List.mem_append_right _ hp))))) p hp
  | .shift dx dz a, x0, z0, x1, z1, x0', z0', x1', z1', h, hx, hz, h1, h2, h3, h4, q, p, hp => by
    rcases List.mem_cons.mp hp with e | hp
    · rw [e]
      exact (range_in hN (.shift dx dz a) _ _ _ _ _ _ _ _ h hx hz h1 h2 h3 h4).trans (q _ List.mem_cons_self)
    · exact all_in hN B a _ _ _ _ _ _ _ _ h.2.2 (by omega) (by omega) (by omega) (by omega) (by omega) (by omega) (fun p hp => q p (List.mem_cons_of_mem _ hp)) p hp
end Rm

/-! {**d, k: v} at the model's level. -/
namespace Dm
open PySem
section
variable {prog : Program} {w : World} {K : Type} [DecidableEq K] {knd : KeyKind prog w K} {A : Around} {E : Value → Shared → Prop} {s : Shared}
theorem wpAny_dictPut_pairs {d : Addr} {kvs : List (K × Value)} {k : K} {key v : Value} {Q : Unit → Shared → Prop} (hkey : knd.is k key = true) (hm : s.heap.DictOf knd d kvs)
    (hQ : ∀ h', h'.DictOf knd d (stored kvs k v) → Heap.SameBut d s.heap h' → Q () { s with heap := h' })
    (hsz : kvs.length ≤ sizeLine := by size_fits) :
    wpAny (model prog w) A (dictPut d (knd.hash k) key v) Q E s := by
  obtain ⟨o, es, ep, ho, hc, hd, hk, hp, hn⟩ := hm
  have hes : es.size ≤ sizeLine := by have e1 := hp.length; have e2 : es.toList.length = es.size := by simp
                                      omega
  unfold dictPut
  refine wpAny_bind (wpAny_dictFind_of hkey ho hd hk ?_)
  have hidx : (es.findIdx? fun e => knd.is k e.key) = kvs.findIdx? fun kv => decide (kv.1 = k) := by
    rw [← hp.findIdx k]; obtain ⟨l⟩ := es; simp
  cases hi : es.findIdx? fun e => knd.is k e.key with
  | some i =>
    refine wpAny_updateDict ho hd (hQ _ ⟨_, _, ep, Heap.get?_update_self _ ho (Obj.isFreed_of_dict (Obj.data_mapDict hd _)),
      hc.mapDict _, Obj.data_mapDict hd _, hk.modify _ _, ?_, ?_⟩ (Heap.SameBut.update ..))
    · rw [stored, if_pos (any_of_findIdx_some (hidx ▸ hi))]
      have hl : (es.toList.findIdx? fun e => knd.is k e.key) = some i := by rw [← hi]; obtain ⟨l⟩ := es; simp
      have := hp.modify hn hl v
      obtain ⟨l⟩ := es
      simpa using this
    · rw [stored, if_pos (any_of_findIdx_some (hidx ▸ hi)), keys_map_store]; exact hn
  | none =>
    have hnot : k ∉ kvs.map (·.1) := not_mem_of_findIdx_none (hidx ▸ hi)
    have hany : ¬ (kvs.any fun kv => decide (kv.1 = k)) = true := by
      rw [List.any_eq_true]; rintro ⟨kv, hkv, he⟩
      exact hnot (List.mem_map.mpr ⟨kv, hkv, of_decide_eq_true he⟩)
    refine wpAny_updateDictKeys (hz := hes) ho hd (hQ _ ⟨_, _, ep + 1, Heap.get?_update_self _ ho (Obj.isFreed_of_dict (Obj.data_mapDictKeys hd _)),
      hc.mapDictKeys _, Obj.data_mapDictKeys hd _, hk.push hkey _, ?_, ?_⟩ (Heap.SameBut.update ..))
    · rw [stored, if_neg hany]
      have := hp.append hkey (knd.hash k) v
      obtain ⟨l⟩ := es
      simpa using this
    · rw [stored, if_neg hany, List.map_append, List.nodup_append]
      refine ⟨hn, by simp, ?_⟩
      intro a ha b hb
      simp only [List.map_cons, List.map_nil, List.mem_singleton] at hb
      subst hb
      exact fun e => hnot (e ▸ ha)

theorem wpAny_mergeMapping {d o : Addr} {kvs more : List (K × Value)} {Q : Unit → Shared → Prop} (hdo : d ≠ o) (hoS : (o == sysModules) = false)
    (hd : s.heap.DictOf knd d kvs) (ho : s.heap.DictOf knd o more)
    (hQ : ∀ h', h'.DictOf knd d (merged kvs more) → h'.DictOf knd o more → Heap.SameBut d s.heap h' → Q () { s with heap := h' })
    (hsz : kvs.length + more.length ≤ sizeLine) :
    wpAny (model prog w) A (mergeMapping d (.ref o) false) Q E s := by
  obtain ⟨od, esd, epd, hod, hcd, hdd, hkd, hpd, hnd⟩ := id hd
  obtain ⟨oo, eso, epo, hoo, hco, hdo', hko, hpo, hno⟩ := id ho
  have hlen : more.length = eso.size := by rw [← hpo.length]; simp
  unfold mergeMapping
  refine wpAny_bind (wpAny_isInstance ho.typeIs isSubtype_dict_dict ?_)
  simp only [if_true]
  refine wpAny_bind (wpAny_specialOf ho.typeIs F.slot_dict_iter.lookup (wpAny_bind (wpAny_pure ?_)))
  have eb : ((some (Value.builtin "dict.__iter__") : Option Value) == some (Value.builtin "dict.__iter__")) = true := by decide +kernel
  simp only [eb]
  rw [if_neg (by rw [hoS]; exact Bool.false_ne_true)]
  refine wpAny_bind (wpAny_dictEntries hod hdd ?_)
  have loop : wpAny (model prog w) A (do
      let l ← dictEntries o
      let epoch ← dictEpoch o
      forIn (List.range l.size) PUnit.unit fun i (_ : PUnit) => (do
          let l' ← dictEntries o
          match l'[i]? with
            | some e => do
              holding [e.key, e.val] (dictPut d e.hash e.key e.val)
              let ep' ← dictEpoch o
              if (ep' != epoch) = true then do
                  (unsupported "dict.changed-during-merge" : Sem PUnit)
                  pure (ForInStep.yield PUnit.unit)
                else pure (ForInStep.yield PUnit.unit)
            | _ => do
              (unsupported "dict.changed-during-merge" : Sem PUnit)
              pure (ForInStep.yield PUnit.unit) : Sem (ForInStep PUnit))
      pure ()) Q E s := by
    refine wpAny_bind (wpAny_dictEntries hoo hdo' ?_)
    refine wpAny_bind (wpAny_dictEpoch hoo hdo' ?_)
    refine wpAny_bind ?_
    rw [List.range_eq_range']
    refine wpAny_forIn_list _
      (fun rest _ s' => ∃ h' i, s' = { s with heap := h' } ∧ rest = List.range' i (eso.size - i) ∧ i ≤ eso.size ∧ h'.DictOf knd d (merged kvs (more.take i)) ∧ h'.get? o = some oo ∧ Heap.SameBut d s.heap h')
      _ ?_ ?_ _ _ ⟨s.heap, 0, rfl, by simp, Nat.zero_le _, by simpa [merged] using hd, hoo, Heap.SameBut.refl _ _⟩
    · rintro x rest b s' ⟨h', i, rfl, hr, hi, hd', hoo', hs'⟩
      have hlt : i < eso.size := by
        rcases Nat.lt_or_ge i eso.size with h | h
        · exact h
        · rw [Nat.sub_eq_zero_of_le h] at hr; simp at hr
      obtain ⟨rfl, hrest⟩ : x = i ∧ rest = List.range' (i + 1) (eso.size - (i + 1)) := by
        have e : eso.size - i = (eso.size - (i + 1)) + 1 := by omega
        rw [e, List.range'_succ] at hr
        injection hr with h1 h2
        exact ⟨h1, h2⟩
      refine wpAny_bind (wpAny_dictEntries hoo' hdo' ?_)
      rw [Array.getElem?_eq_getElem hlt]
      obtain ⟨kv, hkv⟩ : ∃ kv, more[x]? = some kv := ⟨more[x]'(by rw [hlen]; exact hlt), List.getElem?_eq_getElem _⟩
      obtain ⟨k, v⟩ := kv
      obtain ⟨hkey, hval⟩ := hpo.get? (e := eso[x]) (by simp [hlt]) hkv
      obtain ⟨k', hkey', hhash⟩ := hko eso[x] (Array.getElem_mem hlt)
      obtain rfl : k' = k := knd.inj _ _ _ hkey' hkey
      show wpAny _ _ (holding [eso[x].key, eso[x].val] (dictPut d eso[x].hash eso[x].key eso[x].val) >>= _) _ _ _
      rw [hhash, hval]
      have hmx : (merged kvs (more.take x)).length ≤ sizeLine := by
        have e1 := merged_length_le kvs (more.take x)
        have e2 : (more.take x).length ≤ more.length := by rw [List.length_take]; omega
        omega
      refine wpAny_bind (wpAny_holding (wpAny_dictPut_pairs (hsz := hmx) hkey hd' fun h'' hd'' hs'' => ?_))
      have hoo'' : h''.get? o = some oo := (hs''.2 o (Ne.symm hdo)).trans hoo'
      refine wpAny_bind (wpAny_dictEpoch hoo'' hdo' ?_)
      rw [if_neg (by simp)]
      exact wpAny_pure ⟨h'', x + 1, rfl, hrest, hlt, by rw [merged_take_succ kvs more x (k', v) hkv]; exact hd'', hoo'', hs'.trans hs''⟩
    · rintro b s' ⟨h', i, rfl, hr, hi, hd', hoo', hs'⟩
      have hin : i = eso.size := by
        rcases Nat.lt_or_ge i eso.size with h | h
        · have e : eso.size - i = (eso.size - (i + 1)) + 1 := by omega
          rw [e, List.range'_succ] at hr; exact nomatch hr
        · exact Nat.le_antisymm hi h
      refine wpAny_pure (hQ h' ?_ ⟨oo, eso, epo, hoo', hco, hdo', hko, hpo, hno⟩ hs')
      rw [hin, ← hlen, List.take_length] at hd'; exact hd'
  have loop2 := loop
  split
  · refine wpAny_bind (wpAny_dictEntries hoo hdo' ?_)
    refine wpAny_bind ?_
    rw [← Array.forIn_toList]
    refine wpAny_forIn_list _ (fun rest _ s' => s' = s ∧ ∀ e ∈ rest, e ∈ eso.toList) _ ?_ ?_ _ _ ⟨rfl, fun e h => h⟩
    · rintro e rest b s' ⟨rfl, hall⟩
      obtain ⟨k, hkey, _⟩ := hko e (Array.mem_toList_iff.mp (hall e List.mem_cons_self))
      have hb := knd.byValue k _ hkey
      cases hkk : e.key with
      | ref a =>
        rw [hkk] at hb
        cases hb
      | _ => exact wpAny_pure ⟨rfl, fun x hx => hall x (List.mem_cons_of_mem _ hx)⟩
    · rintro b s' ⟨rfl, _⟩
      exact loop
  · exact loop
theorem wpAny_displayStar {m k v : Sem Value} {Q : Value → Shared → Prop}
    (h : wpAny (model prog w) A m (fun mv s1 => ∃ o more, mv = .ref o ∧ s.heap.objs.size ≠ o ∧ (o == sysModules) = false ∧ s1.heap.DictOf knd s.heap.objs.size [] ∧ s1.heap.DictOf knd o more ∧ more.length < sizeLine ∧
      ∀ h1, h1.DictOf knd s.heap.objs.size more → Heap.SameBut s.heap.objs.size s1.heap h1 →
        wpAny (model prog w) A (evalPairs [(k, v)]) (fun vs s2 => ∃ key val more2, more2.length < sizeLine ∧ Carries knd vs [(key, val)] ∧ h1.objs.size ≠ s.heap.objs.size ∧ (h1.objs.size == sysModules) = false ∧ s2.heap.DictOf knd h1.objs.size [] ∧ s2.heap.DictOf knd s.heap.objs.size more2 ∧
          ∀ h2, h2.DictOf knd h1.objs.size [(key, val)] → Heap.SameBut h1.objs.size s2.heap h2 → ∀ h3, h3.DictOf knd s.heap.objs.size (stored more2 key val) → h3.DictOf knd h1.objs.size [(key, val)] → Heap.SameBut s.heap.objs.size h2 h3 →
            Q (.ref s.heap.objs.size) { s2 with heap := h3, toks := s2.toks + vs.length }) E { s1 with heap := h1.push { cls := .type "dict", data := .dict #[] } }) E
      { s with heap := s.heap.push { cls := .type "dict", data := .dict #[] } }) :
    wpAny (model prog w) A (dictDisplay [(none, m), (some k, v)]) Q E s := by
  unfold dictDisplay
  simp only [List.forIn_cons, List.forIn_nil]
  refine wpAny_bind ?_
  refine wpAny_bind ?_
  simp only [List.isEmpty_nil, if_true]
  refine wpAny_bind (wpAny_pure ?_)
  refine wpAny_bind (wpAny_alloc ?_)
  refine wpAny_bind (wpAny_holding (wpAny_mono h (fun mv s1 hm => ?_) fun _ _ e => e))
  obtain ⟨o, more, rfl, hne, hoS, hd, ho, hz, h1⟩ := hm
  have hnd : (more.map (·.1)).Nodup := by
    obtain ⟨_, _, _, _, _, _, _, _, n⟩ := ho
    exact n
  refine wpAny_bind (wpAny_onRaise (wpAny_tryCatch (wpAny_onRaise (wpAny_holding (wpAny_mergeMapping hne hoS hd ho (fun h' hd' ho' hs' => ?_) (by simp only [List.length_nil]; omega))))))
  rw [merged_nil_of_nodup more hnd] at hd'
  refine wpAny_pure ?_
  refine wpAny_bind ?_
  simp only [List.nil_append, List.length_cons, List.length_nil]
  refine wpAny_pure ?_
  refine wpAny_pure ?_
  simp only [List.isEmpty_cons, Bool.false_eq_true, if_false]
  refine wpAny_bind (wpAny_bind (wpAny_holding (wpAny_subDict (knd := knd) (by simp) (wpAny_mono (h1 h' hd' hs') (fun vs s2 hv => ?_) fun _ _ e => e))))
  obtain ⟨key, val, more2, hz2, hc, hne2, hS2, hd2, hdm, hq⟩ := hv
  refine ⟨[(key, val)], hc, hd2, fun h2 hd3 hs3 => ?_⟩
  have e1 : merged ([] : List (K × Value)) [(key, val)] = [(key, val)] := rfl
  rw [e1] at hd3
  refine wpAny_bind (wpAny_onRaise (wpAny_holding (wpAny_mergeMapping (s := { s2 with heap := h2, toks := s2.toks + vs.length }) hne2.symm hS2 (hdm.sameBut hs3 hne2.symm) hd3 (fun h3 hd4 hd5 hs4 => ?_) (by simp only [List.length_cons, List.length_nil]; omega))))
  refine wpAny_pure ?_
  exact wpAny_pure (hq h2 hd3 hs3 h3 hd4 hd5 hs4)
end
end Dm

/-! Weights of fields; steps as they stand in the heap. -/
namespace Pf
open PySem L2 Lw Fm Fr Sm
/-! ### weights -/
def grE : Ex → Int
  | .whole n => (if n < 0 then -n else n) + 1
  | .px => 1200000
  | .pz => 1200000
  | .noise _ _ => 65535
  | .two w a b => match w with
    | .times => min (grE a * grE b) 1000000000000000000000000000001
    | _ => grE a + grE b
  | .over a _ => grE a
  | .bel a b c d => [grE a, grE b, grE c, grE d].sum
  | .shift _ _ a => grE a
theorem sum4 (a b c d : Int) : [a, b, c, d].sum = a + b + c + d := by simp; omega
theorem gr_bnd : ∀ e : Ex, OkE e → 0 ≤ grE e ∧ grE e ≤ (cn e : Int) * 1000000000000000000000000000001
  | .whole n, h => by
    have h1 : -999999999 ≤ n := h.1
    have h2 : n ≤ 999999999 := h.2
    simp only [grE, cn]
    split <;> omega
  | .px, _ => by simp only [grE, cn]; omega
  | .pz, _ => by simp only [grE, cn]; omega
  | .noise _ _, _ => by simp only [grE, cn]; omega
  | .two w a b, h => by
    have ha := gr_bnd a h.1
    have hb := gr_bnd b h.2
    have hp := Int.mul_nonneg ha.1 hb.1
    have e1 : ((cn (.two w a b) : Nat) : Int) = 1 + ((cn a : Int) + (cn b : Int)) := by simp only [cn]; omega
    rw [e1]
    cases w <;> simp only [grE] <;> omega
  | .over a _, h => by
    have ha := gr_bnd a h.1
    simp only [grE, cn]
    omega
  | .bel a b c d, h => by
    have ha := gr_bnd a h.1
    have hb := gr_bnd b h.2.1
    have hc := gr_bnd c h.2.2.1
    have hd := gr_bnd d h.2.2.2
    simp only [grE, cn, sum4]
    omega
  | .shift _ _ a, h => by
    have ha := gr_bnd a h.2.2
    simp only [grE, cn]
    omega
theorem gr_mul {a b : Ex} (ha : OkE a) (hb : OkE b) (la : cn a ≤ 1000000000000000000000000000000) (lb : cn b ≤ 1000000000000000000000000000000) : L2.CMulW (grE a) (grE b) := by
  have h1 := gr_bnd a ha
  have h2 := gr_bnd b hb
  have e : (2 : Nat) ^ 210 = 1645504557321206042154969182557350504982735865633579863348609024 := by decide
  refine L2.wide_mul (a := 210) (b := 210) ?_ ?_ (by decide) (by decide) (by decide)
  · rw [e]; omega
  · rw [e]; omega
/-- what is let stays small, whether it is asked for or not -/
def Cok : Fd → Fm.Env → Prop
  | .two _ a b, r => Cok a r ∧ Cok b r
  | .over a _, r => Cok a r
  | .bel a b c d, r => Cok a r ∧ Cok b r ∧ Cok c r ∧ Cok d r
  | .shift _ _ a, r => Cok a r
  | .lt x a b, r => cn (expand a r) ≤ 1000000000000000000000000000000 ∧ Cok a r ∧ Cok b ((x, expand a r) :: r)
  | _, _ => True
theorem cok_of : ∀ (F : Fd) (d : Nat) (r : Fm.Env) (c : Nat), dep F ≤ d → (∀ x, cn (look r x) ≤ max 1 c) → Cd d c ≤ 1000000000000000000000000000000 → Cok F r := by
  have base : ∀ (d c : Nat), 1 ≤ Cd d c ∧ max 1 c ≤ Cd d c := by
    intro d
    induction d with
    | zero => intro c; simp only [Cd]; omega
    | succ d ih =>
      intro c
      have h1 := ih (max c (Cd d c))
      simp only [Cd]
      omega
  have step : ∀ (d c : Nat), 1 + 4 * Cd d c ≤ Cd (d + 1) c := by
    intro d c
    have h1 := Cd_mono (d := d) (show c ≤ max c (Cd d c) by omega)
    simp only [Cd]
    omega
  intro F
  induction F with
  | whole n => exact fun _ _ _ _ _ _ => True.intro
  | px => exact fun _ _ _ _ _ _ => True.intro
  | pz => exact fun _ _ _ _ _ _ => True.intro
  | noise a l => exact fun _ _ _ _ _ _ => True.intro
  | nm x => exact fun _ _ _ _ _ _ => True.intro
  | two w a b iha ihb =>
    intro d r c h N hC
    have h' : 1 + max (dep a) (dep b) ≤ d := h
    obtain ⟨d, rfl⟩ : ∃ d', d = d' + 1 := ⟨d - 1, by omega⟩
    have st := step d c
    exact ⟨iha d r c (by omega) N (by omega), ihb d r c (by omega) N (by omega)⟩
  | over a n iha =>
    intro d r c h N hC
    have h' : 1 + dep a ≤ d := h
    obtain ⟨d, rfl⟩ : ∃ d', d = d' + 1 := ⟨d - 1, by omega⟩
    have st := step d c
    exact iha d r c (by omega) N (by omega)
  | bel a b e f iha ihb ihc ihe =>
    intro d r c h N hC
    have h' : 1 + max (max (dep a) (dep b)) (max (dep e) (dep f)) ≤ d := h
    obtain ⟨d, rfl⟩ : ∃ d', d = d' + 1 := ⟨d - 1, by omega⟩
    have st := step d c
    exact ⟨iha d r c (by omega) N (by omega), ihb d r c (by omega) N (by omega), ihc d r c (by omega) N (by omega), ihe d r c (by omega) N (by omega)⟩
  | shift dx dz a iha =>
    intro d r c h N hC
    have h' : 1 + dep a ≤ d := h
    obtain ⟨d, rfl⟩ : ∃ d', d = d' + 1 := ⟨d - 1, by omega⟩
    have st := step d c
    exact iha d r c (by omega) N (by omega)
  | lt x a b iha ihb =>
    intro d r c h N hC
    have h' : 1 + max (dep a) (dep b) ≤ d := h
    obtain ⟨d, rfl⟩ : ∃ d', d = d' + 1 := ⟨d - 1, by omega⟩
    have st := step d c
    have ha := cn_le a d r c (by omega) N
    have bs := base d (max c (Cd d c))
    have eC : Cd (d + 1) c = 1 + 4 * Cd d (max c (Cd d c)) := rfl
    refine ⟨by omega, iha d r c (by omega) N (by omega), ihb d ((x, expand a r) :: r) (max c (Cd d c)) (by omega) (fun y => ?_) (by omega)⟩
    have := N y
    unfold look
    split <;> omega
/-- at d what each name's field weighs -/
def WEnv (K : PySem.W.Frag) (H : Hp) (d : Addr) (r : Fm.Env) : Prop := ∃ kvs : List (Key × V), H d = some (.dK kvs) ∧ kvs.length ≤ r.length ∧ ∀ x, x ∈ r.map (·.1) → ∃ t, valV kvs (Sum.inr x : Key) = some (.ref t) ∧ SqT K H t [.int (cn (look r x) : Nat), .int (grE (look r x))]
theorem same_sqT {K : PySem.W.Frag} {H H' : Hp} {p : Addr} {xs : List V} (s : Same H H') (h : SqT K H p xs) : SqT K H' p xs := by
  rcases h with (h | ⟨o, h⟩) | h
  · exact .inl (.inl (s _ _ h))
  · exact .inl (.inr ⟨o, s _ _ h⟩)
  · exact .inr h
theorem WEnv.mono {K : PySem.W.Frag} {H H' : Hp} {d : Addr} {r : Fm.Env} (s : Same H H') : WEnv K H d r → WEnv K H' d r := fun ⟨kvs, h, l, q⟩ => ⟨kvs, s _ _ h, l, fun x hx => by
  obtain ⟨t, a1, a2⟩ := q x hx
  exact ⟨t, a1, same_sqT s a2⟩⟩
theorem WEnv.let_ {K : PySem.W.Frag} {H H' : Hp} {d p t : Addr} {r : Fm.Env} {kvs : List (Key × V)} {x : Str} {e : Ex} (E : WEnv K H d r) (hd : H d = some (.dK kvs)) (s : Same H H') (hp : H' p = some (.dK (putK kvs (Sum.inr x : Key) (.ref t))))
    (ht : SqT K H' t [.int (cn e : Nat), .int (grE e)]) : WEnv K H' p ((x, e) :: r) := by
  obtain ⟨k0, h0, l, q⟩ := E
  have ek : k0 = kvs := by rw [hd] at h0; cases h0; rfl
  subst ek
  refine ⟨_, hp, ?_, fun y hy => ?_⟩
  · have := length_putK k0 (Sum.inr x : Key) (V.ref t)
    simp only [List.length_cons]
    omega
  · by_cases e1 : y = x
    · subst e1
      refine ⟨t, by rw [valV_put, if_pos rfl], ?_⟩
      simpa [look] using ht
    · have hy' : y ∈ r.map (·.1) := by
        simp only [List.map_cons, List.mem_cons] at hy
        exact hy.resolve_left e1
      obtain ⟨t', a1, a2⟩ := q y hy'
      refine ⟨t', ?_, ?_⟩
      · rw [valV_put, if_neg (fun z => e1 (Sum.inr.inj z))]; exact a1
      · have e2 : look ((x, e) :: r) y = look r y := by simp [look, e1]
        rw [e2]
        exact same_sqT s a2
/-! ### steps in the heap -/
def stepK : Stp → List Key
  | .whole n => [.inr "whole", .inl n]
  | .px d => [.inr "x", .inl d]
  | .pz d => [.inr "z", .inl d]
  | .noise s l dx dz => [.inr "noise", .inl s, .inl l, .inl dx, .inl dz]
  | .two w i j => [.inr w.word, .inl (i : Int), .inl (j : Int)]
  | .over i n => [.inr "over", .inl (i : Int), .inl n]
  | .bel a b c d => [.inr "below", .inl (a : Int), .inl (b : Int), .inl (c : Int), .inl (d : Int)]
def stepV : Stp → List V
  | .whole n => [.str "whole", .int n]
  | .px d => [.str "x", .int d]
  | .pz d => [.str "z", .int d]
  | .noise s l dx dz => [.str "noise", .int s, .int l, .int dx, .int dz]
  | .two w i j => [.str w.word, .int (i : Int), .int (j : Int)]
  | .over i n => [.str "over", .int (i : Int), .int n]
  | .bel a b c d => [.str "below", .int (a : Int), .int (b : Int), .int (c : Int), .int (d : Int)]
theorem stepV_eq (s : Stp) : stepV s = (stepK s).map kV := by cases s <;> rfl
theorem word_inj {w v : W2} (h : w.word = v.word) : w = v := by
  cases w <;> cases v <;> first | rfl | (exact absurd h (by decide +kernel))
theorem w2_ne (w : W2) : w.word ≠ "over" ∧ w.word ≠ "whole" ∧ w.word ≠ "x" ∧ w.word ≠ "z" ∧ w.word ≠ "noise" ∧ w.word ≠ "below" := by
  cases w <;> exact ⟨by decide +kernel, by decide +kernel, by decide +kernel, by decide +kernel, by decide +kernel, by decide +kernel⟩
theorem stepK_inj {s t : Stp} (h : stepK s = stepK t) : s = t := by
  cases s <;> cases t <;> simp only [stepK, List.cons.injEq, Sum.inr.injEq, Sum.inl.injEq, and_true, Int.natCast_inj, reduceCtorEq, and_false] at h
  case whole.whole => rw [h.2]
  case px.px => rw [h.2]
  case pz.pz => rw [h.2]
  case noise.noise => rw [h.2.1, h.2.2.1, h.2.2.2.1, h.2.2.2.2]
  case two.two w i j v k l => rw [word_inj h.1, h.2.1, h.2.2]
  case two.over w i j k n => exact absurd h.1 (w2_ne w).1
  case over.two k n w i j => exact absurd h.1.symm (w2_ne w).1
  case over.over => rw [h.2.1, h.2.2]
  case bel.bel => rw [h.2.1, h.2.2.1, h.2.2.2.1, h.2.2.2.2]
  all_goals first | exact absurd h.1 (by decide +kernel) | exact h.elim
/-- the steps made so far, each with its number -/
def mkKV (st : List Stp) : List (List Key × V) := st.zipIdx.map fun q => (stepK q.1, V.int (q.2 : Int))
theorem mkKV_len (st : List Stp) : (mkKV st).length = st.length := by simp [mkKV]
theorem mkKV_snoc (st : List Stp) (s : Stp) : mkKV (st ++ [s]) = mkKV st ++ [(stepK s, V.int (st.length : Int))] := by
  simp [mkKV, List.zipIdx_append]
theorem valV_mk (s : Stp) : ∀ (st : List Stp) (n : Nat), valV (st.zipIdx n |>.map fun q => (stepK q.1, V.int (q.2 : Int))) (stepK s) = if s ∈ st then some (V.int ((n + st.idxOf s : Nat) : Int)) else none
  | [], _ => rfl
  | t :: r, n => by
    rw [List.zipIdx_cons, List.map_cons]
    by_cases e : t = s
    · subst e
      rw [valV_pos rfl, if_pos List.mem_cons_self, List.idxOf_cons_self, Nat.add_zero]
    · rw [valV_neg (fun h => e (stepK_inj h)), valV_mk s r (n + 1)]
      have e2 : (t == s) = false := by simpa using e
      by_cases m : s ∈ r
      · rw [if_pos m, if_pos (List.mem_cons_of_mem _ m), List.idxOf_cons, e2]
        have : n + 1 + List.idxOf s r = n + (List.idxOf s r + 1) := by omega
        rw [this]
        rfl
      · rw [if_neg m, if_neg]
        intro h
        rcases List.mem_cons.mp h with h | h
        · exact e h.symm
        · exact m h
theorem mk_get (st : List Stp) (s : Stp) : valV (mkKV st) (stepK s) = if s ∈ st then some (V.int ((st.idxOf s : Nat) : Int)) else none := by
  have := valV_mk s st 0
  simpa [mkKV] using this
theorem putK_new {κ : Type} [DecidableEq κ] {kvs : List (κ × V)} {k : κ} {v : V} (h : valV kvs k = none) : putK kvs k v = kvs ++ [(k, v)] := by
  unfold putK
  rw [valV_any, h]
  rfl
/-- what setdefault does with a step -/
theorem mk_put {st : List Stp} {s : Stp} {P : V → List (List Key × V) → Prop} (h : P (V.int ((put st s).2 : Int)) (mkKV (put st s).1)) :
    (∀ v, valV (mkKV st) (stepK s) = some v → P v (mkKV st)) ∧ (valV (mkKV st) (stepK s) = none → P (V.int (st.length : Int)) (putK (mkKV st) (stepK s) (V.int (st.length : Int)))) := by
  rw [mk_get]
  unfold put at h
  by_cases m : s ∈ st
  · rw [if_pos m] at h
    rw [if_pos m]
    exact ⟨fun v e => by rw [← Option.some.inj e]; exact h, fun e => nomatch e⟩
  · rw [if_neg m] at h
    rw [if_neg m]
    refine ⟨fun v e => (nomatch e), fun _ => ?_⟩
    rw [putK_new (by rw [mk_get, if_neg m]), ← mkKV_snoc]
    exact h
/-- a list of steps -/
abbrev StepsR (H : Hp) : List V → List Stp → Prop := Paired fun v s => ∃ p, v = V.ref p ∧ H p = some (.tup (stepV s))
theorem StepsR.mono {H H' : Hp} (t : Tup H H') : ∀ {vs : List V} {st : List Stp}, StepsR H vs st → StepsR H' vs st
  | _, _, .nil => .nil
  | _, _, .cons ⟨p, e, h⟩ r => .cons ⟨p, e, t _ _ h⟩ (StepsR.mono t r)
theorem steps_at {H : Hp} : ∀ {vs : List V} {st : List Stp} {i : Nat} {y : V}, StepsR H vs st → vs[i]? = some y → ∃ s, st[i]? = some s ∧ ∃ p, y = V.ref p ∧ H p = some (.tup (stepV s))
  | _, _, _, _, .nil, h => by simp at h
  | _, _, 0, y, .cons (b := b) a _, h => by
    simp at h
    subst h
    exact ⟨b, rfl, a⟩
  | _, _, i + 1, y, .cons _ t, h => by
    obtain ⟨s, h1, h2⟩ := steps_at (i := i) (y := y) t (by simpa using h)
    exact ⟨s, by simpa using h1, h2⟩
theorem StepsR.append {H : Hp} : ∀ {vs ws : List V} {st tt : List Stp}, StepsR H vs st → StepsR H ws tt → StepsR H (vs ++ ws) (st ++ tt)
  | _, _, _, _, .nil, h => h
  | _, _, _, _, .cons a t, h => .cons a (StepsR.append t h)
theorem steps_of_keys {H : Hp} : ∀ {st : List Stp} {n : Nat} {bs : List Addr}, IsKeys H (st.zipIdx n |>.map fun q => (stepK q.1, V.int (q.2 : Int))) bs → StepsR H (bs.map V.ref) st
  | [], _, bs, h => by
    cases bs with
    | nil => exact .nil
    | cons b r => cases h
  | s :: st, n, bs, h => by
    rw [List.zipIdx_cons, List.map_cons] at h
    cases h with
    | @cons a b l m h t =>
      refine .cons ⟨b, rfl, ?_⟩ (steps_of_keys (n := n + 1) t)
      rw [stepV_eq]
      exact h
end Pf


/-! Rules over the hand layer: {**d, k: v}; d.setdefault of a dict whose keys are tuples. -/
namespace Dz
open PySem PySem.Spec PyProof.Rows L2
section
variable {X : Cx} {pins : List (Addr × Obj)} {σ : L2.St} {H : Hp} {s : Shared} {a b : Addr} {u r : Value} {d : V} {A : Around} {E : Value → Shared → Prop}
theorem d_setdT {kvs : List (List Key × V)} {k : List Key} {Q : Value → Shared → Prop} (hu : A.units + 1 < cLine) (I : Inv X pins σ H s) (e : H a = some (.dT kvs)) (eb : H b = some (.tup (k.map kV))) (rd : RelV d r) (hl : kvs.length < sizeLine)
    (h1 : ∀ v, valV kvs k = some v → ∀ (w' : Value) (s' : Shared), Inv X pins σ H s' → RelV v w' → Q w' s') (h2 : valV kvs k = none → ∀ (w' : Value) (s' : Shared), Inv X pins σ (upd H a (.dT (putK kvs k d))) s' → RelV d w' → Q w' s') :
    wpAny (model X.prog X.w) A (call (.builtin "dict.setdefault") [.ref a, .ref b, r]) Q E s := by
  obtain ⟨z, hd, xs, rel, dd⟩ := dt_of I.hok e
  have hz : xs.length ≤ sizeLine := by
    rw [← Paired.length rel]
    exact z
  refine call_meetsIn PySem.F.slot_dict_setdefault dd.typeIs PySem.F.entry_dict_setdefault (PySem.F.args_dict_setdefault_3 _ _ _) (meetsH_dict_setdefault (tupleKind (mixKind X.prog X.w)) a b hd r) ⟨tupleKind_room_in1 hu, k, xs, key_of I.hok eb, dd, hz, fun p hp => ?_, fun hn h' dd' hs => ?_⟩
  · have q := rel.val k
    rw [hp] at q
    cases q0 : valV kvs k with
    | none =>
      rw [q0] at q
      exact (show False from q).elim
    | some v0 =>
      rw [q0] at q
      exact h1 v0 q0 _ _ (I.tok _) q
  · have q := rel.val k
    rw [hn] at q
    cases q0 : valV kvs k with
    | some v0 =>
      rw [q0] at q
      exact (show False from q).elim
    | none =>
      have hl2 : (putK kvs k d).length ≤ sizeLine := by
        have := length_putK kvs k d
        omega
      obtain ⟨q, es, ep, hq, e2, e3, e4, _, e5⟩ := dd'
      refine h2 q0 _ _ (d_write I (by rw [e]; exact True.intro) hs ⟨q, hq⟩ ⟨hl2, hd, _, (rel.put k eb rd).keeps fun c ys ec => ?_, q, es, ep, hq, e2, e3, e4, e5⟩) rd
      rw [upd_ne (ne_of ec e (fun z => nomatch z))]
      exact ec
end
/-- d.setdefault(y, z), the keys tuples -/
def tDSetdT (td ty tx : TE) : TE := fun σ H Q => td σ H fun x H1 => ∃ a, x = .ref a ∧ IsD H1 a ∧ ty σ H1 fun y H2 => tx σ H2 fun z H3 => ∃ (kvs : List (List Key × V)) (k : List Key) (b : Addr), H3 a = some (.dT kvs) ∧ y = .ref b ∧ H3 b = some (.tup (k.map kV)) ∧ kvs.length < sizeLine ∧
  (∀ v, valV kvs k = some v → Q v H3) ∧ (valV kvs k = none → Q z (upd H3 a (.dT (putK kvs k z))))
section
variable {X : Cx} {o e f : Expr} {td ty tx : TE} {apos cpos : Pos}
theorem pe_dsetdT (hu : X.A.units + 1 < cLine) (ho : PE X o td) (he : PE X e ty) (hf : PE X f tx) (m : M2 X o "setdefault" apos e f cpos) : PE X (.Call (.Attribute o "setdefault" apos) [e, f] [] cpos) (tDSetdT td ty tx) := by
  refine ⟨fun pins s σ H Q I h => ?_⟩
  refine wpAny_Call_method m.base m.few m.line PySem.F.plainAttrs_dict PySem.F.slot_dict_setdefault PySem.F.type_dict_setdefault (thn (ho.run pins s σ H _ I h) fun u s1 ⟨x, H1, I1, rx, a, ex, d, q1⟩ => ?_)
  subst ex
  obtain rfl : u = Value.ref a := rx
  obtain ⟨t1, t2, _⟩ := isD_at I1 d
  refine ⟨t1, t2, ?_⟩
  rw [m.trees]
  refine Calls.callWith_builtin rfl (Calls.evalArgs_plain (Calls.spliced_cons (thn (he.run pins s1 σ H1 _ I1 q1) fun iv s2 ⟨y, H2, I2, ry, q2⟩ =>
    Calls.spliced_cons (thn (hf.run pins s2 σ H2 _ I2 q2) fun fv s3 ⟨z, H3, I3, rz, kvs, k, b, ea, ey, eb, hl, q3, q4⟩ => Calls.spliced_nil ?_))))
  subst ey
  obtain rfl : iv = Value.ref b := ry
  exact d_setdT hu I3 ea eb rz hl (fun v hv w' s4 I4 rw' => ⟨v, _, I4, rw', q3 v hv⟩) fun hn w' s4 I4 rw' => ⟨z, _, I4, rw', q4 hn⟩
end
/-- {**m, k: v}, the keys ints and texts -/
def tDispS (tm tk tv : TE) : TE := fun σ H Q => ∀ p, H p = none → tm σ (upd H p (.dK [])) fun x H1 => ∃ a kvs, x = .ref a ∧ a ≠ p ∧ H1 p = some (.dK []) ∧ H1 a = some (.dK kvs) ∧ kvs.length < sizeLine ∧
  ∀ p2, upd H1 p (.dK kvs) p2 = none → tk σ (upd (upd H1 p (.dK kvs)) p2 (.dK [])) fun y H2 => tv σ H2 fun v H3 => ∃ key : Key, y = kV key ∧ H3 p = some (.dK kvs) ∧ H3 p2 = some (.dK []) ∧ Q (.ref p) (upd (upd H3 p2 (.dK [(key, v)])) p (.dK (putK kvs key v)))
section
variable {X : Cx} {m k v : Expr} {tm tk tv : TE} {pos : Pos}
theorem pe_dispS (hm : PE X m tm) (hk : PE X k tk) (hv : PE X v tv) : PE X (.Dict [none, some k] [m, v] pos) (tDispS tm tk tv) := by
  refine ⟨fun pins s σ H Q I q => ?_⟩
  rw [arm_eval_Dict]
  refine wpAny_bind (wpAny_standAt ?_)
  have hn := I.hok.fresh (Nat.le_refl s.heap.objs.size)
  have I1 := I.laid (a := s.heap.objs.size) (o := .dK []) (h' := s.heap.push { cls := .type "dict", data := .dict #[] }) (t' := s.toks) (fun _ _ q => Heap.get?_push_of_some _ q) (Nat.le_refl _) (dk_empty s.heap I.big)
  show wpAny _ _ (dictDisplay [(none, do let x ← eval m X.env; standAt pos; pure x), (some (eval k X.env), do let x ← eval v X.env; standAt pos; pure x)]) _ _ s
  refine Dm.wpAny_displayStar (knd := mixKind X.prog X.w) (wpAny_bind (thn (hm.run pins _ σ _ _ I1 (q _ hn)) fun mv s1 ⟨x, H1, I2, rx, a, kvs, ex, hap, hp, ha, hl, q1⟩ => wpAny_bind (wpAny_standAt (wpAny_pure ?_))))
  subst ex
  obtain rfl : mv = Value.ref a := rx
  obtain ⟨z, hd, vs, rel, dd⟩ := dk_of I2.hok ha
  obtain ⟨z0, hd0, vs0, r0, dd0⟩ := dk_of I2.hok hp
  cases r0
  have hlv : vs.length < sizeLine := by rw [← rel.length]; exact hl
  refine ⟨a, vs, rfl, hap.symm, hd, dd0, dd, hlv, fun h1 dd1 hs1 => ?_⟩
  have he1 : ∃ q, h1.get? s.heap.objs.size = some q := let ⟨q, _, _, hq, _⟩ := dd1; ⟨q, hq⟩
  have I3 := d_write (t' := s1.toks) I2 (by rw [hp]; exact True.intro) hs1 he1 (dk_new z hd0 rel dd1)
  have hn2 := I3.hok.fresh (Nat.le_refl _)
  have I4 := I3.laid (a := h1.objs.size) (o := .dK []) (h' := h1.push { cls := .type "dict", data := .dict #[] }) (t' := s1.toks) (fun _ _ q => Heap.get?_push_of_some _ q) (Nat.le_refl _) (dk_empty h1 I3.big)
  refine evalPairs_cons (thn (hk.run pins _ σ _ _ I4 (q1 _ hn2)) fun kv s2 ⟨y, H2, I5, ry, q2⟩ => wpAny_bind (thn (hv.run pins s2 σ H2 _ I5 q2) fun vv s3 ⟨x2, H3, I6, rv, key, ey, hp3, hp4, q3⟩ => wpAny_bind (wpAny_standAt (wpAny_pure (evalPairs_nil ?_)))))
  subst ey
  obtain ⟨z5, hd5, vs5, r5, dd5⟩ := dk_of I6.hok hp3
  obtain ⟨z6, hd6, vs6, r6, dd6⟩ := dk_of I6.hok hp4
  cases r6
  have ne12 : h1.objs.size ≠ s.heap.objs.size := fun e => by
    rw [e, upd_same] at hn2
    cases hn2
  have hz5 : vs5.length < sizeLine := by rw [← r5.length]; exact hl
  refine ⟨key, vv, vs5, hz5, ⟨kV_is ry, rfl, True.intro⟩, ne12, hd6, dd6, dd5, fun h2 dd7 hs2 h3 dd8 dd9 hs3 => ?_⟩
  have he2 : ∃ q, h2.get? h1.objs.size = some q := let ⟨q, _, _, hq, _⟩ := dd7; ⟨q, hq⟩
  have r7 : KV [(key, x2)] [(key, vv)] := .cons ⟨rfl, rv⟩ .nil
  have I7 := d_write (t' := s3.toks + 1) I6 (by rw [hp4]; exact True.intro) hs2 he2 (dk_new (by rw [sizeLine_eq]; simp only [List.length_cons, List.length_nil]; omega) hd6 r7 dd7)
  have he3 : ∃ q, h3.get? s.heap.objs.size = some q := let ⟨q, _, _, hq, _⟩ := dd8; ⟨q, hq⟩
  have hl2 : (putK kvs key x2).length ≤ sizeLine := by
    have := length_putK kvs key x2
    omega
  have I8 := d_write (t' := s3.toks + 1) I7 (by rw [upd_ne ne12.symm, hp3]; exact True.intro) hs3 he3 (dk_new hl2 hd5 (r5.put key rv) dd8)
  exact ⟨.ref s.heap.objs.size, _, I8, rfl, q3⟩
end
end Dz

/-! min, max of a tuple of ints. -/
namespace Dz
open PySem PySem.Spec PyProof.Rows L2
section
variable {prog : Program} {w : World} {A : Around} {E : Value → Shared → Prop} {s : Shared} {l : Addr} {xs : Array (Int × Tok)}
theorem old_keptT {h' : Heap} {o : Obj} (hk : ∀ b u, b ∉ [s.heap.objs.size] → (s.heap.push o).get? b = some u → h'.get? b = some u) :
    ∀ b u, s.heap.get? b = some u → h'.get? b = some u := fun b u e => by
  refine hk b u (fun hm => ?_) (Heap.get?_push_of_some _ e)
  rcases List.mem_cons.mp hm with e1 | hm
  · exact absurd (e1 ▸ Heap.lt_size e) (Nat.lt_irrefl _)
  · cases hm
theorem max_intTuple {Q : Value → Shared → Prop} (hh : A.handled = none) (hl : s.heap.IsTuple l (intItems xs)) (hne : 0 < xs.size)
    (h : ∀ v h' tk, (intItems xs)[argBest (fun i j => decide (numAt xs i > numAt xs j)) (xs.size - 1)]? = some v → (∀ b o, s.heap.get? b = some o → h'.get? b = some o) → Q v { s with heap := h', toks := tk }) :
    wpAny (model prog w) A (call (.builtin "max") [.ref l]) Q E s := by
  have hlt : l < s.heap.objs.size := by obtain ⟨_, e, _⟩ := hl; exact Heap.lt_size e
  refine call_max_walk (wpAny_pyIter_tuple hl ?_)
  refine ⟨_, [_, l], [_], _, _, _, _, rfl, Walks.tuple (A := A.in1) hh _ l (Nat.ne_of_lt hlt) (intItems xs), ⟨⟨_, Heap.get?_push_size _ rfl, rfl, rfl⟩, hl.push _⟩, fun c hc => ?_, by simpa [intItems] using hne, CmpOf.ints_gt (numAt xs) (fun _ _ => intItems_at), fun v h' tk hP hk => ?_⟩
  · show c < (s.heap.push _).objs.size
    rw [Heap.size_push]
    rcases List.mem_cons.mp hc with rfl | hc
    · exact Nat.lt_succ_self _
    · rcases List.mem_cons.mp hc with rfl | hc
      · exact Nat.lt_succ_of_lt hlt
      · cases hc
  · exact h v h' tk (by simpa [intItems] using hP) (old_keptT hk)
theorem min_intTuple {Q : Value → Shared → Prop} (hh : A.handled = none) (hl : s.heap.IsTuple l (intItems xs)) (hne : 0 < xs.size)
    (h : ∀ v h' tk, (intItems xs)[argBest (fun i j => decide (numAt xs i < numAt xs j)) (xs.size - 1)]? = some v → (∀ b o, s.heap.get? b = some o → h'.get? b = some o) → Q v { s with heap := h', toks := tk }) :
    wpAny (model prog w) A (call (.builtin "min") [.ref l]) Q E s := by
  have hlt : l < s.heap.objs.size := by obtain ⟨_, e, _⟩ := hl; exact Heap.lt_size e
  refine call_min_walk (wpAny_pyIter_tuple hl ?_)
  refine ⟨_, [_, l], [_], _, _, _, _, rfl, Walks.tuple (A := A.in1) hh _ l (Nat.ne_of_lt hlt) (intItems xs), ⟨⟨_, Heap.get?_push_size _ rfl, rfl, rfl⟩, hl.push _⟩, fun c hc => ?_, by simpa [intItems] using hne, CmpOf.ints_lt (numAt xs) (fun _ _ => intItems_at), fun v h' tk hP hk => ?_⟩
  · show c < (s.heap.push _).objs.size
    rw [Heap.size_push]
    rcases List.mem_cons.mp hc with rfl | hc
    · exact Nat.lt_succ_self _
    · rcases List.mem_cons.mp hc with rfl | hc
      · exact Nat.lt_succ_of_lt hlt
      · cases hc
  · exact h v h' tk (by simpa [intItems] using hP) (old_keptT hk)
end
section
variable {X : Cx}
def rMaxT (K : PySem.W.Frag) : List V → Hp → VK → Prop := fun vs H Q => ∃ (a : Addr) (ns : List Int), vs = [V.ref a] ∧ SqT K H a (ns.map V.int) ∧ 0 < ns.length ∧ ∀ m, m ∈ ns → (∀ y, y ∈ ns → y ≤ m) → Q (.int m) H
def rMinT (K : PySem.W.Frag) : List V → Hp → VK → Prop := fun vs H Q => ∃ (a : Addr) (ns : List Int), vs = [V.ref a] ∧ SqT K H a (ns.map V.int) ∧ 0 < ns.length ∧ ∀ m, m ∈ ns → (∀ y, y ∈ ns → m ≤ y) → Q (.int m) H
theorem cr_maxT (hc : X.calm = true) : CallR X (.builtin "max") (rMaxT X.K) := by
  intro pins s σ H vs us Q I r h
  obtain ⟨a, ns, rfl, hs, hne, q⟩ := h
  obtain ⟨its, rv, hl, _⟩ := I.tuple hs
  rw [Vals.ref1 r]
  obtain ⟨xs, e⟩ := rv.ints.allInts.items
  have hn : numsOf (intItems xs).toList = ns := by rw [← e]; exact rv.ints.numsOf
  rw [nums_intItems] at hn
  subst hn
  rw [e] at hl
  have hsz : 0 < xs.size := by simpa using hne
  refine max_intTuple (I.ok.hd hc) hl hsz fun v h' tk hv hk => ?_
  obtain ⟨t, rfl⟩ := intItems_at hv
  obtain ⟨h1, h2⟩ := argBest_gt (numAt xs) (xs.size - 1)
  refine ⟨.int _, H, I.kept hk, ⟨_, rfl⟩, q _ ?_ fun a ha => ?_⟩
  · rw [numAt_eq]; exact PySem.getD_mem (by rw [List.length_map, Array.length_toList]; omega)
  · obtain ⟨j, hj, rfl⟩ := mem_getD ha
    rw [List.length_map, Array.length_toList] at hj
    rw [← numAt_eq]; exact h2 j (by omega)
theorem cr_minT (hc : X.calm = true) : CallR X (.builtin "min") (rMinT X.K) := by
  intro pins s σ H vs us Q I r h
  obtain ⟨a, ns, rfl, hs, hne, q⟩ := h
  obtain ⟨its, rv, hl, _⟩ := I.tuple hs
  rw [Vals.ref1 r]
  obtain ⟨xs, e⟩ := rv.ints.allInts.items
  have hn : numsOf (intItems xs).toList = ns := by rw [← e]; exact rv.ints.numsOf
  rw [nums_intItems] at hn
  subst hn
  rw [e] at hl
  have hsz : 0 < xs.size := by simpa using hne
  refine min_intTuple (I.ok.hd hc) hl hsz fun v h' tk hv hk => ?_
  obtain ⟨t, rfl⟩ := intItems_at hv
  obtain ⟨h1, h2⟩ := argBest_lt (numAt xs) (xs.size - 1)
  refine ⟨.int _, H, I.kept hk, ⟨_, rfl⟩, q _ ?_ fun a ha => ?_⟩
  · rw [numAt_eq]; exact PySem.getD_mem (by rw [List.length_map, Array.length_toList]; omega)
  · obtain ⟨j, hj, rfl⟩ := mem_getD ha
    rw [List.length_map, Array.length_toList] at hj
    rw [← numAt_eq]; exact h2 j (by omega)
end
end Dz

/-! Noise as the program reckons it; the values of steps. -/
namespace Pf
open PySem L2 Lw Fm Fr Sm
theorem cmul_mod {a m b : Int} (h : 0 < m) (h2 : m ≤ 18446744073709551616) : L2.CMul (a % m) b := Or.inl ⟨by have := Int.emod_nonneg a (show m ≠ 0 by omega); omega, by have := Int.emod_lt_of_pos a h; omega⟩
theorem cmul_nn {a b m : Int} (h0 : 0 ≤ a) (h1 : a < m) (h2 : m ≤ 18446744073709551616) : L2.CMul a b := Or.inl ⟨by omega, by omega⟩
theorem kb_0 (a i : Int) : (a * a + 69621 * i + 1) % 2147483629 = kB a i := rfl
theorem kb_1 (a i : Int) : (a * a + 69621 * i + 1 + 69621) % 2147483629 = kB a (i + 1) := by
  unfold kB
  congr 1
  omega
theorem kc_0 (b j : Int) : (b * b + (16807 * j + 1)) % 2147483587 = kC b j := by
  unfold kC
  congr 1
  omega
theorem kc_1 (b j : Int) : (b * b + (16807 * j + 1) + 16807) % 2147483587 = kC b (j + 1) := by
  unfold kC
  congr 1
  omega
/-- four knots, as they come of one another -/
def fourRaw (g s i j : Int) : List V :=
  let a := (g + 48271 * s + 7) % 2147483647
  let b := (a * a + 69621 * i + 1) % 2147483629
  let c := (a * a + 69621 * i + 1 + 69621) % 2147483629
  let t := 16807 * j + 1
  let k1 := (b * b + t) % 2147483587
  let k3 := (b * b + t + 16807) % 2147483587
  let k2 := (c * c + t) % 2147483587
  let k4 := (c * c + t + 16807) % 2147483587
  [.int ((k1 * k1 + k1) % 2147483579 % 65536), .int ((k2 * k2 + k2) % 2147483579 % 65536), .int ((k3 * k3 + k3) % 2147483579 % 65536), .int ((k4 * k4 + k4) % 2147483579 % 65536)]
abbrev fourV (g s i j : Int) : List V := [.int (knotL g s i j), .int (knotL g s (i + 1) j), .int (knotL g s i (j + 1)), .int (knotL g s (i + 1) (j + 1))]
theorem four_eq (g s i j : Int) : fourRaw g s i j = fourV g s i j := by
  unfold fourRaw
  simp only [kb_0, kb_1, kc_0, kc_1]
  rfl
theorem noise_of {g s x z S : Int} {k : Nat} (hS : (2 : Int) ^ k = S) (S0 : 0 < S) : noiseL g s k x z = ((S - z % S) * ((S - x % S) * knotL g s (x / S) (z / S) + x % S * knotL g s (x / S + 1) (z / S)) + z % S * ((S - x % S) * knotL g s (x / S) (z / S + 1) + x % S * knotL g s (x / S + 1) (z / S + 1))) / (S * S) := by
  have ex : ∀ y : Int, (y - y % S) / S = y / S := fun y => by
    have h := Int.mul_ediv_add_emod y S
    have e : y - y % S = S * (y / S) := by omega
    rw [e, Int.mul_ediv_cancel_left _ (by omega)]
  unfold noiseL
  rw [Int.toNat_natCast, hS]
  simp only [ex]
  congr 1
  simp only [Int.mul_add, Int.mul_assoc, Int.mul_comm, Int.mul_left_comm, Int.add_assoc]
theorem noise_knot {g s x z S : Int} {k : Nat} (hS : (2 : Int) ^ k = S) (S0 : 0 < S) (hx : x % S = 0) (hz : z % S = 0) : noiseL g s k x z = knotL g s (x / S) (z / S) := by
  rw [noise_of hS S0, hx, hz]
  simp only [Int.sub_zero, Int.zero_mul, Int.add_zero]
  rw [← Int.mul_assoc, Int.mul_ediv_cancel_left]
  exact Int.ne_of_gt (Int.mul_pos S0 S0)
theorem shift_eq {a S : Int} {k : Nat} (hS : (2 : Int) ^ k = S) : a / 2 ^ (k + k) = a / (S * S) := by
  rw [Int.pow_add, hS]
/-! ### sizes of steps' values -/
/-- the numbers of a step lie within their bounds -/
def OkS : Stp → Prop
  | .noise _ l _ _ => 0 ≤ l ∧ l ≤ 8
  | .over _ n => 1 ≤ n ∧ n ≤ 1000000000
  | _ => True
def OkSs (st : List Stp) : Prop := ∀ s ∈ st, OkS s
theorem okS_put {st : List Stp} {s : Stp} (h : OkSs st) (hs : OkS s) : OkSs (put st s).1 := by
  unfold put
  split
  · exact h
  · intro t ht
    rcases List.mem_append.mp ht with ht | ht
    · exact h t ht
    · rw [List.mem_singleton.mp ht]; exact hs
theorem okS_into : ∀ (e : Ex) (dx dz : Int) (st : List Stp), OkE e → OkSs st → OkSs (into e dx dz st).1
  | .whole _, _, _, _, _, h => okS_put h True.intro
  | .px, _, _, _, _, h => okS_put h True.intro
  | .pz, _, _, _, _, h => okS_put h True.intro
  | .noise _ _, _, _, _, o, h => okS_put h o.2
  | .two _ a b, dx, dz, st, o, h => okS_put (okS_into b dx dz _ o.2 (okS_into a dx dz st o.1 h)) True.intro
  | .over a _, dx, dz, st, o, h => okS_put (okS_into a dx dz st o.1 h) o.2
  | .bel a b c d, dx, dz, st, o, h => okS_put (okS_into d dx dz _ o.2.2.2 (okS_into c dx dz _ o.2.2.1 (okS_into b dx dz _ o.2.1 (okS_into a dx dz st o.1 h)))) True.intro
  | .shift ex ez a, dx, dz, st, o, h => okS_into a (dx + ex) (dz + ez) st o.2.2 h
/-- all values are less than B bits long -/
def Szd (g x z : Int) (B : Nat) (st : List Stp) : Prop := ∀ i, i < st.length → (((valA g x z).run st).getD i 0).natAbs < 2 ^ B
theorem szd_nil (g x z : Int) (B : Nat) : Szd g x z B [] := fun i h => absurd h (Nat.not_lt_zero i)
theorem szd_put {g x z : Int} {B : Nat} {st : List Stp} {s : Stp} (h : Szd g x z B st) (hv : (((valA g x z).run (put st s).1).getD (put st s).2 0).natAbs < 2 ^ B) : Szd g x z B (put st s).1 := by
  have P := put_ok st s
  intro i hi
  by_cases l : i < st.length
  · show (((valA g x z).run (put st s).1).getD i (valA g x z).dflt).natAbs < 2 ^ B
    rw [run_get (valA g x z) P.pre l]
    exact h i l
  · have e : i = (put st s).2 := by
      unfold put at hi ⊢
      split at hi
      · exact absurd hi l
      · rename_i m
        rw [if_neg m]
        rw [List.length_append] at hi
        simp only [List.length_cons, List.length_nil] at hi
        show i = st.length
        omega
    rw [e]
    exact hv
theorem szd_into : ∀ (e : Ex) (g x z dx dz : Int) (k B : Nat) (st : List Stp), OkE e → Ok st → 34 ≤ k → (x + dx).natAbs < 2 ^ k → (z + dz).natAbs < 2 ^ k → vb e k ≤ B → Szd g x z B st → Szd g x z B (into e dx dz st).1 := by
  have leaf : ∀ (e : Ex) (s : Stp) (g x z dx dz : Int) (k B : Nat) (st : List Stp), into e dx dz st = put st s → OkE e → Ok st → 34 ≤ k → (x + dx).natAbs < 2 ^ k → (z + dz).natAbs < 2 ^ k → vb e k ≤ B → Szd g x z B st → Szd g x z B (into e dx dz st).1 := by
    intro e s g x z dx dz k B st he o ok hk hx hz hv h
    have iv := (into_ok e dx dz st).val ok (valA g x z)
    have b := lt_pow_of (val_bits e g (x + dx) (z + dz) k o hk hx hz) hv
    rw [fold_val] at iv
    rw [he] at iv ⊢
    refine szd_put h ?_
    show (((valA g x z).run (put st s).1).getD (put st s).2 (valA g x z).dflt).natAbs < 2 ^ B
    rw [iv]
    exact b
  have whole : ∀ (e : Ex) (s : Stp) (st' : List Stp) (g x z dx dz : Int) (k B : Nat) (st : List Stp), into e dx dz st = put st' s → OkE e → Ok st → 34 ≤ k → (x + dx).natAbs < 2 ^ k → (z + dz).natAbs < 2 ^ k → vb e k ≤ B → Szd g x z B st' → Szd g x z B (into e dx dz st).1 := by
    intro e s st' g x z dx dz k B st he o ok hk hx hz hv h
    have iv := (into_ok e dx dz st).val ok (valA g x z)
    have b := lt_pow_of (val_bits e g (x + dx) (z + dz) k o hk hx hz) hv
    rw [fold_val] at iv
    rw [he] at iv ⊢
    refine szd_put h ?_
    show (((valA g x z).run (put st' s).1).getD (put st' s).2 (valA g x z).dflt).natAbs < 2 ^ B
    rw [iv]
    exact b
  intro e
  induction e with
  | whole n => exact fun g x z dx dz k B st => leaf (.whole n) (.whole n) g x z dx dz k B st rfl
  | px => exact fun g x z dx dz k B st => leaf .px (.px dx) g x z dx dz k B st rfl
  | pz => exact fun g x z dx dz k B st => leaf .pz (.pz dz) g x z dx dz k B st rfl
  | noise s l => exact fun g x z dx dz k B st => leaf (.noise s l) (.noise s l dx dz) g x z dx dz k B st rfl
  | two w a b iha ihb =>
    intro g x z dx dz k B st o ok hk hx hz hv h
    have v2 := vb_two w a b k
    have ha := iha g x z dx dz k B st o.1 ok hk hx hz (by omega) h
    have hb := ihb g x z dx dz k B _ o.2 ((into_ok a dx dz st).ok ok) hk hx hz (by omega) ha
    exact whole (.two w a b) _ _ g x z dx dz k B st rfl o ok hk hx hz hv hb
  | over a n iha =>
    intro g x z dx dz k B st o ok hk hx hz hv h
    have ha := iha g x z dx dz k B st o.1 ok hk hx hz hv h
    exact whole (.over a n) _ _ g x z dx dz k B st rfl o ok hk hx hz hv ha
  | bel a b c d iha ihb ihc ihd =>
    intro g x z dx dz k B st o ok hk hx hz hv h
    have hv' : max (max (vb a k) (vb b k)) (max (vb c k) (vb d k)) ≤ B := hv
    have oa := (into_ok a dx dz st).ok ok
    have ob := (into_ok b dx dz _).ok oa
    have oc := (into_ok c dx dz _).ok ob
    have ha := iha g x z dx dz k B st o.1 ok hk hx hz (by omega) h
    have hb := ihb g x z dx dz k B _ o.2.1 oa hk hx hz (by omega) ha
    have hc := ihc g x z dx dz k B _ o.2.2.1 ob hk hx hz (by omega) hb
    have hd := ihd g x z dx dz k B _ o.2.2.2 oc hk hx hz (by omega) hc
    exact whole (.bel a b c d) _ _ g x z dx dz k B st rfl o ok hk hx hz hv hd
  | shift ex ez a iha =>
    intro g x z dx dz k B st o ok hk hx hz hv h
    refine iha g x z (dx + ex) (dz + ez) (k + 1) B st o.2.2 ok (by omega) ?_ ?_ hv h
    · rw [← Int.add_assoc]; exact shift_bits o.1 hk hx
    · rw [← Int.add_assoc]; exact shift_bits o.2.1 hk hz
theorem cut1T {w : V} {xs : List V} : cutV (w :: xs) (some 1) none = xs := by
  unfold cutV
  rw [show HT.sIx (w :: xs).length 0 (some 1) = min 1 (w :: xs).length from HT.sIx_nat (w :: xs).length 0 1, HT.sIx_none]
  rw [show min 1 (w :: xs).length = 1 by rw [List.length_cons]; omega]
  show List.take ((w :: xs).length - 1) xs = xs
  rw [List.length_cons, Nat.add_sub_cancel]
  exact List.take_length
theorem cut1T_ok {w : V} {xs : List V} : ¬ (HT.sIx (w :: xs).length 0 (some 1) = 0 ∧ HT.sIx (w :: xs).length (w :: xs).length none = (w :: xs).length) := by
  rw [show HT.sIx (w :: xs).length 0 (some 1) = min 1 (w :: xs).length from HT.sIx_nat (w :: xs).length 0 1]
  rw [List.length_cons]
  omega
theorem g_yes {σ : L2.St} {H : Hp} {Q : Bool → Hp → Prop} (q : Q true H) : tYes σ H Q := q
theorem g_din {σ : L2.St} {H : Hp} {Q : VK} {ty td : TE} (q : ty σ H fun y H1 => td σ H1 fun x H2 => ∃ a o, x = .ref a ∧ DGet H2 a y o ∧ Q (.bl o.isSome) H2) : tDIn ty td σ H Q := q
theorem keepT_tup {mk : Addr} {H H' : Hp} {kvs : List (List Key × V)} (k : Keep mk H H') (h : H mk = some (.dT kvs)) : Tup H H' := fun a xs e => k a _ (ne_of e h (by intro z; cases z)) e
theorem envR_keep {mk : Addr} {H H' : Hp} {kv : List (List Key × V)} (k : Keep mk H H') (h : H mk = some (.dT kv)) : ∀ {n : Nat} {d : Addr} {r : Fm.Env} {δ : List (Str × Nat)}, EnvR n H d r δ → EnvR n H' d r δ
  | 0, _, _, _, ⟨e, q⟩ => ⟨k _ _ (ne_of e h (by intro z; cases z)) e, q⟩
  | n + 1, _, _, _, ⟨kvs, e, l, q⟩ => ⟨kvs, k _ _ (ne_of e h (by intro z; cases z)) e, l, fun x hx => by
    obtain ⟨t, u, d', F, r', δ', a1, a2, a3, a4, a5⟩ := q x hx
    exact ⟨t, u, d', F, r', δ', a1, k _ _ (ne_of a2 h (by intro z; cases z)) a2, a3.mono (keepT_tup k h), envR_keep k h a4, a5⟩⟩
theorem g_star {K : PySem.W.Frag} {σ : L2.St} {H : Hp} {te : TE} {t : TA} {Q : List V → Hp → Prop} (q : te σ H fun x H1 => ∃ p xs, x = V.ref p ∧ (SqT K H1 p xs ∨ SqL K H1 p xs) ∧ t σ H1 fun ys H2 => Q (xs ++ ys) H2) : StX.tStar K te t σ H Q := q
theorem g_lstT {K : PySem.W.Frag} {σ : L2.St} {H : Hp} {p : Addr} {xs : List V} {t : TGs} {Q : L2.St → Hp → Prop} {m : Nat} (h : SqL K H p xs) (hl : xs.length = m) (q : t xs σ H Q) : gLst K m t (.ref p) σ H Q := ⟨p, xs, rfl, h, hl, q⟩
theorem mn4_of {a b c d m : Int} (h : m ∈ [a, b, c, d]) (l : ∀ y, y ∈ [a, b, c, d] → m ≤ y) : m = mn4 a b c d := by
  have h1 := l a (by simp); have h2 := l b (by simp); have h3 := l c (by simp); have h4 := l d (by simp)
  simp only [List.mem_cons, List.not_mem_nil, or_false] at h
  unfold mn4
  omega
theorem mx4_of {a b c d m : Int} (h : m ∈ [a, b, c, d]) (l : ∀ y, y ∈ [a, b, c, d] → y ≤ m) : m = mx4 a b c d := by
  have h1 := l a (by simp); have h2 := l b (by simp); have h3 := l c (by simp); have h4 := l d (by simp)
  simp only [List.mem_cons, List.not_mem_nil, or_false] at h
  unfold mx4
  omega
theorem pr_at {H : Hp} : ∀ {vs : List V} {ps : List (Int × Int)} {j : Nat}, PairsR H vs ps → j < ps.length → ∃ p, vs[j]? = some (V.ref p) ∧ H p = some (.tup [.int (ps.getD j (0, 0)).1, .int (ps.getD j (0, 0)).2])
  | _, _, _, .nil, h => absurd h (Nat.not_lt_zero _)
  | _, _, 0, .cons (b := b) ⟨p, e, h⟩ _, _ => ⟨p, by rw [e]; rfl, h⟩
  | _, _, j + 1, .cons _ t, h => by
    obtain ⟨p, h1, h2⟩ := pr_at (j := j) t (by simpa using h)
    exact ⟨p, by simpa using h1, by simpa using h2⟩
theorem pairs_putL {H : Hp} {a : Addr} {ys : List V} {o : HO} (ha : H a = some (.lst ys)) : ∀ {vs : List V} {ps : List (Int × Int)}, PairsR H vs ps → PairsR (upd H a o) vs ps
  | _, _, .nil => .nil
  | _, _, .cons ⟨p, e, h⟩ t => .cons ⟨p, e, by rw [upd_ne (ne_of h ha (by intro z; cases z))]; exact h⟩ (pairs_putL ha t)
/-- all ranges of steps -/
def AllP (N : NR) (x0 z0 x1 z1 : Int) (P : Int × Int → Prop) (st : List Stp) : Prop := ∀ i, i < st.length → P (((rngA N x0 z0 x1 z1).run st).getD i (0, 0))
theorem allP_put {N : NR} {x0 z0 x1 z1 : Int} {P : Int × Int → Prop} {st : List Stp} {s : Stp} (h : AllP N x0 z0 x1 z1 P st) (hv : P (((rngA N x0 z0 x1 z1).run (put st s).1).getD (put st s).2 (0, 0))) : AllP N x0 z0 x1 z1 P (put st s).1 := by
  have Q := put_ok st s
  intro i hi
  by_cases l : i < st.length
  · show P (((rngA N x0 z0 x1 z1).run (put st s).1).getD i (rngA N x0 z0 x1 z1).dflt)
    rw [run_get (rngA N x0 z0 x1 z1) Q.pre l]
    exact h i l
  · have e : i = (put st s).2 := by
      unfold put at hi ⊢
      split at hi
      · exact absurd hi l
      · rename_i m
        rw [if_neg m]
        rw [List.length_append] at hi
        simp only [List.length_cons, List.length_nil] at hi
        show i = st.length
        omega
    rw [e]
    exact hv
theorem allE_head (N : NR) (e : Ex) (x0 z0 x1 z1 : Int) : rangeG N e x0 z0 x1 z1 ∈ allE N e x0 z0 x1 z1 := by
  cases e <;> simp [allE]
theorem all_into {N : NR} {P : Int × Int → Prop} : ∀ (e : Ex) (x0 z0 x1 z1 dx dz : Int) (st : List Stp), Ok st → (∀ p ∈ allE N e (x0 + dx) (z0 + dz) (x1 + dx) (z1 + dz), P p) → AllP N x0 z0 x1 z1 P st → AllP N x0 z0 x1 z1 P (into e dx dz st).1 := by
  have last : ∀ (e : Ex) (s : Stp) (st' : List Stp) (x0 z0 x1 z1 dx dz : Int) (st : List Stp), into e dx dz st = put st' s → Ok st → (∀ p ∈ allE N e (x0 + dx) (z0 + dz) (x1 + dx) (z1 + dz), P p) → AllP N x0 z0 x1 z1 P st' → AllP N x0 z0 x1 z1 P (into e dx dz st).1 := by
    intro e s st' x0 z0 x1 z1 dx dz st he ok hp h
    have iv := (into_ok e dx dz st).val ok (rngA N x0 z0 x1 z1)
    rw [fold_rng] at iv
    have b := hp _ (allE_head N e _ _ _ _)
    rw [he] at iv ⊢
    refine allP_put h ?_
    show P (((rngA N x0 z0 x1 z1).run (put st' s).1).getD (put st' s).2 (rngA N x0 z0 x1 z1).dflt)
    rw [iv]
    exact b
  intro e
  induction e with
  | whole n => exact fun x0 z0 x1 z1 dx dz st ok hp h => last (.whole n) (.whole n) st x0 z0 x1 z1 dx dz st rfl ok hp h
  | px => exact fun x0 z0 x1 z1 dx dz st ok hp h => last .px (.px dx) st x0 z0 x1 z1 dx dz st rfl ok hp h
  | pz => exact fun x0 z0 x1 z1 dx dz st ok hp h => last .pz (.pz dz) st x0 z0 x1 z1 dx dz st rfl ok hp h
  | noise s l => exact fun x0 z0 x1 z1 dx dz st ok hp h => last (.noise s l) (.noise s l dx dz) st x0 z0 x1 z1 dx dz st rfl ok hp h
  | two w a b iha ihb =>
    intro x0 z0 x1 z1 dx dz st ok hp h
    have ha := iha x0 z0 x1 z1 dx dz st ok (fun p hm => hp p (by simp [allE, hm])) h
    have hb := ihb x0 z0 x1 z1 dx dz _ ((into_ok a dx dz st).ok ok) (fun p hm => hp p (by simp [allE, hm])) ha
    exact last (.two w a b) _ _ x0 z0 x1 z1 dx dz st rfl ok hp hb
  | over a n iha =>
    intro x0 z0 x1 z1 dx dz st ok hp h
    have ha := iha x0 z0 x1 z1 dx dz st ok (fun p hm => hp p (by simp [allE, hm])) h
    exact last (.over a n) _ _ x0 z0 x1 z1 dx dz st rfl ok hp ha
  | bel a b c d iha ihb ihc ihd =>
    intro x0 z0 x1 z1 dx dz st ok hp h
    have oa := (into_ok a dx dz st).ok ok
    have ob := (into_ok b dx dz _).ok oa
    have oc := (into_ok c dx dz _).ok ob
    have ha := iha x0 z0 x1 z1 dx dz st ok (fun p hm => hp p (by simp [allE, hm])) h
    have hb := ihb x0 z0 x1 z1 dx dz _ oa (fun p hm => hp p (by simp [allE, hm])) ha
    have hc := ihc x0 z0 x1 z1 dx dz _ ob (fun p hm => hp p (by simp [allE, hm])) hb
    have hd := ihd x0 z0 x1 z1 dx dz _ oc (fun p hm => hp p (by simp [allE, hm])) hc
    exact last (.bel a b c d) _ _ x0 z0 x1 z1 dx dz st rfl ok hp hd
  | shift ex ez a iha =>
    intro x0 z0 x1 z1 dx dz st ok hp h
    refine iha x0 z0 x1 z1 (dx + ex) (dz + ez) st ok (fun p hm => hp p ?_) h
    simp only [allE, List.mem_cons]
    right
    simpa [Int.add_assoc] using hm
theorem all_bits {N : NR} (hN : NOk N) : ∀ (e : Ex) (x0 z0 x1 z1 : Int) (k : Nat), OkE e → 34 ≤ k → B2 (x0, x1) k → B2 (z0, z1) k → ∀ p ∈ allE N e x0 z0 x1 z1, B2 p (vb e k) := by
  intro e
  induction e with
  | two w a b iha ihb =>
    intro x0 z0 x1 z1 k h hk hx hz p hp
    have v2 := vb_two w a b k
    simp only [allE, List.mem_cons, List.mem_append] at hp
    rcases hp with rfl | hp | hp
    · exact range_bits hN (.two w a b) x0 z0 x1 z1 k h hk hx hz
    · exact (iha x0 z0 x1 z1 k h.1 hk hx hz p hp).mono v2.1
    · exact (ihb x0 z0 x1 z1 k h.2 hk hx hz p hp).mono v2.2
  | over a n iha =>
    intro x0 z0 x1 z1 k h hk hx hz p hp
    simp only [allE, List.mem_cons] at hp
    rcases hp with rfl | hp
    · exact range_bits hN (.over a n) x0 z0 x1 z1 k h hk hx hz
    · exact iha x0 z0 x1 z1 k h.1 hk hx hz p hp
  | bel a b c d iha ihb ihc ihd =>
    intro x0 z0 x1 z1 k h hk hx hz p hp
    have hv : vb (.bel a b c d) k = max (max (vb a k) (vb b k)) (max (vb c k) (vb d k)) := rfl
    simp only [allE, List.mem_cons, List.mem_append] at hp
    rcases hp with rfl | hp | hp | hp | hp
    · exact range_bits hN (.bel a b c d) x0 z0 x1 z1 k h hk hx hz
    · exact (iha x0 z0 x1 z1 k h.1 hk hx hz p hp).mono (by omega)
    · exact (ihb x0 z0 x1 z1 k h.2.1 hk hx hz p hp).mono (by omega)
    · exact (ihc x0 z0 x1 z1 k h.2.2.1 hk hx hz p hp).mono (by omega)
    · exact (ihd x0 z0 x1 z1 k h.2.2.2 hk hx hz p hp).mono (by omega)
  | shift ex ez a iha =>
    intro x0 z0 x1 z1 k h hk hx hz p hp
    simp only [allE, List.mem_cons] at hp
    rcases hp with rfl | hp
    · exact range_bits hN (.shift ex ez a) x0 z0 x1 z1 k h hk hx hz
    · exact iha (x0 + ex) (z0 + ez) (x1 + ex) (z1 + ez) (k + 1) h.2.2 (by omega) ⟨shift_bits h.1 hk hx.1, shift_bits h.1 hk hx.2⟩ ⟨shift_bits h.2.1 hk hz.1, shift_bits h.2.1 hk hz.2⟩ p hp
  | _ =>
    intro x0 z0 x1 z1 k h hk hx hz p hp
    simp only [allE, List.mem_singleton] at hp
    subst hp
    exact range_bits hN _ x0 z0 x1 z1 k h hk hx hz
/-- weights as pairs -/
abbrev WR (K : PySem.W.Frag) (H : Hp) : List V → List Ex → Prop := Paired fun v e => ∃ p, v = V.ref p ∧ SqT K H p [.int (cn e : Nat), .int (grE e)]
theorem sqT_putL {K : PySem.W.Frag} {H : Hp} {p a : Addr} {xs ys : List V} {o : HO} (h : SqT K H p xs) (ha : H a = some (.lst ys)) : SqT K (upd H a o) p xs := by
  rcases h with (h | ⟨o', h⟩) | h
  · exact .inl (.inl (by rw [upd_ne (ne_of h ha (by intro z; cases z))]; exact h))
  · exact .inl (.inr ⟨o', by rw [upd_ne (ne_of h ha (by intro z; cases z))]; exact h⟩)
  · exact .inr h
theorem WR.putL {K : PySem.W.Frag} {H : Hp} {a : Addr} {ys : List V} {o : HO} (ha : H a = some (.lst ys)) : ∀ {vs : List V} {es : List Ex}, WR K H vs es → WR K (upd H a o) vs es
  | _, _, .nil => .nil
  | _, _, .cons ⟨p, e, h⟩ t => .cons ⟨p, e, sqT_putL h ha⟩ (WR.putL ha t)
theorem WR.mono {K : PySem.W.Frag} {H H' : Hp} (s : Same H H') : ∀ {vs : List V} {es : List Ex}, WR K H vs es → WR K H' vs es
  | _, _, .nil => .nil
  | _, _, .cons ⟨p, e, h⟩ t => .cons ⟨p, e, same_sqT s h⟩ (WR.mono s t)
theorem WR.append {K : PySem.W.Frag} {H : Hp} : ∀ {vs ws : List V} {es fs : List Ex}, WR K H vs es → WR K H ws fs → WR K H (vs ++ ws) (es ++ fs)
  | _, _, _, _, .nil, h => h
  | _, _, _, _, .cons a t, h => .cons a (WR.append t h)
theorem wr_at {K : PySem.W.Frag} {H : Hp} : ∀ {vs : List V} {es : List Ex} {i : Nat} {y : V}, WR K H vs es → vs[i]? = some y → ∃ e, es[i]? = some e ∧ ∃ p, y = V.ref p ∧ SqT K H p [.int (cn e : Nat), .int (grE e)]
  | _, _, _, _, .nil, h => by simp at h
  | _, _, 0, y, .cons (b := b) a _, h => by
    simp at h
    subst h
    exact ⟨b, rfl, a⟩
  | _, _, i + 1, y, .cons _ t, h => by
    obtain ⟨s, h1, h2⟩ := wr_at (i := i) (y := y) t (by simpa using h)
    exact ⟨s, by simpa using h1, h2⟩
/-- what is left of a field when names and lets are gone through -/
def coreF : Fd → Prop
  | .lt _ _ _ => False
  | .nm _ => False
  | _ => True
def wordF : Fd → Str
  | .whole _ => "whole"
  | .px => "x"
  | .pz => "z"
  | .noise _ _ => "noise"
  | .two w _ _ => w.word
  | .over _ _ => "over"
  | .bel _ _ _ _ => "below"
  | .shift _ _ _ => "shift"
  | .lt _ _ _ => "let"
  | .nm _ => "name"
theorem frep_word {H : Hp} {v : V} : ∀ {F : Fd}, FRep F H v → ∃ p xs, v = .ref p ∧ H p = some (.tup (.str (wordF F) :: xs))
  | .whole _, ⟨p, e, h⟩ => ⟨p, _, e, h⟩
  | .px, ⟨p, e, h⟩ => ⟨p, _, e, h⟩
  | .pz, ⟨p, e, h⟩ => ⟨p, _, e, h⟩
  | .noise _ _, ⟨p, e, h⟩ => ⟨p, _, e, h⟩
  | .two _ _ _, ⟨p, _, _, e, h, _⟩ => ⟨p, _, e, h⟩
  | .over _ _, ⟨p, _, e, h, _⟩ => ⟨p, _, e, h⟩
  | .bel _ _ _ _, ⟨p, _, _, _, _, e, h, _⟩ => ⟨p, _, e, h⟩
  | .shift _ _ _, ⟨p, _, e, h, _⟩ => ⟨p, _, e, h⟩
  | .lt _ _ _, ⟨p, _, _, e, h, _⟩ => ⟨p, _, e, h⟩
  | .nm _, ⟨p, e, h⟩ => ⟨p, _, e, h⟩
end Pf

/-! Steps as data; the steps of several fields, one behind the other. -/
namespace Pf
open PySem PySem.Spec PyProof.Rows L2 Lw Fm Fr Sm
theorem room65 {k : Nat} {A : Around} (r : Room k A) : A.units + 65 < cLine := by
  have := r.un
  omega
def kD : Key → PyData
  | .inl i => .int i
  | .inr x => .str x
def stepD (s : Stp) : PyData := .tuple ((stepK s).map kD)
theorem eqv_kD (a b : Key) : PyData.eqv (kD a) (kD b) = decide (a = b) := by
  cases a with
  | inl i => cases b with
    | inl j => simp only [kD, PyData.eqv, Sum.inl.injEq]; exact Bool.eq_iff_iff.mpr (by simp)
    | inr y => simp [kD, PyData.eqv]
  | inr x => cases b with
    | inl j => simp [kD, PyData.eqv]
    | inr y => simp only [kD, PyData.eqv, Sum.inr.injEq]; exact Bool.eq_iff_iff.mpr (by simp)
theorem eqv_kDs : ∀ (a b : List Key), PyData.eqvAll (a.map kD) (b.map kD) = decide (a = b)
  | [], [] => by simp [PyData.eqvAll]
  | [], _ :: _ => by simp [PyData.eqvAll]
  | _ :: _, [] => by simp [PyData.eqvAll]
  | x :: a, y :: b => by
    rw [List.map_cons, List.map_cons]
    simp only [PyData.eqvAll, eqv_kD, eqv_kDs a b]
    by_cases h1 : x = y <;> by_cases h2 : a = b <;> simp [h1, h2]
theorem eqv_stepD (s t : Stp) : PyData.eqv (stepD s) (stepD t) = decide (s = t) := by
  unfold stepD
  simp only [PyData.eqv, eqv_kDs]
  by_cases h : s = t
  · rw [h]; simp
  · rw [decide_eq_false h, decide_eq_false fun e => h (stepK_inj e)]
theorem eqv_stepsD : ∀ (a b : List Stp), PyData.eqvAll (a.map stepD) (b.map stepD) = decide (a = b)
  | [], [] => by simp [PyData.eqvAll]
  | [], _ :: _ => by simp [PyData.eqvAll]
  | _ :: _, [] => by simp [PyData.eqvAll]
  | x :: a, y :: b => by
    rw [List.map_cons, List.map_cons]
    simp only [PyData.eqvAll, eqv_stepD, eqv_stepsD a b]
    by_cases h1 : x = y <;> by_cases h2 : a = b <;> simp [h1, h2]
theorem any_stepD (s : Stp) : ∀ st : List Stp, ((st.map stepD).any fun z => PyData.eqv z (stepD s)) = decide (s ∈ st)
  | [] => by simp
  | t :: r => by
    rw [List.map_cons, List.any_cons, any_stepD s r, eqv_stepD]
    by_cases h1 : t = s
    · subst h1; simp
    · have : ¬ s = t := fun e => h1 e.symm
      simp [h1, this]
theorem lay_step (s : Stp) : PyData.canLay0 (stepD s) = true := by
  have hw : ∀ w : W2, PyData.strOk w.word = true := fun w => by cases w <;> decide +kernel
  cases s with
  | two w i j =>
    show (PyData.canLay0 (.str w.word) && (true && (true && true))) = true
    rw [show PyData.canLay0 (.str w.word) = PyData.strOk w.word from rfl, hw w]
    rfl
  | whole n => show (PyData.canLay0 (.str "whole") && (true && true)) = true; decide +kernel
  | px n => show (PyData.canLay0 (.str "x") && (true && true)) = true; decide +kernel
  | pz n => show (PyData.canLay0 (.str "z") && (true && true)) = true; decide +kernel
  | noise a b c d => show (PyData.canLay0 (.str "noise") && (true && (true && (true && (true && true))))) = true; decide +kernel
  | over a b => show (PyData.canLay0 (.str "over") && (true && (true && true))) = true; decide +kernel
  | bel a b c d => show (PyData.canLay0 (.str "below") && (true && (true && (true && (true && true))))) = true; decide +kernel
theorem depth_keys : ∀ ks : List Key, PyData.depthAll (ks.map kD) ≤ 1
  | [] => by decide
  | x :: r => by
    have h := depth_keys r
    have e : PyData.depthAll ((x :: r).map kD) = max (PyData.depth (kD x)) (PyData.depthAll (r.map kD)) := rfl
    have e2 : PyData.depth (kD x) ≤ 1 := by cases x <;> simp [kD, PyData.depth]
    omega
theorem depth_step (s : Stp) : PyData.depth (stepD s) ≤ 2 := by
  have h := depth_keys (stepK s)
  have e : PyData.depth (stepD s) = PyData.depthAll ((stepK s).map kD) + 1 := rfl
  omega
theorem lay_steps : ∀ st : List Stp, PyData.canLayAll0 (st.map stepD) = true
  | [] => rfl
  | x :: r => by
    show (PyData.canLay0 (stepD x) && PyData.canLayAll0 (r.map stepD)) = true
    rw [lay_step, lay_steps r]
    rfl
theorem depth_steps : ∀ st : List Stp, PyData.depthAll (st.map stepD) ≤ 2
  | [] => by decide
  | x :: r => by
    have h := depth_steps r
    have e : PyData.depthAll ((x :: r).map stepD) = max (PyData.depth (stepD x)) (PyData.depthAll (r.map stepD)) := rfl
    have e2 := depth_step x
    omega
theorem shaped_step (s : Stp) : SeqAt.shaped (stepD s) = true := by
  unfold SeqAt.shaped
  have := depth_step s
  rw [lay_step, decide_eq_true (show PyData.depth (stepD s) ≤ 64 by omega)]
  rfl
theorem shaped_steps (st : List Stp) : SeqAt.shaped (.list (st.map stepD)) = true := by
  have h1 : PyData.canLay0 (.list (st.map stepD)) = true := lay_steps st
  have h2 : PyData.depth (.list (st.map stepD)) ≤ 64 := by
    have h := depth_steps st
    have e : PyData.depth (.list (st.map stepD)) = PyData.depthAll (st.map stepD) + 1 := rfl
    omega
  unfold SeqAt.shaped
  rw [h1, decide_eq_true h2]
  rfl
theorem dp_keys {K : PySem.W.Frag} {H : Hp} : ∀ ks : List Key, DpAll K H (ks.map kV) (ks.map kD)
  | [] => .nil
  | .inl i :: r => .cons (.int i) (dp_keys r)
  | .inr x :: r => .cons (.str x) (dp_keys r)
theorem dp_step {K : PySem.W.Frag} {H : Hp} {p : Addr} {s : Stp} (h : H p = some (.tup (stepV s))) : Dp K H (.ref p) (stepD s) := by
  rw [stepV_eq] at h
  exact .tup (SqT.of h) (dp_keys _)
theorem dp_steps {K : PySem.W.Frag} {H : Hp} : ∀ {vs : List V} {st : List Stp}, StepsR H vs st → DpAll K H vs (st.map stepD)
  | _, _, .nil => .nil
  | _, _, .cons ⟨p, e, h⟩ t => by
    subst e
    exact .cons (dp_step h) (dp_steps t)
theorem steps_putL {H : Hp} {a : Addr} {ys : List V} {o : HO} (ha : H a = some (.lst ys)) : ∀ {vs : List V} {st : List Stp}, StepsR H vs st → StepsR (upd H a o) vs st
  | _, _, .nil => .nil
  | _, _, .cons ⟨p, e, h⟩ t => .cons ⟨p, e, by rw [upd_ne (ne_of h ha (by intro z; cases z))]; exact h⟩ (steps_putL ha t)
theorem none_of_same {H H' : Hp} {a : Addr} (s : Same H H') (h : H' a = none) : H a = none := by
  cases e : H a with
  | none => rfl
  | some u => rw [s _ _ e] at h; cases h
theorem steps_get {H : Hp} : ∀ {vs : List V} {st : List Stp} {i : Nat}, StepsR H vs st → i < st.length → ∃ p s, vs[i]? = some (V.ref p) ∧ st[i]? = some s ∧ H p = some (.tup (stepV s))
  | _, _, _, .nil, h => absurd h (Nat.not_lt_zero _)
  | _, _, 0, .cons (b := b) ⟨p, e, h⟩ _, _ => ⟨p, b, by rw [e]; rfl, rfl, h⟩
  | _, _, i + 1, .cons _ t, h => by
    obtain ⟨p, s, h1, h2, h3⟩ := steps_get (i := i) t (by simpa using h)
    exact ⟨p, s, by simpa using h1, by simpa using h2, h3⟩
theorem StepsR.take {H : Hp} : ∀ {vs : List V} {st : List Stp} (n : Nat), StepsR H vs st → StepsR H (vs.take n) (st.take n)
  | _, _, 0, _ => .nil
  | _, _, n + 1, .nil => .nil
  | _, _, n + 1, .cons a t => .cons a (StepsR.take n t)
theorem ok_take {st : List Stp} (h : Ok st) (n : Nat) : Ok (st.take n) := fun j s e => by
  rw [List.getElem?_take] at e
  split at e
  · exact h j s e
  · cases e
theorem okSs_take {st : List Stp} (h : OkSs st) (n : Nat) : OkSs (st.take n) := fun s hs => h s (List.mem_of_mem_take hs)
theorem szd_take {g x z : Int} {B : Nat} {st : List Stp} (h : Szd g x z B st) (n : Nat) : Szd g x z B (st.take n) := fun i hi => by
  have e := run_get (valA g x z) (List.take_prefix n st) hi
  have l : i < st.length := by rw [List.length_take] at hi; omega
  have b := h i l
  have e' : ((valA g x z).run st).getD i 0 = ((valA g x z).run (st.take n)).getD i 0 := e
  rw [e'] at b
  exact b
theorem cut_take {xs : List V} {j : Nat} : cutV xs none (some (j : Int)) = xs.take j := by
  unfold cutV
  rw [HT.sIx_none, show HT.sIx xs.length xs.length (some (j : Int)) = min j xs.length from HT.sIx_nat xs.length xs.length j]
  simp only [List.drop_zero, Nat.sub_zero]
  rcases Nat.le_total j xs.length with h | h
  · rw [Nat.min_eq_left h]
  · rw [Nat.min_eq_right h, List.take_length, List.take_of_length_le h]
/-- the place of a step among steps that have it -/
theorem idx_facts {s : Stp} {st : List Stp} (h : s ∈ st) : (st.map stepD)[st.idxOf s]? = some (stepD s) ∧ ∀ (m : Nat) (z : PyData), m < st.idxOf s → (st.map stepD)[m]? = some z → PyData.eqv z (stepD s) = false := by
  have hl := List.idxOf_lt_length_iff.mpr h
  refine ⟨by rw [List.getElem?_map, List.getElem?_eq_getElem hl, List.getElem_idxOf]; rfl, fun m z hm hz => ?_⟩
  rw [List.getElem?_map] at hz
  obtain ⟨t, ht, rfl⟩ := Option.map_eq_some_iff.mp hz
  rw [eqv_stepD]
  refine decide_eq_false fun e => ?_
  subst e
  obtain ⟨hm', e⟩ := List.getElem?_eq_some_iff.mp ht
  have hn := List.not_of_lt_findIdx (p := fun y => y == t) (xs := st) (i := m) hm
  rw [e] at hn
  simp at hn
/-- the steps of several fields, one behind the other -/
def intos (r : Fm.Env) (dx dz : Int) : List Fd → List Stp → List Stp × List Nat
  | [], st => (st, [])
  | A :: l, st => ((intos r dx dz l (into (expand A r) dx dz st).1).1, (into (expand A r) dx dz st).2 :: (intos r dx dz l (into (expand A r) dx dz st).1).2)
theorem intos_snoc (r : Fm.Env) (dx dz : Int) (A : Fd) : ∀ (l : List Fd) (st : List Stp), intos r dx dz (l ++ [A]) st = ((into (expand A r) dx dz (intos r dx dz l st).1).1, (intos r dx dz l st).2 ++ [(into (expand A r) dx dz (intos r dx dz l st).1).2])
  | [], st => rfl
  | B :: l, st => by
    show ((intos r dx dz (l ++ [A]) _).1, _ :: (intos r dx dz (l ++ [A]) _).2) = _
    rw [intos_snoc r dx dz A l]
    rfl
theorem intos_len (r : Fm.Env) (dx dz : Int) : ∀ (l : List Fd) (st : List Stp), (intos r dx dz l st).1.length ≤ st.length + (l.map fun A => cn (expand A r)).sum ∧ (intos r dx dz l st).2.length = l.length
  | [], st => ⟨by simp [intos], rfl⟩
  | A :: l, st => by
    have h := intos_len r dx dz l (into (expand A r) dx dz st).1
    have i := (into_ok (expand A r) dx dz st).len
    refine ⟨?_, ?_⟩
    · show (intos r dx dz l _).1.length ≤ _
      rw [List.map_cons, List.sum_cons]
      omega
    · show (_ :: (intos r dx dz l _).2).length = _
      simp [h.2]
end Pf

/-! try: body / except C as e: suite, and what was caught stays known afterwards. -/
namespace Ec
open PySem PySem.Spec PyProof.Rows L2
section
variable {X : Cx} {pins : List (Addr × Obj)} {σ : List (Option V)} {H : Hp} {s : Shared} {a : Addr} {oe : Obj} {vs : Array Value} {O : HO}
/-- an object that lies there untracked, new since the entry, is tracked -/
theorem track (I : Inv X pins σ H s) (ha : s.heap.get? a = some oe) (hd : oe.data = .fields vs) (na : H a = none) (nL : a ≠ X.env.locals) (n0 : X.s_0.heap.get? a = none) (np : ∀ p ∈ X.pn ++ pins, p.1 ≠ a) (hO : ObjOk X.prog X.w (upd H a O) s.heap a O) :
    Inv X pins σ (upd H a O) s := by
  have ne : ∀ {b : Addr} {u : HO}, H b = some u → b ≠ a := fun {b u} q => ne_of_none q na
  have n1 : ∀ {b : Addr} {o : Obj}, X.s_0.heap.get? b = some o → b ≠ a := fun {b o} q z => by
    rw [z, n0] at q
    cases q
  have nc : ∀ {x : Str} {c : Addr}, X.env.cells.lookup x = some c → c ≠ a := fun {x c} q z => by
    obtain ⟨v, o, ho, hv⟩ := I.cell x c q
    rw [z, ha] at ho
    cases ho
    rw [hd] at hv
    cases hv
  refine ⟨I.ok, I.os, I.bare, ⟨I.base.keep, I.base.slot, fun b o q z y => ?_, I.base.there, fun b xs q => ?_, fun b o u q => ?_, fun b ps q => ?_⟩, I.loc, I.cell, ?_, fun x c q => ?_, fun p hp => ?_, fun b u q => ?_, I.len⟩
  · rw [upd_ne (n1 q)]
    exact I.base.free b o q z y
  · have z := I.base.tups b xs q
    rw [upd_ne (ne z)]
    exact z
  · have z := I.base.frzs b o u q
    rw [upd_ne (ne z)]
    exact z
  · obtain ⟨more, z⟩ := I.base.tbls b ps q
    exact ⟨more, by rw [upd_ne (ne z)]; exact z⟩
  · rw [upd_ne nL.symm]
    exact I.free
  · rw [upd_ne (nc q)]
    exact I.freeC x c q
  · obtain ⟨p1, p2, p3⟩ := I.pin p hp
    exact ⟨p1, by rw [upd_ne (np p hp)]; exact p2, p3⟩
  · by_cases e : b = a
    · subst e
      rw [upd_same] at q
      cases q
      exact hO
    · rw [upd_ne e] at q
      exact (I.hok b u q).stay (fun c v _ z => z) (fun c z => by rw [upd_ne (ne z)]; exact z) fun c xs z => by rw [upd_ne (ne z)]; exact z
end
/-- what the clause wishes of an exception of the body, the caught one known when it ends -/
def wKeep (K : PySem.W.Frag) (c : Value) (i : Nat) (ts : Addr → Value → Option Addr → TS) (Wout : WX) (D : Ends) : WX := fun cls d σ H => ∃ b, PySem.W.exmOne K cls c = some b ∧ (b = false → Wout cls d σ H) ∧
  (b = true → ∀ a, H a = none → ts a cls d { nx := fun σ' H' => D.nx (σ'.set i none) (upd H' a (exg a cls d)), rt := fun v H' => D.rt v (upd H' a (exg a cls d)), bk := fun σ' H' => D.bk (σ'.set i none) (upd H' a (exg a cls d)), ct := fun σ' H' => D.ct (σ'.set i none) (upd H' a (exg a cls d)) } (σ.set i (some (.ref a))) H)
section
variable {X : Cx} {x n : Str} {c : Value} {i : Nat} {body suite : List Stmt} {b₀ : Stmt} {np pos pos' : Pos} {tb : WX → TS} {ts : Addr → Value → Option Addr → TS} {Wout : WX}
theorem ps_try_keep (hx : X.ex = []) (hs : X.stack = X.env :: X.outer) (hf : X.env.frame = some X.env.locals) (hN : X.N.Nodup) (hi : X.N[i]? = some n) (hln : X.env.kindOf n = some .local) (hc : Names X x c) (tk : Takes X Wout)
    (hb : ∀ (W : WX) (pn : List (Addr × Obj)) (xe : Value → Shared → Prop), Takes (X.tr pn xe) W → PassesOwn (model X.prog X.w) X.A X.env xe → PSs (X.tr pn xe) body (tb W))
    (hsu : ∀ (a : Addr) (oe : Obj) (cls : Value) (d : Option Addr) (pn : List (Addr × Obj)), Zc cls d oe → (∃ vs, oe.data = .fields vs) → PSs (X.suite a ((a, oe) :: pn)) (b₀ :: suite) (ts a cls d)) :
    PS X (.Try body [.ExceptHandler (some (.Name x np)) (some n) (b₀ :: suite) pos'] [] [] pos) (fun D σ H => tb (wKeep X.K c i ts Wout D) D σ H) := by
  refine ⟨fun pins s σ H D I h => wpAny_Try_except ?_⟩
  have ok := I.ok
  have fr : X.A.frames = some (X.env :: X.outer) := by rw [ok.frames, hs]
  let after : Value → Shared → Prop := fun e sa => wpAny (model X.prog X.w) X.A (noteFrame e X.env) (fun _ sb => wpAny (model X.prog X.w) X.A (setFlight e none) (fun _ sc => wpAny (model X.prog X.w) X.A (handleBy e X.env [.ExceptHandler (some (.Name x np)) (some n) (b₀ :: suite) pos']) (SP X pins D) X.xe sc) X.xe sb) X.xe sa
  refine wpAny_mono ((hb (wKeep X.K c i ts Wout D) (X.pn ++ pins) after (fun u sx xx => ?_) PassesOwn.looking).run [] s σ H D (I.toTry _) h) (fun f s1 done => ?_) fun e s1 he => he
  · obtain ⟨a, B, sI, pins0, τ, G, cls, d, rfl, J0, nb, up, sky, na, os, ag, b, eb, no, yes⟩ := xx
    have J : Inv X pins τ G sI := J0.ofTry ok
    rw [hs] at sky
    show wpAny (model X.prog X.w) X.A (noteFrame (.ref a) X.env) _ _ _
    refine Sky.land Zc.steady fr hf sky fun m fl upm => ?_
    have Jm : Inv X pins τ G { sx with heap := m } := J.landed nb fl.1 (up.trans upm) os ag
    obtain ⟨o1, v1, at1, z1, d1⟩ := fl.there
    have notin : a ∉ frs (X.env :: X.outer) := fun hm => by
      obtain ⟨_, o', e', nofr⟩ := fl.2.2.1.mem hm
      rw [at1] at e'
      cases e'
      exact nofr _ d1
    have nL : a ≠ X.env.locals := fun z => notin (List.mem_filterMap.mpr ⟨X.env, List.mem_cons_self, by rw [hf, z]⟩)
    have nF : a ∉ X.fs := fun hm => by
      obtain ⟨e, he, q⟩ := List.mem_filterMap.mp hm
      exact notin (List.mem_filterMap.mpr ⟨e, List.mem_cons_of_mem _ he, q⟩)
    have new : sI.heap.get? a = none := by
      cases q : sI.heap.get? a with
      | none => rfl
      | some o =>
        have z := nb a o q (by rw [hs]; exact notin)
        rw [fl.2.1] at z
        cases z
    have n0 : X.s_0.heap.get? a = none := by
      cases q : X.s_0.heap.get? a with
      | none => rfl
      | some o =>
        obtain ⟨o', z⟩ := J.base.there a o q (by rw [hx]; exact fun z => nomatch z)
        rw [new] at z
        cases z
    have npin : ∀ p ∈ X.pn ++ pins, p.1 ≠ a := fun p hp z => by
      have q := (J.pin p hp).1
      rw [z, new] at q
      cases q
    have S1 := Jm.suite at1 d1 na nL nF
    refine wpAny_handleBy_cons (codeAny_handlers_test ?_) (by intro q; cases q)
    have ty : PySem.W.Looks (model X.prog X.w) m (typeOf (.ref a)) cls := fun A Q E s k q => wpAny_typeOf_ref (k _ _ at1) (by rw [z1.1]; exact q)
    have asks := PySem.W.exm_one (M := model X.prog X.w) Jm.kIn ty eb
    have name : ∀ {Q : Value → Shared → Prop} {E : Value → Shared → Prop}, Q c { sx with heap := m } → wpAny (model X.prog X.w) (X.A.mark (some (.ref a))) (eval (.Name x np) X.env) Q E { sx with heap := m } := fun {Q E} q => by
      obtain ⟨hg, hdb, hm | ⟨hm, hv, hnn⟩⟩ := hc
      · exact ld_glob (X := X.suite a ((a, o1) :: (X.pn ++ pins))) S1 hg hm q hdb
      · exact ld_blt (X := X.suite a ((a, o1) :: (X.pn ++ pins))) S1 hg hm hv q hnn hdb
    refine name (asks.here ?_)
    cases b with
    | false =>
      show wpAny _ X.A (handleBy (.ref a) X.env []) _ _ _
      refine wpAny_handleBy_nil ?_
      obtain ⟨_, _, _, o2, v2, T, _, _, at2, _, d2, h1, _⟩ := id fl
      unfold PySem.passOn
      refine wpAny_bind (wpAny_field at2 d2 h1 ?_)
      rw [if_neg (show ¬ ((Value.ref T == Value.none) = true) from by simp)]
      have out : wpAny (model X.prog X.w) X.A (setFlight (.ref a) X.env.frame) (fun _ s4 => wpAny (model X.prog X.w) X.A (throw (.ref a) : Sem Flow) (SP X pins D) X.xe s4) X.xe { sx with heap := m } := by
        rw [hf]
        refine HandSPX.setFlight_upZ fl fun m4 hh4 up4 => wpAny_throw (tk _ _ ⟨a, B, sI, pins, τ, G, cls, d, rfl, J, nb, (up.trans upm).trans up4, .inr (.inr (by rw [hs]; exact hh4)), na, os, ag, no rfl⟩)
      first | exact wpAny_bind (wpAny_pure (wpAny_bind out)) | exact wpAny_bind out
    | true =>
      refine codeAny_handlers_suite_as (HandSPX.lands_againZ fl fun m4 fl4 up4 => ?_)
      have J4 : Inv X pins τ G { sx with heap := m4 } := J.landed nb fl4.1 ((up.trans upm).trans up4) os ag
      obtain ⟨o4, v4, at4, z4, d4⟩ := fl4.there
      refine store_ok (X := X.suite a ((a, o4) :: (X.pn ++ pins))) (v := .ref a) (J4.suite at4 d4 na nL nF) hN hi (.inl hln) rfl (fun s5 S5 => ?_) (.inr hln)
      refine wpAny_mono ((hsu a o4 cls d (X.pn ++ pins) z4 ⟨_, d4⟩).run [] s5 _ G _ S5 (yes rfl a na)) (fun f s6 done => ?_) (fun _ _ z => z.elim)
      have ends : ∀ {τ6 : L2.St} {G6 : Hp} {Q : Shared → Prop}, Inv (X.suite a ((a, o4) :: (X.pn ++ pins))) [] τ6 G6 s6 → (∀ s7, Inv X pins (τ6.set i none) (upd G6 a (exg a cls d)) s7 → Q s7) →
          wpAny (model X.prog X.w) X.A (do bindName X.env n .none; unbindBehindTheSuite X.env n pos') (fun _ s7 => Q s7) X.xe s6 := fun {τ6 G6 Q} S6 hq => by
        obtain ⟨q1, q2, _⟩ := S6.pin (a, o4) (List.mem_append_left _ List.mem_cons_self)
        exact gone_ok (track (S6.unsuite ok) q1 d4 q2 nL n0 npin (exg_ok q1 z4 d4)) hN hi hln hq
      cases f with
      | next =>
        obtain ⟨τ6, G6, S6, q6⟩ := done
        exact ends S6 fun s7 J7 => ⟨_, _, J7, q6⟩
      | brk =>
        obtain ⟨τ6, G6, S6, q6⟩ := done
        exact ends S6 fun s7 J7 => ⟨_, _, J7, q6⟩
      | cont =>
        obtain ⟨τ6, G6, S6, q6⟩ := done
        exact ends S6 fun s7 J7 => ⟨_, _, J7, q6⟩
      | ret u =>
        obtain ⟨v6, τ6, G6, S6, r6, q6⟩ := done
        exact ends S6 fun s7 J7 => ⟨_, _, _, J7, r6, q6⟩
  · cases f with
    | next =>
      obtain ⟨τ, G, J, q⟩ := done
      exact wpAny_execs_nil ⟨τ, G, J.ofTry ok, q⟩
    | brk =>
      obtain ⟨τ, G, J, q⟩ := done
      exact ⟨τ, G, J.ofTry ok, q⟩
    | cont =>
      obtain ⟨τ, G, J, q⟩ := done
      exact ⟨τ, G, J.ofTry ok, q⟩
    | ret u =>
      obtain ⟨v, τ, G, J, r, q⟩ := done
      exact ⟨v, τ, G, J.ofTry ok, r, q⟩
end
end Ec

/-! Errors as values: the classes by name, readings of the calls that make them; small readings. -/
namespace Ec
open PySem PySem.Spec PyProof.Rows L2 Lw
def Ext (H H' : Hp) : Prop := ∀ b u, H b = some u → H' b = some u
theorem Ext.refl {H : Hp} : Ext H H := fun _ _ h => h
theorem Ext.trans {H H1 H2 : Hp} (a : Ext H H1) (b : Ext H1 H2) : Ext H H2 := fun c u h => b c u (a c u h)
theorem Ext.new {H H' : Hp} {p : Addr} {o : HO} (a : Ext H H') (n : H' p = none) : Ext H (upd H' p o) := fun c u h => by
  rw [upd_ne (ne_of_none (a c u h) n)]
  exact a c u h
/-- an __init__ that stores what it is given, under these names -/
def spIni (K : PySem.W.Frag) (C : Addr) (names : List Str) : Sp := fun vs H Q _ => ∃ (a : Addr) (ys : List V), vs = .ref a :: ys ∧ ys.length = names.length ∧ Own K C ∧ (∀ f ∈ names, PySem.W.findIn K (.ref C) f = some none) ∧ H a = some (exo a C none) ∧
  ∀ H' d, a ≠ d → H d = none → H' a = some (exo a C (some d)) → H' d = some (exd d (names.zip ys).reverse) → (∀ b u, b ≠ a → H b = some u → H' b = some u) → Q .non H'
section
variable {P : Program} {w : World} {K : PySem.W.Frag} {mg : Str → Option Value} {base : Heap} {f : Addr} {fd : FuncData} {C : Addr}
theorem one_put {σ : L2.St} {H : Hp} {a : Addr} {g : Str} {y : V} {D : Ends} (O : Own K C) (hf : PySem.W.findIn K (.ref C) g = some none) (h : H a = some (exo a C none)) {i j : Nat} (hi : σ[i]? = some (some (.ref a))) (hj : σ[j]? = some (some y))
    (q : ∀ H', Exc H' a C [(g, y)] → (∀ b u, b ≠ a → H b = some u → H' b = some u) → (∃ d, a ≠ d ∧ H d = none ∧ H' a = some (exo a C (some d)) ∧ H' d = some (exd d [(g, y)])) → D.nx σ H') : tSt K g (tVar i) (tVar j) D σ H := by
  refine g_var hj (g_var hi ⟨a, C, rfl, O, hf, .inl ⟨h, fun dx n ne => ?_⟩⟩)
  have e1 : upd (upd H dx (exd dx [(g, y)])) a (exo a C (some dx)) dx = some (exd dx [(g, y)]) := by rw [upd_ne ne, upd_same]
  refine q _ (.dict upd_same e1) (fun b u nb hb => ?_) ⟨dx, ne.symm, n, upd_same, e1⟩
  rw [upd_ne nb, upd_ne (ne_of_none hb n)]
  exact hb
theorem two_put {σ : L2.St} {H : Hp} {a d : Addr} {g : Str} {y : V} {fs : List (Str × V)} {D : Ends} (O : Own K C) (hf : PySem.W.findIn K (.ref C) g = some none) (h : H a = some (exo a C (some d))) (hd : H d = some (exd d fs)) (ne : a ≠ d) (hl : fs.length ≤ 900) {i j : Nat} (hi : σ[i]? = some (some (.ref a))) (hj : σ[j]? = some (some y))
    (q : ∀ H', Exc H' a C ((g, y) :: fs) → (∀ b u, b ≠ d → H b = some u → H' b = some u) → D.nx σ H') : tSt K g (tVar i) (tVar j) D σ H := by
  refine g_var hj (g_var hi ⟨a, C, rfl, O, hf, .inr ⟨d, fs, h, hd, hl, ?_⟩⟩)
  exact q _ (.dict (by rw [upd_ne ne]; exact h) upd_same) (fun b u nb hb => by rw [upd_ne nb]; exact hb)
end
/-! ### the classes by name -/
structure Mk (P : Program) (w : World) (K : PySem.W.Frag) (mg : Str → Option Value) (base : Heap) (x : Str) (names : List Str) (dvs : List V) : Prop where
  ex : ∃ (fd : FuncData) (ps : List Str) (ds : List Value), mg x = some (.ref (cA K x)) ∧ Init K (cA K x) (iA K x) ∧ FnOk P w K mg base CX0 1 (iA K x) fd ps (spIni K (cA K x) names) ∧ Binds K fd ps ds ∧ Vals dvs ds
structure Mkk (P : Program) (w : World) (K : PySem.W.Frag) (mg : Str → Option Value) (base : Heap) (x : Str) (ks names : List Str) (gV : List V → List V → List V) : Prop where
  ex : ∃ (fd : FuncData) (ps : List Str) (g : List Value → List Value → List Value), mg x = some (.ref (cA K x)) ∧ Init K (cA K x) (iA K x) ∧ FnOk P w K mg base CX0 1 (iA K x) fd ps (spIni K (cA K x) names) ∧ KBinds K fd ps ks g gV
section
variable {X : Cx} {x : Str} {names ks : List Str} {dvs : List V} {p pos : Pos} {e : Expr} {es : List Expr} {kws : List Keyword} {t tk : TA} {gV : List V → List V → List V}
theorem pe_cls {C : Addr} (hm : X.mg x = some (.ref C)) (hg : Gl X x := by rfl) (hd : (x == ("__debug__" : Str)) = false := by decide) : PE X (.Name x pos) (tC (.ref C)) := pe_glob hg hm rfl hd
theorem pe_mk (M : Mk X.prog X.w X.K X.mg X.base x names dvs) (hr : Room 2 X.A) (ha : PA X (e :: es) t) (hg : Gl X x := by rfl) (hdb : (x == ("__debug__" : Str)) = false := by decide)
    (he : starEach (e :: es) X.env = (false, eval e X.env) :: starEach es X.env := by rfl) (hpl : (backTo pos (starEach es X.env)).any (·.1) = false := by rfl) : PE X (.Call (.Name x p) (e :: es) [] pos) (tMkI (cA X.K x) (spIni X.K (cA X.K x) names) dvs t) := by
  obtain ⟨fd, ps, ds, hm, N, F, hb, hd⟩ := M.ex
  exact pe_mkI N F hr hb hd hm ha hg hdb he hpl
theorem pe_mk0 (M : Mk X.prog X.w X.K X.mg X.base x names dvs) (hr : Room 2 X.A) (hg : Gl X x := by rfl) (hdb : (x == ("__debug__" : Str)) = false := by decide) : PE X (.Call (.Name x p) [] [] pos) (tMkI (cA X.K x) (spIni X.K (cA X.K x) names) dvs tNil) := by
  obtain ⟨fd, ps, ds, hm, N, F, hb, hd⟩ := M.ex
  exact pe_mkI0 N F hr hb hd hm hg hdb
theorem pe_mkk (M : Mkk X.prog X.w X.K X.mg X.base x ks names gV) (hr : Room 2 X.A) (hkw : PK X kws tk) (hg : Gl X x := by rfl)
    (hall : (backToKw pos (keywordEach kws X.env)).all (·.1.isSome) = true := by rfl) (hks : (backToKw pos (keywordEach kws X.env)).filterMap (·.1) = ks := by rfl) (hdb : (x == ("__debug__" : Str)) = false := by decide)
    (hpl : ((backTo pos (starEach [] X.env)).any (·.1) || (backToKw pos (keywordEach kws X.env)).any (·.1.isNone)) = false := by rfl) : PE X (.Call (.Name x p) [] kws pos) (tMkK (cA X.K x) (spIni X.K (cA X.K x) names) gV tk) := by
  obtain ⟨fd, ps, g, hm, N, F, hb⟩ := M.ex
  exact pe_mkK N F hr hb hm hkw hg hall hks hdb hpl
end
section
variable {K : PySem.W.Frag} {C : Addr} {names : List Str} {Q : VK} {σ : L2.St} {H : Hp} {dvs : List V} {t : TA}
theorem ini_mk {ys : List V} {E : XK} {H : Hp} (O : Own K C) (hf : ∀ f ∈ names, PySem.W.findIn K (.ref C) f = some none) (hl : ys.length = names.length) (q : ∀ a H', H a = none → Exc H' a C (names.zip ys).reverse → Ext H H' → Q (.ref a) H') :
    ∀ a, H a = none → spIni K C names (.ref a :: ys) (upd H a (exo a C none)) (fun v H2 => v = .non ∧ Q (.ref a) H2) E := fun a ha => by
  refine ⟨a, ys, rfl, hl, O, hf, upd_same, fun H' d _ _ e1 e2 k => ⟨rfl, q a H' ha (.dict e1 e2) fun b u hb => k b u (ne_of_none hb ha) ?_⟩⟩
  rw [upd_ne (ne_of_none hb ha)]
  exact hb
theorem g_mkI {sp : Sp} (q : t σ H fun vs H1 => vs.length ≤ 1000 ∧ ∀ a, H1 a = none → sp (.ref a :: (vs ++ dvs)) (upd H1 a (exo a C none)) (fun v H2 => v = .non ∧ Q (.ref a) H2) E0) : tMkI C sp dvs t σ H Q := q
theorem g_mkK {sp : Sp} {gV : List V → List V → List V} (q : t σ H fun zs H1 => ∀ a, H1 a = none → sp (gV [.ref a] zs) (upd H1 a (exo a C none)) (fun v H2 => v = .non ∧ Q (.ref a) H2) E0) : tMkK C sp gV t σ H Q := q
theorem g_mkP (q : t σ H fun vs H1 => vs.length ≤ 1000 ∧ ∀ a, H1 a = none → Q (.ref a) (upd H1 a (exo a C none))) : tMkP C t σ H Q := q
theorem mkP_go {H : Hp} (q : ∀ a H', H a = none → Exc H' a C [] → Ext H H' → Q (.ref a) H') : ∀ a, H a = none → Q (.ref a) (upd H a (exo a C none)) := fun a ha => q a _ ha (.bare upd_same) (Ext.refl.new ha)
theorem g_fx {f : Str} {te : TE} (q : te σ H fun x H1 => ∃ (a C : Addr) (fs : List (Str × V)) (v : V), x = .ref a ∧ Own K C ∧ PySem.W.findIn K (.ref C) f = some none ∧ Exc H1 a C fs ∧ fs.lookup f = some v ∧ Q v H1) : tFx K f te σ H Q := q
end
def datB (bs : List Bool) : PyData := .list (bs.map .bool)
theorem Ext.put {H H' : Hp} {p : Addr} {o : HO} (a : Ext H H') (n : H p = none) : Ext H (upd H' p o) := fun c u h => by
  rw [upd_ne (ne_of_none h n)]
  exact a c u h
section
variable {K : PySem.W.Frag} {H : Hp} {Q : VK} {x y : V} {d : PyData} {l : Addr}
theorem dp_bools : ∀ bs : List Bool, DpAll K H (bs.map V.bl) (bs.map .bool)
  | [] => .nil
  | b :: bs => .cons (.bl b) (dp_bools bs)
theorem dp_row {bs : List Bool} (h : H l = some (.lst (bs.map V.bl))) : Dp K H (.ref l) (datB bs) := .lst (SqL.of h) (dp_bools bs)
theorem ne_same (hd : SeqAt.shaped d = true) (h1 : Dp K H x d) (h2 : Dp K H y d) (q : Q (.bl false) H) : rNeD K x y H Q := ⟨d, d, h1, h2, hd, hd, by
  rw [PySem.SeqAt.eqv_refl d (SeqAt.canLay_of_shaped hd)]
  exact q⟩
theorem eq_same (hd : SeqAt.shaped d = true) (h1 : Dp K H x d) (h2 : Dp K H y d) (q : Q (.bl true) H) : rEqD K x y H Q := ⟨d, d, h1, h2, hd, hd, by
  rw [PySem.SeqAt.eqv_refl d (SeqAt.canLay_of_shaped hd)]
  exact q⟩
end
theorem g_enum {K : PySem.W.Frag} {ta : TA} {σ : L2.St} {H : Hp} {R : It → Hp → Prop} (q : ta σ H fun vs H1 => ∃ a xs, vs = [.ref a] ∧ SqL K H1 a xs ∧ R (Ite K a) H1) : iEnum K ta σ H R := q
theorem g_yes {σ : L2.St} {H : Hp} {Q : Bool → Hp → Prop} (q : Q true H) : tYes σ H Q := q
theorem dec_int (a b : Int) : decide (V.int a = V.int b) = decide (a = b) := by simp
theorem bl_is {b c : Bool} {P : Bool → Prop} (h : b = c) (q : P c) : ∃ k, V.bl b = .bl k ∧ P k := ⟨c, by rw [h], q⟩
theorem g_none {Q : Option Int → Hp → Prop} {σ : L2.St} {H : Hp} (q : Q none H) : tNoPart σ H Q := q
theorem sl_both {K : PySem.W.Frag} {T : Addr} {xs : List V} {lo hi : Option Int} {H : Hp} {Q : VK} (R : Addr → Hp → Prop) (h : SqT K H T xs) (rT : R T H) (rN : ∀ p, H p = none → R p (upd H p (.tup (cutV xs lo hi)))) (q : ∀ tr H', R tr H' → Q (.ref tr) H') : rSlA K (.ref T) lo hi H Q :=
  ⟨T, xs, rfl, h, fun _ => q _ _ rT, fun _ p hp => q _ _ (rN p hp)⟩
theorem ini_mkK {K : PySem.W.Frag} {C : Addr} {names : List Str} {Q : VK} {ys : List V} {E : XK} {H : Hp} {g : Addr → List V} (hg : ∀ a, g a = .ref a :: ys) (O : Own K C) (hf : ∀ f ∈ names, PySem.W.findIn K (.ref C) f = some none) (hl : ys.length = names.length) (q : ∀ a H', H a = none → Exc H' a C (names.zip ys).reverse → Ext H H' → Q (.ref a) H') :
    ∀ a, H a = none → spIni K C names (g a) (upd H a (exo a C none)) (fun v H2 => v = .non ∧ Q (.ref a) H2) E := fun a ha => by
  rw [hg]
  exact ini_mk O hf hl q a ha
section
variable {K : PySem.W.Frag} {C : Addr} {names : List Str} {Q : VK} {dvs : List V} {H : Hp} {σ : L2.St} {m m' : Nat} {v v' : V}
theorem mkP0 (q : ∀ a H', H a = none → Exc H' a C [] → Ext H H' → Q (.ref a) H') : tMkP C tNil σ H Q := ⟨by simp, mkP_go q⟩
theorem mkP1 (h : σ[m]? = some (some v)) (q : ∀ a H', H a = none → Exc H' a C [] → Ext H H' → Q (.ref a) H') : tMkP C (tCons (tVar m) tNil) σ H Q := g_mkP (g_cons (g_var h (g_nil ⟨by simp, mkP_go q⟩)))
theorem mkI0 (O : Own K C) (hf : ∀ f ∈ names, PySem.W.findIn K (.ref C) f = some none) (hl : ([] ++ dvs).length = names.length) (q : ∀ a H', H a = none → Exc H' a C (names.zip ([] ++ dvs)).reverse → Ext H H' → Q (.ref a) H') : tMkI C (spIni K C names) dvs tNil σ H Q :=
  ⟨by simp, ini_mk (ys := [] ++ dvs) O hf hl q⟩
theorem mkI1 (h : σ[m]? = some (some v)) (O : Own K C) (hf : ∀ f ∈ names, PySem.W.findIn K (.ref C) f = some none) (hl : ([v] ++ dvs).length = names.length) (q : ∀ a H', H a = none → Exc H' a C (names.zip ([v] ++ dvs)).reverse → Ext H H' → Q (.ref a) H') :
    tMkI C (spIni K C names) dvs (tCons (tVar m) tNil) σ H Q := g_mkI (g_cons (g_var h (g_nil ⟨by simp, ini_mk (ys := [v] ++ dvs) O hf hl q⟩)))
theorem mkI2 (h : σ[m]? = some (some v)) (h' : σ[m']? = some (some v')) (O : Own K C) (hf : ∀ f ∈ names, PySem.W.findIn K (.ref C) f = some none) (hl : ([v, v'] ++ dvs).length = names.length) (q : ∀ a H', H a = none → Exc H' a C (names.zip ([v, v'] ++ dvs)).reverse → Ext H H' → Q (.ref a) H') :
    tMkI C (spIni K C names) dvs (tCons (tVar m) (tCons (tVar m') tNil)) σ H Q := g_mkI (g_cons (g_var h (g_cons (g_var h' (g_nil ⟨by simp, ini_mk (ys := [v, v'] ++ dvs) O hf hl q⟩)))))
variable {gV : List V → List V → List V} {ys : List V}
theorem mkK1 (h : σ[m]? = some (some v)) (hg : ∀ a : Addr, gV [.ref a] [v] = .ref a :: ys) (O : Own K C) (hf : ∀ f ∈ names, PySem.W.findIn K (.ref C) f = some none) (hl : ys.length = names.length) (q : ∀ a H', H a = none → Exc H' a C (names.zip ys).reverse → Ext H H' → Q (.ref a) H') :
    tMkK C (spIni K C names) gV (tCons (tVar m) tNil) σ H Q := g_mkK (g_cons (g_var h (g_nil (ini_mkK hg O hf hl q))))
theorem mkK2 (h : σ[m]? = some (some v)) (h' : σ[m']? = some (some v')) (hg : ∀ a : Addr, gV [.ref a] [v, v'] = .ref a :: ys) (O : Own K C) (hf : ∀ f ∈ names, PySem.W.findIn K (.ref C) f = some none) (hl : ys.length = names.length) (q : ∀ a H', H a = none → Exc H' a C (names.zip ys).reverse → Ext H H' → Q (.ref a) H') :
    tMkK C (spIni K C names) gV (tCons (tVar m) (tCons (tVar m') tNil)) σ H Q := g_mkK (g_cons (g_var h (g_cons (g_var h' (g_nil (ini_mkK hg O hf hl q))))))
end
theorem cut_ints (ns : List Int) (lo hi : Option Int) : ∃ ms : List Int, cutV (ns.map V.int) lo hi = ms.map V.int ∧ ms.length ≤ ns.length := by
  refine ⟨((ns.drop (HT.sIx ns.length 0 lo)).take (HT.sIx ns.length ns.length hi - HT.sIx ns.length 0 lo)), ?_, ?_⟩
  · unfold cutV
    rw [List.length_map, List.map_take, List.map_drop]
  · rw [List.length_take, List.length_drop]
    omega
theorem can_ints : ∀ ms : List Int, PyData.canLayAll0 (ms.map .int) = true
  | [] => rfl
  | m :: ms => by
    rw [List.map_cons, PyData.canLayAll0, can_ints ms]
    rfl
theorem dep_ints : ∀ ms : List Int, PyData.depthAll (ms.map .int) = 0
  | [] => rfl
  | m :: ms => by
    rw [List.map_cons, PyData.depthAll, dep_ints ms]
    rfl
theorem dp_ints {K : PySem.W.Frag} {H : Hp} : ∀ ms : List Int, DpAll K H (ms.map V.int) (ms.map .int)
  | [] => .nil
  | m :: ms => .cons (.int m) (dp_ints ms)
theorem sqT_ext {K : PySem.W.Frag} {H H' : Hp} {a : Addr} {xs : List V} (k : Ext H H') (h : SqT K H a xs) : SqT K H' a xs := by
  rcases h with (h | h) | h
  · exact .inl (.inl (k _ _ h))
  · obtain ⟨o, h⟩ := h
    exact .inl (.inr ⟨o, k _ _ h⟩)
  · exact .inr h
def nilB (K : PySem.W.Frag) (a : Addr) : Bool := match K.lookup a with
  | some ⟨.type "tuple", _, .seq its _, _⟩ => its.isEmpty
  | _ => false
theorem nil_ok {K : PySem.W.Frag} {a : Addr} (h : nilB K a = true) (H : Hp) : SqT K H a [] := by
  unfold nilB at h
  split at h
  · rename_i dd its n sl hl
    obtain ⟨l⟩ := its
    cases l with
    | nil => exact .inr ⟨_, #[], n, hl, rfl, rfl, Nat.zero_le _, .nil⟩
    | cons x xs => cases h
  · cases h
theorem vals_take {n : Nat} : ∀ {vs : List V} {us : List Value}, Vals vs us → Vals (vs.take n) (us.take n) := by
  induction n with
  | zero => intro _ _ _; exact .nil
  | succ n ih =>
    intro vs us r
    cases r with
    | nil => exact .nil
    | cons a b => exact .cons a (ih b)
end Ec

/-! Errors of own classes raised: what such a call makes when it stands behind a raise. -/
namespace Ec
open PySem PySem.Spec PyProof.Rows L2 Lw
theorem refs_of : ∀ bm : List Value, PySem.W.excTail PySem.EcP.tailV bm = true → PySem.HandSPX.refsVE bm = true := by
  intro bm
  induction bm with
  | nil => intro e; exact absurd e (by decide)
  | cons x r ih =>
    intro e
    rcases PySem.W.excTail_cases (x :: r) e with ⟨c, r', q, z⟩ | q
    · obtain ⟨rfl, rfl⟩ := List.cons.inj q
      exact ih z
    · rw [q]
      decide
/-- over ValueError: what HandS.ExcInit wants of the class -/
theorem Own.oex {K : PySem.W.Frag} {C : Addr} (O : Own K C) (h : Shape K C PySem.EcP.tailV "ValueError.__new__") : OexC K C := by
  obtain ⟨nm, q, N, bs, bm, sn, sub, ab, col, dd, k0, k1, k2, k3, k5, hC, ht⟩ := h
  exact ⟨⟨nm, q, N, bs, bm, sn, sub, ab, col, dd, k0, k1, k2, k3, k5, hC, refs_of bm ht⟩, O.sa, O.exC, O.tyC, O.kC⟩
theorem Own.raises {X : Cx} {C : Addr} (O : Own X.K C) : Raises X (.ref C) := raises_own O.exC O.tyC
section
variable {X : Cx} {C : Addr} {x : Str} {p pos : Pos} {e : Expr} {es : List Expr} {t : TA}
/-- raise C(), no __init__ of its own -/
theorem pmk_P0 (N : Plain X.K C) (hm : X.mg x = some (.ref C)) (hg : Gl X x := by rfl) (hdb : (x == ("__debug__" : Str)) = false := by decide) : PMk X (.Call (.Name x p) [] [] pos) (fun _ H Q => Q (.ref C) none H) := by
  intro pins s σ H Q I h
  refine wpAny_Call_Name_kw (ld_glob I hg hm ?_ hdb)
  refine PySem.W.callWith_K0 I.kIn N.own.kC ?_
  show wpAny _ _ (call (.ref C) []) _ _ _
  obtain ⟨bm, N', nm, qn, bs, hdct, sn, sub, ab, col, dd, k0, k1, k2, k3, k5, mN, hC, hN, hni, T⟩ := exc_obj I.kIn N.e
  obtain ⟨hp, g, dr, tk, os⟩ := s
  exact wpAny_call_exc_subT F.excBase_ValueError T hC hN hni (fun h' a hm => mk_of I hm N.own.raises h (I.hok.gone hm.new)) (Nat.zero_le _)
end
/-- the reading behind a raise of a class that stores what it is given -/
theorem ini_raise {K : PySem.W.Frag} {C : Addr} {names : List Str} {Q : XK} {ys : List V} {E : XK} {H : Hp} (O : Own K C) (hf : ∀ f ∈ names, PySem.W.findIn K (.ref C) f = some none) (hl : ys.length = names.length)
    (q : ∀ d H', H d = none → H' d = some (.xd (names.zip ys).reverse) → Ext H H' → Q (.ref C) (some d) H') :
    ∀ a, H a = none → spIni K C names (.ref a :: ys) (upd H a (exo a C none)) (fun v H2 => v = .non ∧ ∃ (d : Addr) (fs : List (Str × V)), H2 a = some (exo a C (some d)) ∧ H2 d = some (exd d fs) ∧ H d = none ∧ Q (.ref C) (some d) (upd (del H2 a) d (.xd fs))) E := fun a ha => by
  refine ⟨a, ys, rfl, hl, O, hf, upd_same, fun H' d ne hd e1 e2 k => ⟨rfl, d, _, e1, e2, ?_, q d _ ?_ upd_same fun b u hb => ?_⟩⟩
  · rw [upd_ne ne.symm] at hd
    exact hd
  · rw [upd_ne ne.symm] at hd
    exact hd
  · rw [upd_ne ne.symm] at hd
    have nb : b ≠ a := ne_of_none hb ha
    rw [upd_ne (ne_of_none hb hd), del_ne nb]
    exact k b u nb (by rw [upd_ne nb]; exact hb)
/-- a def of the top that may raise, by its name -/
structure DfX (P : Program) (w : World) (K : PySem.W.Frag) (mg : Str → Option Value) (base : Heap) (x : Str) (ps : List Str) (k : Nat) (sp : Sp) : Prop where
  ex : ∃ (f : Addr) (fd : FuncData), mg x = some (.ref f) ∧ PySem.W.keepIn K (.ref f) = true ∧ Binds K fd ps [] ∧ FnOk P w K mg base (L2.CX P w) k f fd ps sp
section
variable {X : Cx} {W : WX} {k : Nat} {ps : List Str} {sp : Sp} {x : Str} {p pos : Pos} {e : Expr} {es : List Expr} {t : TA}
theorem pe_dfX (D : DfX X.prog X.w X.K X.mg X.base x ps k sp) (hr : Room k X.A) (tk : Takes X W) (ha : PA X (e :: es) t) (hg : Gl X x := by rfl) (hdb : (x == ("__debug__" : Str)) = false := by decide)
    (he : starEach (e :: es) X.env = (false, eval e X.env) :: starEach es X.env := by rfl) (hpl : (backTo pos (starEach es X.env)).any (·.1) = false := by rfl) : PE X (.Call (.Name x p) (e :: es) [] pos) (tCallS sp (WE W) t) := by
  obtain ⟨f, fd, hm, hk, hb, F⟩ := D.ex
  exact pe_callS F hr hg hm hk hb (fun σ => passAt tk σ) ha hdb he hpl
theorem g_callS {sp : Sp} {E : L2.St → XK} {t : TA} {σ : L2.St} {H : Hp} {Q : VK} (q : t σ H fun vs H1 => sp vs H1 Q (E σ)) : tCallS sp E t σ H Q := q
end
end Ec

/-! Fields as data: what repr shows of them. -/
namespace Fr
open PySem L2 Lw Fm
def dataF : Fd → PyData
  | .whole n => .tuple [.str "whole", .int n]
  | .px => .tuple [.str "x"]
  | .pz => .tuple [.str "z"]
  | .noise s l => .tuple [.str "noise", .int s, .int l]
  | .two w a b => .tuple [.str w.word, dataF a, dataF b]
  | .over a n => .tuple [.str "over", dataF a, .int n]
  | .bel a b c d => .tuple [.str "below", dataF a, dataF b, dataF c, dataF d]
  | .shift dx dz a => .tuple [.str "shift", .int dx, .int dz, dataF a]
  | .lt x a b => .tuple [.str "let", .str x, dataF a, dataF b]
  | .nm x => .tuple [.str "name", .str x]
theorem dp_field {K : PySem.W.Frag} {H : Hp} : ∀ (F : Fd) (u : V), FRep F H u → Dp K H u (dataF F)
  | .whole _, _, ⟨p, e, h⟩ => e ▸ .tup (SqT.of h) (.cons (.str _) (.cons (.int _) .nil))
  | .px, _, ⟨p, e, h⟩ => e ▸ .tup (SqT.of h) (.cons (.str _) .nil)
  | .pz, _, ⟨p, e, h⟩ => e ▸ .tup (SqT.of h) (.cons (.str _) .nil)
  | .noise _ _, _, ⟨p, e, h⟩ => e ▸ .tup (SqT.of h) (.cons (.str _) (.cons (.int _) (.cons (.int _) .nil)))
  | .two _ a b, _, ⟨p, u1, u2, e, h, h1, h2⟩ => e ▸ .tup (SqT.of h) (.cons (.str _) (.cons (dp_field a u1 h1) (.cons (dp_field b u2 h2) .nil)))
  | .over a _, _, ⟨p, u1, e, h, h1⟩ => e ▸ .tup (SqT.of h) (.cons (.str _) (.cons (dp_field a u1 h1) (.cons (.int _) .nil)))
  | .bel a b c d, _, ⟨p, u1, u2, u3, u4, e, h, h1, h2, h3, h4⟩ => e ▸ .tup (SqT.of h) (.cons (.str _) (.cons (dp_field a u1 h1) (.cons (dp_field b u2 h2) (.cons (dp_field c u3 h3) (.cons (dp_field d u4 h4) .nil)))))
  | .shift _ _ a, _, ⟨p, u1, e, h, h1⟩ => e ▸ .tup (SqT.of h) (.cons (.str _) (.cons (.int _) (.cons (.int _) (.cons (dp_field a u1 h1) .nil))))
  | .lt _ a b, _, ⟨p, u1, u2, e, h, h1, h2⟩ => e ▸ .tup (SqT.of h) (.cons (.str _) (.cons (.str _) (.cons (dp_field a u1 h1) (.cons (dp_field b u2 h2) .nil))))
  | .nm _, _, ⟨p, e, h⟩ => e ▸ .tup (SqT.of h) (.cons (.str _) (.cons (.str _) .nil))
theorem log_small {i : Int} (h0 : -1000000000 ≤ i) (h1 : i ≤ 1000000000) : i.natAbs.log2 < 1920 := by
  by_cases e : i.natAbs = 0
  · rw [e]; decide
  · have hb : i.natAbs < 2 ^ 1920 := by
      have z : (2 : Nat) ^ 30 ≤ 2 ^ 1920 := Nat.pow_le_pow_right (by decide) (by decide)
      have z2 : (2 : Nat) ^ 30 = 1073741824 := by decide
      omega
    exact (Nat.log2_lt e).mpr hb
theorem show_field : ∀ F : Fd, OkF F → (dataF F).showable = true
  | .whole n, h => by simp only [dataF, PyData.showable, PyData.showableAll, decide_eq_true (log_small (i := n) (by have := h.1; omega) (by have := h.2; omega)), Bool.and_self]
  | .px, _ => by simp only [dataF, PyData.showable, PyData.showableAll, Bool.and_self]
  | .pz, _ => by simp only [dataF, PyData.showable, PyData.showableAll, Bool.and_self]
  | .noise s l, h => by simp only [dataF, PyData.showable, PyData.showableAll, decide_eq_true (log_small (i := s) (by have := h.1.1; omega) (by have := h.1.2; omega)), decide_eq_true (log_small (i := l) (by have := h.2.1; omega) (by have := h.2.2; omega)), Bool.and_self]
  | .two _ a b, h => by simp only [dataF, PyData.showable, PyData.showableAll, show_field a h.1, show_field b h.2, Bool.and_self]
  | .over a n, h => by simp only [dataF, PyData.showable, PyData.showableAll, show_field a h.1, decide_eq_true (log_small (i := n) (by have := h.2.1; omega) (by have := h.2.2; omega)), Bool.and_self]
  | .bel a b c d, h => by simp only [dataF, PyData.showable, PyData.showableAll, show_field a h.1, show_field b h.2.1, show_field c h.2.2.1, show_field d h.2.2.2, Bool.and_self]
  | .shift dx dz a, h => by simp only [dataF, PyData.showable, PyData.showableAll, show_field a h.2.2, decide_eq_true (log_small (i := dx) (by have := h.1.1; omega) (by have := h.1.2; omega)), decide_eq_true (log_small (i := dz) (by have := h.2.1.1; omega) (by have := h.2.1.2; omega)), Bool.and_self]
  | .lt _ a b, h => by simp only [dataF, PyData.showable, PyData.showableAll, show_field a h.2.1, show_field b h.2.2, Bool.and_self]
  | .nm _, _ => by simp only [dataF, PyData.showable, PyData.showableAll, Bool.and_self]
theorem nod_field : ∀ F : Fd, (dataF F).hasDict = false
  | .whole n => by simp only [dataF, PyData.hasDict, PyData.hasDictAll, Bool.or_self]
  | .px => by simp only [dataF, PyData.hasDict, PyData.hasDictAll, Bool.or_self]
  | .pz => by simp only [dataF, PyData.hasDict, PyData.hasDictAll, Bool.or_self]
  | .noise s l => by simp only [dataF, PyData.hasDict, PyData.hasDictAll, Bool.or_self]
  | .two _ a b => by simp only [dataF, PyData.hasDict, PyData.hasDictAll, nod_field a, nod_field b, Bool.or_self]
  | .over a n => by simp only [dataF, PyData.hasDict, PyData.hasDictAll, nod_field a, Bool.or_self]
  | .bel a b c d => by simp only [dataF, PyData.hasDict, PyData.hasDictAll, nod_field a, nod_field b, nod_field c, nod_field d, Bool.or_self]
  | .shift dx dz a => by simp only [dataF, PyData.hasDict, PyData.hasDictAll, nod_field a, Bool.or_self]
  | .lt _ a b => by simp only [dataF, PyData.hasDict, PyData.hasDictAll, nod_field a, nod_field b, Bool.or_self]
  | .nm _ => by simp only [dataF, PyData.hasDict, PyData.hasDictAll, Bool.or_self]
theorem depth_field : ∀ F : Fd, (dataF F).depth ≤ dep F + 3
  | .whole n => by simp only [dataF, PyData.depth, PyData.depthAll, dep]; omega
  | .px => by simp only [dataF, PyData.depth, PyData.depthAll, dep]; omega
  | .pz => by simp only [dataF, PyData.depth, PyData.depthAll, dep]; omega
  | .noise s l => by simp only [dataF, PyData.depth, PyData.depthAll, dep]; omega
  | .two _ a b => by have := depth_field a; have := depth_field b; simp only [dataF, PyData.depth, PyData.depthAll, dep]; omega
  | .over a n => by have := depth_field a; simp only [dataF, PyData.depth, PyData.depthAll, dep]; omega
  | .bel a b c d => by have := depth_field a; have := depth_field b; have := depth_field c; have := depth_field d; simp only [dataF, PyData.depth, PyData.depthAll, dep]; omega
  | .shift dx dz a => by have := depth_field a; simp only [dataF, PyData.depth, PyData.depthAll, dep]; omega
  | .lt _ a b => by have := depth_field a; have := depth_field b; simp only [dataF, PyData.depth, PyData.depthAll, dep]; omega
  | .nm _ => by simp only [dataF, PyData.depth, PyData.depthAll, dep]; omega
/-- how many fields a field is written with -/
def nodes : Fd → Nat
  | .two _ a b => 1 + (nodes a + nodes b)
  | .over a _ => 1 + nodes a
  | .bel a b c d => 1 + (nodes a + (nodes b + (nodes c + nodes d)))
  | .shift _ _ a => 1 + nodes a
  | .lt _ a b => 1 + (nodes a + nodes b)
  | _ => 1
theorem nodes_dep : ∀ (F : Fd) (d : Nat), dep F ≤ d → nodes F ≤ 5 ^ d := by
  intro F
  induction F with
  | two w a b iha ihb =>
    intro d h
    have h' : 1 + max (dep a) (dep b) ≤ d := h
    obtain ⟨d, rfl⟩ : ∃ d', d = d' + 1 := ⟨d - 1, by omega⟩
    have := iha d (by omega); have := ihb d (by omega)
    simp only [nodes, Nat.pow_succ]
    have := Nat.pow_pos (n := d) (show 0 < 5 by decide)
    omega
  | over a n iha =>
    intro d h
    have h' : 1 + dep a ≤ d := h
    obtain ⟨d, rfl⟩ : ∃ d', d = d' + 1 := ⟨d - 1, by omega⟩
    have := iha d (by omega)
    simp only [nodes, Nat.pow_succ]
    have := Nat.pow_pos (n := d) (show 0 < 5 by decide)
    omega
  | bel a b c e iha ihb ihc ihe =>
    intro d h
    have h' : 1 + max (max (dep a) (dep b)) (max (dep c) (dep e)) ≤ d := h
    obtain ⟨d, rfl⟩ : ∃ d', d = d' + 1 := ⟨d - 1, by omega⟩
    have := iha d (by omega); have := ihb d (by omega); have := ihc d (by omega); have := ihe d (by omega)
    simp only [nodes, Nat.pow_succ]
    have := Nat.pow_pos (n := d) (show 0 < 5 by decide)
    omega
  | shift dx dz a iha =>
    intro d h
    have h' : 1 + dep a ≤ d := h
    obtain ⟨d, rfl⟩ : ∃ d', d = d' + 1 := ⟨d - 1, by omega⟩
    have := iha d (by omega)
    simp only [nodes, Nat.pow_succ]
    have := Nat.pow_pos (n := d) (show 0 < 5 by decide)
    omega
  | lt x a b iha ihb =>
    intro d h
    have h' : 1 + max (dep a) (dep b) ≤ d := h
    obtain ⟨d, rfl⟩ : ∃ d', d = d' + 1 := ⟨d - 1, by omega⟩
    have := iha d (by omega); have := ihb d (by omega)
    simp only [nodes, Nat.pow_succ]
    have := Nat.pow_pos (n := d) (show 0 < 5 by decide)
    omega
  | _ => intro d _; exact Nat.one_le_iff_ne_zero.mpr (Nat.pos_iff_ne_zero.mp (Nat.pow_pos (by decide)))
theorem tuple_len (ts : List Str) : (tupleText ts).length ≤ piled ts + 2 := by
  unfold tupleText
  rw [strLen_append, strLen_append]
  have e1 : ((("(" : String) : Str)).length = 1 := rfl
  have e3 : (((if ts.length == 1 then ",)" else ")" : String) : Str)).length ≤ 2 := by split <;> decide
  rw [e1]
  by_cases h : ts = []
  · subst h
    have z : (Str.join ", " ([] : List Str)).length = 0 := rfl
    have z2 : (((if ([] : List Str).length == 1 then ",)" else ")" : String) : Str)).length = 1 := rfl
    rw [z, z2]
    exact Nat.le_add_left _ _
  · have := join_length_add ts h
    omega
theorem int_len {i : Int} (h0 : -1000000000 ≤ i) (h1 : i ≤ 1000000000) : (PyData.shown (.int i)).length ≤ 12 := by
  have e := int_text_length_le10 (a := i) (k := 10) (by decide) (by omega)
  show (Str.ofString (toString i)).length ≤ 12
  rw [ofString_length]
  omega
theorem name_len {x : Str} (h : NameOk x) : (PyData.shown (.str x)).length ≤ 82 := by
  have e := StrLaws.reprText_len x (fun c hc => by have := (h.2.2 c hc).2; omega)
  have := h.2.1
  show (reprText x).length ≤ 82
  omega
theorem word_len (w : W2) : (PyData.shown (.str w.word)).length ≤ 10 := by cases w <;> decide +kernel
theorem len_field : ∀ F : Fd, OkF F → (dataF F).shown.length ≤ 150 * nodes F
  | .whole n, h => by
    have e := tuple_len (PyData.shownAll [.str "whole", .int n])
    have h1 := int_len (i := n) (by have := h.1; omega) (by have := h.2; omega)
    have h2 : (PyData.shown (.str "whole")).length ≤ 20 := by decide +kernel
    simp only [PyData.shownAll, piled_cons, piled_nil] at e
    simp only [dataF, PyData.shown, nodes, PyData.shownAll] at e h1 h2 ⊢
    omega
  | .px, _ => by
    have z : (dataF .px).shown.length ≤ 20 := by decide +kernel
    simp only [nodes]; omega
  | .pz, _ => by
    have z : (dataF .pz).shown.length ≤ 20 := by decide +kernel
    simp only [nodes]; omega
  | .noise s l, h => by
    have e := tuple_len (PyData.shownAll [.str "noise", .int s, .int l])
    have h1 := int_len (i := s) (by have := h.1.1; omega) (by have := h.1.2; omega)
    have h3 := int_len (i := l) (by have := h.2.1; omega) (by have := h.2.2; omega)
    have h2 : (PyData.shown (.str "noise")).length ≤ 20 := by decide +kernel
    simp only [PyData.shownAll, piled_cons, piled_nil] at e
    simp only [dataF, PyData.shown, nodes, PyData.shownAll] at e h1 h2 h3 ⊢
    omega
  | .two w a b, h => by
    have e := tuple_len (PyData.shownAll [.str w.word, dataF a, dataF b])
    have ha := len_field a h.1
    have hb := len_field b h.2
    have h2 := word_len w
    simp only [PyData.shownAll, piled_cons, piled_nil] at e
    simp only [dataF, PyData.shown, nodes, PyData.shownAll] at e h2 ⊢
    omega
  | .over a n, h => by
    have e := tuple_len (PyData.shownAll [.str "over", dataF a, .int n])
    have ha := len_field a h.1
    have h1 := int_len (i := n) (by have := h.2.1; omega) (by have := h.2.2; omega)
    have h2 : (PyData.shown (.str "over")).length ≤ 20 := by decide +kernel
    simp only [PyData.shownAll, piled_cons, piled_nil] at e
    simp only [dataF, PyData.shown, nodes, PyData.shownAll] at e h1 h2 ⊢
    omega
  | .bel a b c d, h => by
    have e := tuple_len (PyData.shownAll [.str "below", dataF a, dataF b, dataF c, dataF d])
    have ha := len_field a h.1
    have hb := len_field b h.2.1
    have hc := len_field c h.2.2.1
    have hd := len_field d h.2.2.2
    have h2 : (PyData.shown (.str "below")).length ≤ 20 := by decide +kernel
    simp only [PyData.shownAll, piled_cons, piled_nil] at e
    simp only [dataF, PyData.shown, nodes, PyData.shownAll] at e h2 ⊢
    omega
  | .shift dx dz a, h => by
    have e := tuple_len (PyData.shownAll [.str "shift", .int dx, .int dz, dataF a])
    have ha := len_field a h.2.2
    have h1 := int_len (i := dx) (by have := h.1.1; omega) (by have := h.1.2; omega)
    have h3 := int_len (i := dz) (by have := h.2.1.1; omega) (by have := h.2.1.2; omega)
    have h2 : (PyData.shown (.str "shift")).length ≤ 20 := by decide +kernel
    simp only [PyData.shownAll, piled_cons, piled_nil] at e
    simp only [dataF, PyData.shown, nodes, PyData.shownAll] at e h1 h2 h3 ⊢
    omega
  | .lt x a b, h => by
    have e := tuple_len (PyData.shownAll [.str "let", .str x, dataF a, dataF b])
    have ha := len_field a h.2.1
    have hb := len_field b h.2.2
    have h1 := name_len h.1
    have h2 : (PyData.shown (.str "let")).length ≤ 20 := by decide +kernel
    simp only [PyData.shownAll, piled_cons, piled_nil] at e
    simp only [dataF, PyData.shown, nodes, PyData.shownAll] at e h1 h2 ⊢
    omega
  | .nm x, h => by
    have e := tuple_len (PyData.shownAll [.str "name", .str x])
    have h1 := name_len h
    have h2 : (PyData.shown (.str "name")).length ≤ 20 := by decide +kernel
    simp only [PyData.shownAll, piled_cons, piled_nil] at e
    simp only [dataF, PyData.shown, nodes, PyData.shownAll] at e h1 h2 ⊢
    omega
end Fr

/-! enumerate(tuple, k). -/
namespace Eu
open PySem PySem.Spec PyProof.Rows L2 Lw
/-- the tuple at a at each turn, each item in a new pair with its number from k0 on -/
def IteT (K : PySem.W.Frag) (k0 : Int) (a : Addr) : It :=
  ⟨fun i H => ∃ (xs : List V) (x : V), SqT K H a xs ∧ xs[i]? = some x, fun i H v H' => ∃ T x, v = .ref T ∧ H T = none ∧ H' = upd H T (.tup [.int (k0 + (i : Nat)), x]) ∧ ∀ xs, SqT K H a xs → xs[i]? = some x, fun i H => ∃ xs : List V, SqT K H a xs ∧ xs.length ≤ i⟩
theorem turn_enumT {P : Program} {w : World} {K : PySem.W.Frag} {elts : List Expr} {kk : Nat} {tpos : Pos} {k0 : Int} (a e it : Addr) (hea : e ≠ a) (hia : a ≠ it) :
    Turn P w K (.Tuple elts kk tpos) (IteT K k0 a) [e, it] e (fun i h => (∃ old, IsEnum h e it (k0 + ((i : Nat) : Int)) old) ∧ h.IsTupleIter it a i ∧ e ≠ it) where
  mem := by simp
  obj := fun i h st b hb => by
    obtain ⟨⟨old, he⟩, ⟨o, ho, hc, hd⟩, _⟩ := st
    have e' : b = e ∨ b = it := by simpa using hb
    rcases e' with z | z
    · rw [z]; exact ⟨_, he, fun v q => nomatch q⟩
    · rw [z]; exact ⟨o, ho, fun v q => by rw [hd] at q; cases q⟩
  keep := fun i h h' st k => let ⟨⟨old, he⟩, hi, hne⟩ := st; ⟨⟨old, k e (by simp) _ he⟩, hi.at fun o q => k it (by simp) o q, hne⟩
  item := by
    intro X hP hw hK hc i pins s σ H E I hf st hg
    subst hP hw hK
    obtain ⟨⟨old, he⟩, hit, hne⟩ := st
    obtain ⟨xs, x, hq, hx⟩ := hg
    obtain ⟨its, rv, p, hz⟩ := I.tuple hq
    obtain ⟨u, hu, ru⟩ := rv.get hx
    have hel : e < s.heap.objs.size := Heap.lt_size he
    have hil : it < s.heap.objs.size := by obtain ⟨_, q, _⟩ := hit; exact Heap.lt_size q
    have hhd := I.ok.hd hc
    have D := Draws.tuple (prog := X.prog) (w := X.w) (A := X.A.in1) hhd it a hia its.toArray
    have hlt : i < its.toArray.size := by
      have := (List.getElem?_eq_some_iff.mp hu).1
      simpa using this
    refine wpAny_pyNext_enum_itemC D he ⟨hit, p⟩ hlt hne (by simp [hne, hea]) fun x2 h' tk px ho st' hT hsz hk => ?_
    have ex2 : x2 = u := by
      have z : its.toArray[i]? = some x2 := px
      have z2 : its.toArray[i]? = some u := by simpa using hu
      rw [z] at z2
      exact Option.some.inj z2
    subst ex2
    refine ⟨_, rfl, wpAny_letOwnedTupleGo_enum (s := { s with heap := h', toks := tk + 1 }) ho fun h'' he' sb => ?_⟩
    have hT2 : h''.get? s.heap.objs.size = some { cls := .type "tuple", data := .seq #[.int (k0 + (i : Int)) tk, x2] } := (sb.2 _ (Nat.ne_of_gt hel)).trans hT
    have new : ObjOk X.prog X.w (upd H s.heap.objs.size (.tup [.int (k0 + (i : Nat)), x])) h'' s.heap.objs.size (.tup [.int (k0 + (i : Nat)), x]) :=
      ⟨by show 2 ≤ sizeLine; decide, [.int (k0 + (i : Int)) tk, x2], .cons ⟨_, rfl⟩ (.cons ru .nil), ⟨_, hT2, rfl, _, rfl⟩⟩
    have I1 : Inv X pins σ (upd H s.heap.objs.size (.tup [.int (k0 + (i : Nat)), x])) { s with heap := h'', toks := tk + 1 } :=
      I.turnedNew (ch := [e, it]) (fun b ob hb q => (sb.2 b (fun z => hb (by simp [z]))).trans (hk b ob (fun z => hb (by simp [z])) (fun z => hb (by simp [z])) q)) hf (Nat.le_refl _) new
    refine ⟨.ref s.heap.objs.size, _, I1, rfl, ⟨_, x, rfl, I.hok.fresh (Nat.le_refl _), rfl, fun ys hy => by rw [I.tuple_inj hy hq]; exact hx⟩, ⟨⟨x2, ?_⟩, st'.1.at fun o q => (sb.2 it (Ne.symm hne)).trans q, hne⟩, fun b hb => ?_⟩
    · have e1 : k0 + ((i + 1 : Nat) : Int) = k0 + (i : Int) + 1 := by omega
      rw [e1]; exact he'
    · have hb' : b < s.heap.objs.size := by
        have e' : b = e ∨ b = it := by simpa using hb
        rcases e' with z | z
        · rw [z]; exact hel
        · rw [z]; exact hil
      rw [upd_ne (Nat.ne_of_lt hb')]
      exact (hf b hb).1
  done := by
    intro X hP hw hK hc i pins s σ H E I hf st hg
    subst hP hw hK
    obtain ⟨⟨old, he⟩, hit, hne⟩ := st
    obtain ⟨xs, hq, hx⟩ := hg
    obtain ⟨its, rv, p, hz⟩ := I.tuple hq
    obtain ⟨f0, f1, f2, f3, f4, f5⟩ := hf it (by simp)
    have hl := rv.length
    have hT : s.TypeIs (.ref e) "enumerate" := ⟨_, he, rfl⟩
    unfold pyNext
    refine wpAny_bind (wpAny_attempt (wpAny_callSpecial?_slot (name := Str.ofString "__next__") hT F.slot_enumerate_next
      (wpAny_call_entry F.slot_enumerate_next hT F.entry_enumerate_next ?_ (F.args_enumerate_next_1 _))))
    show wpAny _ _ (field (.ref e) 2 >>= _) _ _ _
    refine wpAny_bind (wpAny_field he rfl (x := .ref it) rfl ?_)
    refine wpAny_bind (wpAny_nextOf_tuple_end (I.ok.hd hc) hit p (by simp; omega) fun h' x he' hx' => ?_)
    obtain ⟨o, ho, hc'⟩ := hx'
    refine wpAny_bind (wpAny_isInstance (T := "StopIteration") (b := true) ⟨o, ho, hc'⟩ isSubtype_stop ?_)
    exact wpAny_pure ⟨rfl, I.turned (t' := s.toks) (fun b o hb q => he' b o hb q) f0 f1 f3 f4 f5⟩
  self := fun A i s Q E st h => let ⟨⟨_, he⟩, _⟩ := st; wpAny_pyIter_enum he h
def iEnumT (K : PySem.W.Frag) (ta : TA) : TI := fun σ H R => ta σ H fun vs H1 => ∃ a k0 xs, vs = [.ref a, .int k0] ∧ SqT K H1 a xs ∧ -1000 ≤ k0 ∧ k0 ≤ 1000 ∧ R (IteT K k0 a) H1
theorem pi_enumT {X : Cx} {e e2 : Expr} {ta : TA} {p pos tpos : Pos} {elts : List Expr} {kk : Nat} (hg : Gl X "enumerate") (hm : X.mg "enumerate" = none) (ha : PA X [e, e2] ta)
    (hs : starEach [e, e2] X.env = (false, eval e X.env) :: starEach [e2] X.env := by rfl) (hpl : (backTo pos (starEach [e2] X.env)).any (·.1) = false := by rfl) :
    PI X (.Tuple elts kk tpos) (.Call (.Name "enumerate" p) [e, e2] [] pos) (iEnumT X.K ta) := by
  refine ⟨fun pins s σ H R I h => ?_⟩
  refine Call_ (ld_blt I hg hm boot_enumerate (PyProof.Rows.callWith_type1 (thn (ha.run pos pins s σ H _ I h) fun us s1 ⟨vs, H1, I1, r1, q1⟩ => ?_) hs hpl))
  obtain ⟨a, k0, xs, ex, hq, hk0, hk1, q⟩ := q1
  subst ex
  cases r1 with
  | cons r rr =>
    cases rr with
    | cons r2 rr =>
      cases rr
      cases r
      obtain ⟨t, rfl⟩ := r2
      obtain ⟨its, rv, p', hz⟩ := I1.tuple hq
      have hal : a < s1.heap.objs.size := by obtain ⟨o1, ho1, _⟩ := id p'; exact Heap.lt_size ho1
      refine enum_begins (begins_tuple a its.toArray) p' (by omega) (by omega) fun h' he hit hsz hk => wpAny_pyIter_enum he ?_
      have I2 : Inv X pins σ H1 { s1 with heap := h' } := I1.kept (t' := s1.toks) hk
      refine ⟨s1.heap.objs.size + 1, [s1.heap.objs.size + 1, s1.heap.objs.size], _, _, H1, rfl, I2, turn_enumT (k0 := k0) a (s1.heap.objs.size + 1) s1.heap.objs.size (Nat.ne_of_gt (Nat.lt_succ_of_lt hal)) (Nat.ne_of_lt hal), ⟨⟨.none, by simpa using he⟩, ⟨_, hit, rfl, rfl⟩, Nat.succ_ne_self _⟩, fun b hb => ?_, q⟩
      have e' : b = s1.heap.objs.size + 1 ∨ b = s1.heap.objs.size := by simpa using hb
      have hle : s1.heap.objs.size ≤ b := by
        rcases e' with z | z
        · rw [z]; exact Nat.le_add_right _ _
        · rw [z]; exact Nat.le_refl _
      exact I1.fpOk hle (I1.hok.fresh hle)
theorem g_enumT {K : PySem.W.Frag} {ta : TA} {σ : L2.St} {H : Hp} {R : It → Hp → Prop} (q : ta σ H fun vs H1 => ∃ a k0 xs, vs = [.ref a, .int k0] ∧ SqT K H1 a xs ∧ -1000 ≤ k0 ∧ k0 ≤ 1000 ∧ R (IteT K k0 a) H1) : iEnumT K ta σ H R := q
end Eu

/-! t[::-1] of a tuple. -/
namespace Tr
open PySem PySem.Spec PyProof.Rows L2
section
variable {prog : Program} {w : World} {A : Around} {E : Value → Shared → Prop} {s : Shared}
theorem rev_applied {sl : Addr} {vs : Value} {n : Nat} {Q : Int × Int × Nat → Shared → Prop} (hs : s.heap.IsSliceOf sl .none .none vs) (ps : IsPart vs (some (-1)))
    (h : Q ((n : Int) - 1, -1, n) s) : wpAny (model prog w) A (Builtin.Slice.sliceApplied (.ref sl) (pure (n : Int))) Q E s := by
  obtain ⟨os, hos, hcs, hds⟩ := id hs
  unfold Builtin.Slice.sliceApplied Builtin.Slice.sliceFields
  refine wpAny_bind (wpAny_bind (wpAny_field hos hds (x := .none) rfl (wpAny_bind (wpAny_field hos hds (x := .none) rfl (wpAny_bind (wpAny_field hos hds (x := vs) rfl (wpAny_pure ?_)))))))
  refine wpAny_bind (HT.slicePart_ ps ?_)
  show wpAny _ _ (if ((-1 : Int) == 0) = true then _ else _) _ _ s
  rw [if_neg (by decide)]
  refine wpAny_bind (slicePart_none (wpAny_bind (slicePart_none (wpAny_bind (wpAny_pure ?_)))))
  show wpAny _ _ (pure ((n : Int) - 1, (-1 : Int), Builtin.Slice.slicePlaces ((n : Int) - 1) (-1) (-1))) _ _ s
  have e : Builtin.Slice.slicePlaces ((n : Int) - 1) (-1) (-1) = n := by
    unfold Builtin.Slice.slicePlaces
    have h1 : ¬ ((-1 : Int) > 0) := by omega
    simp only [h1, if_false]
    show (if (n : Int) - 1 > -1 then ((n : Int) - 1 - -1 - 1) / 1 + 1 else 0).toNat = n
    rw [Int.ediv_one]
    split <;> omega
  rw [e]
  exact wpAny_pure h
theorem fm_congr {α β : Type} {f g : α → Option β} : ∀ l : List α, (∀ m ∈ l, f m = g m) → l.filterMap f = l.filterMap g
  | [], _ => rfl
  | a :: r, h => by
    rw [List.filterMap_cons, List.filterMap_cons, h a List.mem_cons_self, fm_congr r fun m hm => h m (List.mem_cons_of_mem _ hm)]
theorem rev_pick (xs : Array Value) : ((List.range xs.size).filterMap fun (m : Nat) => xs[(((xs.size : Nat) : Int) - 1 + (m : Int) * -1).toNat]?).toArray = xs.toList.reverse.toArray := by
  congr 1
  have h := PySem.W.krv_all xs.toList.reverse.toArray
  have hs : xs.toList.reverse.toArray.size = xs.size := by rw [List.size_toArray, List.length_reverse, Array.length_toList]
  rw [hs] at h
  have e : xs.toList.reverse = xs.toList.reverse.toArray.toList := rfl
  refine (fm_congr _ fun m hm => ?_).trans (h.trans e.symm)
  have hm := List.mem_range.mp hm
  have e2 : xs.toList.reverse.toArray[m]? = xs.toList.reverse[m]? := List.getElem?_toArray
  rw [e2, show (((xs.size : Nat) : Int) - 1 + (m : Int) * -1).toNat = xs.size - 1 - m by omega, List.getElem?_reverse (by rw [Array.length_toList]; exact hm), Array.length_toList]
  exact Array.getElem?_toList.symm
theorem getItem_tuple_rev {t sl : Addr} {items : Array Value} {vs : Value} {Q : Value → Shared → Prop} (ht : IsTup s.heap t items) (hs : s.heap.IsSliceOf sl .none .none vs) (ps : IsPart vs (some (-1)))
    (h : Q (.ref s.heap.objs.size) { s with heap := s.heap.push { cls := .type "tuple", data := .seq items.toList.reverse.toArray } }) (hsz : items.size ≤ sizeLine) : wpAny (model prog w) A (getItem (.ref t) (.ref sl)) Q E s := by
  have htake : sizeOk (.seq items.toList.reverse.toArray) := by
    show items.toList.reverse.toArray.size ≤ sizeLine
    rw [List.size_toArray, List.length_reverse, Array.length_toList]
    exact hsz
  obtain ⟨os, hos, hcs, hds⟩ := id hs
  have hTs : s.TypeIs (.ref sl) "slice" := ⟨os, hos, hcs⟩
  unfold getItem
  try with_reducible refine wpAny_holding ?_
  first | refine wpAny_bind (wpAny_pure ?_) | skip
  refine wpAny_bind (wpAny_sequenceKey ht.typeIs (by decide) ?_)
  refine wpAny_bind (wpAny_callSpecial?_slot (name := Str.ofString "__getitem__") ht.typeIs PyProof.Rows.slot_tuple_getitem
    (wpAny_call_entry PyProof.Rows.slot_tuple_getitem ht.typeIs PyProof.Rows.entry_tuple_getitem ?_ (PyProof.Rows.args_tuple_getitem _ _)))
  show wpAny _ _ (Builtin.Tuple.tupleItemsOf (.ref t) >>= _) _ _ s
  refine wpAny_bind (tupleItemsOf_ ht ?_)
  refine wpAny_bind (wpAny_typeOf hTs ?_)
  rw [if_pos (by decide)]
  refine wpAny_bind (rev_applied hs ps ?_)
  have hno : ¬ ((((items.size : Nat) : Int) - 1 == 0 && (-1 : Int) == 1 && items.size == items.size) = true) := by
    intro q
    rw [Bool.and_eq_true, Bool.and_eq_true] at q
    exact absurd (eq_of_beq q.1.2) (by decide)
  show wpAny _ _ (if (((items.size : Nat) : Int) - 1 == 0 && (-1 : Int) == 1 && items.size == items.size) = true then _ else _) _ _ s
  rw [if_neg hno, rev_pick]
  first
    | exact wpAny_bind (m := Builtin.Tuple.tupleExact _) (wpAny_newObj_type (wpAny_pure ⟨_, rfl, wpAny_pure h⟩) htake)
    | exact wpAny_bind (m := Builtin.Tuple.tupleExact _) (wpAny_newObj_type (wpAny_bind (wpAny_pure (wpAny_pure ⟨_, rfl, wpAny_pure h⟩))) htake)
    | exact wpAny_bind (wpAny_bind (m := Builtin.Tuple.tupleExact _) (wpAny_newObj_type (wpAny_pure (wpAny_pure ⟨_, rfl, wpAny_pure h⟩)) htake))
    | exact wpAny_bind (wpAny_bind (m := Builtin.Tuple.tupleExact _) (wpAny_newObj_type (wpAny_pure ⟨_, rfl, wpAny_pure h⟩) htake))
end
section
variable {X : Cx}
def tRevT (K : PySem.W.Frag) (te : TE) : TE := fun σ H Q => te σ H fun x H1 => ∃ a xs, x = .ref a ∧ SqT K H1 a xs ∧ ∀ p, H1 p = none → Q (.ref p) (upd H1 p (.tup xs.reverse))
theorem pe_revT {e : Expr} {te : TE} {k : Nat} {p1 p2 p3 pos : Pos} (he : PE X e te) : PE X (.Subscript e (.Slice none none (some (.UnaryOp .USub (.Constant (.int 1) k p1) p2)) p3) pos) (tRevT X.K te) := by
  refine ⟨fun pins s σ H Q I h => ?_⟩
  refine Subscript_ (thn (he.run pins s σ H _ I h) fun v s1 ⟨x, H1, I1, r1, q1⟩ => ?_)
  obtain ⟨a, xs, ex, hx, q⟩ := q1
  subst ex
  cases r1
  have hst : PO X (some (.UnaryOp .USub (.Constant (.int 1) k p1) p2)) (tPart (tUn (rU fun i => .int (-i)) (tC (.int 1)))) := po_some (pe_un un_neg pe_int)
  refine wpAny_Slice (thn (po_none.run pins s1 σ H1 (fun o H2 => o = none ∧ H2 = H1) I1 ⟨rfl, rfl⟩) fun vl s2 ⟨l, H2, I2, pl, el, e2⟩ => ?_)
  subst el e2
  refine thn (po_none.run pins s2 σ H2 (fun o H3 => o = none ∧ H3 = H2) I2 ⟨rfl, rfl⟩) fun vu s3 ⟨u, H3, I3, pu, eu, e3⟩ => ?_
  subst eu e3
  refine thn (hst.run pins s3 σ H3 (fun o H4 => o = some (-1) ∧ H4 = H3) I3 ⟨1, rfl, -1, rfl, rfl, rfl⟩) fun vs s4 ⟨o, H4, I4, ps, eo, e4⟩ => ?_
  subst eo e4
  have I5 : Inv X pins σ H4 { s4 with heap := s4.heap.push { cls := .type "slice", data := .fields #[vl, vu, vs] } } := I4.kept (t' := s4.toks) fun b ob q => Heap.get?_push_of_some _ q
  obtain ⟨its, r, ht, hz⟩ := I5.tuple hx
  have hlen := r.length
  cases pl
  cases pu
  show wpAny (model X.prog X.w) X.A (subscriptTail e (.Slice none none (some (.UnaryOp .USub (.Constant (.int 1) k p1) p2)) p3) (.ref a) (.ref s4.heap.objs.size)) (EP X pins σ Q) X.xe { s4 with heap := s4.heap.push { cls := .type "slice", data := .fields #[.none, .none, vs] } }
  refine tail_any (ops := [.ref a, .ref s4.heap.objs.size]) ht.typeIs (PyProof.Rows.slot_tuple_getitem.lookup) ?_ (by with_unfolding_all rfl)
  refine getItem_tuple_rev ht (Heap.IsSliceOf.new _ _ _ vs) ps ?_ (by rw [List.size_toArray]; omega)
  refine ⟨.ref _, _, I5.laid (t' := s4.toks) (o := .tup xs.reverse) (fun b ob q => Heap.get?_push_of_some _ q) (Nat.le_refl _) ?_, rfl, q _ (I5.hok.fresh (Nat.le_refl _))⟩
  exact ⟨by rw [List.length_reverse]; exact hz, _, r.reverse, IsTup.new _ _⟩
end
theorem g_revT {K : PySem.W.Frag} {te : TE} {σ : L2.St} {H : Hp} {Q : VK} (q : te σ H fun x H1 => ∃ a xs, x = .ref a ∧ SqT K H1 a xs ∧ ∀ p, H1 p = none → Q (.ref p) (upd H1 p (.tup xs.reverse))) : tRevT K te σ H Q := q
end Tr
namespace Tr
open PySem PySem.Spec PyProof.Rows L2
theorem slicePick_rev (its : List Value) : slicePick its.toArray none none (some (-1)) = its.reverse.toArray := by
  have h := rev_pick its.toArray
  rw [List.size_toArray] at h
  have e : its.toArray.toList.reverse = its.reverse := rfl
  rw [e] at h
  rw [← h]
  unfold slicePick
  congr 1
  have hb : sliceBounds none none (some (-1)) its.toArray.size = ((its.length : Int) - 1, -1, -1) := by
    unfold sliceBounds
    simp
  rw [hb]
  show (sliceRange ((its.length : Int) - 1) (-1) (-1)).filterMap (its.toArray[·]?) = _
  have hr : sliceRange ((its.length : Int) - 1) (-1) (-1) = (List.range its.length).map fun (m : Nat) => ((its.length : Int) - 1 + (m : Int) * -1).toNat := by
    unfold sliceRange
    have h1 : ¬ ((-1 : Int) > 0) := by omega
    have hc : (if (its.length : Int) - 1 > -1 then ((its.length : Int) - 1 - -1 - -1 - 1) / (- -1) else 0).toNat = its.length := by
      show (if (its.length : Int) - 1 > -1 then ((its.length : Int) - 1 - -1 - -1 - 1) / 1 else 0).toNat = _
      rw [Int.ediv_one]
      split <;> omega
    simp only [h1, if_false]
    rw [hc]
    exact List.map_congr_left fun m _ => by congr 1; omega
  rw [hr, List.filterMap_map]
  rfl
section
variable {X : Cx}
def tRevL (K : PySem.W.Frag) (te : TE) : TE := fun σ H Q => te σ H fun x H1 => ∃ a xs, x = .ref a ∧ SqL K H1 a xs ∧ ∀ p, H1 p = none → Q (.ref p) (upd H1 p (.lst xs.reverse))
theorem pe_revL {e : Expr} {te : TE} {k : Nat} {p1 p2 p3 pos : Pos} (he : PE X e te) : PE X (.Subscript e (.Slice none none (some (.UnaryOp .USub (.Constant (.int 1) k p1) p2)) p3) pos) (tRevL X.K te) := by
  refine ⟨fun pins s σ H Q I h => ?_⟩
  refine Subscript_ (thn (he.run pins s σ H _ I h) fun v s1 ⟨x, H1, I1, r1, q1⟩ => ?_)
  obtain ⟨a, xs, ex, hx, q⟩ := q1
  subst ex
  cases r1
  have hst : PO X (some (.UnaryOp .USub (.Constant (.int 1) k p1) p2)) (tPart (tUn (rU fun i => .int (-i)) (tC (.int 1)))) := po_some (pe_un un_neg pe_int)
  refine wpAny_Slice (thn (po_none.run pins s1 σ H1 (fun o H2 => o = none ∧ H2 = H1) I1 ⟨rfl, rfl⟩) fun vl s2 ⟨l, H2, I2, pl, el, e2⟩ => ?_)
  subst el e2
  refine thn (po_none.run pins s2 σ H2 (fun o H3 => o = none ∧ H3 = H2) I2 ⟨rfl, rfl⟩) fun vu s3 ⟨u, H3, I3, pu, eu, e3⟩ => ?_
  subst eu e3
  refine thn (hst.run pins s3 σ H3 (fun o H4 => o = some (-1) ∧ H4 = H3) I3 ⟨1, rfl, -1, rfl, rfl, rfl⟩) fun vs s4 ⟨o, H4, I4, ps, eo, e4⟩ => ?_
  subst eo e4
  have I5 : Inv X pins σ H4 { s4 with heap := s4.heap.push { cls := .type "slice", data := .fields #[vl, vu, vs] } } := I4.kept (t' := s4.toks) fun b ob q => Heap.get?_push_of_some _ q
  obtain ⟨its, r, ht, hz⟩ := I5.list hx
  have hlen := r.length
  cases pl
  cases pu
  show wpAny (model X.prog X.w) X.A (subscriptTail e (.Slice none none (some (.UnaryOp .USub (.Constant (.int 1) k p1) p2)) p3) (.ref a) (.ref s4.heap.objs.size)) (EP X pins σ Q) X.xe { s4 with heap := s4.heap.push { cls := .type "slice", data := .fields #[.none, .none, vs] } }
  refine tail_any (ops := [.ref a, .ref s4.heap.objs.size]) ht.isList.typeIs slot_list_getitem.lookup ?_ (by with_unfolding_all rfl)
  refine wpAny_getItem_list_slice ht.isList (Heap.IsSliceOf.new _ _ _ vs) .none .none ps (by simp) ?_ (by rw [List.size_toArray] <;> omega)
  rw [slicePick_rev]
  refine ⟨.ref _, _, I5.laid (t' := s4.toks) (o := .lst xs.reverse) (fun b ob q => Heap.get?_push_of_some _ q) (Nat.le_refl _) ?_, rfl, q _ (I5.hok.fresh (Nat.le_refl _))⟩
  exact ⟨by rw [List.length_reverse]; exact hz, _, 0, r.reverse, Heap.get?_push_size _ rfl⟩
end
theorem g_revL {K : PySem.W.Frag} {te : TE} {σ : L2.St} {H : Hp} {Q : VK} (q : te σ H fun x H1 => ∃ a xs, x = .ref a ∧ SqL K H1 a xs ∧ ∀ p, H1 p = none → Q (.ref p) (upd H1 p (.lst xs.reverse))) : tRevL K te σ H Q := q
end Tr

/-! a <= b where one of them may be a truth value. -/
namespace Bl
open PySem PySem.Spec PyProof.Rows L2 Lw
open PySem.SeqAt
def bI (b : Bool) : Int := if b then 1 else 0
theorem gives_ge_bi (p : Bool) (a : Int) (t : Tok) : Gives (Builtin.«int.__ge__» ⟨[.bool p, .int a t], []⟩) (.val (Value.bool ((fun x1 x2 => decide (x1 ≥ x2)) (if p = true then (1 : Int) else 0) a))) :=
  .of_wp fun M A E s Q h => by obtain ⟨hp, g, d, tk, os⟩ := s; wp_walk; exact ⟨_, rfl, h⟩
theorem gives_le_bi (p : Bool) (a : Int) (t : Tok) : Gives (Builtin.«int.__le__» ⟨[.bool p, .int a t], []⟩) (.val (Value.bool ((fun x1 x2 => decide (x1 ≤ x2)) (if p = true then (1 : Int) else 0) a))) :=
  .of_wp fun M A E s Q h => by obtain ⟨hp, g, d, tk, os⟩ := s; wp_walk; exact ⟨_, rfl, h⟩
section
variable {prog : Program} {w : World} {A : Around} {E : Value → Shared → Prop} {s : Shared} {Q : Value → Shared → Prop}
theorem le_ib {a : Int} {t : Tok} {p : Bool} (h : Q (.bool (decide (a ≤ bI p))) s) : wpAny (model prog w) A (compareOp .LtE (.int a t) (.bool p)) Q E s := by
  show wpAny _ A (richCompare .LtE _ _) Q E s
  exact rc_sub_first_or (op := .LtE) (typeIs_int s a t) rfl (by decide) F.sub_bool_int F.slot_bool_ge_refl
    (call_gives F.slot_bool_ge_refl rfl F.entry_int_ge (F.args_int_ge_2 _ _) (gives_ge_bi p a t) ⟨nofun, h⟩) (.inl rfl)
theorem le_bi {a : Int} {t : Tok} {p : Bool} (h : Q (.bool (decide (bI p ≤ a))) s) : wpAny (model prog w) A (compareOp .LtE (.bool p) (.int a t)) Q E s := by
  show wpAny _ A (richCompare .LtE _ _) Q E s
  exact rc_left_or (op := .LtE) rfl (typeIs_int s a t) (by decide) F.sub_int_bool F.slot_bool_le
    (call_gives F.slot_bool_le rfl F.entry_int_le (F.args_int_le_2 _ _) (gives_le_bi p a t) ⟨nofun, h⟩) (.inl rfl)
end
/-- whole numbers, or truth values as such -/
def nI : V → Option Int
  | .int i => some i
  | .bl b => some (bI b)
  | _ => none
def rLeB : R2 := fun x y H Q => ∃ i j, nI x = some i ∧ nI y = some j ∧ ((∃ k, x = .int k) ∨ ∃ k, y = .int k) ∧ Q (.bl (decide (i ≤ j))) H
theorem op_leB {X : Cx} : OpR X (compareOp .LtE) rLeB := by
  intro pins s σ H x y v u Q I rx ry h
  obtain ⟨i, j, hx, hy, hk, q⟩ := h
  cases x with
  | int k =>
    obtain ⟨t, rfl⟩ := rx
    cases hx
    cases y with
    | int l =>
      obtain ⟨t2, rfl⟩ := ry
      cases hy
      exact PyProof.Rows.le_int ⟨.bl _, H, I, rfl, q⟩
    | bl b =>
      cases ry
      cases hy
      exact le_ib ⟨.bl _, H, I, rfl, q⟩
    | _ => cases hy
  | bl b =>
    cases rx
    cases hx
    cases y with
    | int l =>
      obtain ⟨t2, rfl⟩ := ry
      cases hy
      exact le_bi ⟨.bl _, H, I, rfl, q⟩
    | bl c => rcases hk with ⟨_, z⟩ | ⟨_, z⟩ <;> cases z
    | _ => cases hy
  | _ => cases hx
end Bl

/-! Brushes: rows within rows; their faults, weights and reaches (nothing of the program). -/
namespace Br
open PySem PySem.Spec PyProof.Rows L2 Lw
/-- what stands where a number should -/
inductive At where
  | int (i : Int)
  | tru
  | non
  | one
def At.v : At → V
  | .int i => .int i
  | .tru => .bl true
  | .non => .non
  | .one => .str "1"
def At.d : At → PyData
  | .int i => .int i
  | .tru => .bool true
  | .non => .none
  | .one => .str "1"
def At.i : At → Int
  | .int i => i
  | _ => 0
def At.ok (lo hi : Int) : At → Bool
  | .int i => decide (lo ≤ i ∧ i ≤ hi)
  | _ => false
inductive Row where
  | move (a b : At)
  | mark (w : Str) (p q f : At)
  | often (n : At) (b : List Row)
  | cond (f : At) (b c : List Row)
  | junk (d : PyData)
def words : List Str := ["move", "mark", "often", "if"]
def marks : List Str := ["set", "raise", "least", "most"]
def arity (w : Str) : Nat := if w = "move" then 3 else if w = "mark" then 5 else if w = "often" then 3 else 4
/-- a tuple that is no row -/
def junkT (ds : List PyData) : Prop := ds = [] ∨ ∃ w r, ds = .str w :: r ∧ (w = "Move" ∨ (w ∈ words ∧ r.length + 1 ≠ arity w))
mutual
def rD : Row → PyData
  | .move a b => .tuple [.str "move", a.d, b.d]
  | .mark w p q f => .tuple [.str "mark", .str w, p.d, q.d, f.d]
  | .often n b => .tuple [.str "often", n.d, .list (rsD b)]
  | .cond f b c => .tuple [.str "if", f.d, .list (rsD b), .list (rsD c)]
  | .junk d => d
def rsD : List Row → List PyData
  | [] => []
  | r :: rs => rD r :: rsD rs
end
mutual
/-- the value is the row -/
def RR (K : PySem.W.Frag) (H : Hp) : Row → V → Prop
  | .move a b, v => ∃ p, v = .ref p ∧ H p = some (.tup [.str "move", a.v, b.v])
  | .mark w x y f, v => ∃ p, v = .ref p ∧ H p = some (.tup [.str "mark", .str w, x.v, y.v, f.v])
  | .often n b, v => ∃ p l xs, v = .ref p ∧ H p = some (.tup [.str "often", n.v, .ref l]) ∧ H l = some (.lst xs) ∧ RRs K H b xs
  | .cond f b c, v => ∃ p l m xs ys, v = .ref p ∧ H p = some (.tup [.str "if", f.v, .ref l, .ref m]) ∧ H l = some (.lst xs) ∧ H m = some (.lst ys) ∧ RRs K H b xs ∧ RRs K H c ys
  | .junk d, v => ∃ p xs ds, v = .ref p ∧ DpAll K H xs ds ∧ ((d = .list ds ∧ H p = some (.lst xs)) ∨ (d = .tuple ds ∧ H p = some (.tup xs) ∧ junkT ds))
def RRs (K : PySem.W.Frag) (H : Hp) : List Row → List V → Prop
  | [], xs => xs = []
  | r :: rs, xs => ∃ v vs, xs = v :: vs ∧ RR K H r v ∧ RRs K H rs vs
end
/-! ### faults -/
abbrev Fl : Type := Option (List Int × Str)
def pre (k : List Int) : Fl → Fl
  | none => none
  | some (p, y) => some (k ++ p, y)
def nF (lo hi : Int) (a : At) : Fl := if a.ok lo hi then none else some ([], "number")
def wF (w : Str) : Fl := if w ∈ marks then none else some ([], "kind")
mutual
def fR : Row → Fl
  | .move a b => (pre [1] (nF (-100) 100 a)).or (pre [2] (nF (-100) 100 b))
  | .mark w p q f => (pre [1] (wF w)).or ((pre [2] (nF 1 50 p)).or ((pre [3] (nF 1 50 q)).or (pre [4] (nF (-999999999) 999999999 f))))
  | .often n b => (pre [1] (nF 0 20 n)).or (pre [2] (fRs b 0))
  | .cond f b c => (pre [1] (nF (-999999999) 999999999 f)).or ((pre [2] (fRs b 0)).or (pre [3] (fRs c 0)))
  | .junk _ => some ([], "kind")
def fRs : List Row → Int → Fl
  | [], _ => none
  | r :: rs, k => (pre [k] (fR r)).or (fRs rs (k + 1))
end
/-! ### weights -/
mutual
def mR : Row → Int × Int
  | .move _ _ => (0, 1)
  | .mark _ _ _ _ => (1, 1)
  | .often n b => (n.i * (mRs b).1, 1 + n.i * (mRs b).2)
  | .cond _ b c => (max (mRs b).1 (mRs c).1, 1 + max (mRs b).2 (mRs c).2)
  | .junk _ => (0, 1)
def mRs : List Row → Int × Int
  | [] => (0, 0)
  | r :: rs => ((mR r).1 + (mRs rs).1, (mR r).2 + (mRs rs).2)
end
/-- the fault of a brush -/
def faultB (rs : List Row) : Fl := (fRs rs 0).or (if (mRs rs).1 > 60 ∨ (mRs rs).2 > 2000 then some ([], "great") else none)
/-! ### depth, size -/
mutual
def dR : Row → Nat
  | .often _ b => dRs b + 1
  | .cond _ b c => max (dRs b) (dRs c) + 1
  | _ => 0
def dRs : List Row → Nat
  | [] => 0
  | r :: rs => max (dR r) (dRs rs)
end
mutual
def zR : Row → Nat
  | .often _ b => zRs b + 10
  | .cond _ b c => zRs b + zRs c + 10
  | _ => 10
def zRs : List Row → Nat
  | [] => 1
  | r :: rs => zR r + zRs rs
end
theorem rrs_len {K : PySem.W.Frag} {H : Hp} : ∀ {rs : List Row} {xs : List V}, RRs K H rs xs → xs.length = rs.length
  | [], _, h => by obtain rfl : _ = [] := h; rfl
  | r :: rs, _, h => by
    obtain ⟨v, vs, rfl, _, h2⟩ := h
    rw [List.length_cons, List.length_cons, rrs_len h2]
theorem rrs_at {K : PySem.W.Frag} {H : Hp} : ∀ {rs : List Row} {xs : List V} {i : Nat} {v : V}, RRs K H rs xs → xs[i]? = some v → ∃ r, rs[i]? = some r ∧ RR K H r v
  | [], _, _, _, h, e => by obtain rfl : _ = [] := h; cases e
  | r :: rs, _, 0, v, h, e => by
    obtain ⟨v', vs, rfl, h1, h2⟩ := h
    cases e
    exact ⟨r, rfl, h1⟩
  | r :: rs, _, i + 1, v, h, e => by
    obtain ⟨v', vs, rfl, h1, h2⟩ := h
    obtain ⟨r', e', h'⟩ := rrs_at (rs := rs) (i := i) h2 (by simpa using e)
    exact ⟨r', by simpa using e', h'⟩

/-! ### kept, as data -/
abbrev Sm (H H' : Hp) : Prop := ∀ b u, H b = some u → H' b = some u
theorem sqT_mono {K : PySem.W.Frag} {H H' : Hp} {p : Addr} {xs : List V} (s : Sm H H') (h : SqT K H p xs) : SqT K H' p xs := by
  rcases h with (h | ⟨o, h⟩) | h
  · exact .inl (.inl (s _ _ h))
  · exact .inl (.inr ⟨o, s _ _ h⟩)
  · exact .inr h
theorem sqL_mono {K : PySem.W.Frag} {H H' : Hp} {p : Addr} {xs : List V} (s : Sm H H') (h : SqL K H p xs) : SqL K H' p xs := by
  rcases h with (h | ⟨o, h⟩) | h
  · exact .inl (.inl (s _ _ h))
  · exact .inl (.inr ⟨o, s _ _ h⟩)
  · exact .inr h
mutual
theorem dp_mono {K : PySem.W.Frag} {H H' : Hp} (s : Sm H H') : ∀ {d : PyData} {v : V}, Dp K H v d → Dp K H' v d
  | _, _, .non => .non
  | _, _, .bl b => .bl b
  | _, _, .int i => .int i
  | _, _, .str x => .str x
  | _, _, .lst h h2 => .lst (sqL_mono s h) (dpA_mono s h2)
  | _, _, .tup h h2 => .tup (sqT_mono s h) (dpA_mono s h2)
theorem dpA_mono {K : PySem.W.Frag} {H H' : Hp} (s : Sm H H') : ∀ {ds : List PyData} {vs : List V}, DpAll K H vs ds → DpAll K H' vs ds
  | _, _, .nil => .nil
  | _, _, .cons h h2 => .cons (dp_mono s h) (dpA_mono s h2)
end
mutual
theorem rr_mono {K : PySem.W.Frag} {H H' : Hp} (s : Sm H H') : ∀ {r : Row} {v : V}, RR K H r v → RR K H' r v
  | .move a b, _, ⟨p, e, h⟩ => ⟨p, e, s _ _ h⟩
  | .mark w x y f, _, ⟨p, e, h⟩ => ⟨p, e, s _ _ h⟩
  | .often n b, _, ⟨p, l, xs, e, h, h1, h2⟩ => ⟨p, l, xs, e, s _ _ h, s _ _ h1, rrs_mono s h2⟩
  | .cond f b c, _, ⟨p, l, m, xs, ys, e, h, h1, h2, h3, h4⟩ => ⟨p, l, m, xs, ys, e, s _ _ h, s _ _ h1, s _ _ h2, rrs_mono s h3, rrs_mono s h4⟩
  | .junk d, _, ⟨p, xs, ds, e, h, h1⟩ => ⟨p, xs, ds, e, dpA_mono s h, h1.imp (fun q => ⟨q.1, s _ _ q.2⟩) fun q => ⟨q.1, s _ _ q.2.1, q.2.2⟩⟩
theorem rrs_mono {K : PySem.W.Frag} {H H' : Hp} (s : Sm H H') : ∀ {rs : List Row} {xs : List V}, RRs K H rs xs → RRs K H' rs xs
  | [], _, h => h
  | r :: rs, _, ⟨v, vs, e, h1, h2⟩ => ⟨v, vs, e, rr_mono s h1, rrs_mono s h2⟩
end
theorem at_dp {K : PySem.W.Frag} {H : Hp} : ∀ a : At, Dp K H a.v a.d
  | .int i => .int i
  | .tru => .bl true
  | .non => .non
  | .one => .str "1"
mutual
theorem rr_dp {K : PySem.W.Frag} {H : Hp} : ∀ {r : Row} {v : V}, RR K H r v → Dp K H v (rD r)
  | .move a b, _, ⟨p, e, h⟩ => e ▸ .tup (SqT.of h) (.cons (.str _) (.cons (at_dp a) (.cons (at_dp b) .nil)))
  | .mark w x y f, _, ⟨p, e, h⟩ => e ▸ .tup (SqT.of h) (.cons (.str _) (.cons (.str _) (.cons (at_dp x) (.cons (at_dp y) (.cons (at_dp f) .nil)))))
  | .often n b, _, ⟨p, l, xs, e, h, h1, h2⟩ => e ▸ .tup (SqT.of h) (.cons (.str _) (.cons (at_dp n) (.cons (.lst (SqL.of h1) (rrs_dp h2)) .nil)))
  | .cond f b c, _, ⟨p, l, m, xs, ys, e, h, h1, h2, h3, h4⟩ => e ▸ .tup (SqT.of h) (.cons (.str _) (.cons (at_dp f) (.cons (.lst (SqL.of h1) (rrs_dp h3)) (.cons (.lst (SqL.of h2) (rrs_dp h4)) .nil))))
  | .junk d, _, ⟨p, xs, ds, e, h, h1⟩ => by
    rcases h1 with ⟨rfl, q⟩ | ⟨rfl, q, _⟩
    · exact e ▸ .lst (SqL.of q) h
    · exact e ▸ .tup (SqT.of q) h
theorem rrs_dp {K : PySem.W.Frag} {H : Hp} : ∀ {rs : List Row} {xs : List V}, RRs K H rs xs → DpAll K H xs (rsD rs)
  | [], _, h => by
    obtain rfl : _ = [] := h
    exact .nil
  | r :: rs, _, ⟨v, vs, e, h1, h2⟩ => e ▸ .cons (rr_dp h1) (rrs_dp h2)
end
/-! ### what is looked at: a pile -/
inductive NK where
  | offset
  | side
  | figures
  | count
def NK.name : NK → Str
  | .offset => "offset"
  | .side => "side"
  | .figures => "figures"
  | .count => "count"
def NK.lo : NK → Int
  | .offset => -100
  | .side => 1
  | .figures => -999999999
  | .count => 0
def NK.hi : NK → Int
  | .offset => 100
  | .side => 50
  | .figures => 999999999
  | .count => 20
inductive Wk where
  | rows (rs : List Row)
  | row (r : Row)
  | word (w : Str)
  | num (k : NK) (a : At)
def Wk.kind : Wk → Str
  | .rows _ => "rows"
  | .row _ => "row"
  | .word _ => "word"
  | .num k _ => k.name
def fW : Wk → Fl
  | .rows rs => fRs rs 0
  | .row r => fR r
  | .word w => wF w
  | .num k a => nF k.lo k.hi a
def zW : Wk → Nat
  | .rows rs => zRs rs
  | .row r => zR r
  | _ => 1
def things : Row → List Wk
  | .move a b => [.num .offset a, .num .offset b]
  | .mark w p q f => [.word w, .num .side p, .num .side q, .num .figures f]
  | .often n b => [.num .count n, .rows b]
  | .cond f b c => [.num .figures f, .rows b, .rows c]
  | .junk _ => []
def isRow : Row → Bool
  | .junk _ => false
  | _ => true
abbrev Pw : Type := Wk × List Int
def kidsF (p : List Int) : Int → List Wk → List Pw
  | _, [] => []
  | k, w :: ws => (w, p ++ [k]) :: kidsF p (k + 1) ws
def fS : List Pw → Fl
  | [] => none
  | (w, p) :: t => (pre p (fW w)).or (fS t)
theorem pre_pre (a b : List Int) : ∀ x : Fl, pre a (pre b x) = pre (a ++ b) x
  | none => rfl
  | some (p, y) => by simp [pre]
theorem pre_or (a : List Int) : ∀ x y : Fl, pre a (x.or y) = (pre a x).or (pre a y)
  | none, y => by simp [pre]
  | some (p, y), z => by simp [pre]
theorem pre_nil : ∀ x : Fl, pre [] x = x
  | none => rfl
  | some (p, y) => rfl
theorem fS_append : ∀ a b : List Pw, fS (a ++ b) = (fS a).or (fS b)
  | [], b => by simp [fS]
  | (w, p) :: a, b => by
    rw [List.cons_append]
    simp only [fS]
    rw [fS_append a b, Option.or_assoc]
theorem kids_rows (p : List Int) : ∀ (rs : List Row) (k : Int), fS (kidsF p k (rs.map .row)) = pre p (fRs rs k)
  | [], _ => rfl
  | r :: rs, k => by
    rw [List.map_cons]
    simp only [kidsF, fS, fRs, fW]
    rw [kids_rows p rs (k + 1), pre_or, pre_pre]
theorem kids_things (p : List Int) {r : Row} (h : isRow r = true) : fS (kidsF p 1 (things r)) = pre p (fR r) := by
  cases r with
  | junk d => cases h
  | move a b => simp only [things, kidsF, fS, fR, fW, pre_or, pre_pre, Option.or_none]; rfl
  | mark w x y f => simp only [things, kidsF, fS, fR, fW, pre_or, pre_pre, Option.or_none]; rfl
  | often n b => simp only [things, kidsF, fS, fR, fW, pre_or, pre_pre, Option.or_none]; rfl
  | cond f b c => simp only [things, kidsF, fS, fR, fW, pre_or, pre_pre, Option.or_none]; rfl
def zS : List Pw → Nat
  | [] => 0
  | (w, _) :: t => zW w + zS t
theorem zS_append : ∀ a b : List Pw, zS (a ++ b) = zS a + zS b
  | [], b => by simp [zS]
  | (w, p) :: a, b => by
    rw [List.cons_append]
    simp only [zS]
    rw [zS_append a b]
    omega
theorem zS_rev (a : List Pw) : zS a.reverse = zS a := by
  induction a with
  | nil => rfl
  | cons x t ih =>
    rw [List.reverse_cons, zS_append, ih]
    obtain ⟨w, p⟩ := x
    simp only [zS]
    omega
theorem zRs_pos : ∀ rs : List Row, 1 ≤ zRs rs
  | [] => Nat.le_refl _
  | r :: rs => by
    have := zRs_pos rs
    simp only [zRs]
    omega
theorem zR_pos : ∀ r : Row, 10 ≤ zR r
  | .move _ _ => Nat.le_refl _
  | .mark _ _ _ _ => Nat.le_refl _
  | .often _ b => by simp only [zR]; omega
  | .cond _ b c => by simp only [zR]; omega
  | .junk _ => Nat.le_refl _
theorem zW_pos : ∀ w : Wk, 1 ≤ zW w
  | .rows rs => zRs_pos rs
  | .row r => by have := zR_pos r; simp only [zW]; omega
  | .word _ => Nat.le_refl _
  | .num _ _ => Nat.le_refl _
theorem len_zS : ∀ a : List Pw, a.length ≤ zS a
  | [] => Nat.le_refl _
  | (w, p) :: t => by
    have := len_zS t
    have := zW_pos w
    simp only [zS, List.length_cons]
    omega
theorem z_kids_rows (p : List Int) : ∀ (rs : List Row) (k : Int), zS (kidsF p k (rs.map .row)) + 1 = zRs rs
  | [], _ => rfl
  | r :: rs, k => by
    have := z_kids_rows p rs (k + 1)
    rw [List.map_cons]
    simp only [kidsF, zS, zRs, zW]
    omega
theorem z_kids_things (p : List Int) (r : Row) : zS (kidsF p 1 (things r)) < zR r := by
  cases r <;> simp only [things, kidsF, zS, zR, zW] <;> omega
theorem kidsF_append (p : List Int) : ∀ (a b : List Wk) (k : Int), kidsF p k (a ++ b) = kidsF p k a ++ kidsF p (k + a.length) b
  | [], b, k => by simp [kidsF]
  | x :: a, b, k => by
    rw [List.cons_append]
    simp only [kidsF]
    rw [kidsF_append p a b (k + 1), List.length_cons, List.cons_append]
    congr 3
    omega
theorem kidsF_take (p : List Int) {ws : List Wk} {j : Nat} {x : Wk} (h : ws[j]? = some x) (k : Int) : kidsF p k (ws.take (j + 1)) = kidsF p k (ws.take j) ++ [(x, p ++ [k + (j : Nat)])] := by
  have hl : j < ws.length := (List.getElem?_eq_some_iff.mp h).1
  have e : ws.take (j + 1) = ws.take j ++ [x] := by
    rw [List.take_add_one, h]
    rfl
  rw [e, kidsF_append, List.length_take, Nat.min_eq_left (by omega)]
  rfl
theorem kidsF_len (p : List Int) : ∀ (ws : List Wk) (k : Int), (kidsF p k ws).length = ws.length
  | [], _ => rfl
  | _ :: ws, k => by simp only [kidsF, List.length_cons]; rw [kidsF_len p ws]
/-- the paths stay short -/
def sh (Z : Nat) (a : List Pw) : Prop := ∀ x ∈ a, x.2.length + zW x.1 ≤ Z
theorem kids_mem {p : List Int} : ∀ {ws : List Wk} {k : Int} {x : Pw}, x ∈ kidsF p k ws → x.2.length = p.length + 1 ∧ x.1 ∈ ws
  | [], _, _, h => (nomatch h)
  | w :: ws, k, x, h => by
    rcases List.mem_cons.mp h with rfl | h
    · exact ⟨by simp, List.mem_cons_self⟩
    · exact ⟨(kids_mem h).1, List.mem_cons_of_mem _ (kids_mem h).2⟩
theorem zR_mem : ∀ {rs : List Row} {r : Row}, r ∈ rs → zR r < zRs rs
  | [], _, h => (nomatch h)
  | s :: rs, r, h => by
    have h1 := zRs_pos rs
    have h2 := zR_pos s
    simp only [zRs]
    rcases List.mem_cons.mp h with rfl | h
    · omega
    · have := zR_mem h
      omega
theorem things_mem {r : Row} {w : Wk} (h : w ∈ things r) : zW w < zR r := by
  cases r <;> simp only [things, List.mem_cons, List.not_mem_nil, or_false] at h
  · rcases h with rfl | rfl <;> simp [zW, zR]
  · rcases h with rfl | rfl | rfl | rfl <;> simp [zW, zR]
  · rcases h with rfl | rfl <;> simp [zW, zR] <;> omega
  · rcases h with rfl | rfl | rfl <;> simp [zW, zR] <;> omega
theorem sh_rows {Z : Nat} {p : List Int} {rs : List Row} {k : Int} (h : p.length + zRs rs ≤ Z) : sh Z (kidsF p k (rs.map .row)) := fun x hx => by
  obtain ⟨h1, h2⟩ := kids_mem hx
  obtain ⟨r, hr, e⟩ := List.mem_map.mp h2
  have := zR_mem hr
  rw [← e]
  simp only [zW]
  omega
theorem sh_things {Z : Nat} {p : List Int} {r : Row} {k : Int} (h : p.length + zR r ≤ Z) : sh Z (kidsF p k (things r)) := fun x hx => by
  obtain ⟨h1, h2⟩ := kids_mem hx
  have := things_mem h2
  omega
/-! ### values one by one -/
def Al {α : Type} (R : α → V → Prop) : List α → List V → Prop
  | [], ys => ys = []
  | a :: as, ys => ∃ v vs, ys = v :: vs ∧ R a v ∧ Al R as vs
section
variable {α : Type} {R R' : α → V → Prop}
theorem Al.mono (f : ∀ a v, R a v → R' a v) : ∀ {as : List α} {ys : List V}, Al R as ys → Al R' as ys
  | [], _, h => h
  | a :: as, _, ⟨v, vs, e, h1, h2⟩ => ⟨v, vs, e, f _ _ h1, Al.mono f h2⟩
theorem Al.len : ∀ {as : List α} {ys : List V}, Al R as ys → ys.length = as.length
  | [], _, h => by obtain rfl : _ = [] := h; rfl
  | a :: as, _, ⟨v, vs, e, h1, h2⟩ => by rw [e, List.length_cons, List.length_cons, h2.len]
theorem Al.append : ∀ {as bs : List α} {xs ys : List V}, Al R as xs → Al R bs ys → Al R (as ++ bs) (xs ++ ys)
  | [], _, _, _, h, h' => by obtain rfl : _ = [] := h; exact h'
  | a :: as, _, _, _, ⟨v, vs, e, h1, h2⟩, h' => by subst e; exact ⟨v, vs ++ _, rfl, h1, h2.append h'⟩
theorem Al.rev : ∀ {as : List α} {ys : List V}, Al R as ys → Al R as.reverse ys.reverse
  | [], _, h => by obtain rfl : _ = [] := h; exact rfl
  | a :: as, _, ⟨v, vs, e, h1, h2⟩ => by
    subst e
    rw [List.reverse_cons, List.reverse_cons]
    exact h2.rev.append ⟨v, [], rfl, h1, rfl⟩
theorem Al.snoc : ∀ {as : List α} {a : α} {ys : List V}, Al R (as ++ [a]) ys → ∃ vs v, ys = vs ++ [v] ∧ Al R as vs ∧ R a v
  | [], _, _, ⟨v, vs, e, h1, h2⟩ => by
    obtain rfl : vs = [] := h2
    exact ⟨[], v, e, rfl, h1⟩
  | b :: as, _, _, ⟨v, vs, e, h1, h2⟩ => by
    obtain ⟨ws, u, e2, h3, h4⟩ := Al.snoc (as := as) h2
    subst e e2
    exact ⟨v :: ws, u, rfl, ⟨v, ws, rfl, h1, h3⟩, h4⟩
end
def WR (K : PySem.W.Frag) (H : Hp) : Wk → V → Prop
  | .rows rs, u => ∃ l xs, u = .ref l ∧ H l = some (.lst xs) ∧ RRs K H rs xs
  | .row r, u => RR K H r u
  | .word w, u => u = .str w
  | .num _ a, u => u = a.v
theorem WR.mono {K : PySem.W.Frag} {H H' : Hp} (s : Sm H H') : ∀ {w : Wk} {u : V}, WR K H w u → WR K H' w u
  | .rows rs, _, ⟨l, xs, e, h, h2⟩ => ⟨l, xs, e, s _ _ h, rrs_mono s h2⟩
  | .row r, _, h => rr_mono (r := r) s h
  | .word _, _, h => h
  | .num _ _, _, h => h
/-- what the pile holds: kind, thing (as it stands in H0), path -/
def IR (K : PySem.W.Frag) (H0 H : Hp) (x : Pw) (v : V) : Prop := ∃ a p u, v = .ref a ∧ H a = some (.tup [.str x.1.kind, u, .ref p]) ∧ H p = some (.tup (x.2.map V.int)) ∧ WR K H0 x.1 u
theorem IR.mono {K : PySem.W.Frag} {H0 H H' : Hp} (s : Sm H H') {x : Pw} {v : V} : IR K H0 H x v → IR K H0 H' x v := fun ⟨a, p, u, e, h1, h2, h3⟩ => ⟨a, p, u, e, s _ _ h1, s _ _ h2, h3⟩
/-- .. where but the list at D changes -/
theorem IR.monoD {K : PySem.W.Frag} {H0 H H' : Hp} {D : Addr} {l : List V} (s : ∀ b u, b ≠ D → H b = some u → H' b = some u) (hd : H D = some (.lst l)) {x : Pw} {v : V} : IR K H0 H x v → IR K H0 H' x v := fun ⟨a, p, u, e, h1, h2, h3⟩ =>
  ⟨a, p, u, e, s _ _ (fun z => by rw [z, hd] at h1; cases h1) h1, s _ _ (fun z => by rw [z, hd] at h2; cases h2) h2, h3⟩
/-! ### rows without a fault -/
mutual
def okR : Row → Prop
  | .move a b => (∃ i : Int, a = .int i ∧ -100 ≤ i ∧ i ≤ 100) ∧ ∃ i : Int, b = .int i ∧ -100 ≤ i ∧ i ≤ 100
  | .mark _ p q _ => (∃ i : Int, p = .int i ∧ 1 ≤ i ∧ i ≤ 50) ∧ ∃ i : Int, q = .int i ∧ 1 ≤ i ∧ i ≤ 50
  | .often n b => (∃ i : Int, n = .int i ∧ 0 ≤ i ∧ i ≤ 20) ∧ okRs b
  | .cond _ b c => okRs b ∧ okRs c
  | .junk _ => False
def okRs : List Row → Prop
  | [] => True
  | r :: rs => okR r ∧ okRs rs
end
theorem pre_none {k : List Int} : ∀ {x : Fl}, pre k x = none → x = none
  | none, _ => rfl
  | some (p, y), h => by cases h
theorem or_none {x y : Fl} (h : x.or y = none) : x = none ∧ y = none := by
  cases x with
  | none => exact ⟨rfl, by simpa using h⟩
  | some v => cases h
theorem nF_none {lo hi : Int} {a : At} (h : nF lo hi a = none) : ∃ i : Int, a = .int i ∧ lo ≤ i ∧ i ≤ hi := by
  unfold nF at h
  split at h
  · rename_i q
    cases a with
    | int i => exact ⟨i, rfl, (of_decide_eq_true q).1, (of_decide_eq_true q).2⟩
    | _ => cases q
  · cases h
mutual
theorem ok_none : ∀ {r : Row}, fR r = none → okR r
  | .move a b, h => by
    simp only [fR] at h
    obtain ⟨h1, h2⟩ := or_none h
    exact ⟨nF_none (pre_none h1), nF_none (pre_none h2)⟩
  | .mark w p q f, h => by
    simp only [fR] at h
    obtain ⟨h1, h2⟩ := or_none h
    obtain ⟨h2, h3⟩ := or_none h2
    obtain ⟨h3, h4⟩ := or_none h3
    exact ⟨nF_none (pre_none h2), nF_none (pre_none h3)⟩
  | .often n b, h => by
    simp only [fR] at h
    obtain ⟨h1, h2⟩ := or_none h
    exact ⟨nF_none (pre_none h1), oks_none (pre_none h2)⟩
  | .cond f b c, h => by
    simp only [fR] at h
    obtain ⟨h1, h2⟩ := or_none h
    obtain ⟨h2, h3⟩ := or_none h2
    exact ⟨oks_none (pre_none h2), oks_none (pre_none h3)⟩
  | .junk d, h => by cases h
theorem oks_none : ∀ {rs : List Row} {k : Int}, fRs rs k = none → okRs rs
  | [], _, _ => True.intro
  | r :: rs, k, h => by
    simp only [fRs] at h
    obtain ⟨h1, h2⟩ := or_none h
    exact ⟨ok_none (pre_none h1), oks_none h2⟩
end
theorem okRs_at : ∀ {rs : List Row} {i : Nat} {r : Row}, okRs rs → rs[i]? = some r → okR r
  | [], _, _, _, e => by cases e
  | r :: rs, 0, _, h, e => by cases e; exact h.1
  | r :: rs, i + 1, _, h, e => okRs_at (rs := rs) (i := i) h.2 (by simpa using e)
theorem dRs_at : ∀ {rs : List Row} {i : Nat} {r : Row}, rs[i]? = some r → dR r ≤ dRs rs
  | [], _, _, e => by cases e
  | r :: rs, 0, _, e => by cases e; exact Nat.le_max_left _ _
  | r :: rs, i + 1, _, e => Nat.le_trans (dRs_at (rs := rs) (i := i) (by simpa using e)) (Nat.le_max_right _ _)
theorem mRs_append : ∀ a b : List Row, mRs (a ++ b) = ((mRs a).1 + (mRs b).1, (mRs a).2 + (mRs b).2)
  | [], b => by simp [mRs]
  | r :: a, b => by
    rw [List.cons_append]
    simp only [mRs]
    rw [mRs_append a b]
    simp only [Prod.mk.injEq]
    constructor <;> omega
theorem mRs_take {rs : List Row} {k : Nat} {r : Row} (h : rs[k]? = some r) : mRs (rs.take (k + 1)) = ((mRs (rs.take k)).1 + (mR r).1, (mRs (rs.take k)).2 + (mR r).2) := by
  have e : rs.take (k + 1) = rs.take k ++ [r] := by
    rw [List.take_add_one, h]
    rfl
  rw [e, mRs_append]
  simp [mRs]
theorem kid_last {K : PySem.W.Frag} {H0 G G' : Hp} {D t2 t3 : Addr} {path : List Int} {ws : List Wk} {k : Nat} {k0 : Int} {x : Wk} {u : V} {ys : List V} (e2 : ws[k]? = some x) (hA : Al (IR K H0 G) (kidsF path k0 (ws.take k)) ys) (hd : G D = some (.lst ys))
    (s : ∀ b u, b ≠ D → G b = some u → G' b = some u) (h3 : G' t3 = some (.tup [.str x.kind, u, .ref t2])) (h2 : G' t2 = some (.tup (path.map V.int ++ [.int (k0 + (k : Nat))]))) (hw : WR K H0 x u) :
    Al (IR K H0 G') (kidsF path k0 (ws.take (k + 1))) (ys ++ [.ref t3]) := by
  rw [kidsF_take path e2]
  refine (hA.mono fun _ _ h => h.monoD s hd).append ⟨_, [], rfl, ⟨t3, t2, u, rfl, h3, ?_, hw⟩, rfl⟩
  rw [h2]
  simp
/-! ### loops over enumerate and zip, whatever is done at each -/
section
variable {K : PySem.W.Frag} {a b : Addr} {xs ys : List V} {Body : V → Hp → (Hp → Prop) → Prop} {End : Hp → Prop} {H0 : Hp}
theorem it_enum (I : Nat → Hp → Prop) (start : I 0 H0) (at_ : ∀ k G, I k G → SqL K G a xs)
    (turn : ∀ k x T G, xs[k]? = some x → I k G → G T = none → Body (.ref T) (upd G T (.tup [.int (k : Nat), x])) (I (k + 1))) (fin : ∀ G, I xs.length G → End G) :
    ∃ W : Nat → Nat → Hp → Prop, (∃ m, W 0 m H0) ∧ ∀ i m H, W i m H → ((Ite K a).stop i H ∧ End H) ∨ ((Ite K a).go i H ∧ ∃ Nx : Hp → Prop, (∀ H', Nx H' → ∃ m', m' < m ∧ W (i + 1) m' H') ∧ ∀ x H', (Ite K a).yld i H x H' → Body x H' Nx) := by
  refine ⟨fun k c G => c + k = xs.length ∧ I k G, ⟨xs.length, rfl, start⟩, fun k c G hw => ?_⟩
  obtain ⟨hc, hI⟩ := hw
  have ha := at_ k G hI
  cases c with
  | zero =>
    obtain rfl : k = xs.length := by omega
    exact .inl ⟨⟨xs, ha, Nat.le_refl _⟩, fin G hI⟩
  | succ c =>
    have hx : k < xs.length := by omega
    refine .inr ⟨⟨xs, xs[k], ha, List.getElem?_eq_getElem hx⟩, I (k + 1), fun G' h' => ⟨c, Nat.lt_succ_self c, by omega, h'⟩, fun v G' hv => ?_⟩
    obtain ⟨T, x', rfl, hT, rfl, f1⟩ := hv
    exact turn k x' T G (f1 xs ha) hI hT
theorem it_enumT {k0 : Int} (I : Nat → Hp → Prop) (start : I 0 H0) (at_ : ∀ k G, I k G → SqT K G a xs)
    (turn : ∀ k x T G, xs[k]? = some x → I k G → G T = none → Body (.ref T) (upd G T (.tup [.int (k0 + (k : Nat)), x])) (I (k + 1))) (fin : ∀ G, I xs.length G → End G) :
    ∃ W : Nat → Nat → Hp → Prop, (∃ m, W 0 m H0) ∧ ∀ i m H, W i m H → ((Eu.IteT K k0 a).stop i H ∧ End H) ∨ ((Eu.IteT K k0 a).go i H ∧ ∃ Nx : Hp → Prop, (∀ H', Nx H' → ∃ m', m' < m ∧ W (i + 1) m' H') ∧ ∀ x H', (Eu.IteT K k0 a).yld i H x H' → Body x H' Nx) := by
  refine ⟨fun k c G => c + k = xs.length ∧ I k G, ⟨xs.length, rfl, start⟩, fun k c G hw => ?_⟩
  obtain ⟨hc, hI⟩ := hw
  have ha := at_ k G hI
  cases c with
  | zero =>
    obtain rfl : k = xs.length := by omega
    exact .inl ⟨⟨xs, ha, Nat.le_refl _⟩, fin G hI⟩
  | succ c =>
    have hx : k < xs.length := by omega
    refine .inr ⟨⟨xs, xs[k], ha, List.getElem?_eq_getElem hx⟩, I (k + 1), fun G' h' => ⟨c, Nat.lt_succ_self c, by omega, h'⟩, fun v G' hv => ?_⟩
    obtain ⟨T, x', rfl, hT, rfl, f1⟩ := hv
    exact turn k x' T G (f1 xs ha) hI hT
theorem it_zipT {n : Nat} (hn : n = min xs.length ys.length) (I : Nat → Hp → Prop) (start : I 0 H0) (at_ : ∀ k G, I k G → SqT K G a xs ∧ SqT K G b ys)
    (turn : ∀ k x y T G, xs[k]? = some x → ys[k]? = some y → I k G → G T = none → Body (.ref T) (upd G T (.tup [x, y])) (I (k + 1))) (fin : ∀ G, I n G → End G) :
    ∃ W : Nat → Nat → Hp → Prop, (∃ m, W 0 m H0) ∧ ∀ i m H, W i m H → ((RZ.ItzT K a b).stop i H ∧ End H) ∨ ((RZ.ItzT K a b).go i H ∧ ∃ Nx : Hp → Prop, (∀ H', Nx H' → ∃ m', m' < m ∧ W (i + 1) m' H') ∧ ∀ x H', (RZ.ItzT K a b).yld i H x H' → Body x H' Nx) := by
  refine ⟨fun k c G => c + k = n ∧ I k G, ⟨n, rfl, start⟩, fun k c G hw => ?_⟩
  obtain ⟨hc, hI⟩ := hw
  obtain ⟨ha, hb⟩ := at_ k G hI
  cases c with
  | zero =>
    obtain rfl : k = n := by omega
    exact .inl ⟨⟨xs, ys, ha, hb, by omega⟩, fin G hI⟩
  | succ c =>
    have hx : k < xs.length := by omega
    have hy : k < ys.length := by omega
    refine .inr ⟨⟨xs, ys, xs[k], ys[k], ha, hb, List.getElem?_eq_getElem hx, List.getElem?_eq_getElem hy⟩, I (k + 1), fun G' h' => ⟨c, Nat.lt_succ_self c, by omega, h'⟩, fun v G' hv => ?_⟩
    obtain ⟨T, x', y', rfl, hT, rfl, f1, f2⟩ := hv
    exact turn k x' y' T G (f1 xs ha) (f2 ys hb) hI hT
end
section
variable {K : PySem.W.Frag} {a : Addr} {xs : List V} {Body : V → Hp → (Hp → Prop) → Prop} {End : Hp → Prop} {H0 : Hp}
theorem it_tup (I : Nat → Hp → Prop) (start : I 0 H0) (at_ : ∀ k G, I k G → SqT K G a xs)
    (turn : ∀ k v G, xs[k]? = some v → I k G → Body v G (I (k + 1))) (fin : ∀ G, I xs.length G → End G) :
    ∃ W : Nat → Nat → Hp → Prop, (∃ m, W 0 m H0) ∧ ∀ i m H, W i m H → ((Itt K a).stop i H ∧ End H) ∨ ((Itt K a).go i H ∧ ∃ Nx : Hp → Prop, (∀ H', Nx H' → ∃ m', m' < m ∧ W (i + 1) m' H') ∧ ∀ x H', (Itt K a).yld i H x H' → Body x H' Nx) := by
  refine ⟨fun k c G => c + k = xs.length ∧ I k G, ⟨xs.length, rfl, start⟩, fun k c G hw => ?_⟩
  obtain ⟨hc, hI⟩ := hw
  have hq := at_ k G hI
  cases c with
  | zero =>
    obtain rfl : k = xs.length := by omega
    exact .inl ⟨⟨xs, hq, Nat.le_refl _⟩, fin G hI⟩
  | succ c =>
    have hk : k < xs.length := by omega
    refine .inr ⟨⟨xs, xs[k], hq, List.getElem?_eq_getElem hk⟩, I (k + 1), fun G' h' => ⟨c, Nat.lt_succ_self c, by omega, h'⟩, fun v G' hy => ?_⟩
    obtain ⟨rfl, hy⟩ := hy
    exact turn k v G' (hy xs hq) hI
end
/-! ### boxes of ends and of marks; how far rows reach -/
structure B4 where
  a : Int
  b : Int
  c : Int
  d : Int
def B4.l (x : B4) : List Int := [x.a, x.b, x.c, x.d]
def around (x y : B4) : B4 := ⟨min x.a y.a, min x.b y.b, max x.c y.c, max x.d y.d⟩
def addB (x y : B4) : B4 := ⟨x.a + y.a, x.b + y.b, x.c + y.c, x.d + y.d⟩
def mulB (n : Int) (x : B4) : B4 := ⟨n * x.a, n * x.b, n * x.c, n * x.d⟩
def HERE : B4 := ⟨0, 0, 0, 0⟩
def arO : Option B4 → Option B4 → Option B4
  | none, y => y
  | some x, none => some x
  | some x, some y => some (around x y)
def mvO : Option B4 → B4 → Option B4
  | none, _ => none
  | some x, y => some (addB x y)
/-- where it may begin, turn by turn -/
def spread (n : Int) (e : B4) : B4 := ⟨min ((n - 1) * e.a) 0, min ((n - 1) * e.b) 0, max ((n - 1) * e.c) 0, max ((n - 1) * e.d) 0⟩
mutual
def chR : Row → B4 × Option B4
  | .move a b => (⟨a.i, b.i, a.i, b.i⟩, none)
  | .mark _ p q _ => (HERE, some ⟨0, 0, p.i - 1, q.i - 1⟩)
  | .often n b => if n.i = 0 then (HERE, none) else (mulB n.i (chRs b HERE none).1, mvO (chRs b HERE none).2 (spread n.i (chRs b HERE none).1))
  | .cond _ b c => (around (chRs b HERE none).1 (chRs c HERE none).1, arO (chRs b HERE none).2 (chRs c HERE none).2)
  | .junk _ => (HERE, none)
def chRs : List Row → B4 → Option B4 → B4 × Option B4
  | [], e, m => (e, m)
  | r :: rs, e, m => chRs rs (addB e (chR r).1) (arO m (mvO (chR r).2 e))
end
/-- the law's own: from a place on -/
def turns (f : B4 → Option B4 → B4 × Option B4) : Nat → B4 → Option B4 → B4 × Option B4
  | 0, e, m => (e, m)
  | n + 1, e, m => turns f n (f e m).1 (f e m).2
mutual
def goR : Row → B4 → Option B4 → B4 × Option B4
  | .move a b, e, m => (⟨e.a + a.i, e.b + b.i, e.c + a.i, e.d + b.i⟩, m)
  | .mark _ p q _, e, m => (e, arO m (some ⟨e.a, e.b, e.c + p.i - 1, e.d + q.i - 1⟩))
  | .often n b, e, m => turns (fun e m => goRs b e m) n.i.toNat e m
  | .cond _ b c, e, m => (around (goRs b e m).1 (goRs c e m).1, arO (goRs b e m).2 (goRs c e m).2)
  | .junk _, e, m => (e, m)
def goRs : List Row → B4 → Option B4 → B4 × Option B4
  | [], e, m => (e, m)
  | r :: rs, e, m => goRs rs (goR r e m).1 (goR r e m).2
end
theorem B4.ext' {x y : B4} (h1 : x.a = y.a) (h2 : x.b = y.b) (h3 : x.c = y.c) (h4 : x.d = y.d) : x = y := by
  cases x
  cases y
  simp_all
theorem addB_assoc (x y z : B4) : addB (addB x y) z = addB x (addB y z) := B4.ext' (by simp only [addB]; omega) (by simp only [addB]; omega) (by simp only [addB]; omega) (by simp only [addB]; omega)
theorem addB_here (x : B4) : addB x HERE = x := B4.ext' (by simp [addB, HERE]) (by simp [addB, HERE]) (by simp [addB, HERE]) (by simp [addB, HERE])
theorem here_addB (x : B4) : addB HERE x = x := B4.ext' (by simp [addB, HERE]) (by simp [addB, HERE]) (by simp [addB, HERE]) (by simp [addB, HERE])
theorem around_assoc (x y z : B4) : around (around x y) z = around x (around y z) := B4.ext' (by simp only [around]; omega) (by simp only [around]; omega) (by simp only [around]; omega) (by simp only [around]; omega)
theorem around_comm (x y : B4) : around x y = around y x := B4.ext' (by simp only [around]; omega) (by simp only [around]; omega) (by simp only [around]; omega) (by simp only [around]; omega)
theorem around_self (x : B4) : around x x = x := B4.ext' (by simp only [around]; omega) (by simp only [around]; omega) (by simp only [around]; omega) (by simp only [around]; omega)
theorem add_around (e x y : B4) : around (addB e x) (addB e y) = addB e (around x y) := B4.ext' (by simp only [around, addB]; omega) (by simp only [around, addB]; omega) (by simp only [around, addB]; omega) (by simp only [around, addB]; omega)
theorem arO_assoc : ∀ x y z : Option B4, arO (arO x y) z = arO x (arO y z)
  | none, _, _ => rfl
  | some x, none, z => by cases z <;> rfl
  | some x, some y, none => rfl
  | some x, some y, some z => congrArg some (around_assoc x y z)
theorem arO_none (x : Option B4) : arO x none = x := by cases x <;> rfl
theorem arO_comm : ∀ x y : Option B4, arO x y = arO y x
  | none, none => rfl
  | none, some y => rfl
  | some x, none => rfl
  | some x, some y => congrArg some (around_comm x y)
theorem arO_self : ∀ x : Option B4, arO x x = x
  | none => rfl
  | some x => congrArg some (around_self x)
theorem mvO_mvO : ∀ (x : Option B4) (y z : B4), mvO (mvO x y) z = mvO x (addB y z)
  | none, _, _ => rfl
  | some x, y, z => congrArg some (addB_assoc x y z)
theorem addB_comm (x y : B4) : addB x y = addB y x := B4.ext' (by simp only [addB]; omega) (by simp only [addB]; omega) (by simp only [addB]; omega) (by simp only [addB]; omega)
theorem mvO_arO : ∀ (x y : Option B4) (e : B4), mvO (arO x y) e = arO (mvO x e) (mvO y e)
  | none, _, _ => rfl
  | some x, none, _ => rfl
  | some x, some y, e => by
    simp only [arO, mvO]
    rw [addB_comm x e, addB_comm y e, add_around, addB_comm]
/-- the rows' reach from any place on -/
theorem chRs_from : ∀ (rs : List Row) (e : B4) (m : Option B4), chRs rs e m = (addB e (chRs rs HERE none).1, arO m (mvO (chRs rs HERE none).2 e))
  | [], e, m => by simp only [chRs]; rw [addB_here, show mvO none e = none from rfl, arO_none]
  | r :: rs, e, m => by
    simp only [chRs]
    rw [chRs_from rs (addB e (chR r).1), chRs_from rs (addB HERE (chR r).1)]
    simp only [here_addB, show ∀ x, arO none x = x from fun _ => rfl]
    rw [addB_assoc, mvO_arO, mvO_mvO, mvO_mvO, arO_assoc, here_addB, addB_comm (chR r).1 e]
theorem sign_mul (k : Nat) (E : Int) : (0 ≤ E ∧ 0 ≤ (k : Int) * E) ∨ (E < 0 ∧ (k : Int) * E ≤ 0) := by
  by_cases h : 0 ≤ E
  · exact .inl ⟨h, Int.mul_nonneg (Int.natCast_nonneg k) h⟩
  · exact .inr ⟨by omega, Int.mul_nonpos_of_nonneg_of_nonpos (Int.natCast_nonneg k) (by omega)⟩
theorem min_step (k : Nat) (E e : Int) : min e (min ((((k + 1 : Nat) : Int) - 1) * E) 0 + (e + E)) = min ((((k + 2 : Nat) : Int) - 1) * E) 0 + e := by
  have e1 : (((k + 1 : Nat) : Int) - 1) * E = (k : Int) * E := by congr 1; omega
  have e2 : (((k + 2 : Nat) : Int) - 1) * E = (k : Int) * E + E := by
    rw [show (((k + 2 : Nat) : Int) - 1) = (k : Int) + 1 by omega, Int.add_mul, Int.one_mul]
  rw [e1, e2]
  rcases sign_mul k E with ⟨h1, h2⟩ | ⟨h1, h2⟩ <;> omega
theorem max_step (k : Nat) (E e : Int) : max e (max ((((k + 1 : Nat) : Int) - 1) * E) 0 + (e + E)) = max ((((k + 2 : Nat) : Int) - 1) * E) 0 + e := by
  have e1 : (((k + 1 : Nat) : Int) - 1) * E = (k : Int) * E := by congr 1; omega
  have e2 : (((k + 2 : Nat) : Int) - 1) * E = (k : Int) * E + E := by
    rw [show (((k + 2 : Nat) : Int) - 1) = (k : Int) + 1 by omega, Int.add_mul, Int.one_mul]
  rw [e1, e2]
  rcases sign_mul k E with ⟨h1, h2⟩ | ⟨h1, h2⟩ <;> omega
theorem spread_one (E : B4) : spread ((0 + 1 : Nat) : Int) E = HERE := B4.ext' (by simp [spread, HERE]) (by simp [spread, HERE]) (by simp [spread, HERE]) (by simp [spread, HERE])
theorem mulB_one (E : B4) : mulB ((0 + 1 : Nat) : Int) E = E := B4.ext' (by simp [mulB]) (by simp [mulB]) (by simp [mulB]) (by simp [mulB])
theorem mvO_here : ∀ x : Option B4, mvO x HERE = x
  | none => rfl
  | some x => congrArg some (addB_here x)
theorem turns_ch {f : B4 → Option B4 → B4 × Option B4} {E : B4} {M : Option B4} (hf : ∀ e m, f e m = (addB e E, arO m (mvO M e))) : ∀ (k : Nat) (e : B4) (m : Option B4), turns f (k + 1) e m = (addB e (mulB ((k + 1 : Nat) : Int) E), arO m (mvO (mvO M (spread ((k + 1 : Nat) : Int) E)) e))
  | 0, e, m => by
    simp only [turns]
    rw [hf, spread_one, mulB_one, mvO_here]
  | k + 1, e, m => by
    have ih := turns_ch hf k (addB e E) (arO m (mvO M e))
    have e0 : turns f (k + 1 + 1) e m = turns f (k + 1) (f e m).1 (f e m).2 := rfl
    rw [e0, hf, ih, addB_assoc, arO_assoc]
    congr 1
    · congr 1
      refine B4.ext' ?_ ?_ ?_ ?_ <;> simp only [addB, mulB] <;> rw [show ((k + 1 + 1 : Nat) : Int) = ((k + 1 : Nat) : Int) + 1 by omega, Int.add_mul, Int.one_mul, Int.add_comm]
    · congr 1
      cases M with
      | none => rfl
      | some x =>
        show some (around (addB x e) (addB (addB x (spread ((k + 1 : Nat) : Int) E)) (addB e E))) = some (addB (addB x (spread ((k + 1 + 1 : Nat) : Int) E)) e)
        rw [addB_assoc, addB_assoc, add_around]
        congr 2
        exact B4.ext' (min_step k E.a e.a) (min_step k E.b e.b) (max_step k E.c e.c) (max_step k E.d e.d)
mutual
theorem goR_ch : ∀ (r : Row), okR r → ∀ (e : B4) (m : Option B4), goR r e m = (addB e (chR r).1, arO m (mvO (chR r).2 e))
  | .move a b, _, e, m => by
    simp only [goR, chR]
    rw [show mvO none e = none from rfl, arO_none]
    rfl
  | .mark w p q f, _, e, m => by
    simp only [goR, chR]
    rw [addB_here]
    congr 2
    show some _ = some (addB _ e)
    congr 1
    exact B4.ext' (by simp [addB]) (by simp [addB]) (by simp only [addB]; omega) (by simp only [addB]; omega)
  | .often n b, h, e, m => by
    obtain ⟨⟨i, rfl, h0, h1⟩, hb⟩ := h
    simp only [goR, chR]
    have hf : ∀ e m, (fun e m => goRs b e m) e m = (addB e (chRs b HERE none).1, arO m (mvO (chRs b HERE none).2 e)) := fun e m => by
      show goRs b e m = _
      rw [goRs_ch b hb, chRs_from]
    by_cases hz : i = 0
    · subst hz
      rw [if_pos (show (At.int 0).i = 0 from rfl)]
      show turns _ 0 e m = _
      simp only [turns]
      rw [addB_here, show mvO none e = none from rfl, arO_none]
    · obtain ⟨k, rfl⟩ : ∃ k : Nat, i = ((k + 1 : Nat) : Int) := ⟨i.toNat - 1, by omega⟩
      rw [if_neg (show ¬ (At.int ((k + 1 : Nat) : Int)).i = 0 from hz)]
      exact turns_ch hf k e m
  | .cond f b c, h, e, m => by
    simp only [goR, chR]
    rw [goRs_ch b h.1, goRs_ch c h.2, chRs_from b e m, chRs_from c e m]
    simp only []
    rw [add_around, mvO_arO]
    congr 1
    generalize mvO (chRs b HERE none).2 e = x
    generalize mvO (chRs c HERE none).2 e = y
    rw [arO_assoc, ← arO_assoc x m y, arO_comm x m, arO_assoc m x y, ← arO_assoc m m, arO_self]
  | .junk d, h, _, _ => h.elim
theorem goRs_ch : ∀ (rs : List Row), okRs rs → ∀ (e : B4) (m : Option B4), goRs rs e m = chRs rs e m
  | [], _, e, m => rfl
  | r :: rs, h, e, m => by
    simp only [goRs, chRs]
    rw [goR_ch r h.1, goRs_ch rs h.2]
end
/-- in the heap -/
def B4R (K : PySem.W.Frag) (H : Hp) (x : B4) (v : V) : Prop := ∃ p, v = .ref p ∧ SqT K H p (x.l.map V.int)
def OB (K : PySem.W.Frag) (H : Hp) : Option B4 → V → Prop
  | none, v => v = .non
  | some x, v => B4R K H x v
theorem B4R.mono {K : PySem.W.Frag} {H H' : Hp} (s : Sm H H') {x : B4} {v : V} : B4R K H x v → B4R K H' x v := fun ⟨p, e, h⟩ => ⟨p, e, sqT_mono s h⟩
theorem OB.mono {K : PySem.W.Frag} {H H' : Hp} (s : Sm H H') : ∀ {x : Option B4} {v : V}, OB K H x v → OB K H' x v
  | none, _, h => h
  | some x, _, h => B4R.mono (x := x) s h
/-! ### laid out as data -/
def lyA : At → Prop := fun _ => True
mutual
def lyR : Row → Prop
  | .mark w _ _ _ => PyData.strOk w = true
  | .often _ b => lyRs b
  | .cond _ b c => lyRs b ∧ lyRs c
  | .junk d => PyData.canLay0 d = true ∧ PyData.depth d ≤ 30
  | .move _ _ => True
def lyRs : List Row → Prop
  | [] => True
  | r :: rs => lyR r ∧ lyRs rs
end
theorem at_lay : ∀ a : At, PyData.canLay0 a.d = true ∧ PyData.depth a.d ≤ 1
  | .int i => ⟨rfl, by simp [At.d, PyData.depth]⟩
  | .tru => ⟨rfl, by simp [At.d, PyData.depth]⟩
  | .non => ⟨rfl, by simp [At.d, PyData.depth]⟩
  | .one => ⟨by decide +kernel, by simp [At.d, PyData.depth]⟩
theorem str_lay : PyData.canLay0 (.str "move") = true ∧ PyData.canLay0 (.str "mark") = true ∧ PyData.canLay0 (.str "often") = true ∧ PyData.canLay0 (.str "if") = true := by decide +kernel
mutual
theorem rD_lay : ∀ {r : Row}, lyR r → PyData.canLay0 (rD r) = true ∧ PyData.depth (rD r) ≤ 2 * dR r + 32
  | .move a b, _ => by
    have h1 := at_lay a
    have h2 := at_lay b
    simp only [rD, PyData.canLay0, PyData.canLayAll0, PyData.depth, PyData.depthAll, dR]
    have hs : PyData.strOk "move" = true := by decide +kernel
    rw [h1.1, h2.1, hs]
    exact ⟨rfl, by omega⟩
  | .mark w x y f, h => by
    have h1 := at_lay x
    have h2 := at_lay y
    have h3 := at_lay f
    have hw : PyData.strOk w = true := h
    simp only [rD, PyData.canLay0, PyData.canLayAll0, PyData.depth, PyData.depthAll, dR]
    have hs : PyData.strOk "mark" = true := by decide +kernel
    rw [h1.1, h2.1, h3.1, hs, hw]
    exact ⟨rfl, by omega⟩
  | .often n b, h => by
    have h1 := at_lay n
    have h2 := rsD_lay (rs := b) h
    simp only [rD, PyData.canLay0, PyData.canLayAll0, PyData.depth, PyData.depthAll, dR]
    have hs : PyData.strOk "often" = true := by decide +kernel
    rw [h1.1, h2.1, hs]
    exact ⟨rfl, by omega⟩
  | .cond f b c, h => by
    have h1 := at_lay f
    have h2 := rsD_lay (rs := b) h.1
    have h3 := rsD_lay (rs := c) h.2
    simp only [rD, PyData.canLay0, PyData.canLayAll0, PyData.depth, PyData.depthAll, dR]
    have hs : PyData.strOk "if" = true := by decide +kernel
    rw [h1.1, h2.1, h3.1, hs]
    exact ⟨rfl, by omega⟩
  | .junk d, h => ⟨h.1, by have := h.2; simp only [rD, dR]; omega⟩
theorem rsD_lay : ∀ {rs : List Row}, lyRs rs → PyData.canLayAll0 (rsD rs) = true ∧ PyData.depthAll (rsD rs) ≤ 2 * dRs rs + 32
  | [], _ => ⟨rfl, by simp [rsD, PyData.depthAll]⟩
  | r :: rs, h => by
    have h1 := rD_lay (r := r) h.1
    have h2 := rsD_lay (rs := rs) h.2
    simp only [rsD, PyData.canLayAll0, PyData.depthAll, dRs]
    rw [h1.1, h2.1]
    exact ⟨rfl, by omega⟩
end
theorem rD_shaped {r : Row} (h : lyR r) (d : dR r ≤ 10) : SeqAt.shaped (rD r) = true := by
  have := rD_lay h
  unfold SeqAt.shaped
  rw [this.1, Bool.true_and]
  exact decide_eq_true (by omega)
theorem rsD_shaped {rs : List Row} (h : lyRs rs) (d : dRs rs ≤ 10) : SeqAt.shaped (.list (rsD rs)) = true := by
  have := rsD_lay h
  unfold SeqAt.shaped
  simp only [PyData.canLay0, PyData.depth]
  rw [this.1, Bool.true_and]
  exact decide_eq_true (by omega)
theorem lyRs_at : ∀ {rs : List Row} {i : Nat} {r : Row}, lyRs rs → rs[i]? = some r → lyR r
  | [], _, _, _, e => by cases e
  | r :: rs, 0, _, h, e => by cases e; exact h.1
  | r :: rs, i + 1, _, h, e => lyRs_at (rs := rs) (i := i) h.2 (by simpa using e)
theorem zRs_at : ∀ {rs : List Row} {i : Nat} {r : Row}, rs[i]? = some r → zR r < zRs rs
  | [], _, _, e => by cases e
  | r :: rs, 0, _, e => by
    cases e
    have := zRs_pos rs
    simp only [zRs]
    omega
  | r :: rs, i + 1, _, e => by
    have := zRs_at (rs := rs) (i := i) (by simpa using e)
    simp only [zRs]
    omega
/-- a fault as it is told: None, or path and word -/
def FlR (H : Hp) : Fl → V → Prop
  | none, v => v = .non
  | some (p, y), v => ∃ a t, v = .ref a ∧ H a = some (.tup [.ref t, .str y]) ∧ H t = some (.tup (p.map V.int))
theorem FlR.mono {H H' : Hp} (s : Sm H H') : ∀ {x : Fl} {v : V}, FlR H x v → FlR H' x v
  | none, _, h => h
  | some (p, y), _, ⟨a, t, e, h1, h2⟩ => ⟨a, t, e, s _ _ h1, s _ _ h2⟩
/-- where numbers stand in a row, and from where to where they go -/
def spans : Row → List (Int × Int × Int × At)
  | .move a b => [(1, -100, 100, a), (2, -100, 100, b)]
  | .mark _ p q f => [(2, 1, 50, p), (3, 1, 50, q), (4, -999999999, 999999999, f)]
  | .often n _ => [(1, 0, 20, n)]
  | .cond f _ _ => [(1, -999999999, 999999999, f)]
  | .junk _ => []
def subs : Row → List (Int × List Row)
  | .often _ b => [(2, b)]
  | .cond _ b c => [(2, b), (3, c)]
  | _ => []
def fSp : List (Int × Int × Int × At) → Fl
  | [] => none
  | (k, lo, hi, a) :: t => (pre [k] (nF lo hi a)).or (fSp t)
def fSb : List (Int × List Row) → Fl
  | [] => none
  | (k, b) :: t => (pre [k] (fRs b 0)).or (fSb t)
def fWd : Row → Fl
  | .mark w _ _ _ => pre [1] (wF w)
  | _ => none
theorem fR_parts : ∀ {r : Row}, isRow r = true → fR r = (fWd r).or ((fSp (spans r)).or (fSb (subs r)))
  | .move a b, _ => by simp [fR, fWd, spans, subs, fSp, fSb]
  | .mark w p q f, _ => by simp [fR, fWd, spans, subs, fSp, fSb]
  | .often n b, _ => by simp [fR, fWd, spans, subs, fSp, fSb]
  | .cond f b c, _ => by simp [fR, fWd, spans, subs, fSp, fSb]
def SpR (H : Hp) (x : Int × Int × Int × At) (v : V) : Prop := ∃ a, v = .ref a ∧ H a = some (.tup [.int x.1, .int x.2.1, .int x.2.2.1])
theorem for_enumL {K : PySem.W.Frag} {a : Addr} {xs : List V} {g : TG} {tb : TS} {D : Ends} {σ : L2.St} {H : Hp} (Pv : Nat → L2.St → Hp → Prop) (h0 : Pv 0 σ H) (hq : ∀ i σ H, Pv i σ H → SqL K H a xs)
    (hs : ∀ (i : Nat) (x : V) (T : Addr) (σ : L2.St) (H : Hp), xs[i]? = some x → Pv i σ H → H T = none → g (.ref T) σ (upd H T (.tup [.int (i : Nat), x])) fun σ2 H2 => tb { D with nx := Pv (i + 1), ct := Pv (i + 1), bk := D.nx } σ2 H2) (hd : ∀ σ H, Pv xs.length σ H → D.nx σ H) :
    ∃ W : Nat → Nat → L2.St → Hp → Prop, (∃ m, W 0 m σ H) ∧ ∀ i m σ H, W i m σ H →
      ((Ite K a).stop i H ∧ D.nx σ H) ∨ ((Ite K a).go i H ∧ ∃ N : L2.St → Hp → Prop, (∀ σ' H', N σ' H' → ∃ m', m' < m ∧ W (i + 1) m' σ' H') ∧ ∀ v H', (Ite K a).yld i H v H' → g v σ H' fun σ2 H2 => tb { D with nx := N, ct := N, bk := D.nx } σ2 H2) := by
  refine ⟨fun i m σ H => m + i = xs.length ∧ Pv i σ H, ⟨xs.length, rfl, h0⟩, fun i m σ H hw => ?_⟩
  obtain ⟨hm, p⟩ := hw
  have qx := hq i σ H p
  cases m with
  | zero =>
    obtain rfl : i = xs.length := by omega
    exact .inl ⟨⟨xs, qx, Nat.le_refl _⟩, hd σ H p⟩
  | succ m =>
    have hlt : i < xs.length := by omega
    refine .inr ⟨⟨xs, xs[i], qx, List.getElem?_eq_getElem hlt⟩, Pv (i + 1), fun σ' H' p' => ⟨m, Nat.lt_succ_self m, by omega, p'⟩, fun v H' y => ?_⟩
    obtain ⟨T, x', rfl, hT, rfl, f1⟩ := y
    exact hs i x' T σ H (f1 xs qx) p hT
theorem fRs_next : ∀ {l : List Row} {i : Nat} {r : Row} {k : Int}, fRs (l.take i) k = none → l[i]? = some r → (fR r = none → fRs (l.take (i + 1)) k = none) ∧ (∀ p y, fR r = some (p, y) → fRs l k = pre [k + (i : Nat)] (fR r))
  | [], _, _, _, _, e => by cases e
  | s :: l, 0, r, k, _, e => by
    cases e
    refine ⟨fun h => ?_, fun p y h => ?_⟩
    · simp only [List.take_succ_cons, List.take_zero, fRs]
      rw [h]
      rfl
    · simp only [fRs]
      rw [h]
      simp [pre]
  | s :: l, i + 1, r, k, h, e => by
    simp only [List.take_succ_cons, fRs] at h
    obtain ⟨h1, h2⟩ := or_none h
    have ih := fRs_next (l := l) (i := i) (k := k + 1) h2 (by simpa using e)
    simp only [List.take_succ_cons, fRs]
    rw [h1]
    refine ⟨ih.1, fun p y hp => ?_⟩
    rw [Option.none_or, ih.2 p y hp, show k + 1 + ((i : Nat) : Int) = k + ((i + 1 : Nat) : Int) by omega]
/-! ### what is drawn: a part of the heap that grows, apart from the purse -/
structure Grow (N H N' H' : Hp) : Prop where
  up : Sm N N'
  dn : Sm N' H'
  same : ∀ b, H b ≠ none → N' b = N b
theorem Grow.refl {N H : Hp} (s : Sm N H) : Grow N H N H := ⟨fun _ _ h => h, s, fun _ _ => rfl⟩
theorem Grow.trans {N H N1 H1 N2 H2 : Hp} (a : Grow N H N1 H1) (b : Grow N1 H1 N2 H2) (k : ∀ b, H b ≠ none → H1 b ≠ none) : Grow N H N2 H2 := ⟨fun c u h => b.up c u (a.up c u h), b.dn, fun c h => (b.same c (k c h)).trans (a.same c h)⟩
theorem sm_up {H : Hp} {a : Addr} {o : HO} (h : H a = none) : Sm H (upd H a o) := fun b u hb => by
  rw [upd_ne (fun e => by rw [e, h] at hb; cases hb)]
  exact hb
theorem Grow.new {N H : Hp} {t : Addr} {u : HO} (s : Sm N H) (ht : H t = none) : Grow N H (upd N t u) (upd H t u) := by
  have nt : N t = none := by
    cases e : N t with
    | none => rfl
    | some v => rw [s _ _ e] at ht; cases ht
  refine ⟨sm_up nt, fun b v hb => ?_, fun b hb => ?_⟩
  · by_cases e : b = t
    · subst e
      rw [upd_same] at hb ⊢
      exact hb
    · rw [upd_ne e] at hb ⊢
      exact s _ _ hb
  · exact upd_ne fun e => hb (e ▸ ht)
theorem Grow.aside {N H N1 G : Hp} {t : Addr} {u : HO} (a : Grow N H N1 G) (n : N1 t = none) : Grow N H N1 (upd G t u) := ⟨a.up, fun b v hb => by
  rw [upd_ne (fun e => by rw [e, n] at hb; cases hb)]
  exact a.dn _ _ hb, a.same⟩
def zB : Nat → Nat
  | 0 => 10
  | 1 => 31
  | _ => 198
structure GoodRow (d : Nat) (r : Row) : Prop where
  f : fR r = none
  ly : lyR r
  dp : dR r ≤ d
  z : zR r ≤ zB d
theorem rrs_snoc {K : PySem.W.Frag} {H : Hp} : ∀ {rs : List Row} {xs : List V} {r : Row} {v : V}, RRs K H rs xs → RR K H r v → RRs K H (rs ++ [r]) (xs ++ [v])
  | [], _, r, v, h, h' => by
    obtain rfl : _ = [] := h
    exact ⟨v, [], rfl, h', rfl⟩
  | s :: rs, _, r, v, ⟨w, ws, e, h1, h2⟩, h' => by
    subst e
    exact ⟨w, ws ++ [v], rfl, h1, rrs_snoc h2 h'⟩
theorem good_all {d : Nat} : ∀ {rs : List Row} {k : Int}, (∀ r ∈ rs, GoodRow d r) → fRs rs k = none ∧ lyRs rs ∧ dRs rs ≤ d ∧ zRs rs ≤ 1 + rs.length * zB d
  | [], _, _ => ⟨rfl, True.intro, Nat.zero_le _, by simp [zRs]⟩
  | r :: rs, k, h => by
    have g := h r List.mem_cons_self
    obtain ⟨h1, h2, h3, h4⟩ := good_all (rs := rs) (k := k + 1) fun x hx => h x (List.mem_cons_of_mem _ hx)
    refine ⟨?_, ⟨g.ly, h2⟩, ?_, ?_⟩
    · simp only [fRs]
      rw [g.f, h1]
      rfl
    · have := g.dp
      simp only [dRs]
      omega
    · have := g.z
      simp only [zRs, List.length_cons, Nat.add_mul]
      omega
theorem marks_ok {w : Str} (h : w ∈ marks) : PyData.strOk w = true := by
  simp only [marks, List.mem_cons, List.not_mem_nil, or_false] at h
  rcases h with rfl | rfl | rfl | rfl <;> decide +kernel
theorem nF_ok {lo hi i : Int} (h : lo ≤ i ∧ i ≤ hi) : nF lo hi (.int i) = none := by
  unfold nF
  rw [if_pos (show (At.int i).ok lo hi = true from decide_eq_true h)]
theorem good_move {d : Nat} {a b : Int} (ha : -100 ≤ a ∧ a ≤ 100) (hb : -100 ≤ b ∧ b ≤ 100) : GoodRow d (.move (.int a) (.int b)) :=
  ⟨by simp only [fR]; rw [nF_ok ha, nF_ok hb]; rfl, True.intro, Nat.zero_le _, by unfold zB; split <;> simp [zR]⟩
theorem good_mark {d : Nat} {w : Str} {a b c : Int} (hw : w ∈ marks) (ha : 1 ≤ a ∧ a ≤ 50) (hb : 1 ≤ b ∧ b ≤ 50) (hc : -999999999 ≤ c ∧ c ≤ 999999999) : GoodRow d (.mark w (.int a) (.int b) (.int c)) :=
  ⟨by simp only [fR, wF]; rw [nF_ok ha, nF_ok hb, nF_ok hc, if_pos hw]; rfl, marks_ok hw, Nat.zero_le _, by unfold zB; split <;> simp [zR]⟩
theorem good_often {d : Nat} {n : Int} {rs : List Row} (hd : d ≤ 1) (hn : 0 ≤ n ∧ n ≤ 20) (h : ∀ r ∈ rs, GoodRow d r) (hl : rs.length ≤ d + 2) : GoodRow (d + 1) (.often (.int n) rs) := by
  obtain ⟨h1, h2, h3, h4⟩ := good_all (k := 0) h
  refine ⟨by simp only [fR]; rw [nF_ok hn, h1]; rfl, h2, by simp only [dR]; omega, ?_⟩
  simp only [zR]
  rcases (show d = 0 ∨ d = 1 by omega) with rfl | rfl <;> simp only [zB] at h4 ⊢ <;> omega
theorem good_cond {n : Int} {b c : List Row} (hn : -999999999 ≤ n ∧ n ≤ 999999999) (h : ∀ r ∈ b, GoodRow 1 r) (hl : b.length ≤ 3) (h' : ∀ r ∈ c, GoodRow 1 r) (hl' : c.length ≤ 3) : GoodRow 2 (.cond (.int n) b c) := by
  obtain ⟨h1, h2, h3, h4⟩ := good_all (k := 0) h
  obtain ⟨k1, k2, k3, k4⟩ := good_all (k := 0) h'
  refine ⟨by simp only [fR]; rw [nF_ok hn, h1, k1]; rfl, ⟨h2, k2⟩, by simp only [dR]; omega, ?_⟩
  simp only [zR]
  simp only [zB] at h4 k4 ⊢
  omega
end Br

/-! Brushes without a fault: what repr shows of them. -/
namespace Bs
open PySem PySem.Spec PyProof.Rows L2 Lw Br
theorem textFrom_le : ∀ (ts : List Str) (k : Nat) (acc : Str), (textFrom k acc ts).length ≤ acc.length + piled ts
  | [], k, acc => by show acc.length ≤ _; omega
  | t :: r, k, acc => by
    have ih := textFrom_le r (k + 1) (acc ++ (if k > 0 then ", " else "" : String) ++ t)
    rw [strLen_append, strLen_append] at ih
    have e : (((if k > 0 then ", " else "" : String) : Str)).length ≤ 2 := by split <;> decide
    rw [piled_cons]
    show (textFrom (k + 1) (acc ++ (if k > 0 then ", " else "" : String) ++ t) r).length ≤ _
    omega
theorem list_len (ts : List Str) : (listText ts).length ≤ piled ts + 2 := by
  unfold listText
  rw [strLen_append]
  have h := textFrom_le ts 0 "["
  have e1 : ((("[" : String) : Str)).length = 1 := rfl
  have e2 : ((("]" : String) : Str)).length = 1 := rfl
  omega
theorem fig {lo hi : Int} {a : At} (h : nF lo hi a = none) (h0 : -1000000000 ≤ lo) (h1 : hi ≤ 1000000000) : PyData.showable a.d = true ∧ PyData.hasDict a.d = false ∧ (PyData.shown a.d).length ≤ 12 := by
  obtain ⟨i, rfl, h2, h3⟩ := nF_none h
  exact ⟨by simp only [At.d, PyData.showable, decide_eq_true (Fr.log_small (i := i) (by omega) (by omega))], by simp only [At.d, PyData.hasDict], Fr.int_len (by omega) (by omega)⟩
theorem wrd {w : Str} (h : wF w = none) : (PyData.shown (.str w)).length ≤ 12 := by
  unfold wF at h
  split at h
  · rename_i q
    simp only [marks, List.mem_cons, List.not_mem_nil, or_false] at q
    rcases q with rfl | rfl | rfl | rfl <;> decide +kernel
  · cases h
mutual
theorem rD_show : ∀ {r : Br.Row}, fR r = none → PyData.showable (rD r) = true ∧ PyData.hasDict (rD r) = false ∧ (PyData.shown (rD r)).length + 2 ≤ 10 * zR r
  | .move a b, h => by
    simp only [fR] at h
    obtain ⟨h1, h2⟩ := or_none h
    have p1 := fig (pre_none h1) (by decide) (by decide)
    have p2 := fig (pre_none h2) (by decide) (by decide)
    have e := Fr.tuple_len (PyData.shownAll [.str "move", a.d, b.d])
    have w : (PyData.shown (.str "move")).length ≤ 12 := by decide +kernel
    simp only [PyData.shownAll, piled_cons, piled_nil] at e
    simp only [rD, PyData.shown, PyData.showable, PyData.showableAll, PyData.hasDict, PyData.hasDictAll, PyData.shownAll, zR, p1.1, p1.2.1, p2.1, p2.2.1] at e w ⊢
    exact ⟨rfl, rfl, by omega⟩
  | .mark x p q f, h => by
    simp only [fR] at h
    obtain ⟨h1, h2⟩ := or_none h
    obtain ⟨h2, h3⟩ := or_none h2
    obtain ⟨h3, h4⟩ := or_none h3
    have p1 := wrd (pre_none h1)
    have p2 := fig (pre_none h2) (by decide) (by decide)
    have p3 := fig (pre_none h3) (by decide) (by decide)
    have p4 := fig (pre_none h4) (by decide) (by decide)
    have e := Fr.tuple_len (PyData.shownAll [.str "mark", .str x, p.d, q.d, f.d])
    have w : (PyData.shown (.str "mark")).length ≤ 12 := by decide +kernel
    simp only [PyData.shownAll, piled_cons, piled_nil] at e
    simp only [rD, PyData.shown, PyData.showable, PyData.showableAll, PyData.hasDict, PyData.hasDictAll, PyData.shownAll, zR, p2.1, p2.2.1, p3.1, p3.2.1, p4.1, p4.2.1] at e w p1 ⊢
    exact ⟨rfl, rfl, by omega⟩
  | .often n b, h => by
    simp only [fR] at h
    obtain ⟨h1, h2⟩ := or_none h
    have p1 := fig (pre_none h1) (by decide) (by decide)
    have p2 := rsD_show (rs := b) (pre_none h2)
    have l := list_len (PyData.shownAll (rsD b))
    have e := Fr.tuple_len (PyData.shownAll [.str "often", n.d, .list (rsD b)])
    have w : (PyData.shown (.str "often")).length ≤ 12 := by decide +kernel
    simp only [PyData.shownAll, piled_cons, piled_nil] at e
    simp only [rD, PyData.shown, PyData.showable, PyData.showableAll, PyData.hasDict, PyData.hasDictAll, PyData.shownAll, zR, p1.1, p1.2.1, p2.1, p2.2.1] at e w ⊢
    exact ⟨rfl, rfl, by omega⟩
  | .cond f b c, h => by
    simp only [fR] at h
    obtain ⟨h1, h2⟩ := or_none h
    obtain ⟨h2, h3⟩ := or_none h2
    have p1 := fig (pre_none h1) (by decide) (by decide)
    have p2 := rsD_show (rs := b) (pre_none h2)
    have p3 := rsD_show (rs := c) (pre_none h3)
    have l := list_len (PyData.shownAll (rsD b))
    have l2 := list_len (PyData.shownAll (rsD c))
    have e := Fr.tuple_len (PyData.shownAll [.str "if", f.d, .list (rsD b), .list (rsD c)])
    have w : (PyData.shown (.str "if")).length ≤ 12 := by decide +kernel
    simp only [PyData.shownAll, piled_cons, piled_nil] at e
    simp only [rD, PyData.shown, PyData.showable, PyData.showableAll, PyData.hasDict, PyData.hasDictAll, PyData.shownAll, zR, p1.1, p1.2.1, p2.1, p2.2.1, p3.1, p3.2.1] at e w ⊢
    exact ⟨rfl, rfl, by omega⟩
  | .junk d, h => by cases h
theorem rsD_show : ∀ {rs : List Br.Row} {k : Int}, fRs rs k = none → PyData.showableAll (rsD rs) = true ∧ PyData.hasDictAll (rsD rs) = false ∧ piled (PyData.shownAll (rsD rs)) ≤ 10 * zRs rs
  | [], _, _ => ⟨rfl, rfl, by simp only [rsD, PyData.shownAll, piled_nil]; omega⟩
  | r :: rs, k, h => by
    simp only [fRs] at h
    obtain ⟨h1, h2⟩ := or_none h
    have p1 := rD_show (r := r) (pre_none h1)
    have p2 := rsD_show (rs := rs) h2
    have z := zR_pos r
    simp only [rsD, PyData.showableAll, PyData.hasDictAll, PyData.shownAll, piled_cons, zRs, p1.1, p1.2.1, p2.1, p2.2.1]
    exact ⟨rfl, rfl, by omega⟩
end
/-- the text of a brush -/
theorem brush_show {rs : List Br.Row} {k : Int} (h : fRs rs k = none) (z : zRs rs ≤ 1000) : PyData.showable (.list (rsD rs)) = true ∧ PyData.hasDict (.list (rsD rs)) = false ∧ (PyData.shown (.list (rsD rs))).length ≤ sizeLine := by
  obtain ⟨h1, h2, h3⟩ := rsD_show h
  have l := list_len (PyData.shownAll (rsD rs))
  refine ⟨by simpa [PyData.showable] using h1, by simpa [PyData.hasDict] using h2, ?_⟩
  rw [sizeLine_eq]
  simp only [PyData.shown]
  omega
end Bs

namespace L65
open PySem PySem.Spec PyProof.Rows L2 Lw Fm Fr Sm Pf
open Ec hiding g_yes
local macro_rules | `(tactic| walk_at "lw one") => `(tactic| first
  | with_reducible refine' g_seq ?_
  | with_reducible refine' g_asg ?_
  | ((with_reducible refine' g_nameN ?he ?_); case he => (simp only [List.set_cons_succ, List.set_cons_zero]; exact rfl))
  | with_reducible refine' g_name ?_
  | with_reducible refine' g_ret ?_
  | with_reducible refine' g_retN ?_
  | with_reducible refine' g_next ?_
  | with_reducible refine' g_drop ?_
  | with_reducible refine' g_ifS ?_
  | with_reducible refine' g_op ?_
  | with_reducible refine' g_c ?_
  | ((with_reducible refine' g_var ?hv ?_); case hv => exact rfl)
  | with_reducible refine' g_I0 ?_
  | ((with_reducible refine' g_I ?_ ?_); first | (show CMul _ _; first | exact Pf.cmul_mod (by decide) (by decide) | exact Pf.cmul_nn (by assumption) (by assumption) (by decide) | exact Or.inl ⟨by decide, by decide⟩ | exact Or.inl ⟨by omega, by omega⟩ | exact Or.inr ⟨by omega, by omega⟩ | exact Or.inr (Fm.knot_mul _ _ _ _)) | (show CDiv _ _; exact ⟨by omega, by omega⟩) | (show CDivW _ _; exact div_ok (by omega) (by omega)) | (show CPowW _ _; exact pow_ok (by decide +kernel)) | (show CPow _ _; exact ⟨by decide, by decide, by decide⟩) | (show (0 : Int) < _; first | omega | decide +kernel) | (show (0 : Int) ≤ _; omega) | assumption)
  | with_reducible refine' g_test ?_
  | with_reducible refine' g_B ?_
  | with_reducible refine' g_and ?_
  | with_reducible refine' g_or ?_
  | with_reducible refine' g_not ?_
  | with_reducible refine' g_andV ?_
  | with_reducible refine' g_orV ?_
  | with_reducible refine' g_notV ?_
  | with_reducible refine' g_if ?_
  | with_reducible refine' g_chain ?_
  | with_reducible refine' g_un ?_
  | with_reducible refine' g_U ?_
  | with_reducible refine' g_nil ?_
  | with_reducible refine' g_cons ?_
  | with_reducible refine' g_tup ?_
  | with_reducible refine' g_lst ?_
  | with_reducible refine' g_CB ?_
  | with_reducible refine' g_call ?_
  | with_reducible refine' g_callK ?_
  | with_reducible refine' g_bits ?_
  | with_reducible refine' g_sub ?_
  | with_reducible refine' g_for ?_
  | with_reducible refine' g_rng1 ?_
  | ((with_reducible refine' g_eq ?_ ?_); exact rfl)
  | ((with_reducible refine' g_ne ?_ ?_); exact rfl)
  | with_reducible refine' g_dget ?_
  | with_reducible refine' Pf.g_din ?_
  | with_reducible refine' Pf.g_star ?_
  | with_reducible refine' g_bm ?_
  | with_reducible refine' g_bm0 ?_
  | with_reducible refine' g_lc ?_
  | with_reducible refine' g_itup ?_
  | with_reducible refine' g_ilist ?_
  | with_reducible refine' g_sl ?_
  | with_reducible refine' g_part ?_
  | with_reducible refine' g_nopart ?_
  | with_reducible refine' g_gcons ?_
  | with_reducible refine' g_gnil ?_
  | with_reducible refine' g_dput ?_
  | with_reducible refine' g_bl ?_
  | ((with_reducible refine' iteSE ?_ ?_); exact rfl)
  | ((with_reducible refine' iteSN ?_ ?_); first | decide +kernel | exact Fm.word_ne (by decide +kernel) _)
  | with_reducible refine' g_int ?_
  | (with_reducible refine' iteNT ?_)
  | (with_reducible refine' iteNF ?_)
  | (with_reducible refine' iteT ?_)
  | (with_reducible refine' iteF ?_))
local macro_rules | `(tactic| walk_at "lw go") => `(tactic| repeat walk_at "lw one")
local macro_rules | `(tactic| walk_at "lw so") => `(tactic| first
  | with_reducible refine' g_asg ?_
  | ((with_reducible refine' g_nameN ?he ?_); case he => (simp only [List.set_cons_succ, List.set_cons_zero]; exact rfl))
  | with_reducible refine' g_name ?_
  | with_reducible refine' g_ret ?_
  | with_reducible refine' g_retN ?_
  | with_reducible refine' g_next ?_
  | with_reducible refine' g_drop ?_
  | with_reducible refine' g_ifS ?_
  | with_reducible refine' g_op ?_
  | with_reducible refine' g_c ?_
  | ((with_reducible refine' g_var ?hv ?_); case hv => exact rfl)
  | with_reducible refine' g_I0 ?_
  | ((with_reducible refine' g_I ?_ ?_); first | (show CMul _ _; first | exact Pf.cmul_mod (by decide) (by decide) | exact Pf.cmul_nn (by assumption) (by assumption) (by decide) | exact Or.inl ⟨by decide, by decide⟩ | exact Or.inl ⟨by omega, by omega⟩ | exact Or.inr ⟨by omega, by omega⟩ | exact Or.inr (Fm.knot_mul _ _ _ _)) | (show CDiv _ _; exact ⟨by omega, by omega⟩) | (show CDivW _ _; exact div_ok (by omega) (by omega)) | (show CPowW _ _; exact pow_ok (by decide +kernel)) | (show CPow _ _; exact ⟨by decide, by decide, by decide⟩) | (show (0 : Int) < _; first | omega | decide +kernel) | (show (0 : Int) ≤ _; omega) | assumption)
  | with_reducible refine' g_test ?_
  | with_reducible refine' g_B ?_
  | with_reducible refine' g_and ?_
  | with_reducible refine' g_or ?_
  | with_reducible refine' g_not ?_
  | with_reducible refine' g_andV ?_
  | with_reducible refine' g_orV ?_
  | with_reducible refine' g_notV ?_
  | with_reducible refine' g_if ?_
  | with_reducible refine' g_chain ?_
  | with_reducible refine' g_un ?_
  | with_reducible refine' g_U ?_
  | with_reducible refine' g_nil ?_
  | with_reducible refine' g_cons ?_
  | with_reducible refine' g_tup ?_
  | with_reducible refine' g_lst ?_
  | with_reducible refine' g_CB ?_
  | with_reducible refine' g_call ?_
  | with_reducible refine' g_callK ?_
  | with_reducible refine' g_bits ?_
  | with_reducible refine' g_sub ?_
  | with_reducible refine' g_for ?_
  | with_reducible refine' g_rng1 ?_
  | ((with_reducible refine' g_eq ?_ ?_); exact rfl)
  | ((with_reducible refine' g_ne ?_ ?_); exact rfl)
  | with_reducible refine' g_dget ?_
  | with_reducible refine' Pf.g_din ?_
  | with_reducible refine' Pf.g_star ?_
  | with_reducible refine' g_bm ?_
  | with_reducible refine' g_bm0 ?_
  | with_reducible refine' g_lc ?_
  | with_reducible refine' g_itup ?_
  | with_reducible refine' g_ilist ?_
  | with_reducible refine' g_sl ?_
  | with_reducible refine' g_part ?_
  | with_reducible refine' g_nopart ?_
  | with_reducible refine' g_gcons ?_
  | with_reducible refine' g_gnil ?_
  | with_reducible refine' g_dput ?_
  | with_reducible refine' g_bl ?_
  | ((with_reducible refine' iteSE ?_ ?_); exact rfl)
  | ((with_reducible refine' iteSN ?_ ?_); first | decide +kernel | exact Fm.word_ne (by decide +kernel) _)
  | with_reducible refine' g_int ?_
  | (with_reducible refine' iteNT ?_)
  | (with_reducible refine' iteNF ?_)
  | (with_reducible refine' iteT ?_)
  | (with_reducible refine' iteF ?_))
local macro_rules | `(tactic| walk_at "lw st") => `(tactic| repeat walk_at "lw so")
local macro_rules | `(tactic| walk_at "lw i0") => `(tactic| refine' g_cast (by (simp only [L2.start, List.map_cons, List.map_nil, List.length_cons, List.length_nil, List.replicate_succ, List.replicate_zero, List.cons_append, List.nil_append, Nat.reduceAdd, Nat.reduceSub, Nat.sub_self]; exact rfl)) ?_)
local macro_rules | `(tactic| walk_at "lw ns") => `(tactic| simp only [List.set_cons_succ, List.set_cons_zero])
abbrev FnP (K : PySem.W.Frag) (x : Str) (st : Stmt) (f : Addr) (fd : FuncData) : Prop := FunD K x x (defArgs st) (defBody st) (defScope st) [] [] f fd
structure Bi (mg : Str → Option Value) : Prop where
  isinstance : mg "isinstance" = none
  int : mg "int" = none
  bool : mg "bool" = none
  min : mg "min" = none
  max : mg "max" = none
  list : mg "list" = none
  enumerate : mg "enumerate" = none
  tuple : mg "tuple" = none
  str : mg "str" = none
  len : mg "len" = none
  zip : mg "zip" = none
  sum : mg "sum" = none
  range : mg "range" = none
  repr : mg "repr" = none
structure Kn (w : World) (K : PySem.W.Frag) (mg : Str → Option Value) : Prop where
  c_MOST_MARKS : ∃ t, mg "MOST_MARKS" = some (.int (60) t)
  c_MOST_ROWS : ∃ t, mg "MOST_ROWS" = some (.int (2000) t)
  g_MARKS : mg "MARKS" = some (.ref (He.ga K "MARKS"))
  v_MARKS : ∀ H : Hp, SqT K H (He.ga K "MARKS") [V.str "set", V.str "raise", V.str "least", V.str "most"]
  g_HERE : mg "HERE" = some (.ref (He.ga K "HERE"))
  v_HERE : ∀ H : Hp, SqT K H (He.ga K "HERE") [V.int (0), V.int (0), V.int (0), V.int (0)]
  g_SHAPES : mg "SHAPES" = some (.ref (He.ga K "SHAPES"))
  t_SHAPES : Kt.TabC K w (He.ga K "SHAPES") [("move", [.str "offset", .str "offset"]), ("mark", [.str "word", .str "side", .str "side", .str "figures"]), ("often", [.str "count", .str "rows"]), ("if", [.str "figures", .str "rows", .str "rows"])] ["Move"]
  g_NUMBERS : mg "NUMBERS" = some (.ref (He.ga K "NUMBERS"))
  t_NUMBERS : Kt.TabC K w (He.ga K "NUMBERS") [("offset", [.int (-100), .int (100)]), ("side", [.int (1), .int (50)]), ("figures", [.int (-999999999), .int (999999999)]), ("count", [.int (0), .int (20)])] []
  g_NoBrush : mg "NoBrush" = some (.ref (Ec.cA K "NoBrush"))
  g_LandError : mg "LandError" = some (.ref (Ec.cA K "LandError"))
  er : Errs csK kinsK [] K
  mP : PySem.W.exmOne K (.ref (cA K "NoBrush")) (.ref (cA K "LandError")) = some true
  kN : PySem.W.kitOne K (.type "NoneType") (.ref (cA K "NoBrush")) = some false
  sh : Shape K (cA K "NoBrush") PySem.EcP.tailV "ValueError.__new__"
theorem pe_gI {X : Cx} {x : Str} {i : Int} {pos : Pos} (hg : Gl X x) (h : ∃ t, X.mg x = some (.int i t)) (hd : (x == ("__debug__" : Str)) = false := by decide) : PE X (.Name x pos) (tC (.int i)) := by
  obtain ⟨t, e⟩ := h
  exact pe_glob hg e ⟨t, rfl⟩ hd
theorem pe_gR {X : Cx} {x : Str} {a : Addr} {pos : Pos} (hg : Gl X x) (h : X.mg x = some (.ref a)) (hd : (x == ("__debug__" : Str)) = false := by decide) : PE X (.Name x pos) (tC (.ref a)) := pe_glob (v := .ref a) hg h rfl hd

/-! ### knots, drawn numbers -/
theorem bl_of {b : Bool} {Q : VK} {H : Hp} (h : b = true) (q : Q (.bl true) H) : Q (.bl b) H := by
  rw [h]
  exact q
def spKnot : Sp := fun vs H Q _ => ∃ a b c d : Int, vs = [.int a, .int b, .int c, .int d] ∧ Q (.int (knotL a b c d)) H
def spAt (K : PySem.W.Frag) : Sp := fun vs H Q _ => ∃ (a : Addr) (ns : List Int) (k : Int), vs = [.ref a, .int k] ∧ SqL K H a (ns.map V.int) ∧ 0 ≤ k ∧ ∀ n : Int, Q (.int n) H
def spMixed : Sp := fun vs H Q _ => ∃ (a k : Int), vs = [.int a, .int k] ∧ 0 ≤ k ∧ k < 2 ^ 64 ∧ ∀ n : Int, Q (.int n) H
/-- a purse: two numbers and a count of at most m -/
structure Purse (m : Int) (o : HO) : Prop where
  ex : ∃ a b c : Int, o = .lst [.int a, .int b, .int c] ∧ 0 ≤ c ∧ c ≤ m
theorem Purse.mono {m m' : Int} {o : HO} (h : Purse m o) (l : m ≤ m') : Purse m' o := by
  obtain ⟨a, b, c, e, c0, c1⟩ := h.ex
  exact ⟨a, b, c, e, c0, by omega⟩
def spPurse (K : PySem.W.Frag) : Sp := fun vs H Q _ => ∃ (a : Addr) (ns : List Int) (k : Int), vs = [.ref a, .int k] ∧ SqL K H a (ns.map V.int) ∧ 0 ≤ k ∧ k ≤ 64 ∧ ∀ p o, H p = none → Purse 64000 o → Q (.ref p) (upd H p o)
def spDraw : Sp := fun vs H Q _ => ∃ (p : Addr) (n m : Int) (o : HO), vs = [.ref p, .int n] ∧ H p = some o ∧ Purse m o ∧ m ≤ 1000000000000000 ∧ 0 < n ∧ n ≤ 1000000000000000000000000000000 ∧
  ∀ (d : Int) (o' : HO), 0 ≤ d → d < n → Purse (m + 4) o' → Q (.int d) (upd H p o')
def spWhole : Sp := fun vs H Q _ => ∃ n : Int, vs = [.int n] ∧ Q (.bl true) H
/-- a def that draws a number from lo to hi from the purse -/
def spNum (lo hi : Int) : Sp := fun vs H Q _ => ∃ (p : Addr) (m : Int) (o : HO), vs = [.ref p] ∧ H p = some o ∧ Purse m o ∧ m ≤ 100000000000000 ∧
  ∀ (g : Int) (o' : HO) (H' : Hp), lo ≤ g → g ≤ hi → Keep p H H' → H' p = some o' → Purse (m + 12) o' → Q (.int g) H'
open Br
/-! ### the refusal of brushes -/
theorem sc_ini_NoBrush : FnScope ["self", "path", "why"] ["self", "path", "why"] (defScope iS_NoBrush) := ⟨rfl, rfl, rfl, by decide +kernel, rfl, by decide +kernel, by decide +kernel⟩
theorem put_two {K : PySem.W.Frag} {C : Addr} {σ : L2.St} {H : Hp} {a d : Addr} {g : Str} {y : V} {fs : List (Str × V)} {D : Ends} (O : Own K C) (hf : PySem.W.findIn K (.ref C) g = some none) (h : H a = some (exo a C (some d))) (hd : H d = some (exd d fs)) (hl : fs.length ≤ 900)
    {i j : Nat} (hi : σ[i]? = some (some (.ref a))) (hj : σ[j]? = some (some y)) (q : D.nx σ (upd H d (exd d ((g, y) :: fs)))) : tSt K g (tVar i) (tVar j) D σ H := g_var hj (g_var hi ⟨a, C, rfl, O, hf, .inr ⟨d, fs, h, hd, hl, q⟩⟩)
theorem ok_ini_NoBrush {P : Program} {w : World} {K : PySem.W.Frag} {mg : Str → Option Value} {base : Heap} {f : Addr} {fd : FuncData} {C : Addr} {dvs : List V} {kws : List (Str × V)} (F : FunD K "__init__" "NoBrush.__init__" (defArgs iS_NoBrush) (defBody iS_NoBrush) (defScope iS_NoBrush) dvs kws f fd) :
    FnOk P w K mg base CX0 1 f fd ["self", "path", "why"] (spIni K C ["path", "why"]) := by
  refine F.ok sc_ini_NoBrush (fun vs H Q E h => ?_) (fun cdv A outer s H vs Q E hr h => ⟨_, PSs.nox (pss_cons (ps_st (pv 0) (pv 1)) (pss_one (ps_st (pv 0) (pv 2)))), ?_⟩)
  · obtain ⟨a, ys, rfl, hl, _⟩ := h
    rw [List.length_cons, hl]
    rfl
  · obtain ⟨a, ys, rfl, hl, O, hf, ha, q⟩ := h
    match ys, hl with
    | [y0, y1], _ =>
      walk_at "lw go"
      refine one_put O (hf _ (by simp)) ha rfl rfl fun H1 e1 k1 ⟨d, ne, hd0, h1, h2⟩ => ?_
      walk_at "lw go"
      refine put_two O (hf _ (by simp)) h1 h2 (by show 1 ≤ 900; decide) rfl rfl ?_
      exact q _ d ne hd0 (by rw [upd_ne ne]; exact h1) upd_same fun b u nb hb => by rw [upd_ne (ne_of_none hb hd0)]; exact k1 b u nb hb
section
variable {X : Cx} {x : Str} {names : List Str} {dvs : List V} {p pos : Pos} {e : Expr} {es : List Expr} {t : TA}
theorem pmk_mk (M : Mk X.prog X.w X.K X.mg X.base x names dvs) (T : OexC X.K (cA X.K x)) (hr : Room 2 X.A) (ha : PA X (e :: es) t) (hg : Gl X x := by rfl) (hdb : (x == ("__debug__" : Str)) = false := by decide)
    (he : starEach (e :: es) X.env = (false, eval e X.env) :: starEach es X.env := by rfl) (hpl : (backTo pos (starEach es X.env)).any (·.1) = false := by rfl) : PMk X (.Call (.Name x p) (e :: es) [] pos) (tMkO (cA X.K x) (spIni X.K (cA X.K x) names) dvs t) := by
  obtain ⟨fd, ps, ds, hm, N, F, hb, hd⟩ := M.ex
  exact pmk_oex T N.i N.ty F hr hb hd pass0 hg hm ha hdb he hpl
end
/-- raised with the path p and the word y -/
def BrE (K : PySem.W.Frag) (p : List Int) (y : Str) (H : Hp) (E : XK) : Prop := ∀ (d t : Addr) (H' : Hp), Sm H H' → H' d = some (.xd [("why", .str y), ("path", .ref t)]) → H' t = some (.tup (p.map V.int)) → E (.ref (cA K "NoBrush")) (some d) H'
theorem BrE.later {K : PySem.W.Frag} {p : List Int} {y : Str} {H H1 : Hp} {E : XK} (q : BrE K p y H E) (s : Sm H H1) : BrE K p y H1 E := fun d t H' s' h1 h2 => q d t H' (fun b u h => s' b u (s b u h)) h1 h2
theorem sm_new {H : Hp} {a : Addr} {o : HO} (h : H a = none) : Sm H (upd H a o) := fun b u hb => by rw [upd_ne (ne_of_none hb h)]; exact hb
theorem sm_trans {H H1 H2 : Hp} (s : Sm H H1) (s' : Sm H1 H2) : Sm H H2 := fun b u h => s' b u (s b u h)
/-- what is raised: of the class, made with the path at t and a word -/
theorem out_br {K : PySem.W.Frag} {p : List Int} {y : Str} {H : Hp} {E : XK} {t : Addr} (er : Errs csK kinsK [] K) (ht : H t = some (.tup (p.map V.int))) (e : BrE K p y H E) :
    ∀ a, H a = none → spIni K (cA K "NoBrush") ["path", "why"] (.ref a :: ([.ref t, .str y] ++ [])) (upd H a (exo a (cA K "NoBrush") none)) (fun v H2 => v = .non ∧ ∃ (d : Addr) (fs : List (Str × V)), H2 a = some (exo a (cA K "NoBrush") (some d)) ∧ H2 d = some (exd d fs) ∧ H d = none ∧ E (.ref (cA K "NoBrush")) (some d) (upd (del H2 a) d (.xd fs))) (fun _ _ _ => False) :=
  ini_raise (er.own (x := "NoBrush") (b := true) (fs := ["path", "why"]) (by simp [csK])) (fun f hf => er.fld (x := "NoBrush") (b := true) (fs := ["path", "why"]) (by simp [csK]) hf) rfl (fun d H2 hd hx k => e d t H2 (fun b u hb => k b u hb) hx (k _ _ ht))
def spIsFrom : Sp := fun vs H Q _ => ∃ (a : Br.At) (lo hi : Int), vs = [a.v, .int lo, .int hi] ∧ -1000000000 ≤ lo ∧ lo ≤ 1 ∧ 20 ≤ hi ∧ Q (.bl (a.ok lo hi)) H
def spRowsOf (K : PySem.W.Frag) : Sp := fun vs H Q _ => ∃ (l p : Addr) (xs : List V) (rs : List Br.Row) (path : List Int) (H0 : Hp), vs = [.ref l, .ref p] ∧ H l = some (.lst xs) ∧ RRs K H0 rs xs ∧ H p = some (.tup (path.map V.int)) ∧ path.length ≤ 1000000 ∧ rs.length ≤ 1000000 ∧
  ∀ a ys H', H a = none → Sm H H' → H' a = some (.lst ys) → Al (IR K H0 H') (kidsF path 0 (rs.map .row)) ys → Q (.ref a) H'
def spThings (K : PySem.W.Frag) : Sp := fun vs H Q E => ∃ (v : V) (p : Addr) (r : Br.Row) (path : List Int) (H0 : Hp), vs = [v, .ref p] ∧ RR K H0 r v ∧ Sm H0 H ∧ H p = some (.tup (path.map V.int)) ∧ path.length ≤ 1000000 ∧
  (isRow r = true → ∀ a ys H', H a = none → Sm H H' → H' a = some (.lst ys) → Al (IR K H0 H') (kidsF path 1 (things r)) ys → Q (.ref a) H') ∧ (isRow r = false → BrE K path "kind" H E)
/-- a row's tuple: its word, and what it holds -/
theorem row_has {K : PySem.W.Frag} {H : Hp} {r : Br.Row} {v : V} (h : RR K H r v) (i : isRow r = true) : ∃ a x xs, v = .ref a ∧ H a = some (.tup (.str x :: xs)) ∧ Al (WR K H) (things r) xs ∧
    (x, (things r).map Wk.kind) ∈ ([("move", ["offset", "offset"]), ("mark", ["word", "side", "side", "figures"]), ("often", ["count", "rows"]), ("if", ["figures", "rows", "rows"])] : List (Str × List Str)) := by
  cases r with
  | junk d => cases i
  | move a b =>
    obtain ⟨p, rfl, h1⟩ := h
    exact ⟨p, _, _, rfl, h1, ⟨_, _, rfl, rfl, _, _, rfl, rfl, rfl⟩, by simp [things, Wk.kind, NK.name]⟩
  | mark w x y f =>
    obtain ⟨p, rfl, h1⟩ := h
    exact ⟨p, _, _, rfl, h1, ⟨_, _, rfl, rfl, _, _, rfl, rfl, _, _, rfl, rfl, _, _, rfl, rfl, rfl⟩, by simp [things, Wk.kind, NK.name]⟩
  | often n b =>
    obtain ⟨p, l, xs, rfl, h1, h2, h3⟩ := h
    exact ⟨p, _, _, rfl, h1, ⟨_, _, rfl, rfl, _, _, rfl, ⟨l, xs, rfl, h2, h3⟩, rfl⟩, by simp [things, Wk.kind, NK.name]⟩
  | cond f b c =>
    obtain ⟨p, l, m, xs, ys, rfl, h1, h2, h3, h4, h5⟩ := h
    exact ⟨p, _, _, rfl, h1, ⟨_, _, rfl, rfl, _, _, rfl, ⟨l, xs, rfl, h2, h4⟩, _, _, rfl, ⟨m, ys, rfl, h3, h5⟩, rfl⟩, by simp [things, Wk.kind, NK.name]⟩
theorem word_has {x : Str} (h : x ∈ words) : ∃ ks, (x, ks) ∈ ([("move", ["offset", "offset"]), ("mark", ["word", "side", "side", "figures"]), ("often", ["count", "rows"]), ("if", ["figures", "rows", "rows"])] : List (Str × List Str)) ∧ ks.length + 1 = arity x := by
  simp only [words, List.mem_cons, List.not_mem_nil, or_false] at h
  rcases h with rfl | rfl | rfl | rfl
  · exact ⟨["offset", "offset"], by simp, by decide +kernel⟩
  · exact ⟨["word", "side", "side", "figures"], by simp, by decide +kernel⟩
  · exact ⟨["count", "rows"], by simp, by decide +kernel⟩
  · exact ⟨["figures", "rows", "rows"], by simp, by decide +kernel⟩
theorem al_at {α : Type} {R : α → V → Prop} : ∀ {as : List α} {ys : List V} {i : Nat} {a : α}, Al R as ys → as[i]? = some a → ∃ v, ys[i]? = some v ∧ R a v
  | [], _, _, _, _, e => by cases e
  | a :: as, _, 0, b, ⟨v, vs, rfl, h1, h2⟩, e => by
    cases e
    exact ⟨v, rfl, h1⟩
  | a :: as, _, i + 1, b, ⟨v, vs, rfl, h1, h2⟩, e => by
    obtain ⟨v', e', h'⟩ := al_at (as := as) (i := i) h2 (by simpa using e)
    exact ⟨v', by simpa using e', h'⟩
theorem st8 {l : Option V} {a b a' b' : Int} {o1 o2 o3 o4 o5 : Option V} (ha : a = a') (hb : b = b') : [l, some (.int a), some (.int b), o1, o2, o3, o4, o5] = [l, some (.int a'), some (.int b'), o1, o2, o3, o4, o5] := by rw [ha, hb]
theorem g_aug {i : Nat} {te : TE} {ti : TIp} {D : Ends} {σ : L2.St} {H : Hp} {x : V} (hx : σ[i]? = some (some x)) (q : te σ H fun y H1 => ti x y H1 fun z H2 => D.nx (σ.set i (some z)) H2) : tAug i te ti D σ H := ⟨x, hx, q⟩
theorem g_ip {f : Int → Int → Int} {a b : Int} {H : Hp} {Q : VK} (q : Q (.int (f a b)) H) : ipI f (.int a) (.int b) H Q := ⟨a, b, rfl, rfl, q⟩
def spWeighed (K : PySem.W.Frag) (n : Nat) : Sp := fun vs H Q _ => ∃ (l : Addr) (xs : List V) (rs : List Br.Row), vs = [.ref l] ∧ H l = some (.lst xs) ∧ RRs K H rs xs ∧ okRs rs ∧ dRs rs < n ∧ ∀ p H', Sm H H' → H' p = some (.tup [.int (mRs rs).1, .int (mRs rs).2]) → Q (.ref p) H'
theorem spWeighed_zero {K : PySem.W.Frag} {vs : List V} {H : Hp} {Q : VK} {E : XK} (h : spWeighed K 0 vs H Q E) : False := by
  obtain ⟨l, xs, rs, _, _, _, _, h, _⟩ := h
  omega
def spMust (K : PySem.W.Frag) : Sp := fun vs H Q E => ∃ (l : Addr) (xs : List V) (rs : List Br.Row), vs = [.ref l] ∧ H l = some (.lst xs) ∧ RRs K H rs xs ∧ zRs rs ≤ 900000 ∧ dRs rs < 4 ∧ (faultB rs = none → ∀ H', Sm H H' → Q .non H') ∧ (∀ p y, faultB rs = some (p, y) → BrE K p y H E)
theorem in_strs (w : Str) : ∀ l : List Str, inV (.str w) (l.map V.str) = decide (w ∈ l)
  | [] => by simp [inV]
  | x :: l => by
    have ih := in_strs w l
    show ((x == w) || inV (.str w) (l.map V.str)) = _
    rw [ih]
    by_cases h : x = w
    · subst h
      simp
    · rw [beq_eq_false_iff_ne.mpr h, Bool.false_or]
      refine decide_eq_decide.mpr ⟨List.mem_cons_of_mem _, fun z => ?_⟩
      rcases List.mem_cons.mp z with e | e
      · exact absurd e.symm h
      · exact e
/-- where the pile stands -/
structure Pile (K : PySem.W.Frag) (H0 G : Hp) (D : Addr) (Z : Nat) (goal : Fl) (m : Nat) (st : List Pw) (ys : List V) : Prop where
  at_ : G D = some (.lst ys)
  all : Al (IR K H0 G) st ys
  sm : Sm H0 G
  fl : fS st.reverse = goal
  z : zS st = m
  le : m ≤ Z
  short : sh Z st
theorem Pile.push {K : PySem.W.Frag} {H0 G2 G3 G' : Hp} {D : Addr} {Z : Nat} {goal : Fl} {st0 kids : List Pw} {vs ys2 : List V} {path : List Int} {wk : Wk} (hA2 : Al (IR K H0 G2) st0 vs) (hA3 : Al (IR K H0 G3) kids ys2) (s23 : Sm G2 G3) (h2D : G3 D = some (.lst vs)) (s' : ∀ b u, b ≠ D → G3 b = some u → G' b = some u) (hD' : G' D = some (.lst (vs ++ ys2.reverse)))
    (sm : Sm H0 G') (hfl : (pre path (fW wk)).or (fS st0.reverse) = goal) (hk : fS kids = pre path (fW wk)) (hz : zS st0 + zS kids ≤ Z) (h0 : sh Z st0) (h1 : sh Z kids) : Pile K H0 G' D Z goal (zS st0 + zS kids) (st0 ++ kids.reverse) (vs ++ ys2.reverse) :=
  ⟨hD', (hA2.mono fun _ _ h => (h.mono s23).monoD s' h2D).append (hA3.mono fun _ _ h => h.monoD s' h2D).rev, sm, by rw [List.reverse_append, List.reverse_reverse, fS_append, hk]; exact hfl, by rw [zS_append, zS_rev], hz, fun x hx => (List.mem_append.mp hx).elim (h0 x) fun h => h1 x (List.mem_reverse.mp h)⟩
theorem rows_few (rs : List Br.Row) : rs.length ≤ zRs rs := by
  have h1 := z_kids_rows [] rs 0
  have h2 := len_zS (kidsF [] 0 (rs.map .row))
  rw [kidsF_len, List.length_map] at h2
  omega
/-! ### how far a brush reaches -/
def spBoth (op : Br.B4 → Br.B4 → Br.B4) (K : PySem.W.Frag) : Sp := fun vs H Q _ => ∃ (u v : V) (a b : Br.B4), vs = [u, v] ∧ B4R K H a u ∧ B4R K H b v ∧ ∀ w H', Sm H H' → B4R K H' (op a b) w → Q w H'
def spMoved (K : PySem.W.Frag) : Sp := fun vs H Q _ => ∃ (u v : V) (a : Option Br.B4) (b : Br.B4), vs = [u, v] ∧ OB K H a u ∧ B4R K H b v ∧ ∀ w H', Sm H H' → OB K H' (mvO a b) w → Q w H'
def spAround (K : PySem.W.Frag) : Sp := fun vs H Q _ => ∃ (u v : V) (a b : Option Br.B4), vs = [u, v] ∧ OB K H a u ∧ OB K H b v ∧ ∀ w H', Sm H H' → OB K H' (arO a b) w → Q w H'
theorem g_izipA {K : PySem.W.Frag} {ta : TA} {σ : L2.St} {H : Hp} {R : It → Hp → Prop} (q : ta σ H fun vs H1 => ∃ a b xs ys, vs = [.ref a, .ref b] ∧ ((SqL K H1 a xs ∧ SqL K H1 b ys ∧ R (Itz K a b) H1) ∨ (SqT K H1 a xs ∧ SqT K H1 b ys ∧ R (RZ.ItzT K a b) H1))) : RZ.iZipA K ta σ H R := q
theorem intAt {xs : List Int} {k : Nat} {y : V} (h : (xs.map V.int)[k]? = some y) : ∃ x, xs[k]? = some x ∧ y = .int x := by
  rw [List.getElem?_map] at h
  cases e : xs[k]? with
  | none => rw [e] at h; cases h
  | some x =>
    rw [e] at h
    exact ⟨x, rfl, (Option.some.inj h).symm⟩
theorem addB_at {a b : Br.B4} {k : Nat} {i j : Int} (h1 : a.l[k]? = some i) (h2 : b.l[k]? = some j) : (addB a b).l[k]? = some (i + j) := by
  rcases k with _ | _ | _ | _ | k <;> simp_all [B4.l, addB]
theorem mulB_at {a : Br.B4} {n : Int} {k : Nat} {i : Int} (h1 : a.l[k]? = some i) : (mulB n a).l[k]? = some (n * i) := by
  rcases k with _ | _ | _ | _ | k <;> simp_all [B4.l, mulB]
theorem b4_at {x : Br.B4} : atI (x.l.map V.int) 0 = some (.int x.a) ∧ atI (x.l.map V.int) 1 = some (.int x.b) ∧ atI (x.l.map V.int) 2 = some (.int x.c) ∧ atI (x.l.map V.int) 3 = some (.int x.d) := ⟨rfl, rfl, rfl, rfl⟩
theorem b4_new {K : PySem.W.Frag} {H : Hp} {p : Addr} {xs : List V} {x : Br.B4} (h : xs = x.l.map V.int) : B4R K (upd H p (.tup xs)) x (.ref p) := ⟨p, rfl, by rw [← h]; exact SqT.of upd_same⟩
def spRow (K : PySem.W.Frag) (n : Nat) : Sp := fun vs H Q _ => ∃ (v : V) (r : Br.Row), vs = [v] ∧ RR K H r v ∧ okR r ∧ dR r < n ∧ ∀ p u1 u2 H', Sm H H' → H' p = some (.tup [u1, u2]) → B4R K H' (chR r).1 u1 → OB K H' (chR r).2 u2 → Q (.ref p) H'
def spRowsR (K : PySem.W.Frag) (n : Nat) : Sp := fun vs H Q _ => ∃ (l : Addr) (xs : List V) (rs : List Br.Row), vs = [.ref l] ∧ H l = some (.lst xs) ∧ RRs K H rs xs ∧ okRs rs ∧ dRs rs < n ∧ ∀ p u1 u2 H', Sm H H' → H' p = some (.tup [u1, u2]) → B4R K H' (chRs rs HERE none).1 u1 → OB K H' (chRs rs HERE none).2 u2 → Q (.ref p) H'
theorem here_R (K : PySem.W.Frag) {H : Hp} {p : Addr} (h : SqT K H p [.int 0, .int 0, .int 0, .int 0]) : B4R K H HERE (.ref p) := ⟨p, rfl, h⟩
theorem chRs_take : ∀ (rs : List Br.Row) (k : Nat) (r : Br.Row) (e : Br.B4) (m : Option Br.B4), rs[k]? = some r → chRs (rs.take (k + 1)) e m = (addB (chRs (rs.take k) e m).1 (chR r).1, arO (chRs (rs.take k) e m).2 (mvO (chR r).2 (chRs (rs.take k) e m).1))
  | [], _, _, _, _, h => by cases h
  | s :: rs, 0, r, e, m, h => by
    cases h
    rfl
  | s :: rs, k + 1, r, e, m, h => by
    have ih := chRs_take rs k r (addB e (chR s).1) (arO m (mvO (chR s).2 e)) (by simpa using h)
    show chRs ((s :: rs).take (k + 1 + 1)) e m = _
    rw [List.take_succ_cons, List.take_succ_cons]
    simp only [chRs]
    exact ih
def spReach (K : PySem.W.Frag) : Sp := fun vs H Q E => ∃ (l : Addr) (xs : List V) (rs : List Br.Row), vs = [.ref l] ∧ H l = some (.lst xs) ∧ RRs K H rs xs ∧ zRs rs ≤ 900000 ∧ dRs rs < 4 ∧ (faultB rs = none → ∀ u H', Sm H H' → OB K H' (chRs rs HERE none).2 u → Q u H') ∧ (∀ p y, faultB rs = some (p, y) → BrE K p y H E)
/-! ### the law's own: counts, hulls, reaches -/
def spCounts (K : PySem.W.Frag) (n : Nat) : Sp := spWeighed K n
theorem spCounts_zero {K : PySem.W.Frag} {vs : List V} {H : Hp} {Q : VK} {E : XK} (h : spCounts K 0 vs H Q E) : False := spWeighed_zero h
theorem st6 {l : Option V} {a b a' b' : Int} {o1 o2 o3 : Option V} (ha : a = a') (hb : b = b') : [l, some (.int a), some (.int b), o1, o2, o3] = [l, some (.int a'), some (.int b'), o1, o2, o3] := by rw [ha, hb]
def spReached (K : PySem.W.Frag) (n : Nat) : Sp := fun vs H Q _ => ∃ (l : Addr) (xs : List V) (rs : List Br.Row) (e m : V) (e0 : Br.B4) (m0 : Option Br.B4), vs = [.ref l, e, m] ∧ H l = some (.lst xs) ∧ RRs K H rs xs ∧ okRs rs ∧ dRs rs < n ∧ B4R K H e0 e ∧ OB K H m0 m ∧
  ∀ p u1 u2 H', Sm H H' → H' p = some (.tup [u1, u2]) → B4R K H' (goRs rs e0 m0).1 u1 → OB K H' (goRs rs e0 m0).2 u2 → Q (.ref p) H'
theorem spReached_zero {K : PySem.W.Frag} {vs : List V} {H : Hp} {Q : VK} {E : XK} (h : spReached K 0 vs H Q E) : False := by
  obtain ⟨l, xs, rs, e, m, e0, m0, _, _, _, _, h, _⟩ := h
  omega
theorem goRs_take : ∀ (rs : List Br.Row) (k : Nat) (r : Br.Row) (e : Br.B4) (m : Option Br.B4), rs[k]? = some r → goRs (rs.take (k + 1)) e m = goR r (goRs (rs.take k) e m).1 (goRs (rs.take k) e m).2
  | [], _, _, _, _, h => by cases h
  | s :: rs, 0, r, e, m, h => by
    cases h
    rfl
  | s :: rs, k + 1, r, e, m, h => by
    have ih := goRs_take rs k r (goR s e m).1 (goR s e m).2 (by simpa using h)
    rw [List.take_succ_cons, List.take_succ_cons]
    simp only [goRs]
    exact ih
theorem turns_more (f : Br.B4 → Option Br.B4 → Br.B4 × Option Br.B4) : ∀ (k : Nat) (e : Br.B4) (m : Option Br.B4), turns f (k + 1) e m = f (turns f k e m).1 (turns f k e m).2
  | 0, e, m => rfl
  | k + 1, e, m => turns_more f k (f e m).1 (f e m).2
def spWholeA : Sp := fun vs H Q _ => ∃ (a : Br.At) (lo hi : Int), vs = [a.v, .int lo, .int hi] ∧ Q (.bl (a.ok lo hi)) H
def spSpans (K : PySem.W.Frag) : Sp := fun vs H Q _ => ∃ (v : V) (r : Br.Row), vs = [v] ∧ RR K H r v ∧ isRow r = true ∧ ∀ l ys H', Sm H H' → H' l = some (.lst ys) → Al (SpR H') (spans r) ys → Q (.ref l) H'
theorem pw9 : (10 : Int) ^ Int.toNat 9 = 1000000000 := by decide +kernel
def spRowF (K : PySem.W.Frag) (n : Nat) : Sp := fun vs H Q _ => ∃ (v : V) (p : Addr) (r : Br.Row) (path : List Int), vs = [v, .ref p] ∧ RR K H r v ∧ H p = some (.tup (path.map V.int)) ∧ lyR r ∧ dR r < n ∧ dR r ≤ 10 ∧ path.length + zR r ≤ 1000000 ∧ ∀ u H', Sm H H' → FlR H' (pre path (fR r)) u → Q u H'
def spRowsF (K : PySem.W.Frag) (n : Nat) : Sp := fun vs H Q _ => ∃ (l p : Addr) (xs : List V) (rs : List Br.Row) (path : List Int), vs = [.ref l, .ref p] ∧ H l = some (.lst xs) ∧ RRs K H rs xs ∧ H p = some (.tup (path.map V.int)) ∧ lyRs rs ∧ dRs rs < n ∧ dRs rs ≤ 10 ∧ path.length + zRs rs ≤ 1000000 ∧ ∀ u H', Sm H H' → FlR H' (pre path (fRs rs 0)) u → Q u H'
theorem arity_tab : ∀ {x : Str}, x ∈ words → valV (mergeK [] [((.inr "move" : Key), V.int 3), (.inr "mark", .int 5), (.inr "often", .int 3), (.inr "if", .int 4)]) (.inr x) = some (.int (arity x : Nat)) := by
  intro x h
  simp only [words, List.mem_cons, List.not_mem_nil, or_false] at h
  rcases h with rfl | rfl | rfl | rfl <;> rfl
theorem tab_word {x : Str} {ks : List Str} (h : (x, ks) ∈ ([("move", ["offset", "offset"]), ("mark", ["word", "side", "side", "figures"]), ("often", ["count", "rows"]), ("if", ["figures", "rows", "rows"])] : List (Str × List Str))) : x ∈ words ∧ ks.length + 1 = arity x := by
  simp only [List.mem_cons, Prod.mk.injEq, List.not_mem_nil, or_false] at h
  rcases h with ⟨rfl, rfl⟩ | ⟨rfl, rfl⟩ | ⟨rfl, rfl⟩ | ⟨rfl, rfl⟩ <;> decide +kernel
theorem al_at' {α : Type} {R : α → V → Prop} : ∀ {as : List α} {ys : List V} {i : Nat} {v : V}, Al R as ys → ys[i]? = some v → ∃ a, as[i]? = some a ∧ R a v
  | [], _, _, _, h, e => by
    obtain rfl : _ = [] := h
    cases e
  | a :: as, _, 0, b, ⟨v, vs, rfl, h1, h2⟩, e => by
    cases e
    exact ⟨a, rfl, h1⟩
  | a :: as, _, i + 1, b, ⟨v, vs, rfl, h1, h2⟩, e => by
    obtain ⟨v', e', h'⟩ := al_at' (as := as) (i := i) h2 (by simpa using e)
    exact ⟨v', by simpa using e', h'⟩
/-- what stands where in a row's tuple -/
theorem row_at {K : PySem.W.Frag} {H : Hp} {r : Br.Row} {a : Addr} {zs : List V} (h : RR K H r (.ref a)) (i : isRow r = true) (ha : H a = some (.tup zs)) : (∀ t ∈ spans r, atI zs t.1 = some t.2.2.2.v) ∧ ∀ t ∈ subs r, ∃ l xs, atI zs t.1 = some (.ref l) ∧ H l = some (.lst xs) ∧ RRs K H t.2 xs := by
  cases r with
  | junk d => cases i
  | move x y =>
    obtain ⟨p, e, h1⟩ := h
    cases e
    rw [ha] at h1
    cases h1
    exact ⟨by intro t ht; simp only [spans, List.mem_cons, List.not_mem_nil, or_false] at ht; rcases ht with rfl | rfl <;> rfl, by intro t ht; cases ht⟩
  | mark w x y f =>
    obtain ⟨p, e, h1⟩ := h
    cases e
    rw [ha] at h1
    cases h1
    exact ⟨by intro t ht; simp only [spans, List.mem_cons, List.not_mem_nil, or_false] at ht; rcases ht with rfl | rfl | rfl <;> rfl, by intro t ht; cases ht⟩
  | often n b =>
    obtain ⟨p, l, xs, e, h1, h2, h3⟩ := h
    cases e
    rw [ha] at h1
    cases h1
    exact ⟨by intro t ht; simp only [spans, List.mem_cons, List.not_mem_nil, or_false] at ht; rcases ht with rfl; rfl, by intro t ht; simp only [subs, List.mem_cons, List.not_mem_nil, or_false] at ht; rcases ht with rfl; exact ⟨l, xs, rfl, h2, h3⟩⟩
  | cond f b c =>
    obtain ⟨p, l, m, xs, ys, e, h1, h2, h3, h4, h5⟩ := h
    cases e
    rw [ha] at h1
    cases h1
    exact ⟨by intro t ht; simp only [spans, List.mem_cons, List.not_mem_nil, or_false] at ht; rcases ht with rfl; rfl, by intro t ht; simp only [subs, List.mem_cons, List.not_mem_nil, or_false] at ht; exact ht.elim (fun z => z ▸ ⟨l, xs, rfl, h2, h4⟩) (fun z => z ▸ ⟨m, ys, rfl, h3, h5⟩)⟩
theorem fSp_next : ∀ {l : List (Int × Int × Int × Br.At)} {i : Nat} {t : Int × Int × Int × Br.At}, fSp (l.take i) = none → l[i]? = some t → (t.2.2.2.ok t.2.1 t.2.2.1 = true → fSp (l.take (i + 1)) = none) ∧ (t.2.2.2.ok t.2.1 t.2.2.1 = false → fSp l = some (([t.1] : List Int), ("number" : Str)))
  | [], _, _, _, e => by cases e
  | (k, lo, hi, a) :: l, 0, t, _, e => by
    cases e
    refine ⟨fun h => ?_, fun h => ?_⟩
    · simp only [List.take_succ_cons, List.take_zero, fSp, nF]
      rw [if_pos h]
      rfl
    · simp only [fSp, nF]
      rw [if_neg (by rw [h]; simp)]
      rfl
  | (k, lo, hi, a) :: l, i + 1, t, h, e => by
    simp only [List.take_succ_cons, fSp] at h
    obtain ⟨h1, h2⟩ := or_none h
    have ih := fSp_next (l := l) (i := i) h2 (by simpa using e)
    simp only [List.take_succ_cons, fSp]
    rw [h1]
    exact ih
theorem fSb_next : ∀ {l : List (Int × List Br.Row)} {i : Nat} {t : Int × List Br.Row}, fSb (l.take i) = none → l[i]? = some t → (fRs t.2 0 = none → fSb (l.take (i + 1)) = none) ∧ (∀ p y, fRs t.2 0 = some (p, y) → fSb l = pre [t.1] (fRs t.2 0))
  | [], _, _, _, e => by cases e
  | (k, b) :: l, 0, t, _, e => by
    cases e
    refine ⟨fun h => ?_, fun p y h => ?_⟩
    · simp only [List.take_succ_cons, List.take_zero, fSb]
      rw [h]
      rfl
    · simp only [fSb]
      rw [h]
      rfl
  | (k, b) :: l, i + 1, t, h, e => by
    simp only [List.take_succ_cons, fSb] at h
    obtain ⟨h1, h2⟩ := or_none h
    have ih := fSb_next (l := l) (i := i) h2 (by simpa using e)
    simp only [List.take_succ_cons, fSb]
    rw [h1]
    exact ih
theorem subs_tab {x : Str} {r : Br.Row} (h : (x, (things r).map Wk.kind) ∈ ([("move", ["offset", "offset"]), ("mark", ["word", "side", "side", "figures"]), ("often", ["count", "rows"]), ("if", ["figures", "rows", "rows"])] : List (Str × List Str))) (i : isRow r = true) (l1 l2 l3 l4 : Addr) :
    ∃ l, valV (mergeK [] [((.inr "move" : Key), V.ref l1), (.inr "mark", .ref l2), (.inr "often", .ref l3), (.inr "if", .ref l4)]) (.inr x) = some (.ref l) ∧ ∀ H : Hp, H l1 = some (.lst []) → H l2 = some (.lst []) → H l3 = some (.lst [.int 2]) → H l4 = some (.lst [.int 2, .int 3]) → H l = some (.lst ((subs r).map fun t => V.int t.1)) := by
  cases r with
  | junk d => cases i
  | move a b =>
    simp only [things, List.map_cons, List.map_nil, Wk.kind, NK.name, List.mem_cons, Prod.mk.injEq, List.not_mem_nil, or_false] at h
    obtain rfl : x = "move" := by
      rcases h with ⟨h, _⟩ | ⟨_, h⟩ | ⟨_, h⟩ | ⟨_, h⟩
      · exact h
      all_goals (exact absurd h (by decide +kernel))
    exact ⟨l1, rfl, fun H h1 _ _ _ => h1⟩
  | mark w a b c =>
    simp only [things, List.map_cons, List.map_nil, Wk.kind, NK.name, List.mem_cons, Prod.mk.injEq, List.not_mem_nil, or_false] at h
    obtain rfl : x = "mark" := by
      rcases h with ⟨_, h⟩ | ⟨h, _⟩ | ⟨_, h⟩ | ⟨_, h⟩
      rotate_left
      · exact h
      all_goals (exact absurd h (by decide +kernel))
    exact ⟨l2, rfl, fun H _ h1 _ _ => h1⟩
  | often n b =>
    simp only [things, List.map_cons, List.map_nil, Wk.kind, NK.name, List.mem_cons, Prod.mk.injEq, List.not_mem_nil, or_false] at h
    obtain rfl : x = "often" := by
      rcases h with ⟨_, h⟩ | ⟨_, h⟩ | ⟨h, _⟩ | ⟨_, h⟩
      rotate_left 2
      · exact h
      all_goals (exact absurd h (by decide +kernel))
    exact ⟨l3, rfl, fun H _ _ h1 _ => h1⟩
  | cond f b c =>
    simp only [things, List.map_cons, List.map_nil, Wk.kind, NK.name, List.mem_cons, Prod.mk.injEq, List.not_mem_nil, or_false] at h
    obtain rfl : x = "if" := by
      rcases h with ⟨_, h⟩ | ⟨_, h⟩ | ⟨_, h⟩ | ⟨h, _⟩
      rotate_left 3
      · exact h
      all_goals (exact absurd h (by decide +kernel))
    exact ⟨l4, rfl, fun H _ _ _ h1 => h1⟩
theorem subs_facts {r : Br.Row} {t : Int × List Br.Row} (h : t ∈ subs r) (hy : lyR r) : lyRs t.2 ∧ dRs t.2 < dR r ∧ zRs t.2 < zR r := by
  cases r with
  | often n b =>
    simp only [subs, List.mem_cons, List.not_mem_nil, or_false] at h
    subst h
    exact ⟨hy, by simp only [dR]; omega, by simp only [zR]; omega⟩
  | cond f b c =>
    simp only [subs, List.mem_cons, List.not_mem_nil, or_false] at h
    have h1 := zRs_pos b
    have h2 := zRs_pos c
    rcases h with rfl | rfl
    · exact ⟨hy.1, by simp only [dR]; omega, by simp only [zR]; omega⟩
    · exact ⟨hy.2, by simp only [dR]; omega, by simp only [zR]; omega⟩
  | _ => cases h
theorem mark_word {K : PySem.W.Frag} {H : Hp} {r : Br.Row} {a : Addr} {x : Str} {xs : List V} (h : RR K H r (.ref a)) (i : isRow r = true) (ha : H a = some (.tup (.str x :: xs))) : (x ≠ "mark" ∧ fWd r = none) ∨ (x = "mark" ∧ ∃ w, fWd r = pre [1] (wF w) ∧ atI (V.str x :: xs) 1 = some (.str w)) := by
  cases r with
  | junk d => cases i
  | move y z =>
    obtain ⟨p, e, h1⟩ := h
    cases e
    rw [ha] at h1
    cases h1
    exact .inl ⟨by decide +kernel, rfl⟩
  | mark w y z f =>
    obtain ⟨p, e, h1⟩ := h
    cases e
    rw [ha] at h1
    cases h1
    exact .inr ⟨rfl, w, rfl, rfl⟩
  | often n b =>
    obtain ⟨p, l, ys, e, h1, _⟩ := h
    cases e
    rw [ha] at h1
    cases h1
    exact .inl ⟨by decide +kernel, rfl⟩
  | cond f b c =>
    obtain ⟨p, l, m, ys, zs, e, h1, _⟩ := h
    cases e
    rw [ha] at h1
    cases h1
    exact .inl ⟨by decide +kernel, rfl⟩
theorem path_cat {K : PySem.W.Frag} {H : Hp} {p t : Addr} {path : List Int} {k : Int} {Q : VK} (hp : H p = some (.tup (path.map V.int))) (ht : H t = some (.tup [.int k])) (hl : path.length ≤ 1000000) (q : ∀ u H', Sm H H' → H' u = some (.tup ((path ++ [k]).map V.int)) → Q (.ref u) H') : rCatA K (.ref p) (.ref t) H Q := by
  refine ⟨p, t, _, _, rfl, rfl, SqT.of hp, SqT.of ht, by rw [List.length_map, sizeLine_eq]; simp; omega, fun z => ?_, fun _ z => (by cases z), fun _ _ u hu => ?_⟩
  · have z2 : path = [] := List.map_eq_nil_iff.mp z
    subst z2
    exact q t H (fun _ _ h => h) ht
  · exact q u _ (sm_new hu) (by rw [upd_same]; simp)
def spFirst (K : PySem.W.Frag) : Sp := fun vs H Q _ => ∃ (l : Addr) (xs : List V) (rs : List Br.Row), vs = [.ref l] ∧ H l = some (.lst xs) ∧ RRs K H rs xs ∧ lyRs rs ∧ dRs rs < 4 ∧ zRs rs ≤ 900000 ∧ ∀ u H', Sm H H' → FlR H' (faultB rs) u → Q u H'
def spTold (K : PySem.W.Frag) : Sp := fun vs H Q _ => ∃ (way : Int) (l : Addr) (xs : List V) (rs : List Br.Row), vs = [.int way, .ref l] ∧ H l = some (.lst xs) ∧ RRs K H rs xs ∧ zRs rs ≤ 900000 ∧ dRs rs < 4 ∧
  (faultB rs = none → way = 0 → ∀ H', Sm H H' → Q .non H') ∧ (faultB rs = none → way ≠ 0 → ∀ u H', Sm H H' → OB K H' (chRs rs HERE none).2 u → Q u H') ∧ (∀ p y, faultB rs = some (p, y) → ∀ a t H', Sm H H' → H' a = some (.lst [.ref t, .str y]) → H' t = some (.tup (p.map V.int)) → Q (.ref a) H')
/-! ### brushes as drawn -/
def capR (d : Nat) : Int := if d = 0 then 100 else if d = 1 then 1000 else 10000
def costR (d : Nat) : Int := if d = 0 then 24 else if d = 1 then 200 else 2100
def lenR (d : Nat) : Nat := if d = 0 then 2 else if d = 1 then 3 else 4
def spDrawn (K : PySem.W.Frag) (n : Nat) : Sp := fun vs H Q _ => ∃ (p : Addr) (m : Int) (o : HO) (d : Nat) (N : Hp), vs = [.ref p, .int (d : Nat)] ∧ H p = some o ∧ Purse m o ∧ m + ((d : Nat) : Int) * 100000 ≤ 100000000300000 ∧ d < n ∧ d ≤ 2 ∧ Sm N H ∧ N p = none ∧
  ∀ l xs rs o' H' N', Keep p H H' → H' p = some o' → Purse (m + capR d) o' → Grow N H N' H' → N' l = some (.lst xs) → RRs K N' rs xs → (∀ r ∈ rs, GoodRow d r) → rs.length ≤ lenR d → Q (.ref l) H'
theorem spDrawn_zero {K : PySem.W.Frag} {vs : List V} {H : Hp} {Q : VK} {E : XK} (h : spDrawn K 0 vs H Q E) : False := by
  obtain ⟨p, m, o, d, N, _, _, _, _, h, _⟩ := h
  omega
/-- how it stands while rows are drawn -/
structure Dw (K : PySem.W.Frag) (N H : Hp) (p L : Addr) (d : Nat) (c : Int) (G N1 : Hp) (ys : List V) (rs : List Br.Row) : Prop where
  keep : Keep p H G
  ap : ∃ o, G p = some o ∧ Purse c o
  grow : Grow N H N1 G
  np : N1 p = none
  nL : N1 L = none
  at_ : G L = some (.lst ys)
  pL : L ≠ p
  hL : H L = none
  rrs : RRs K N1 rs ys
  good : ∀ r ∈ rs, GoodRow d r
section
variable {K : PySem.W.Frag} {N H : Hp} {p L : Addr} {d : Nat} {c : Int} {G N1 : Hp} {ys : List V} {rs : List Br.Row}
theorem Dw.new (D : Dw K N H p L d c G N1 ys rs) {t : Addr} {u : HO} (h : G t = none) : Dw K N H p L d c (upd G t u) N1 ys rs := by
  have nt : N1 t = none := by
    cases e : N1 t with
    | none => rfl
    | some v => have := D.grow.dn _ _ e; rw [h] at this; cases this
  obtain ⟨o, h1, h2⟩ := D.ap
  exact ⟨D.keep.new h, ⟨o, sm_up h _ _ h1, h2⟩, D.grow.aside nt, D.np, D.nL, sm_up h _ _ D.at_, D.pL, D.hL, D.rrs, D.good⟩
theorem Dw.draw (D : Dw K N H p L d c G N1 ys rs) {o : HO} {c' : Int} (h : Purse c' o) : Dw K N H p L d c' (upd G p o) N1 ys rs :=
  ⟨D.keep.put, ⟨o, upd_same, h⟩, D.grow.aside D.np, D.np, D.nL, by rw [upd_ne D.pL]; exact D.at_, D.pL, D.hL, D.rrs, D.good⟩
theorem Dw.dom (D : Dw K N H p L d c G N1 ys rs) : ∀ b, H b ≠ none → G b ≠ none := fun b h => by
  by_cases e : b = p
  · obtain ⟨o, h1, _⟩ := D.ap
    rw [e, h1]
    simp
  · cases q : H b with
    | none => exact absurd q h
    | some u => rw [D.keep b u e q]; simp
/-- a row behind the others, that lies in N2 -/
theorem Dw.push (D : Dw K N H p L d c G N1 ys rs) {G2 N2 : Hp} {c2 : Int} {o2 : HO} {v : V} {r : Br.Row} (k : Keep p G G2) (ap : G2 p = some o2) (hP : Purse c2 o2) (g : Grow N1 G N2 G2) (hr : RR K N2 r v) (hg : GoodRow d r) : Dw K N H p L d c2 (upd G2 L (.lst (ys ++ [v]))) N2 (ys ++ [v]) (rs ++ [r]) := by
  obtain ⟨o, h1, h2⟩ := D.ap
  have nL : N2 L = none := (g.same L (by rw [D.at_]; simp)).trans D.nL
  have np : N2 p = none := (g.same p (by rw [h1]; simp)).trans D.np
  refine ⟨fun b u n h => ?_, ⟨o2, by rw [upd_ne (Ne.symm D.pL)]; exact ap, hP⟩, (D.grow.trans g D.dom).aside nL, np, nL, upd_same, D.pL, D.hL, rrs_snoc (rrs_mono g.up D.rrs) hr, fun x hx => (List.mem_append.mp hx).elim (D.good x) fun h => List.mem_singleton.mp h ▸ hg⟩
  rw [upd_ne (fun e => by rw [e, D.hL] at h; cases h)]
  exact k b u n (D.keep b u n h)
theorem Dw.fin (D : Dw K N H p L d c G N1 ys rs) : Grow N H (upd N1 L (.lst ys)) G ∧ RRs K (upd N1 L (.lst ys)) rs ys :=
  ⟨⟨fun b u h => sm_up D.nL _ _ (D.grow.up _ _ h), fun b u h => by
      by_cases e : b = L
      · subst e
        rw [upd_same] at h
        rw [← h]
        exact D.at_
      · rw [upd_ne e] at h
        exact D.grow.dn _ _ h, fun b h => by rw [upd_ne (fun e => h (by rw [e]; exact D.hL))]; exact D.grow.same b h⟩, rrs_mono (sm_up D.nL) D.rrs⟩
theorem Dw.tup (D : Dw K N H p L d c G N1 ys rs) {t : Addr} {u : List V} {r : Br.Row} {c2 : Int} (ht : G t = none) (hr : RR K (upd N1 t (.tup u)) r (.ref t)) (hg : GoodRow d r) (hc : c ≤ c2) : Dw K N H p L d c2 (upd (upd G t (.tup u)) L (.lst (ys ++ [.ref t]))) (upd N1 t (.tup u)) (ys ++ [.ref t]) (rs ++ [r]) := by
  obtain ⟨o, h1, h2⟩ := D.ap
  exact D.push (Keep.refl.new ht) (sm_up ht _ _ h1) (h2.mono hc) (Grow.new D.grow.dn ht) hr hg
end
/-- a brush without a fault, as laws draw it -/
structure Fine (rs : List Br.Row) : Prop where
  f : faultB rs = none
  ok : okRs rs
  ly : lyRs rs
  dp : dRs rs ≤ 2
  z : zRs rs ≤ 1000
def spBrush (K : PySem.W.Frag) : Sp := fun vs H Q _ => ∃ (p : Addr) (m : Int) (o : HO) (N : Hp), vs = [.ref p] ∧ H p = some o ∧ Purse m o ∧ m ≤ 100000000000000 ∧ Sm N H ∧ N p = none ∧
  ∀ l xs rs o' H' N', Keep p H H' → H' p = some o' → Purse (m + 10000) o' → Grow N H N' H' → N' l = some (.lst xs) → RRs K N' rs xs → Fine rs → Q (.ref l) H'
theorem dom_new {H : Hp} {t : Addr} {u : HO} : ∀ b, H b ≠ none → upd H t u b ≠ none := fun b h => by
  by_cases e : b = t
  · rw [e, upd_same]; simp
  · rw [upd_ne e]; exact h
theorem Grow.sm {N H N1 H1 H2 : Hp} (g : Grow N H N1 H1) (s : Sm H1 H2) : Grow N H N1 H2 := ⟨g.up, sm_trans g.dn s, g.same⟩
theorem sm_dom {H H' : Hp} (s : Sm H H') : ∀ b, H b ≠ none → H' b ≠ none := fun b h => by
  cases q : H b with
  | none => exact absurd q h
  | some u => rw [s b u q]; simp
/-! ### a row bent -/
def spBentRow (K : PySem.W.Frag) : Sp := fun vs H Q _ => ∃ (p : Addr) (m : Int) (o : HO) (v : V) (r : Br.Row) (N : Hp), vs = [.ref p, v] ∧ H p = some o ∧ Purse m o ∧ m ≤ 100000000000000 ∧ Sm N H ∧ N p = none ∧ RR K N r v ∧ okR r ∧ lyR r ∧ dR r ≤ 3 ∧
  ∀ v' r' o' H' N', Keep p H H' → H' p = some o' → Purse (m + 16) o' → Grow N H N' H' → RR K N' r' v' → lyR r' → dR r' ≤ dR r → zR r' ≤ zR r → Q v' H'
mutual
theorem rD_dep : ∀ {r : Br.Row}, okR r → PyData.depth (rD r) ≤ 2 * dR r + 2
  | .move a b, _ => by
    have h1 := (at_lay a).2
    have h2 := (at_lay b).2
    simp only [rD, PyData.depth, PyData.depthAll, dR]
    omega
  | .mark w x y f, _ => by
    have h1 := (at_lay x).2
    have h2 := (at_lay y).2
    have h3 := (at_lay f).2
    simp only [rD, PyData.depth, PyData.depthAll, dR]
    omega
  | .often n b, h => by
    have h1 := (at_lay n).2
    have h2 := rsD_dep (rs := b) h.2
    simp only [rD, PyData.depth, PyData.depthAll, dR]
    omega
  | .cond f b c, h => by
    have h1 := (at_lay f).2
    have h2 := rsD_dep (rs := b) h.1
    have h3 := rsD_dep (rs := c) h.2
    simp only [rD, PyData.depth, PyData.depthAll, dR]
    omega
  | .junk d, h => h.elim
theorem rsD_dep : ∀ {rs : List Br.Row}, okRs rs → PyData.depthAll (rsD rs) ≤ 2 * dRs rs + 2
  | [], _ => by simp [rsD, PyData.depthAll]
  | r :: rs, h => by
    have h1 := rD_dep (r := r) h.1
    have h2 := rsD_dep (rs := rs) h.2
    simp only [rsD, PyData.depthAll, dRs]
    omega
end
theorem it_lst {K : PySem.W.Frag} {a : Addr} {xs : List V} {Body : V → Hp → (Hp → Prop) → Prop} {End : Hp → Prop} {H0 : Hp} (I : Nat → Hp → Prop) (start : I 0 H0) (at_ : ∀ k G, I k G → SqL K G a xs)
    (turn : ∀ k v G, xs[k]? = some v → I k G → Body v G (I (k + 1))) (fin : ∀ G, I xs.length G → End G) :
    ∃ W : Nat → Nat → Hp → Prop, (∃ m, W 0 m H0) ∧ ∀ i m H, W i m H → ((Itl K a).stop i H ∧ End H) ∨ ((Itl K a).go i H ∧ ∃ Nx : Hp → Prop, (∀ H', Nx H' → ∃ m', m' < m ∧ W (i + 1) m' H') ∧ ∀ x H', (Itl K a).yld i H x H' → Body x H' Nx) := by
  refine ⟨fun k c G => c + k = xs.length ∧ I k G, ⟨xs.length, rfl, start⟩, fun k c G hw => ?_⟩
  obtain ⟨hc, hI⟩ := hw
  have hq := at_ k G hI
  cases c with
  | zero =>
    obtain rfl : k = xs.length := by omega
    exact .inl ⟨⟨xs, hq, Nat.le_refl _⟩, fin G hI⟩
  | succ c =>
    have hk : k < xs.length := by omega
    refine .inr ⟨⟨xs, xs[k], hq, List.getElem?_eq_getElem hk⟩, I (k + 1), fun G' h' => ⟨c, Nat.lt_succ_self c, by omega, h'⟩, fun v G' hy => ?_⟩
    obtain ⟨rfl, hy⟩ := hy
    exact turn k v G' (hy xs hq) hI
theorem SpR.monoD {H H' : Hp} {D : Addr} {l : List V} (s : ∀ b u, b ≠ D → H b = some u → H' b = some u) (hd : H D = some (.lst l)) {x : Int × Int × Int × Br.At} {v : V} : SpR H x v → SpR H' x v := fun ⟨a, e, h⟩ => ⟨a, e, s _ _ (fun z => by rw [z, hd] at h; cases h) h⟩
theorem filter_take {α : Type} (f : α → Bool) {l : List α} {k : Nat} {t : α} (h : l[k]? = some t) : (l.take (k + 1)).filter f = (l.take k).filter f ++ if f t then [t] else [] := by
  rw [List.take_add_one, h, List.filter_append]
  congr 1
  simp [List.filter_cons]
theorem n_none {N H : Hp} {t : Addr} (s : Sm N H) (h : H t = none) : N t = none := by
  cases e : N t with
  | none => rfl
  | some u => have := s _ _ e; rw [h] at this; cases this
theorem bent_out {K : PySem.W.Frag} {N H : Hp} {p : Addr} {m : Int} {r : Br.Row} {Q : VK} (hS : Sm N H) (hN : N p = none) {G : Hp} (k2 : Keep p H G) (s2 : Sm N G) (dm : ∀ b, H b ≠ none → G b ≠ none)
    (q : ∀ v' r' o' H' N', Keep p H H' → H' p = some o' → Purse (m + 16) o' → Grow N H N' H' → RR K N' r' v' → lyR r' → dR r' ≤ dR r → zR r' ≤ zR r → Q v' H')
    {G9 G11 G12 : Hp} {o3 : HO} {t : Addr} {xs' : List V} {r' : Br.Row} (s9 : Sm G G9) (hP : Purse (m + 12) o3) (s11 : Sm (upd G9 p o3) G11) (ht : G11 t = none) (s12 : Sm (upd G11 t (.tup xs')) G12)
    (hR : Sm N (upd N t (.tup xs')) → RR K (upd N t (.tup xs')) r' (.ref t)) (hy : lyR r') (hd : dR r' ≤ dR r) (hz : zR r' ≤ zR r) : Q (.ref t) G12 := by
  have n10 : Sm N (upd G9 p o3) := fun b u hb => by
    rw [upd_ne (fun e => by rw [e, hN] at hb; cases hb)]
    exact s9 _ _ (s2 _ _ hb)
  have n11 := sm_trans n10 s11
  have d11 : ∀ b, H b ≠ none → G11 b ≠ none := fun b hb => sm_dom s11 b (by
    by_cases e : b = p
    · rw [e, upd_same]; simp
    · rw [upd_ne e]; exact sm_dom s9 b (dm b hb))
  have k11 : Keep p H G11 := fun b u n hb => s11 _ _ (by rw [upd_ne n]; exact s9 _ _ (k2 b u n hb))
  have g0 : Grow N H N G11 := ⟨fun _ _ h => h, n11, fun _ _ => rfl⟩
  have g1 := Grow.sm (g0.trans (Grow.new (u := .tup xs') n11 ht) d11) s12
  exact q (.ref t) r' o3 G12 _ (fun b u n hb => s12 _ _ (sm_up ht _ _ (k11 b u n hb))) (s12 _ _ (sm_up ht _ _ (s11 _ _ upd_same))) (hP.mono (by omega)) g1 (hR (sm_up (n_none n11 ht))) hy hd hz
/-! ### rows with one put in another's place -/
theorem rrs_set {K : PySem.W.Frag} {H : Hp} {r : Br.Row} {v : V} : ∀ {rs : List Br.Row} {xs : List V} (i : Nat), RRs K H rs xs → RR K H r v → RRs K H (rs.set i r) (xs.set i v)
  | [], _, _, h, _ => by
    obtain rfl : _ = [] := h
    exact rfl
  | s :: rs, _, 0, ⟨w, ws, e, h1, h2⟩, h' => by
    subst e
    exact ⟨v, ws, rfl, h', h2⟩
  | s :: rs, _, i + 1, ⟨w, ws, e, h1, h2⟩, h' => by
    subst e
    exact ⟨w, ws.set i v, rfl, h1, rrs_set i h2 h'⟩
theorem dRs_set {r : Br.Row} {d : Nat} (h' : dR r ≤ d) : ∀ {rs : List Br.Row} (i : Nat), dRs rs ≤ d → dRs (rs.set i r) ≤ d
  | [], _, h => h
  | s :: rs, 0, h => by
    simp only [dRs, List.set_cons_zero] at h ⊢
    omega
  | s :: rs, i + 1, h => by
    simp only [dRs, List.set_cons_succ] at h ⊢
    have := dRs_set h' (rs := rs) i (by omega)
    omega
theorem zRs_set {r r' : Br.Row} : ∀ {rs : List Br.Row} (i : Nat), rs[i]? = some r → zRs (rs.set i r') + zR r = zRs rs + zR r'
  | [], _, h => by cases h
  | s :: rs, 0, h => by
    cases h
    simp only [zRs, List.set_cons_zero]
    omega
  | s :: rs, i + 1, h => by
    simp only [zRs, List.set_cons_succ]
    have := zRs_set (rs := rs) (r' := r') i (by simpa using h)
    omega
theorem lyRs_set {r : Br.Row} (h' : lyR r) : ∀ {rs : List Br.Row} (i : Nat), lyRs rs → lyRs (rs.set i r)
  | [], _, h => h
  | s :: rs, 0, h => ⟨h', h.2⟩
  | s :: rs, i + 1, h => ⟨h.1, lyRs_set h' i h.2⟩
theorem len_zRs : ∀ rs : List Br.Row, rs.length ≤ zRs rs
  | [] => Nat.zero_le _
  | r :: rs => by
    have := len_zRs rs
    have := zR_pos r
    simp only [zRs, List.length_cons]
    omega
theorem cut_to (xs : List V) (k : Nat) (h : k ≤ xs.length) : cutV xs none (some (k : Int)) = xs.take k := by
  unfold cutV
  rw [HT.sIx_nat, HT.sIx_none, Nat.min_eq_left h]
  simp
theorem cut_from (xs : List V) (k : Nat) (h : k ≤ xs.length) : cutV xs (some (k : Int)) none = xs.drop k := by
  unfold cutV
  rw [HT.sIx_nat, HT.sIx_none, Nat.min_eq_left h, List.take_of_length_le (by simp)]
theorem cat_set {xs : List V} {i : Nat} {v : V} (h : i < xs.length) : xs.take i ++ [v] ++ xs.drop (i + 1) = xs.set i v := by
  rw [List.set_eq_take_append_cons_drop, if_pos h]
  simp
/-- what is drawn lies in N1, apart from the purse -/
structure Bw (N H : Hp) (p : Addr) (c : Int) (G N1 : Hp) : Prop where
  keep : Keep p H G
  ap : ∃ o, G p = some o ∧ Purse c o
  grow : Grow N H N1 G
  np : N1 p = none
section
variable {N H : Hp} {p : Addr} {c : Int} {G N1 : Hp}
theorem Bw.nn (D : Bw N H p c G N1) {t : Addr} (h : G t = none) : N1 t = none := n_none D.grow.dn h
theorem Bw.dom (D : Bw N H p c G N1) : ∀ b, H b ≠ none → G b ≠ none := fun b h => by
  by_cases e : b = p
  · obtain ⟨o, h1, _⟩ := D.ap
    rw [e, h1]
    simp
  · cases q : H b with
    | none => exact absurd q h
    | some u => rw [D.keep b u e q]; simp
theorem Bw.new (D : Bw N H p c G N1) {t : Addr} {u : HO} (h : G t = none) : Bw N H p c (upd G t u) N1 := by
  obtain ⟨o, h1, h2⟩ := D.ap
  exact ⟨D.keep.new h, ⟨o, sm_up h _ _ h1, h2⟩, D.grow.aside (D.nn h), D.np⟩
theorem Bw.put (D : Bw N H p c G N1) {t : Addr} {u : HO} (h : G t = none) : Bw N H p c (upd G t u) (upd N1 t u) := by
  obtain ⟨o, h1, h2⟩ := D.ap
  exact ⟨D.keep.new h, ⟨o, sm_up h _ _ h1, h2⟩, D.grow.trans (Grow.new D.grow.dn h) D.dom, by rw [upd_ne (fun e => by rw [← e, h1] at h; cases h)]; exact D.np⟩
theorem Bw.draw (D : Bw N H p c G N1) {o : HO} {c' : Int} (h : Purse c' o) : Bw N H p c' (upd G p o) N1 := ⟨D.keep.put, ⟨o, upd_same, h⟩, D.grow.aside D.np, D.np⟩
theorem Bw.call (D : Bw N H p c G N1) {G2 N2 : Hp} {c2 : Int} {o2 : HO} (k : Keep p G G2) (ap : G2 p = some o2) (hP : Purse c2 o2) (g : Grow N1 G N2 G2) : Bw N H p c2 G2 N2 := by
  obtain ⟨o, h1, h2⟩ := D.ap
  exact ⟨D.keep.trans k, ⟨o2, ap, hP⟩, D.grow.trans g D.dom, (g.same p (by rw [h1]; simp)).trans D.np⟩
theorem Bw.sm (D : Bw N H p c G N1) {G2 : Hp} (s : Sm G G2) : Bw N H p c G2 N1 := by
  obtain ⟨o, h1, h2⟩ := D.ap
  exact ⟨fun b u n h => s _ _ (D.keep b u n h), ⟨o, s _ _ h1, h2⟩, Grow.sm D.grow s, D.np⟩
end
def wordR : Br.Row → Str
  | .move _ _ => "move"
  | .mark _ _ _ _ => "mark"
  | .often _ _ => "often"
  | .cond _ _ _ => "if"
  | .junk _ => ""
def nestR : Br.Row → Bool
  | .often _ _ => true
  | .cond _ _ _ => true
  | _ => false
theorem rr_head {K : PySem.W.Frag} {H : Hp} : ∀ {r : Br.Row} {v : V}, okR r → RR K H r v → ∃ pr zs, v = .ref pr ∧ H pr = some (.tup (.str (wordR r) :: zs)) ∧ inV (V.str (wordR r)) [.str "often", .str "if"] = nestR r
  | .move _ _, _, _, ⟨p, e, h⟩ => ⟨p, _, e, h, by show inV (V.str "move") _ = false; decide +kernel⟩
  | .mark _ _ _ _, _, _, ⟨p, e, h⟩ => ⟨p, _, e, h, by show inV (V.str "mark") _ = false; decide +kernel⟩
  | .often _ _, _, _, ⟨p, _, _, e, h, _⟩ => ⟨p, _, e, h, by show inV (V.str "often") _ = true; decide +kernel⟩
  | .cond _ _ _, _, _, ⟨p, _, _, _, _, e, h, _⟩ => ⟨p, _, e, h, by show inV (V.str "if") _ = true; decide +kernel⟩
  | .junk _, _, h, _ => h.elim
def spBent (K : PySem.W.Frag) (n : Nat) : Sp := fun vs H Q _ => ∃ (p : Addr) (m : Int) (o : HO) (l : Addr) (xs : List V) (rs : List Br.Row) (N : Hp), vs = [.ref p, .ref l] ∧ H p = some o ∧ Purse m o ∧ m + 24 * ((dRs rs : Nat) : Int) ≤ 99999999999000 ∧ Sm N H ∧ N p = none ∧ N l = some (.lst xs) ∧ RRs K N rs xs ∧ okRs rs ∧ lyRs rs ∧ dRs rs < n ∧ dRs rs ≤ 3 ∧ zRs rs ≤ 100000 ∧
  ∀ l' xs' rs' o' H' N', Keep p H H' → H' p = some o' → Purse (m + 24 + 24 * ((dRs rs : Nat) : Int)) o' → Grow N H N' H' → N' l' = some (.lst xs') → RRs K N' rs' xs' → lyRs rs' → dRs rs' ≤ dRs rs → zRs rs' ≤ zRs rs + 10 → Q (.ref l') H'
theorem spBent_zero {K : PySem.W.Frag} {vs : List V} {H : Hp} {Q : VK} {E : XK} (h : spBent K 0 vs H Q E) : False := by
  obtain ⟨_, _, _, _, _, _, _, _, _, _, _, _, _, _, _, _, _, h, _⟩ := h
  omega
def spGreat : Sp := fun vs H Q _ => vs = [] ∧ ∀ H', Sm H H' → Q (.bl true) H'
theorem rrs_rep {K : PySem.W.Frag} {H : Hp} {r : Br.Row} {v : V} (h : RR K H r v) : ∀ n : Nat, RRs K H (List.replicate n r) (List.replicate n v)
  | 0 => rfl
  | n + 1 => ⟨v, _, rfl, h, rrs_rep h n⟩
theorem rrs_cat {K : PySem.W.Frag} {H : Hp} : ∀ {rs ss : List Br.Row} {xs ys : List V}, RRs K H rs xs → RRs K H ss ys → RRs K H (rs ++ ss) (xs ++ ys)
  | [], _, _, _, h, h' => by
    obtain rfl : _ = [] := h
    exact h'
  | r :: rs, _, _, _, ⟨v, vs, e, h1, h2⟩, h' => by
    subst e
    exact ⟨v, _, rfl, h1, rrs_cat h2 h'⟩
/-! ### the law -/
def obD : Option Br.B4 → PyData
  | none => .none
  | some x => .tuple (x.l.map PyData.int)
theorem dp_ints {K : PySem.W.Frag} {H : Hp} : ∀ xs : List Int, DpAll K H (xs.map V.int) (xs.map PyData.int)
  | [] => .nil
  | x :: xs => .cons (.int x) (dp_ints xs)
theorem ob_dp {K : PySem.W.Frag} {H : Hp} : ∀ {x : Option Br.B4} {v : V}, OB K H x v → Dp K H v (obD x)
  | none, _, h => by
    obtain rfl : _ = V.non := h
    exact .non
  | some x, _, ⟨p, e, h⟩ => e ▸ .tup h (dp_ints _)
theorem ob_shaped (x : Option Br.B4) : SeqAt.shaped (obD x) = true := by cases x <;> simp [obD, SeqAt.shaped, B4.l, PyData.canLay0, PyData.canLayAll0, PyData.depth, PyData.depthAll]
theorem ob_eqv (x : Option Br.B4) : PyData.eqv (obD x) (obD x) = true := by cases x <;> simp [obD, B4.l, PyData.eqv, PyData.eqvAll]
def okFl : Fl → Prop
  | none => True
  | some (_, y) => PyData.strOk y = true
theorem ok_pre {k : List Int} : ∀ {x : Fl}, okFl x → okFl (pre k x)
  | none, _ => True.intro
  | some _, h => h
theorem ok_or : ∀ {x y : Fl}, okFl x → okFl y → okFl (x.or y)
  | none, _, _, h => by simpa using h
  | some _, _, h, _ => by simpa using h
theorem ok_nF (lo hi : Int) (a : Br.At) : okFl (nF lo hi a) := by
  unfold nF
  split
  · exact True.intro
  · show PyData.strOk "number" = true
    decide +kernel
theorem ok_wF (w : Str) : okFl (wF w) := by
  unfold wF
  split
  · exact True.intro
  · show PyData.strOk "kind" = true
    decide +kernel
mutual
theorem ok_fR : ∀ r : Br.Row, okFl (fR r)
  | .move a b => by simp only [fR]; exact ok_or (ok_pre (ok_nF _ _ _)) (ok_pre (ok_nF _ _ _))
  | .mark w p q f => by simp only [fR]; exact ok_or (ok_pre (ok_wF _)) (ok_or (ok_pre (ok_nF _ _ _)) (ok_or (ok_pre (ok_nF _ _ _)) (ok_pre (ok_nF _ _ _))))
  | .often n b => by simp only [fR]; exact ok_or (ok_pre (ok_nF _ _ _)) (ok_pre (ok_fRs b 0))
  | .cond f b c => by simp only [fR]; exact ok_or (ok_pre (ok_nF _ _ _)) (ok_or (ok_pre (ok_fRs b 0)) (ok_pre (ok_fRs c 0)))
  | .junk d => by
    simp only [fR]
    show PyData.strOk "kind" = true
    decide +kernel
theorem ok_fRs : ∀ (rs : List Br.Row) (k : Int), okFl (fRs rs k)
  | [], _ => True.intro
  | r :: rs, k => by simp only [fRs]; exact ok_or (ok_pre (ok_fR r)) (ok_fRs rs (k + 1))
end
theorem ok_faultB (rs : List Br.Row) : okFl (faultB rs) := by
  unfold faultB
  refine ok_or (ok_fRs rs 0) ?_
  split
  · show PyData.strOk "great" = true
    decide +kernel
  · exact True.intro
theorem lay_ints : ∀ xs : List Int, PyData.canLayAll0 (xs.map PyData.int) = true ∧ PyData.depthAll (xs.map PyData.int) ≤ 1
  | [] => ⟨rfl, Nat.zero_le _⟩
  | x :: xs => by
    have := lay_ints xs
    simp only [List.map_cons, PyData.canLayAll0, PyData.canLay0, PyData.depthAll, PyData.depth]
    rw [this.1]
    exact ⟨rfl, by omega⟩
theorem eqv_ints : ∀ xs : List Int, PyData.eqvAll (xs.map PyData.int) (xs.map PyData.int) = true
  | [] => by simp [PyData.eqvAll]
  | x :: xs => by
    simp only [List.map_cons, PyData.eqvAll, PyData.eqv]
    rw [eqv_ints xs]
    simp
theorem flt_shaped {p : List Int} {y : Str} (h : PyData.strOk y = true) : SeqAt.shaped (.list [.tuple (p.map PyData.int), .str y]) = true := by
  have l := lay_ints p
  unfold SeqAt.shaped
  simp only [PyData.canLay0, PyData.canLayAll0, PyData.depth, PyData.depthAll]
  rw [l.1, h]
  exact decide_eq_true (by omega)
theorem flt_eqv {p : List Int} {y : Str} : PyData.eqv (.list [.tuple (p.map PyData.int), .str y]) (.list [.tuple (p.map PyData.int), .str y]) = true := by
  simp only [PyData.eqv, PyData.eqvAll]
  rw [eqv_ints]
  simp
theorem r100 {k : Nat} {A : Around} (r : Room k A) : A.units + 100 < cLine := by have := r.un; omega
def spLaw (K : PySem.W.Frag) : Sp := fun vs H Q _ => ∃ (a : Addr) (ns : List Int), vs = [.ref a] ∧ SqL K H a (ns.map V.int) ∧ ∀ H', Q (.bl true) H'
/-! ### the purse, out of a cut of the script -/
def spPurse2 (K : PySem.W.Frag) : Sp := fun vs H Q _ => ∃ (a : Addr) (ns : List Int) (k : Int), vs = [.ref a, .int k] ∧ SqL K H a (ns.map V.int) ∧ 0 ≤ k ∧ k ≤ 64 ∧ ∀ p o H', H p = none → (∀ b u, H b = some u → H' b = some u) → H' p = some o → Purse 64000 o → Q (.ref p) H'
theorem cut_ints (ns : List Int) (lo hi : Option Int) : cutV (ns.map V.int) lo hi = ((ns.drop (HT.sIx ns.length 0 lo)).take (HT.sIx ns.length ns.length hi - HT.sIx ns.length 0 lo)).map V.int := by
  unfold cutV
  rw [List.length_map, List.map_take, List.map_drop]
section
variable {P : Program} {w : World} {K : PySem.W.Frag} {mg : Str → Option Value} {base : Heap} {f : Addr} {fd : FuncData}
abbrev N_is_from : List Str := ["thing", "low", "high"]
theorem sc_is_from : FnScope N_is_from ["thing", "low", "high"] (defScope s_is_from) := ⟨rfl, rfl, rfl, by decide +kernel, rfl, by decide +kernel, by decide +kernel⟩
theorem ok_is_from (F : FnP K "is_from" s_is_from f fd) (T : Bi mg) (G : Kn w K mg)  : FnOk P w K mg base CX0 1 f fd ["thing", "low", "high"] spIsFrom := by
  refine F.ok sc_is_from (fun vs H Q E h => ?_) (fun cdv A outer s H vs Q E hr h => ⟨_, PSs.nox
(pss_one (ps_ret (pe_and (pe_callB call_isi (by rfl) T.isinstance (by decide +kernel) (pa_cons (pv 0) (pa_cons (pe_bltn (v := .ty "int") (by rfl) T.int boot_int rfl) pa_nil))) (pe_and (pe_chain Bl.op_leB Bl.op_leB (pv 1) (pv 0) (pv 2)) (pe_one (pe_not (pe_callB call_isi (by rfl) T.isinstance (by decide +kernel) (pa_cons (pv 0) (pa_cons (pe_bltn (v := .ty "bool") (by rfl) T.bool boot_bool rfl) pa_nil))))))))), ?_⟩)
  · obtain ⟨a, lo, hi, rfl, _⟩ := h
    rfl
  · obtain ⟨a, lo, hi, rfl, h0, h1, h2, q⟩ := h
    walk_at "lw i0"
    cases a with
    | int i =>
      walk_at "lw go"
      refine ⟨_, _, _, _, true, rfl, .ty "int", .base (.int _), kit_ty (by decide +kernel), ?_⟩
      walk_at "lw go"
      refine ⟨lo, i, rfl, rfl, .inl ⟨_, rfl⟩, _, rfl, g_ite (fun k1 => ?_) (fun k1 => ?_)⟩
      · walk_at "lw go"
        refine ⟨i, hi, rfl, rfl, .inl ⟨_, rfl⟩, _, rfl, g_ite (fun k2 => ?_) (fun k2 => ?_)⟩
        · walk_at "lw go"
          refine ⟨_, _, _, _, false, rfl, .ty "bool", .base (.int _), kit_ty (by decide +kernel), ?_⟩
          walk_at "lw go"
          have e : (At.int i).ok lo hi = true := decide_eq_true ⟨k1, k2⟩
          rw [e] at q
          exact q
        · have e : (At.int i).ok lo hi = false := decide_eq_false fun z => k2 z.2
          rw [e] at q
          exact q
      · have e : (At.int i).ok lo hi = false := decide_eq_false fun z => k1 z.1
        rw [e] at q
        exact ⟨_, rfl, q⟩
    | tru =>
      walk_at "lw go"
      refine ⟨_, _, _, _, true, rfl, .ty "int", .base (.bl _), kit_ty (by decide +kernel), ?_⟩
      walk_at "lw go"
      refine ⟨lo, 1, rfl, rfl, .inl ⟨_, rfl⟩, _, rfl, iteS (by omega) ?_⟩
      walk_at "lw go"
      refine ⟨1, hi, rfl, rfl, .inr ⟨_, rfl⟩, _, rfl, iteS (by omega) ?_⟩
      walk_at "lw go"
      refine ⟨_, _, _, _, true, rfl, .ty "bool", .base (.bl _), kit_ty (by decide +kernel), ?_⟩
      walk_at "lw go"
      exact q
    | non =>
      walk_at "lw go"
      refine ⟨_, _, _, _, false, rfl, .ty "int", .base .non, kit_ty (by decide +kernel), ?_⟩
      walk_at "lw go"
      exact q
    | one =>
      walk_at "lw go"
      refine ⟨_, _, _, _, false, rfl, .ty "int", .base (.str _), kit_ty (by decide +kernel), ?_⟩
      walk_at "lw go"
      exact q
abbrev N_box_around : List Str := ["one", "other"]
theorem sc_box_around : FnScope N_box_around ["one", "other"] (defScope s_box_around) := ⟨rfl, rfl, rfl, by decide +kernel, rfl, by decide +kernel, by decide +kernel⟩
theorem ok_box_around (F : FnP K "box_around" s_box_around f fd) (T : Bi mg) (G : Kn w K mg)  : FnOk P w K mg base CX0 1 f fd ["one", "other"] (spBoth around K) := by
  refine F.ok sc_box_around (fun vs H Q E h => ?_) (fun cdv A outer s H vs Q E hr h => ⟨_, PSs.nox
(pss_one (ps_ret (pe_tup (pa_cons (pe_callB (call_min2 rfl) (by rfl) T.min (by decide +kernel) (pa_cons (pe_ix ix_tup (pv 0) pe_int (fun _ _ => rfl)) (pa_cons (pe_ix ix_tup (pv 1) pe_int (fun _ _ => rfl)) pa_nil))) (pa_cons (pe_callB (call_min2 rfl) (by rfl) T.min (by decide +kernel) (pa_cons (pe_ix ix_tup (pv 0) pe_int (fun _ _ => rfl)) (pa_cons (pe_ix ix_tup (pv 1) pe_int (fun _ _ => rfl)) pa_nil))) (pa_cons (pe_callB (call_max2 rfl) (by rfl) T.max (by decide +kernel) (pa_cons (pe_ix ix_tup (pv 0) pe_int (fun _ _ => rfl)) (pa_cons (pe_ix ix_tup (pv 1) pe_int (fun _ _ => rfl)) pa_nil))) (pa_cons (pe_callB (call_max2 rfl) (by rfl) T.max (by decide +kernel) (pa_cons (pe_ix ix_tup (pv 0) pe_int (fun _ _ => rfl)) (pa_cons (pe_ix ix_tup (pv 1) pe_int (fun _ _ => rfl)) pa_nil))) pa_nil))))))), ?_⟩)
  · obtain ⟨u, v, a, b, rfl, _⟩ := h
    rfl
  · obtain ⟨u, v, a, b, rfl, ⟨p1, rfl, h1⟩, ⟨p2, rfl, h2⟩, q⟩ := h
    walk_at "lw i0"
    obtain ⟨a0, a1, a2, a3⟩ := b4_at (x := a)
    obtain ⟨c0, c1, c2, c3⟩ := b4_at (x := b)
    walk_at "lw go"
    refine g_ixT h1 a0 ?_
    walk_at "lw go"
    refine g_ixT h2 c0 ⟨_, _, rfl, ?_⟩
    walk_at "lw go"
    refine g_ixT h1 a1 ?_
    walk_at "lw go"
    refine g_ixT h2 c1 ⟨_, _, rfl, ?_⟩
    walk_at "lw go"
    refine g_ixT h1 a2 ?_
    walk_at "lw go"
    refine g_ixT h2 c2 ⟨_, _, rfl, ?_⟩
    walk_at "lw go"
    refine g_ixT h1 a3 ?_
    walk_at "lw go"
    refine g_ixT h2 c3 ⟨_, _, rfl, ?_⟩
    walk_at "lw go"
    refine ⟨by rw [sizeLine_eq]; simp, fun p hp => q _ _ (sm_new hp) (b4_new ?_)⟩
    have e1 : ∀ i j : Int, (if j < i then j else i) = min i j := fun i j => by split <;> omega
    have e2 : ∀ i j : Int, (if j > i then j else i) = max i j := fun i j => by split <;> omega
    simp [around, B4.l, e1, e2]
abbrev N_weighed : List Str := ["rows", "marks", "many", "row", "more", "longer", "one", "other"]
theorem sc_weighed : FnScope N_weighed ["rows"] (defScope s_weighed) := ⟨rfl, rfl, rfl, by decide +kernel, rfl, by decide +kernel, by decide +kernel⟩
theorem ok_weighed (F : FnP K "weighed" s_weighed f fd) (T : Bi mg) (G : Kn w K mg)  (gm : mg "weighed" = some (.ref f)) (kp : PySem.W.keepIn K (.ref f) = true) (bb : Binds K fd ["rows"] []) : ∀ n : Nat, FnOk P w K mg base CX0 (n + 1) f fd ["rows"] (spWeighed K n)
  | 0 => by
    refine F.ok sc_weighed (fun vs H Q E h => ?_) (fun cdv A outer s H vs Q E hr h => ?_)
    · obtain ⟨l, xs, rs, rfl, _⟩ := h
      rfl
    · exact (spWeighed_zero h).elim
  | n + 1 => by
    have D_weighed : Df P w K mg base "weighed" ["rows"] (n + 1) (spWeighed K n) := ⟨f, fd, gm, kp, bb, ok_weighed F T G  gm kp bb n⟩
    refine F.ok (k := n + 1) sc_weighed (fun vs H Q E h => ?_) (fun cdv A outer s H vs Q E hr h => ⟨_, PSs.nox
(pss_cons (ps_asg (pe_tup (pa_cons pe_int (pa_cons pe_int pa_nil))) (pg_tup (by rfl) (pgs_cons (pg_name (i := 1) sc_weighed.nd rfl (Or.inl rfl)) (pgs_cons (pg_name (i := 2) sc_weighed.nd rfl (Or.inl rfl)) pgs_nil))))
  (pss_cons (ps_for PassesOwn.never rfl (pi_list (pv 0)) (pg_name (i := 3) sc_weighed.nd rfl (Or.inl rfl))
  (pss_cons (ps_aug (i := 2) sc_weighed.nd rfl (Or.inl rfl) pe_int ip_add)
  (pss_one (ps_if (pt_cmpR op_eq (pe_ix ix_tup (pv 3) pe_int (fun _ _ => rfl)) pe_str (nomark _))
  (pss_one (ps_aug (i := 1) sc_weighed.nd rfl (Or.inl rfl) pe_int ip_add))
  (pss_one (ps_if (pt_cmpR op_eq (pe_ix ix_tup (pv 3) pe_int (fun _ _ => rfl)) pe_str (nomark _))
  (pss_cons (ps_asg (pe_df D_weighed (hr.mono (by first | decide | omega)) (pa_cons (pe_ix ix_tup (pv 3) pe_int (fun _ _ => rfl)) pa_nil)) (pg_tup (by rfl) (pgs_cons (pg_name (i := 4) sc_weighed.nd rfl (Or.inl rfl)) (pgs_cons (pg_name (i := 5) sc_weighed.nd rfl (Or.inl rfl)) pgs_nil))))
  (pss_cons (ps_aug (i := 1) sc_weighed.nd rfl (Or.inl rfl) (pe_op op_mul (pe_ix ix_tup (pv 3) pe_int (fun _ _ => rfl)) (pv 4)) ip_add)
  (pss_one (ps_aug (i := 2) sc_weighed.nd rfl (Or.inl rfl) (pe_op op_mul (pe_ix ix_tup (pv 3) pe_int (fun _ _ => rfl)) (pv 5)) ip_add))))
  (pss_one (ps_if (pt_cmpR op_eq (pe_ix ix_tup (pv 3) pe_int (fun _ _ => rfl)) pe_str (nomark _))
  (pss_cons (ps_par (i := 6) (j := 7) rfl sc_weighed.nd rfl rfl (by decide) rfl rfl (pa_cons (pe_df D_weighed (hr.mono (by first | decide | omega)) (pa_cons (pe_ix ix_tup (pv 3) pe_int (fun _ _ => rfl)) pa_nil)) (pa_cons (pe_df D_weighed (hr.mono (by first | decide | omega)) (pa_cons (pe_ix ix_tup (pv 3) pe_int (fun _ _ => rfl)) pa_nil)) pa_nil)) rfl)
  (pss_cons (ps_aug (i := 1) sc_weighed.nd rfl (Or.inl rfl) (pe_callB (call_max2 rfl) (by rfl) T.max (by decide +kernel) (pa_cons (pe_ix ix_tup (pv 6) pe_int (fun _ _ => rfl)) (pa_cons (pe_ix ix_tup (pv 7) pe_int (fun _ _ => rfl)) pa_nil))) ip_add)
  (pss_one (ps_aug (i := 2) sc_weighed.nd rfl (Or.inl rfl) (pe_callB (call_max2 rfl) (by rfl) T.max (by decide +kernel) (pa_cons (pe_ix ix_tup (pv 6) pe_int (fun _ _ => rfl)) (pa_cons (pe_ix ix_tup (pv 7) pe_int (fun _ _ => rfl)) pa_nil))) ip_add))))
  pss_nil))))))))
  (pss_one (ps_ret (pe_tup (pa_cons (pv 1) (pa_cons (pv 2) pa_nil))))))), ?_⟩)
    · obtain ⟨l, xs, rs, rfl, _⟩ := h
      rfl
    · obtain ⟨l, xs, rs, rfl, hl, hR, ho, hd, q⟩ := h
      walk_at "lw i0"
      walk_at "lw go"
      refine ⟨by rw [sizeLine_eq]; simp, fun t ht => ?_⟩
      have s0 := sm_new (o := .tup [.int 0, .int 0]) ht
      walk_at "lw go"
      refine g_tupT (SqT.of upd_same) rfl ?_
      walk_at "lw go"
      refine ⟨l, rfl, ⟨xs, SqL.of (s0 _ _ hl)⟩, for_list (xs := xs) (fun i σ H' => ∃ o1 o2 o3 o4 o5 : Option V, σ = [some (.ref l), some (.int (mRs (rs.take i)).1), some (.int (mRs (rs.take i)).2), o1, o2, o3, o4, o5] ∧ Sm H H') ⟨none, none, none, none, none, rfl, s0⟩ (fun i σ H' _ ⟨_, _, _, _, _, _, s⟩ => SqL.of (s _ _ hl)) ?_ ?_⟩
      · rintro i y σ H' hy ⟨o1, o2, o3, o4, o5, rfl, s⟩
        obtain ⟨r, hr', hrr⟩ := rrs_at hR hy
        have hrr := rr_mono s hrr
        have hok := okRs_at ho hr'
        have hdr := dRs_at hr'
        rw [mRs_take hr']
        have hs : sizeLine ≥ 2 := by rw [sizeLine_eq]; omega
        walk_at "lw go"
        refine g_aug rfl ?_
        walk_at "lw go"
        refine g_ip ?_
        cases r with
        | junk d => exact hok.elim
        | move a b =>
          obtain ⟨p, rfl, hp⟩ := hrr
          walk_at "lw go"
          refine g_ixT (SqT.of hp) (v := .str "move") (atI_nat (j := 0) (by rfl)) ?_
          walk_at "lw go"
          refine g_ixT (SqT.of hp) (v := .str "move") (atI_nat (j := 0) (by rfl)) ?_
          walk_at "lw go"
          refine g_ixT (SqT.of hp) (v := .str "move") (atI_nat (j := 0) (by rfl)) ?_
          walk_at "lw go"
          exact ⟨_, _, _, _, _, st8 (by simp [mR]) (by simp [mR]), s⟩
        | mark x1 x2 x3 x4 =>
          obtain ⟨p, rfl, hp⟩ := hrr
          walk_at "lw go"
          refine g_ixT (SqT.of hp) (v := .str "mark") (atI_nat (j := 0) (by rfl)) ?_
          walk_at "lw go"
          refine g_aug rfl ?_
          walk_at "lw go"
          refine g_ip ?_
          walk_at "lw go"
          exact ⟨_, _, _, _, _, st8 (by simp [mR]) (by simp [mR]), s⟩
        | often n0 b =>
          obtain ⟨p, l2, xs2, rfl, hp, hl2, hb⟩ := hrr
          obtain ⟨⟨c, rfl, c0, c1⟩, hob⟩ := hok
          walk_at "lw go"
          refine g_ixT (SqT.of hp) (v := .str "often") (atI_nat (j := 0) (by rfl)) ?_
          walk_at "lw go"
          refine g_ixT (SqT.of hp) (v := .str "often") (atI_nat (j := 0) (by rfl)) ?_
          walk_at "lw go"
          refine g_ixT (SqT.of hp) (v := .ref l2) (atI_nat (j := 2) (by rfl)) ?_
          walk_at "lw go"
          refine ⟨l2, xs2, b, rfl, hl2, hb, hob, by simp only [dR] at hdr; omega, fun p2 H2 s2 hp2 => ?_⟩
          walk_at "lw go"
          refine g_tupT (SqT.of hp2) rfl ?_
          walk_at "lw go"
          refine g_aug rfl ?_
          walk_at "lw go"
          refine g_ixT (SqT.of (s2 _ _ hp)) (v := .int c) (atI_nat (j := 1) (by rfl)) ?_
          walk_at "lw go"
          refine g_ip ?_
          walk_at "lw go"
          refine g_aug rfl ?_
          walk_at "lw go"
          refine g_ixT (SqT.of (s2 _ _ hp)) (v := .int c) (atI_nat (j := 1) (by rfl)) ?_
          walk_at "lw go"
          refine g_ip ?_
          walk_at "lw go"
          exact ⟨_, _, _, _, _, st8 (by simp [mR, At.i]) (by simp [mR, At.i, Int.add_assoc]), sm_trans s s2⟩
        | cond f0 b c =>
          obtain ⟨p, l2, l3, xs2, xs3, rfl, hp, hl2, hl3, hb, hc⟩ := hrr
          obtain ⟨hob, hoc⟩ := hok
          walk_at "lw go"
          refine g_ixT (SqT.of hp) (v := .str "if") (atI_nat (j := 0) (by rfl)) ?_
          walk_at "lw go"
          refine g_ixT (SqT.of hp) (v := .str "if") (atI_nat (j := 0) (by rfl)) ?_
          walk_at "lw go"
          refine g_ixT (SqT.of hp) (v := .str "if") (atI_nat (j := 0) (by rfl)) ?_
          walk_at "lw go"
          refine g_par ?_
          walk_at "lw go"
          refine g_ixT (SqT.of hp) (v := .ref l2) (atI_nat (j := 2) (by rfl)) ?_
          walk_at "lw go"
          refine ⟨l2, xs2, b, rfl, hl2, hb, hob, by simp only [dR] at hdr; omega, fun p2 H2 s2 hp2 => ?_⟩
          walk_at "lw go"
          refine g_ixT (SqT.of (s2 _ _ hp)) (v := .ref l3) (atI_nat (j := 3) (by rfl)) ?_
          walk_at "lw go"
          refine ⟨l3, xs3, c, rfl, s2 _ _ hl3, rrs_mono s2 hc, hoc, by simp only [dR] at hdr; omega, fun p3 H3 s3 hp3 => ?_⟩
          have hp2' := s3 _ _ hp2
          walk_at "lw go"
          refine ⟨_, _, rfl, ?_⟩
          walk_at "lw go"
          refine g_aug rfl ?_
          walk_at "lw go"
          refine g_ixT (SqT.of hp2') (v := .int (mRs b).1) (atI_nat (j := 0) (by rfl)) ?_
          walk_at "lw go"
          refine g_ixT (SqT.of hp3) (v := .int (mRs c).1) (atI_nat (j := 0) (by rfl)) ?_
          walk_at "lw go"
          refine ⟨_, _, rfl, g_ip ?_⟩
          walk_at "lw go"
          refine g_aug rfl ?_
          walk_at "lw go"
          refine g_ixT (SqT.of hp2') (v := .int (mRs b).2) (atI_nat (j := 1) (by rfl)) ?_
          walk_at "lw go"
          refine g_ixT (SqT.of hp3) (v := .int (mRs c).2) (atI_nat (j := 1) (by rfl)) ?_
          walk_at "lw go"
          refine ⟨_, _, rfl, g_ip ?_⟩
          walk_at "lw go"
          exact ⟨_, _, _, _, _, st8 (by simp only [mR]; split <;> omega) (by simp only [mR]; split <;> omega), sm_trans s (sm_trans s2 s3)⟩
      · rintro σ H' ⟨o1, o2, o3, o4, o5, rfl, s⟩
        have hlen := rrs_len hR
        rw [hlen, List.take_length]
        walk_at "lw go"
        refine ⟨by rw [sizeLine_eq]; simp, fun p hp => ?_⟩
        exact q p _ (sm_trans s (sm_new hp)) upd_same
abbrev N_rows_of : List Str := ["rows", "path", "number", "row"]
theorem sc_rows_of : FnScope N_rows_of ["rows", "path"] (defScope s_rows_of) := ⟨rfl, rfl, rfl, by decide +kernel, rfl, by decide +kernel, by decide +kernel⟩
theorem ok_rows_of (F : FnP K "rows_of" s_rows_of f fd) (T : Bi mg) (G : Kn w K mg) : FnOk P w K mg base CX0 1 f fd ["rows", "path"] (spRowsOf K) := by
  refine F.ok sc_rows_of (fun vs H Q E h => ?_) (fun cdv A outer s H vs Q E hr h => ⟨_, PSs.nox
(pss_cons (ps_if (pt_not (pt_val (pe_callB call_isi (by rfl) T.isinstance (by decide +kernel) (pa_cons (pv 0) (pa_cons (pe_bltn (v := .ty "list") (by rfl) T.list boot_list rfl) pa_nil)))))
  pss_never
  pss_nil)
  (pss_one (ps_ret (pe_lc (own := [("number", 2), ("row", 3)]) (g := gTup K 2 (gCons (gName 2) (gCons (gName 3) gNil))) (tt := tYes) rfl sc_rows_of.nd (pi_enum (by rfl) T.enumerate (pa_cons (pv 0) pa_nil)) (blkOk_by (N := N_rows_of) (sc := defScope s_rows_of) (by decide +kernel)) (fun _ _ _ _ _ => pg_tup (by rfl) (pgs_cons (pg_name (i := 2) sc_rows_of.nd rfl (Or.inl rfl)) (pgs_cons (pg_name (i := 3) sc_rows_of.nd rfl (Or.inl rfl)) pgs_nil))) (fun _ _ _ _ _ => pts_nil) (fun _ _ _ _ _ => (pe_tup (pa_cons pe_str (pa_cons (pv 3) (pa_cons (pe_tup (Kt.pa_starK (K := K) (pv 1) (pa_cons (pv 2) pa_nil))) pa_nil))))))))), ?_⟩)
  · obtain ⟨_, _, _, _, _, _, rfl, _⟩ := h
    rfl
  · obtain ⟨l, p, xs, rs, path, H0, rfl, hl, hR, hp, lp, lr, q⟩ := h
    have hlen := rrs_len hR
    walk_at "lw i0"
    walk_at "lw go"
    refine ⟨_, _, _, _, true, rfl, .ty "list", .base (.lst hl), kit_ty (by decide +kernel), ?_⟩
    walk_at "lw go"
    refine g_enum ?_
    walk_at "lw go"
    refine ⟨l, xs, rfl, SqL.of hl, fun D hD => it_enum (xs := xs) (fun k G => Sm H G ∧ ∃ ys, G D = some (.lst ys) ∧ Al (IR K H0 G) (kidsF path 0 ((rs.map .row).take k)) ys) ⟨sm_new hD, [], upd_same, rfl⟩ (fun k G ⟨s1, _⟩ => SqL.of (s1 _ _ hl)) ?_ ?_⟩
    · rintro k x t G hx ⟨s1, ys, hys, hA⟩ ht
      have s2 := sm_new (o := .tup [.int (k : Nat), x]) ht
      obtain ⟨r, hr', hrr⟩ := rrs_at hR hx
      have hk : k < rs.length := (List.getElem?_eq_some_iff.mp hr').1
      have nDt : D ≠ t := ne_of_none hys ht
      walk_at "lw go"
      refine g_tupT (SqT.of upd_same) rfl ?_
      walk_at "lw go"
      refine ⟨rfl, g_yes (iteT ?_)⟩
      walk_at "lw go"
      refine ⟨p, _, rfl, .inl (SqT.of (s2 _ _ (s1 _ _ hp))), ?_⟩
      walk_at "lw go"
      refine ⟨by rw [List.length_append, List.length_map]; rw [sizeLine_eq]; simp only [List.length_cons, List.length_nil]; omega, fun t2 h2 => ?_⟩
      walk_at "lw go"
      refine ⟨by rw [sizeLine_eq]; simp, fun t3 h3 => ?_⟩
      have s3 := sm_trans s2 (sm_trans (sm_new (o := .tup (path.map V.int ++ [.int (k : Nat)])) h2) (sm_new (o := .tup [.str "row", x, .ref t2]) h3))
      refine ⟨ys, s3 _ _ hys, ?_, ?_⟩
      · rw [hA.len, kidsF_len, List.length_take, List.length_map, sizeLine_eq]
        omega
      · have s4 : Sm H (upd (upd (upd (upd G t (.tup [.int (k : Nat), x])) t2 (.tup (path.map V.int ++ [.int (k : Nat)]))) t3 (.tup [.str "row", x, .ref t2])) D (.lst (ys ++ [.ref t3]))) := fun b u hb => by
          rw [upd_ne (ne_of_none hb hD)]
          exact s3 _ _ (s1 _ _ hb)
        refine ⟨s4, _, upd_same, ?_⟩
        have e2 : (rs.map Wk.row)[k]? = some (.row r) := by rw [List.getElem?_map, hr']; rfl
        have n2 : t2 ≠ D := (ne_of_none (s2 _ _ hys) h2).symm
        have n3 : t3 ≠ D := (ne_of_none (sm_new h2 _ _ (s2 _ _ hys)) h3).symm
        have n23 : t2 ≠ t3 := ne_of_none upd_same h3
        exact kid_last e2 hA hys (fun b u n hb => by rw [upd_ne n]; exact s3 _ _ hb) (by rw [upd_ne n3, upd_same]; rfl) (by rw [upd_ne n2, upd_ne n23, upd_same]; simp) hrr
    · rintro G ⟨s1, ys, hys, hA⟩
      rw [hlen, ← List.length_map (f := Wk.row), List.take_length] at hA
      exact q _ ys _ hD s1 hys hA
abbrev N_things_of : List Str := ["row", "path", "place", "kind"]
theorem sc_things_of : FnScope N_things_of ["row", "path"] (defScope s_things_of) := ⟨rfl, rfl, rfl, by decide +kernel, rfl, by decide +kernel, by decide +kernel⟩
theorem shape_at (G : Kn w K mg) {x : Str} {ks : List Str} (h : (x, ks) ∈ ([("move", ["offset", "offset"]), ("mark", ["word", "side", "side", "figures"]), ("often", ["count", "rows"]), ("if", ["figures", "rows", "rows"])] : List (Str × List Str))) :
    ∃ t, PySem.W.nsIn K (He.ga K "SHAPES") x = some (some (.ref t)) ∧ ∀ H : Hp, SqT K H t (ks.map V.str) := by
  have at_ := G.t_SHAPES.at_
  simp only [List.mem_cons, Prod.mk.injEq, List.not_mem_nil, or_false] at h
  rcases h with ⟨rfl, rfl⟩ | ⟨rfl, rfl⟩ | ⟨rfl, rfl⟩ | ⟨rfl, rfl⟩
  · exact at_ (_, _) (.head _)
  · exact at_ (_, _) (.tail _ (.head _))
  · exact at_ (_, _) (.tail _ (.tail _ (.head _)))
  · exact at_ (_, _) (.tail _ (.tail _ (.tail _ (.head _))))
theorem ok_things_of (F : FnP K "things_of" s_things_of f fd) (T : Bi mg) (G : Kn w K mg) (M_NoBrush : Mk P w K mg base "NoBrush" ["path", "why"] []) : FnOk P w K mg base (L2.CX P w) 3 f fd ["row", "path"] (spThings K) := by
  refine F.ok (k := 2) sc_things_of (fun vs H Q E h => ?_) (fun cdv A outer s H vs Q E hr h => ⟨_,
(pss_cons (ps_if (PW.pt (pw_or (pt_not (pt_val (pe_callB call_isi (by rfl) T.isinstance (by decide +kernel) (pa_cons (pv 0) (pa_cons (pe_bltn (v := .ty "tuple") (by rfl) T.tuple boot_tuple rfl) pa_nil))))) (pw_or (pt_not (pt_truth (pv 0) (by intro _; rfl))) (pw_or1 (pt_not (pt_val (pe_callB call_isi (by rfl) T.isinstance (by decide +kernel) (pa_cons (pe_ix ix_tup (pv 0) pe_int (fun _ _ => rfl)) (pa_cons (pe_bltn (v := .ty "str") (by rfl) T.str boot_str rfl) pa_nil)))))))))
  (pss_one (ps_raise rfl (takes_of rfl rfl rfl rfl) (pmk_mk (x := "NoBrush") M_NoBrush ((G.er.own (x := "NoBrush") (b := true) (fs := ["path", "why"]) (by simp [csK])).oex G.sh) (hr.mono (by first | decide | omega)) (pa_cons (pv 1) (pa_cons pe_str pa_nil)))))
  pss_nil)
  (pss_cons (ps_if (PW.pt (pw_or (pt_cmpR (Kt.op_notIn G.t_SHAPES.kd) (pe_ix ix_tup (pv 0) pe_int (fun _ _ => rfl)) (pe_gR (by rfl) G.g_SHAPES) (by rfl)) (pw_or1 (pt_cmpR op_ne (pe_callB call_len_seq (by rfl) T.len (by decide +kernel) (pa_cons (pv 0) pa_nil)) (pe_op op_add pe_int (pe_callB call_len_seq (by rfl) T.len (by decide +kernel) (pa_cons (pe_ix (Kt.ix_kd G.t_SHAPES.kd) (pe_gR (by rfl) G.g_SHAPES) (pe_ix ix_tup (pv 0) pe_int (fun _ _ => rfl)) (fun _ _ => rfl)) pa_nil))) (nomark _)))))
  (pss_one (ps_raise rfl (takes_of rfl rfl rfl rfl) (pmk_mk (x := "NoBrush") M_NoBrush ((G.er.own (x := "NoBrush") (b := true) (fs := ["path", "why"]) (by simp [csK])).oex G.sh) (hr.mono (by first | decide | omega)) (pa_cons (pv 1) (pa_cons pe_str pa_nil)))))
  pss_nil)
  (pss_one (ps_ret (pe_lc (own := [("place", 2), ("kind", 3)]) (g := gTup K 2 (gCons (gName 2) (gCons (gName 3) gNil))) (tt := tYes) rfl sc_things_of.nd (Eu.pi_enumT (by rfl) T.enumerate (pa_cons (pe_ix (Kt.ix_kd G.t_SHAPES.kd) (pe_gR (by rfl) G.g_SHAPES) (pe_ix ix_tup (pv 0) pe_int (fun _ _ => rfl)) (fun _ _ => rfl)) (pa_cons pe_int pa_nil))) (blkOk_by (N := N_things_of) (sc := defScope s_things_of) (by decide +kernel)) (fun _ _ _ _ _ => pg_tup (by rfl) (pgs_cons (pg_name (i := 2) sc_things_of.nd rfl (Or.inl rfl)) (pgs_cons (pg_name (i := 3) sc_things_of.nd rfl (Or.inl rfl)) pgs_nil))) (fun _ _ _ _ _ => pts_nil) (fun _ _ _ _ _ => (pe_tup (pa_cons (pv 3) (pa_cons (pe_ix (ix_tupK (K := K)) (pv 0) (pv 2) (fun _ _ => rfl)) (pa_cons (pe_tup (Kt.pa_starK (K := K) (pv 1) (pa_cons (pv 2) pa_nil))) pa_nil)))))))))), ?_⟩)
  · obtain ⟨_, _, _, _, _, rfl, _⟩ := h
    rfl
  · obtain ⟨v, p, r, path, H0, rfl, hR, hS, hp, lp, qR, qJ⟩ := h
    walk_at "lw i0"
    cases hi : isRow r with
    | true =>
      obtain ⟨a, x, xs, rfl, ha0, hA, hm⟩ := row_has hR hi
      have ha := hS _ _ ha0
      obtain ⟨t0, n0, ht0⟩ := shape_at G hm
      walk_at "lw go"
      refine ⟨_, _, _, _, true, rfl, .ty "tuple", .base (.tup ha), kit_ty (by decide +kernel), ?_⟩
      walk_at "lw go"
      refine ⟨true, .inr (.inl ⟨_, SqT.of ha, rfl⟩), ?_⟩
      walk_at "lw go"
      refine g_ixT (SqT.of ha) (v := .str x) (atI_nat (j := 0) (by rfl)) ?_
      walk_at "lw go"
      refine ⟨_, _, _, _, true, rfl, .ty "str", .base (.str _), kit_ty (by decide +kernel), ?_⟩
      walk_at "lw go"
      refine g_ixT (SqT.of ha) (v := .str x) (atI_nat (j := 0) (by rfl)) ?_
      walk_at "lw go"
      refine ⟨x, _, rfl, rfl, n0, false, rfl, ?_⟩
      walk_at "lw go"
      refine ⟨a, _, rfl, .inr (SqT.of ha), ?_⟩
      walk_at "lw go"
      refine g_ixT (SqT.of ha) (v := .str x) (atI_nat (j := 0) (by rfl)) ?_
      walk_at "lw go"
      refine ⟨x, t0, rfl, rfl, n0, ?_⟩
      walk_at "lw go"
      refine ⟨t0, _, rfl, .inr (ht0 _), ?_⟩
      walk_at "lw go"
      rw [decide_eq_true (show V.int ((V.str x :: xs).length : Nat) = V.int (1 + ((((things r).map Wk.kind).map V.str).length : Nat)) by rw [List.length_map, List.length_map, List.length_cons, hA.len]; congr 1; omega)]
      walk_at "lw go"
      refine Eu.g_enumT ?_
      walk_at "lw go"
      refine g_ixT (SqT.of ha) (v := .str x) (atI_nat (j := 0) (by rfl)) ?_
      walk_at "lw go"
      refine ⟨x, t0, rfl, rfl, n0, ?_⟩
      walk_at "lw go"
      refine ⟨t0, 1, _, rfl, ht0 _, by omega, by omega, fun D hD => it_enumT (xs := ((things r).map Wk.kind).map V.str) (fun k G => Sm H G ∧ ∃ ys, G D = some (.lst ys) ∧ Al (IR K H0 G) (kidsF path 1 ((things r).take k)) ys) ⟨sm_new hD, [], upd_same, rfl⟩ (fun k G _ => ht0 G) ?_ ?_⟩
      · rintro k y t G' hx ⟨s1, ys, hys, hB⟩ ht
        have s2 := sm_new (o := .tup [.int (1 + (k : Nat)), y]) ht
        rw [List.map_map, List.getElem?_map] at hx
        obtain ⟨wk, hw⟩ : ∃ wk, (things r)[k]? = some wk := by
          cases e : (things r)[k]? with
          | none => rw [e] at hx; cases hx
          | some wk => exact ⟨wk, rfl⟩
        rw [hw] at hx
        obtain rfl : V.str wk.kind = y := Option.some.inj hx
        obtain ⟨u, hu, hW⟩ := al_at hA hw
        have hk : k < (things r).length := (List.getElem?_eq_some_iff.mp hw).1
        have nDt : D ≠ t := ne_of_none hys ht
        walk_at "lw go"
        refine g_tupT (SqT.of upd_same) rfl ?_
        walk_at "lw go"
        refine ⟨rfl, g_yes (iteT ?_)⟩
        walk_at "lw go"
        refine g_ixT (SqT.of (s2 _ _ (s1 _ _ ha))) (v := u) ((show (1 + ((k : Nat) : Int)) = ((k + 1 : Nat) : Int) by omega) ▸ atI_nat (j := k + 1) (by simpa using hu)) ?_
        walk_at "lw go"
        refine ⟨p, _, rfl, .inl (SqT.of (s2 _ _ (s1 _ _ hp))), ?_⟩
        walk_at "lw go"
        refine ⟨by rw [List.length_append, List.length_map]; rw [sizeLine_eq]; simp only [List.length_cons, List.length_nil]; omega, fun t2 h2 => ?_⟩
        walk_at "lw go"
        refine ⟨by rw [sizeLine_eq]; simp, fun t3 h3 => ?_⟩
        have s3 := sm_trans s2 (sm_trans (sm_new (o := .tup (path.map V.int ++ [.int (1 + (k : Nat))])) h2) (sm_new (o := .tup [.str wk.kind, u, .ref t2]) h3))
        refine ⟨ys, s3 _ _ hys, ?_, ?_⟩
        · rw [hB.len, kidsF_len, List.length_take, sizeLine_eq]
          have : (things r).length ≤ 4 := by cases r <;> simp [things]
          omega
        · have s4 : Sm H (upd (upd (upd (upd G' t (.tup [.int (1 + (k : Nat)), .str wk.kind])) t2 (.tup (path.map V.int ++ [.int (1 + (k : Nat))]))) t3 (.tup [.str wk.kind, u, .ref t2])) D (.lst (ys ++ [.ref t3]))) := fun b u hb => by
            rw [upd_ne (ne_of_none hb hD)]
            exact s3 _ _ (s1 _ _ hb)
          refine ⟨s4, _, upd_same, ?_⟩
          have n2 : t2 ≠ D := (ne_of_none (s2 _ _ hys) h2).symm
          have n3 : t3 ≠ D := (ne_of_none (sm_new h2 _ _ (s2 _ _ hys)) h3).symm
          have n23 : t2 ≠ t3 := ne_of_none upd_same h3
          exact kid_last hw hB hys (fun b u n hb => by rw [upd_ne n]; exact s3 _ _ hb) (by rw [upd_ne n3, upd_same]) (by rw [upd_ne n2, upd_ne n23, upd_same]) hW
      · rintro G' ⟨s1, ys, hys, hB⟩
        rw [List.length_map, List.length_map, List.take_length] at hB
        exact qR hi D ys _ hD s1 hys hB
    | false =>
      have eX := qJ hi
      cases r with
      | move a b => cases hi
      | mark x y z u => cases hi
      | often n b => cases hi
      | cond f b c => cases hi
      | junk d =>
        obtain ⟨a, xs, ds, rfl, hD, hJ⟩ := rr_mono hS hR
        have out := out_br (H := H) G.er hp eX
        rcases hJ with ⟨rfl, ha⟩ | ⟨rfl, ha, hj⟩
        · walk_at "lw go"
          refine ⟨_, _, _, _, false, rfl, .ty "tuple", .base (.lst ha), kit_ty (by decide +kernel), ?_⟩
          walk_at "lw go"
          exact ⟨_, rfl, by show 2 ≤ 1000; decide, out⟩
        · walk_at "lw go"
          refine ⟨_, _, _, _, true, rfl, .ty "tuple", .base (.tup ha), kit_ty (by decide +kernel), ?_⟩
          walk_at "lw go"
          rcases hj with rfl | ⟨x, rs, rfl, hj⟩
          · cases hD
            refine ⟨false, .inr (.inl ⟨_, SqT.of ha, rfl⟩), ?_⟩
            walk_at "lw go"
            exact ⟨_, rfl, by show 2 ≤ 1000; decide, out⟩
          · cases hD with
            | cons h1 h2 =>
              cases h1
              refine ⟨true, .inr (.inl ⟨_, SqT.of ha, rfl⟩), ?_⟩
              walk_at "lw go"
              refine g_ixT (SqT.of ha) (v := .str x) (atI_nat (j := 0) (by rfl)) ?_
              walk_at "lw go"
              refine ⟨_, _, _, _, true, rfl, .ty "str", .base (.str _), kit_ty (by decide +kernel), ?_⟩
              walk_at "lw go"
              refine g_ixT (SqT.of ha) (v := .str x) (atI_nat (j := 0) (by rfl)) ?_
              walk_at "lw go"
              rcases hj with rfl | ⟨hw, hl⟩
              · refine ⟨"Move", _, rfl, rfl, G.t_SHAPES.no _ (by simp), true, rfl, ?_⟩
                walk_at "lw go"
                exact ⟨_, rfl, by show 2 ≤ 1000; decide, out⟩
              · obtain ⟨ks, hm, hk⟩ := word_has hw
                obtain ⟨t0, n0, ht0⟩ := shape_at G hm
                refine ⟨x, _, rfl, rfl, n0, false, rfl, ?_⟩
                walk_at "lw go"
                refine ⟨a, _, rfl, .inr (SqT.of ha), ?_⟩
                walk_at "lw go"
                refine g_ixT (SqT.of ha) (v := .str x) (atI_nat (j := 0) (by rfl)) ?_
                walk_at "lw go"
                refine ⟨x, t0, rfl, rfl, n0, ?_⟩
                walk_at "lw go"
                refine ⟨t0, _, rfl, .inr (ht0 _), ?_⟩
                walk_at "lw go"
                rename_i vs
                have hlen : ∀ {ds : List PyData} {vs : List V}, DpAll K H vs ds → vs.length = ds.length := by
                  intro ds
                  induction ds with
                  | nil => intro vs h; cases h; rfl
                  | cons d ds ih => intro vs h; cases h with | cons h1 h2 => rw [List.length_cons, List.length_cons, ih h2]
                have hl2 := hlen h2
                rw [decide_eq_false (fun z => hl (by
                  have z2 := V.int.inj z
                  rw [List.length_cons, List.length_map] at z2
                  omega))]
                walk_at "lw go"
                exact ⟨_, rfl, by show 2 ≤ 1000; decide, out⟩
abbrev N_must_brush : List Str := ["brush", "todo", "kind", "thing", "path", "marks", "many"]
theorem sc_must_brush : FnScope N_must_brush ["brush"] (defScope s_must_brush) := ⟨rfl, rfl, rfl, by decide +kernel, rfl, by decide +kernel, by decide +kernel⟩
theorem marks_in (w : Str) : inV (.str w) [V.str "set", V.str "raise", V.str "least", V.str "most"] = decide (w ∈ marks) := in_strs w marks
theorem num_at (G : Kn w K mg) (k : NK) : ∃ t, PySem.W.nsIn K (He.ga K "NUMBERS") k.name = some (some (.ref t)) ∧ ∀ H : Hp, SqT K H t [.int k.lo, .int k.hi] := by
  have at_ := G.t_NUMBERS.at_
  cases k with
  | offset => exact at_ (_, _) (.head _)
  | side => exact at_ (_, _) (.tail _ (.head _))
  | figures => exact at_ (_, _) (.tail _ (.tail _ (.head _)))
  | count => exact at_ (_, _) (.tail _ (.tail _ (.tail _ (.head _))))
theorem ok_must_brush (F : FnP K "must_brush" s_must_brush f fd) (T : Bi mg) (G : Kn w K mg) (M_NoBrush : Mk P w K mg base "NoBrush" ["path", "why"] []) (D_is_from : Df P w K mg base "is_from" ["thing", "low", "high"] 1 spIsFrom) (D_rows_of : Df P w K mg base "rows_of" ["rows", "path"] 1 (spRowsOf K)) (DX_things_of : DfX P w K mg base "things_of" ["row", "path"] 3 (spThings K)) (D_weighed : Df P w K mg base "weighed" ["rows"] 5 (spWeighed K 4)) : FnOk P w K mg base (L2.CX P w) 9 f fd ["brush"] (spMust K) := by
  refine F.ok (k := 8) sc_must_brush (fun vs H Q E h => ?_) (fun cdv A outer s H vs Q E hr h => ⟨_,
(pss_cons (ps_set (i := 1) sc_must_brush.nd rfl (Or.inl rfl) (pe_lst (pa_cons (pe_tup (pa_cons pe_str (pa_cons (pv 0) (pa_cons (pe_tup pa_nil) pa_nil)))) pa_nil)))
  (pss_cons (ps_while (passes_of rfl) (pt_truth (pv 1) (by intro _; rfl))
  (pss_cons (ps_asg (pe_bm0 PySem.F.plainAttrs_list PySem.F.slot_list_pop PySem.F.type_list_pop mt_pop (pv 1)) (pg_tup (by rfl) (pgs_cons (pg_name (i := 2) sc_must_brush.nd rfl (Or.inl rfl)) (pgs_cons (pg_name (i := 3) sc_must_brush.nd rfl (Or.inl rfl)) (pgs_cons (pg_name (i := 4) sc_must_brush.nd rfl (Or.inl rfl)) pgs_nil)))))
  (pss_one (ps_if (pt_cmpR op_eq (pv 2) pe_str (nomark _))
  (pss_one (ps_expr (pe_bm PySem.F.plainAttrs_list PySem.F.slot_list_extend PySem.F.type_list_extend mt_extend (pv 1) (pa_cons (Tr.pe_revL (pe_df D_rows_of (hr.mono (by first | decide | omega)) (pa_cons (pv 3) (pa_cons (pv 4) pa_nil)))) pa_nil))))
  (pss_one (ps_if (pt_cmpR op_eq (pv 2) pe_str (nomark _))
  (pss_one (ps_expr (pe_bm PySem.F.plainAttrs_list PySem.F.slot_list_extend PySem.F.type_list_extend mt_extend (pv 1) (pa_cons (Tr.pe_revL (pe_dfX DX_things_of (hr.mono (by first | decide | omega)) (takes_of rfl rfl rfl rfl) (pa_cons (pv 3) (pa_cons (pv 4) pa_nil)))) pa_nil))))
  (pss_one (ps_if (pt_cmpR op_eq (pv 2) pe_str (nomark _))
  (pss_one (ps_if (pt_cmpR op_notIn_seq (pv 3) (pe_gR (by rfl) G.g_MARKS) (by rfl))
  (pss_one (ps_raise rfl (takes_of rfl rfl rfl rfl) (pmk_mk (x := "NoBrush") M_NoBrush ((G.er.own (x := "NoBrush") (b := true) (fs := ["path", "why"]) (by simp [csK])).oex G.sh) (hr.mono (by first | decide | omega)) (pa_cons (pv 4) (pa_cons pe_str pa_nil)))))
  pss_nil))
  (pss_one (ps_if (pt_not (pt_val (pe_df D_is_from (hr.mono (by first | decide | omega)) (pa_cons (pv 3) (pa_cons (pe_ix ix_tup (pe_ix (Kt.ix_kd G.t_NUMBERS.kd) (pe_gR (by rfl) G.g_NUMBERS) (pv 2) (fun _ _ => rfl)) pe_int (fun _ _ => rfl)) (pa_cons (pe_ix ix_tup (pe_ix (Kt.ix_kd G.t_NUMBERS.kd) (pe_gR (by rfl) G.g_NUMBERS) (pv 2) (fun _ _ => rfl)) pe_int (fun _ _ => rfl)) pa_nil))))))
  (pss_one (ps_raise rfl (takes_of rfl rfl rfl rfl) (pmk_mk (x := "NoBrush") M_NoBrush ((G.er.own (x := "NoBrush") (b := true) (fs := ["path", "why"]) (by simp [csK])).oex G.sh) (hr.mono (by first | decide | omega)) (pa_cons (pv 4) (pa_cons pe_str pa_nil)))))
  pss_nil))))))))))
  (pss_cons (ps_asg (pe_df D_weighed (hr.mono (by first | decide | omega)) (pa_cons (pv 0) pa_nil)) (pg_tup (by rfl) (pgs_cons (pg_name (i := 5) sc_must_brush.nd rfl (Or.inl rfl)) (pgs_cons (pg_name (i := 6) sc_must_brush.nd rfl (Or.inl rfl)) pgs_nil))))
  (pss_one (ps_if (PW.pt (pw_or (pt_cmpR op_gt (pv 5) (pe_gI (by rfl) G.c_MOST_MARKS) (nomark _)) (pw_or1 (pt_cmpR op_gt (pv 6) (pe_gI (by rfl) G.c_MOST_ROWS) (nomark _)))))
  (pss_one (ps_raise rfl (takes_of rfl rfl rfl rfl) (pmk_mk (x := "NoBrush") M_NoBrush ((G.er.own (x := "NoBrush") (b := true) (fs := ["path", "why"]) (by simp [csK])).oex G.sh) (hr.mono (by first | decide | omega)) (pa_cons (pe_tup pa_nil) (pa_cons pe_str pa_nil)))))
  pss_nil))))), ?_⟩)
  · obtain ⟨_, _, _, rfl, _⟩ := h
    rfl
  · obtain ⟨l, xs, rs, rfl, hl, hR, hz, hd, qN, qF⟩ := h
    have hsl : sizeLine ≥ 2000002 := by rw [sizeLine_eq]; omega
    walk_at "lw i0"
    walk_at "lw go"
    refine ⟨by rw [sizeLine_eq]; simp, fun p0 hp0 => ?_⟩
    walk_at "lw go"
    refine ⟨by rw [sizeLine_eq]; simp, fun t0 ht0 => ?_⟩
    walk_at "lw go"
    refine ⟨by rw [sizeLine_eq]; simp, fun D hD => ?_⟩
    have s0 := sm_trans (sm_new (o := .tup []) hp0) (sm_trans (sm_new (o := .tup [.str "rows", .ref l, .ref p0]) ht0) (sm_new (o := .lst [.ref t0]) hD))
    have ep : p0 ≠ t0 := ne_of_none upd_same ht0
    have pl0 : Pile K H (upd (upd (upd H p0 (.tup [])) t0 (.tup [.str "rows", .ref l, .ref p0])) D (.lst [.ref t0])) D (zRs rs) (fRs rs 0) (zRs rs) [(.rows rs, [])] [.ref t0] :=
      ⟨upd_same, ⟨_, [], rfl, ⟨t0, p0, _, rfl, by rw [upd_ne (ne_of_none upd_same hD), upd_same]; rfl, by rw [upd_ne (ne_of_none (by rw [upd_ne ep]; exact upd_same) hD), upd_ne ep, upd_same]; rfl, ⟨l, xs, rfl, hl, hR⟩⟩, rfl⟩, s0, by simp [fS, fW, pre_nil], by simp [zS, zW], Nat.le_refl _, fun x hx => by
        obtain rfl := List.mem_singleton.mp hx
        simp [zW]⟩
    walk_at "lw go"
    refine ⟨fun m σ G => ∃ st ys, Pile K H G D (zRs rs) (fRs rs 0) m st ys ∧ ∃ o2 o3 o4 : Option V, σ = [some (.ref l), some (.ref D), o2, o3, o4, none, none], ⟨zRs rs, _, _, pl0, none, none, none, rfl⟩, fun m σ G1 hw => ?_⟩
    obtain ⟨st, ys, pl, o2, o3, o4, rfl⟩ := hw
    walk_at "lw go"
    rcases st.eq_nil_or_concat with rfl | ⟨st0, ⟨wk, path⟩, rfl⟩
    · obtain rfl : ys = [] := pl.all
      refine ⟨false, .inl ⟨[], SqL.of pl.at_, rfl⟩, ?_⟩
      have hf : fRs rs 0 = none := pl.fl.symm
      walk_at "lw go"
      refine ⟨l, xs, rs, rfl, pl.sm _ _ hl, rrs_mono pl.sm hR, oks_none hf, hd, fun p H2 s2 hp => ?_⟩
      have s3 := sm_trans pl.sm s2
      have eF : faultB rs = (if (mRs rs).1 > 60 ∨ (mRs rs).2 > 2000 then some (([] : List Int), ("great" : Str)) else none : Fl) := by unfold faultB; rw [hf]; rfl
      walk_at "lw go"
      refine g_tupT (SqT.of hp) rfl ?_
      walk_at "lw go"
      have bad : ((mRs rs).1 > 60 ∨ (mRs rs).2 > 2000) → ∀ t, H2 t = none → ∀ a, (upd H2 t (.tup [])) a = none → spIni K (cA K "NoBrush") ["path", "why"] (.ref a :: ([.ref t, .str "great"] ++ [])) (upd (upd H2 t (.tup [])) a (exo a (cA K "NoBrush") none)) (fun v H3 => v = .non ∧ ∃ (d : Addr) (fs : List (Str × V)), H3 a = some (exo a (cA K "NoBrush") (some d)) ∧ H3 d = some (exd d fs) ∧ (upd H2 t (.tup [])) d = none ∧ E (.ref (cA K "NoBrush")) (some d) (upd (del H3 a) d (.xd fs))) (fun _ _ _ => False) := fun hb t ht =>
        out_br (p := []) G.er upd_same ((qF [] "great" (by rw [eF, if_pos hb])).later (sm_trans s3 (sm_new ht)))
      refine g_ite (fun h1 => ?_) (fun h1 => ?_)
      · walk_at "lw go"
        refine ⟨by show 0 ≤ sizeLine; decide, fun t ht => ?_⟩
        walk_at "lw go"
        exact ⟨by show 2 ≤ 1000; decide, bad (.inl h1) t ht⟩
      · walk_at "lw go"
        refine g_ite (fun h2 => ?_) (fun h2 => ?_)
        · walk_at "lw go"
          refine ⟨by show 0 ≤ sizeLine; decide, fun t ht => ?_⟩
          walk_at "lw go"
          exact ⟨by show 2 ≤ 1000; decide, bad (.inr h2) t ht⟩
        · walk_at "lw go"
          exact qN (by rw [eF, if_neg (by omega)]) _ s3
    · rw [List.concat_eq_append] at pl
      obtain ⟨vs, v, rfl, hA, hI⟩ := pl.all.snoc
      obtain ⟨a, pa, u, rfl, ha, hpa, hW⟩ := hI
      have nDa : a ≠ D := fun z => by rw [z, pl.at_] at ha; cases ha
      have nDp : pa ≠ D := fun z => by rw [z, pl.at_] at hpa; cases hpa
      refine ⟨true, .inl ⟨_, SqL.of pl.at_, by simp⟩, ?_⟩
      refine iteT ⟨fun σ' H' => ∃ m', m' < m ∧ ∃ st ys, Pile K H H' D (zRs rs) (fRs rs 0) m' st ys ∧ ∃ o2 o3 o4 : Option V, σ' = [some (.ref l), some (.ref D), o2, o3, o4, none, none], fun σ' H' h => h, ?_⟩
      walk_at "lw go"
      refine ⟨.inl ⟨rfl, _, SqL.of pl.at_⟩, D, _, .ref a, rfl, rfl, pl.at_, by simp, ?_⟩
      rw [List.dropLast_concat]
      have hfl : (pre path (fW wk)).or (fS st0.reverse) = fRs rs 0 := by
        have z := pl.fl
        rw [List.reverse_append] at z
        exact z
      have hzz : zS st0 + zW wk = m := by
        have z := pl.z
        rw [zS_append] at z
        simpa [zS] using z
      have hsh0 : sh (zRs rs) st0 := fun x hx => pl.short x (List.mem_append_left _ hx)
      have hshw : path.length + zW wk ≤ zRs rs := pl.short (wk, path) (List.mem_append_right _ List.mem_cons_self)
      have hle := pl.le
      have hlv : vs.length ≤ zS st0 := by rw [hA.len]; exact len_zS st0
      have hHD : ∀ b u, H b = some u → b ≠ D := fun b u hb z => by
        rw [z] at hb
        have q1 := sm_new (o := .tup []) hp0 _ _ hb
        have q2 := sm_new (o := .tup [.str "rows", .ref l, .ref p0]) ht0 _ _ q1
        rw [hD] at q2
        cases q2
      have s2 : Sm H (upd G1 D (.lst vs)) := fun b u hb => by
        rw [upd_ne (hHD b u hb)]
        exact pl.sm _ _ hb
      have ha2 : upd G1 D (.lst vs) a = some (.tup [.str wk.kind, u, .ref pa]) := by rw [upd_ne nDa]; exact ha
      have hp2 : upd G1 D (.lst vs) pa = some (.tup (path.map V.int)) := by rw [upd_ne nDp]; exact hpa
      have hA2 : Al (IR K H (upd G1 D (.lst vs))) st0 vs := hA.mono fun _ _ h => h.monoD (fun b u n hb => by rw [upd_ne n]; exact hb) pl.at_
      generalize hG2 : upd G1 D (.lst vs) = G2 at *
      have hD2 : G2 D = some (.lst vs) := by rw [← hG2]; exact upd_same
      clear hG2
      cases wk with
      | rows rs2 =>
        replace ha2 : G2 a = some (.tup [.str "rows", u, .ref pa]) := ha2
        refine g_tupT (SqT.of ha2) rfl ?_
        obtain ⟨l2, xs2, rfl, hl2, hR2⟩ := hW
        walk_at "lw go"
        refine ⟨.inl ⟨rfl, _, SqL.of hD2⟩, ?_⟩
        walk_at "lw go"
        refine Tr.g_revL ?_
        walk_at "lw go"
        have hfew := rows_few rs2
        simp only [zW] at hshw hzz
        refine ⟨l2, pa, xs2, rs2, path, H, rfl, s2 _ _ hl2, hR2, hp2, by omega, by omega, fun a2 ys2 H3 na2 s3 hys2 hA3 => ?_⟩
        refine ⟨a2, ys2, rfl, SqL.of hys2, fun p3 hp3 => ?_⟩
        have nDp3 : p3 ≠ D := (ne_of_none (s3 _ _ hD2) hp3).symm
        have na3 : D ≠ p3 := nDp3.symm
        walk_at "lw go"
        have h3D := s3 _ _ hD2
        have lys : ys2.length ≤ 1000000 := by rw [hA3.len, kidsF_len, List.length_map]; omega
        refine ⟨D, p3, vs, ys2.reverse, rfl, rfl, by rw [upd_ne na3]; exact h3D, upd_same, by rw [List.length_reverse]; omega, ?_⟩
        have s4 : ∀ b u, b ≠ D → H3 b = some u → upd (upd H3 p3 (.lst ys2.reverse)) D (.lst (vs ++ ys2.reverse)) b = some u := fun b u n hb => by
          rw [upd_ne n]
          exact sm_new hp3 _ _ hb
        have s5 : Sm H (upd (upd H3 p3 (.lst ys2.reverse)) D (.lst (vs ++ ys2.reverse))) := fun b u hb => by
          have nb : b ≠ D := fun z => by
            have q := hHD b u hb
            exact q z
          exact s4 b u nb (s3 _ _ (s2 _ _ hb))
        have hzk := z_kids_rows path rs2 0
        refine ⟨_, ?_, _, _, Pile.push hA2 hA3 s3 h3D s4 upd_same s5 hfl (kids_rows path rs2 0) (by omega) hsh0 (sh_rows (by omega)), _, _, _, rfl⟩
        omega
      | row r2 =>
        replace ha2 : G2 a = some (.tup [.str "row", u, .ref pa]) := ha2
        refine g_tupT (SqT.of ha2) rfl ?_
        walk_at "lw go"
        refine ⟨.inl ⟨rfl, _, SqL.of hD2⟩, ?_⟩
        walk_at "lw go"
        refine Tr.g_revL ?_
        refine g_callS ?_
        walk_at "lw go"
        simp only [zW] at hshw hzz
        have hlt := z_kids_things path r2
        refine ⟨u, pa, r2, path, H, rfl, hW, s2, hp2, by omega, fun hrow a2 ys2 H3 na2 s3 hys2 hA3 => ?_, fun hrow => ?_⟩
        · refine ⟨a2, ys2, rfl, SqL.of hys2, fun p3 hp3 => ?_⟩
          have nDp3 : p3 ≠ D := (ne_of_none (s3 _ _ hD2) hp3).symm
          have na3 : D ≠ p3 := nDp3.symm
          walk_at "lw go"
          have h3D := s3 _ _ hD2
          have lys : ys2.length ≤ 1000000 := by rw [hA3.len, kidsF_len]; cases r2 <;> simp [things]
          refine ⟨D, p3, vs, ys2.reverse, rfl, rfl, by rw [upd_ne na3]; exact h3D, upd_same, by rw [List.length_reverse]; omega, ?_⟩
          have s4 : ∀ b u, b ≠ D → H3 b = some u → upd (upd H3 p3 (.lst ys2.reverse)) D (.lst (vs ++ ys2.reverse)) b = some u := fun b u n hb => by
            rw [upd_ne n]
            exact sm_new hp3 _ _ hb
          have s5 : Sm H (upd (upd H3 p3 (.lst ys2.reverse)) D (.lst (vs ++ ys2.reverse))) := fun b u hb => s4 b u (hHD b u hb) (s3 _ _ (s2 _ _ hb))
          refine ⟨_, ?_, _, _, Pile.push hA2 hA3 s3 h3D s4 upd_same s5 hfl (kids_things path hrow) (by omega) hsh0 (sh_things (by omega)), _, _, _, rfl⟩
          omega
        · refine (qF path "kind" ?_).later s2
          unfold faultB
          rw [← hfl]
          cases r2 with
          | junk d => simp [fW, fR, pre]
          | _ => cases hrow
      | word w2 =>
        replace ha2 : G2 a = some (.tup [.str "word", u, .ref pa]) := ha2
        obtain rfl : u = .str w2 := hW
        refine g_tupT (SqT.of ha2) rfl ?_
        walk_at "lw go"
        refine ⟨He.ga K "MARKS", _, rfl, .inr (G.v_MARKS _), rfl, rfl, ?_⟩
        rw [if_pos rfl, marks_in]
        by_cases hw : w2 ∈ marks
        · rw [decide_eq_true hw]
          have e0 : fW (.word w2) = none := by simp only [fW, wF]; rw [if_pos hw]
          rw [e0] at hfl
          simp only [zW] at hzz
          refine ⟨false, rfl, iteF ?_⟩
          walk_at "lw go"
          exact ⟨zS st0, by omega, st0, vs, ⟨hD2, hA2, s2, hfl, rfl, by omega, hsh0⟩, _, _, _, rfl⟩
        · rw [decide_eq_false hw]
          have e0 : fW (.word w2) = some (([] : List Int), ("kind" : Str)) := by simp only [fW, wF]; rw [if_neg hw]
          rw [e0] at hfl
          refine ⟨true, rfl, iteT ?_⟩
          exact ⟨_, rfl, by show 2 ≤ 1000; decide, out_br G.er hp2 ((qF path "kind" (by unfold faultB; rw [← hfl]; simp [pre])).later s2)⟩
      | num k2 a2 =>
        replace ha2 : G2 a = some (.tup [.str k2.name, u, .ref pa]) := ha2
        obtain rfl : u = a2.v := hW
        have hn : k2.name ≠ "rows" ∧ k2.name ≠ "row" ∧ k2.name ≠ "word" := by cases k2 <;> decide +kernel
        obtain ⟨tn, n0, htn⟩ := num_at G k2
        have hb : -1000000000 ≤ k2.lo ∧ k2.lo ≤ 1 ∧ 20 ≤ k2.hi := by cases k2 <;> simp [NK.lo, NK.hi]
        refine g_tupT (SqT.of ha2) rfl ?_
        walk_at "lw go"
        refine iteNo (fun z => hn.1 (V.str.inj z)) ?_
        walk_at "lw go"
        refine iteNo (fun z => hn.2.1 (V.str.inj z)) ?_
        walk_at "lw go"
        refine iteNo (fun z => hn.2.2 (V.str.inj z)) ?_
        walk_at "lw go"
        refine ⟨k2.name, tn, rfl, rfl, n0, ?_⟩
        walk_at "lw go"
        refine g_ixT (htn _) (v := .int k2.lo) (atI_nat (j := 0) (by rfl)) ?_
        walk_at "lw go"
        refine ⟨k2.name, tn, rfl, rfl, n0, ?_⟩
        walk_at "lw go"
        refine g_ixT (htn _) (v := .int k2.hi) (atI_nat (j := 1) (by rfl)) ?_
        walk_at "lw go"
        refine ⟨a2, k2.lo, k2.hi, rfl, hb.1, hb.2.1, hb.2.2, ?_⟩
        cases ho : a2.ok k2.lo k2.hi with
        | true =>
          have e0 : fW (.num k2 a2) = none := by simp only [fW, nF]; rw [if_pos ho]
          rw [e0] at hfl
          simp only [zW] at hzz
          walk_at "lw go"
          exact ⟨zS st0, by omega, st0, vs, ⟨hD2, hA2, s2, hfl, rfl, by omega, hsh0⟩, _, _, _, rfl⟩
        | false =>
          have e0 : fW (.num k2 a2) = some (([] : List Int), ("number" : Str)) := by simp only [fW, nF]; rw [ho]; rfl
          rw [e0] at hfl
          walk_at "lw go"
          exact ⟨_, rfl, by show 2 ≤ 1000; decide, out_br G.er hp2 ((qF path "number" (by unfold faultB; rw [← hfl]; simp [pre])).later s2)⟩
abbrev N_sums : List Str := ["one", "other", "low", "high"]
theorem sc_sums : FnScope N_sums ["one", "other"] (defScope s_sums) := ⟨rfl, rfl, rfl, by decide +kernel, rfl, by decide +kernel, by decide +kernel⟩
theorem ok_sums (F : FnP K "sums" s_sums f fd) (T : Bi mg) (G : Kn w K mg)  : FnOk P w K mg base CX0 1 f fd ["one", "other"] (spBoth addB K) := by
  refine F.ok sc_sums (fun vs H Q E h => ?_) (fun cdv A outer s H vs Q E hr h => ⟨_, PSs.nox
(pss_one (ps_ret (pe_callTy call_tuple_of (by rfl) T.tuple (by decide +kernel) (pa_cons (pe_lc (own := [("low", 2), ("high", 3)]) (g := gTup K 2 (gCons (gName 2) (gCons (gName 3) gNil))) (tt := tYes) rfl sc_sums.nd (RZ.pi_zipA (by rfl) T.zip (pa_cons (pv 0) (pa_cons (pv 1) pa_nil))) (blkOk_by (N := N_sums) (sc := defScope s_sums) (by decide +kernel)) (fun _ _ _ _ _ => pg_tup (by rfl) (pgs_cons (pg_name (i := 2) sc_sums.nd rfl (Or.inl rfl)) (pgs_cons (pg_name (i := 3) sc_sums.nd rfl (Or.inl rfl)) pgs_nil))) (fun _ _ _ _ _ => pts_nil) (fun _ _ _ _ _ => (pe_op op_add (pv 2) (pv 3)))) pa_nil)))), ?_⟩)
  · obtain ⟨u, v, a, b, rfl, _⟩ := h
    rfl
  · obtain ⟨u, v, a, b, rfl, ⟨p1, rfl, h1⟩, ⟨p2, rfl, h2⟩, q⟩ := h
    walk_at "lw i0"
    walk_at "lw go"
    refine g_izipA ?_
    walk_at "lw go"
    refine ⟨p1, p2, _, _, rfl, .inr ⟨h1, h2, fun D hD => it_zipT (n := 4) rfl (fun k G => Sm H G ∧ G D = some (.lst (((addB a b).l.take k).map V.int))) ⟨sm_new hD, upd_same⟩ (fun k G ⟨s1, _⟩ => ⟨sqT_mono s1 h1, sqT_mono s1 h2⟩) ?_ ?_⟩⟩
    · rintro k x y t G' hx hy ⟨s1, hd⟩ ht
      have s2 := sm_new (o := .tup [x, y]) ht
      obtain ⟨i, hi, rfl⟩ := intAt hx
      obtain ⟨j, hj, rfl⟩ := intAt hy
      walk_at "lw go"
      refine g_tupT (SqT.of upd_same) rfl ?_
      walk_at "lw go"
      refine ⟨rfl, g_yes (iteT ?_)⟩
      walk_at "lw go"
      refine ⟨_, s2 _ _ hd, by rw [List.length_map, List.length_take, sizeLine_eq, show (addB a b).l.length = 4 from rfl]; omega, fun b u hb => by rw [upd_ne (ne_of_none hb hD)]; exact s2 _ _ (s1 _ _ hb), ?_⟩
      rw [upd_same, List.take_add_one, addB_at hi hj, List.map_append]
      rfl
    · rintro G' ⟨s1, hd⟩
      walk_at "lw go"
      refine ⟨D, _, rfl, .inl ⟨SqL.of hd, fun p hp => ?_⟩⟩
      exact q _ _ (sm_trans s1 (sm_new hp)) (b4_new rfl)
abbrev N_moved_marks : List Str := ["marks", "begins"]
theorem sc_moved_marks : FnScope N_moved_marks ["marks", "begins"] (defScope s_moved_marks) := ⟨rfl, rfl, rfl, by decide +kernel, rfl, by decide +kernel, by decide +kernel⟩
theorem ok_moved_marks (F : FnP K "moved_marks" s_moved_marks f fd) (T : Bi mg) (G : Kn w K mg) (D_sums : Df P w K mg base "sums" ["one", "other"] 1 (spBoth addB K)) : FnOk P w K mg base CX0 2 f fd ["marks", "begins"] (spMoved K) := by
  refine F.ok sc_moved_marks (fun vs H Q E h => ?_) (fun cdv A outer s H vs Q E hr h => ⟨_, PSs.nox
(pss_one (ps_ret (pe_ifExp (pt_cmpR op_isN (pv 0) pe_non (nomark _)) pe_non (pe_df D_sums (hr.mono (by first | decide | omega)) (pa_cons (pv 0) (pa_cons (pv 1) pa_nil)))))), ?_⟩)
  · obtain ⟨u, v, a, b, rfl, _⟩ := h
    rfl
  · obtain ⟨u, v, a, b, rfl, h1, h2, q⟩ := h
    walk_at "lw i0"
    cases a with
    | none =>
      obtain rfl : u = .non := h1
      walk_at "lw go"
      refine ⟨rfl, bl_is (c := true) (by simp) (iteT ?_)⟩
      walk_at "lw go"
      exact q _ _ (fun _ _ h => h) rfl
    | some a =>
      obtain ⟨p1, rfl, h1⟩ := h1
      walk_at "lw go"
      refine ⟨rfl, bl_is (c := false) (by simp) (iteF ?_)⟩
      walk_at "lw go"
      exact ⟨_, _, a, b, rfl, ⟨p1, rfl, h1⟩, h2, q⟩
abbrev N_around_marks : List Str := ["one", "other"]
theorem sc_around_marks : FnScope N_around_marks ["one", "other"] (defScope s_around_marks) := ⟨rfl, rfl, rfl, by decide +kernel, rfl, by decide +kernel, by decide +kernel⟩
theorem ok_around_marks (F : FnP K "around_marks" s_around_marks f fd) (T : Bi mg) (G : Kn w K mg) (D_box_around : Df P w K mg base "box_around" ["one", "other"] 1 (spBoth around K)) : FnOk P w K mg base CX0 2 f fd ["one", "other"] (spAround K) := by
  refine F.ok sc_around_marks (fun vs H Q E h => ?_) (fun cdv A outer s H vs Q E hr h => ⟨_, PSs.nox
(pss_cons (ps_if (PW.pt (pw_or (pt_cmpR op_isN (pv 0) pe_non (nomark _)) (pw_or1 (pt_cmpR op_isN (pv 1) pe_non (nomark _)))))
  (pss_one (ps_ret (pe_ifExp (pt_cmpR op_isN (pv 0) pe_non (nomark _)) (pv 1) (pv 0))))
  pss_nil)
  (pss_one (ps_ret (pe_df D_box_around (hr.mono (by first | decide | omega)) (pa_cons (pv 0) (pa_cons (pv 1) pa_nil)))))), ?_⟩)
  · obtain ⟨u, v, a, b, rfl, _⟩ := h
    rfl
  · obtain ⟨u, v, a, b, rfl, h1, h2, q⟩ := h
    walk_at "lw i0"
    cases a with
    | none =>
      obtain rfl : u = .non := h1
      walk_at "lw go"
      refine ⟨rfl, bl_is (c := true) (by simp) (iteT ?_)⟩
      walk_at "lw go"
      refine ⟨rfl, bl_is (c := true) (by simp) (iteT ?_)⟩
      walk_at "lw go"
      exact q _ _ (fun _ _ h => h) h2
    | some a =>
      obtain ⟨p1, rfl, h1⟩ := h1
      cases b with
      | none =>
        obtain rfl : v = .non := h2
        walk_at "lw go"
        refine ⟨rfl, bl_is (c := false) (by simp) (iteF ?_)⟩
        walk_at "lw go"
        refine ⟨rfl, bl_is (c := true) (by simp) (iteT ?_)⟩
        walk_at "lw go"
        refine ⟨rfl, bl_is (c := false) (by simp) (iteF ?_)⟩
        walk_at "lw go"
        exact q _ _ (fun _ _ h => h) ⟨p1, rfl, h1⟩
      | some b =>
        obtain ⟨p2, rfl, h2⟩ := h2
        walk_at "lw go"
        refine ⟨rfl, bl_is (c := false) (by simp) (iteF ?_)⟩
        walk_at "lw go"
        refine ⟨rfl, bl_is (c := false) (by simp) (iteF ?_)⟩
        walk_at "lw go"
        exact ⟨_, _, a, b, rfl, ⟨p1, rfl, h1⟩, ⟨p2, rfl, h2⟩, q⟩
abbrev N_reach_of_rows : List Str := ["rows", "ends", "marks", "row", "moved", "found"]
theorem sc_reach_of_rows : FnScope N_reach_of_rows ["rows"] (defScope s_reach_of_rows) := ⟨rfl, rfl, rfl, by decide +kernel, rfl, by decide +kernel, by decide +kernel⟩
abbrev N_reach_of_row : List Str := ["row", "one", "marks", "other", "more", "ends", "last", "end", "begins"]
theorem sc_reach_of_row : FnScope N_reach_of_row ["row"] (defScope s_reach_of_row) := ⟨rfl, rfl, rfl, by decide +kernel, rfl, by decide +kernel, by decide +kernel⟩
theorem ok_reach_of_rows {f2 : Addr} {fd2 : FuncData} (F : FnP K "reach_of_rows" s_reach_of_rows f fd) (F2 : FnP K "reach_of_row" s_reach_of_row f2 fd2) (T : Bi mg) (G : Kn w K mg) (gm : mg "reach_of_rows" = some (.ref f)) (kp : PySem.W.keepIn K (.ref f) = true) (bb : Binds K fd ["rows"] [])
    (gm2 : mg "reach_of_row" = some (.ref f2)) (kp2 : PySem.W.keepIn K (.ref f2) = true) (bb2 : Binds K fd2 ["row"] []) (D_box_around : Df P w K mg base "box_around" ["one", "other"] 1 (spBoth around K)) (D_sums : Df P w K mg base "sums" ["one", "other"] 1 (spBoth addB K)) (D_moved_marks : Df P w K mg base "moved_marks" ["marks", "begins"] 2 (spMoved K)) (D_around_marks : Df P w K mg base "around_marks" ["one", "other"] 2 (spAround K)) :
    ∀ n : Nat, FnOk P w K mg base CX0 (2 * n + 8) f fd ["rows"] (spRowsR K n) ∧ FnOk P w K mg base CX0 (2 * n + 9) f2 fd2 ["row"] (spRow K (n + 1)) := by
  have part : ∀ n : Nat, FnOk P w K mg base CX0 (2 * n + 8) f fd ["rows"] (spRowsR K n) → FnOk P w K mg base CX0 (2 * n + 9) f2 fd2 ["row"] (spRow K (n + 1)) := by
    intro n IH
    have D_reach_of_rows : Df P w K mg base "reach_of_rows" ["rows"] (2 * n + 8) (spRowsR K n) := ⟨f, fd, gm, kp, bb, IH⟩
    refine F2.ok (k := 2 * n + 8) sc_reach_of_row (fun vs H Q E h => ?_) (fun cdv A outer s H vs Q E hr h => ⟨_, PSs.nox
(pss_cons (ps_if (pt_cmpR op_eq (pe_ix ix_tup (pv 0) pe_int (fun _ _ => rfl)) pe_str (nomark _))
  (pss_one (ps_ret (pe_tup (pa_cons (pe_tup (pa_cons (pe_ix ix_tup (pv 0) pe_int (fun _ _ => rfl)) (pa_cons (pe_ix ix_tup (pv 0) pe_int (fun _ _ => rfl)) (pa_cons (pe_ix ix_tup (pv 0) pe_int (fun _ _ => rfl)) (pa_cons (pe_ix ix_tup (pv 0) pe_int (fun _ _ => rfl)) pa_nil))))) (pa_cons pe_non pa_nil)))))
  pss_nil)
  (pss_cons (ps_if (pt_cmpR op_eq (pe_ix ix_tup (pv 0) pe_int (fun _ _ => rfl)) pe_str (nomark _))
  (pss_one (ps_ret (pe_tup (pa_cons (pe_gR (by rfl) G.g_HERE) (pa_cons (pe_tup (pa_cons pe_int (pa_cons pe_int (pa_cons (pe_op op_sub (pe_ix ix_tup (pv 0) pe_int (fun _ _ => rfl)) pe_int) (pa_cons (pe_op op_sub (pe_ix ix_tup (pv 0) pe_int (fun _ _ => rfl)) pe_int) pa_nil))))) pa_nil)))))
  pss_nil)
  (pss_cons (ps_if (pt_cmpR op_eq (pe_ix ix_tup (pv 0) pe_int (fun _ _ => rfl)) pe_str (nomark _))
  (pss_cons (ps_asg (pe_df D_reach_of_rows (hr.mono (by first | decide | omega)) (pa_cons (pe_ix ix_tup (pv 0) pe_int (fun _ _ => rfl)) pa_nil)) (pg_tup (by rfl) (pgs_cons (pg_name (i := 1) sc_reach_of_row.nd rfl (Or.inl rfl)) (pgs_cons (pg_name (i := 2) sc_reach_of_row.nd rfl (Or.inl rfl)) pgs_nil))))
  (pss_cons (ps_asg (pe_df D_reach_of_rows (hr.mono (by first | decide | omega)) (pa_cons (pe_ix ix_tup (pv 0) pe_int (fun _ _ => rfl)) pa_nil)) (pg_tup (by rfl) (pgs_cons (pg_name (i := 3) sc_reach_of_row.nd rfl (Or.inl rfl)) (pgs_cons (pg_name (i := 4) sc_reach_of_row.nd rfl (Or.inl rfl)) pgs_nil))))
  (pss_one (ps_ret (pe_tup (pa_cons (pe_df D_box_around (hr.mono (by first | decide | omega)) (pa_cons (pv 1) (pa_cons (pv 3) pa_nil))) (pa_cons (pe_df D_around_marks (hr.mono (by first | decide | omega)) (pa_cons (pv 2) (pa_cons (pv 4) pa_nil))) pa_nil)))))))
  pss_nil)
  (pss_cons (ps_if (pt_cmpR op_eq (pe_ix ix_tup (pv 0) pe_int (fun _ _ => rfl)) pe_int (nomark _))
  (pss_one (ps_ret (pe_tup (pa_cons (pe_gR (by rfl) G.g_HERE) (pa_cons pe_non pa_nil)))))
  pss_nil)
  (pss_cons (ps_asg (pe_df D_reach_of_rows (hr.mono (by first | decide | omega)) (pa_cons (pe_ix ix_tup (pv 0) pe_int (fun _ _ => rfl)) pa_nil)) (pg_tup (by rfl) (pgs_cons (pg_name (i := 5) sc_reach_of_row.nd rfl (Or.inl rfl)) (pgs_cons (pg_name (i := 2) sc_reach_of_row.nd rfl (Or.inl rfl)) pgs_nil))))
  (pss_cons (ps_setLc (i := 6) (own := [("end", 7)]) (g := gName 7) (tt := tYes) rfl sc_reach_of_row.nd rfl rfl (sw_true rfl rfl rfl (by decide +kernel)) (pi_tup (pv 5)) (blkOk_by (N := N_reach_of_row) (sc := defScope s_reach_of_row) (by decide +kernel)) (fun _ _ _ _ _ => pg_name (i := 7) sc_reach_of_row.nd rfl (Or.inl rfl)) (fun _ _ _ _ _ => pts_nil) (fun _ _ _ _ _ => (pe_op op_mul (pe_op op_sub (pe_ix (ix_tupK (K := K)) (pv 0) pe_int (fun _ _ => rfl)) pe_int) (pv 7))))
  (pss_cons (ps_set (i := 8) sc_reach_of_row.nd rfl (Or.inl rfl) (pe_tup (pa_cons (pe_callB (call_min2 rfl) (by rfl) T.min (by decide +kernel) (pa_cons (pe_ix ix_list (pv 6) pe_int (fun _ _ => rfl)) (pa_cons pe_int pa_nil))) (pa_cons (pe_callB (call_min2 rfl) (by rfl) T.min (by decide +kernel) (pa_cons (pe_ix ix_list (pv 6) pe_int (fun _ _ => rfl)) (pa_cons pe_int pa_nil))) (pa_cons (pe_callB (call_max2 rfl) (by rfl) T.max (by decide +kernel) (pa_cons (pe_ix ix_list (pv 6) pe_int (fun _ _ => rfl)) (pa_cons pe_int pa_nil))) (pa_cons (pe_callB (call_max2 rfl) (by rfl) T.max (by decide +kernel) (pa_cons (pe_ix ix_list (pv 6) pe_int (fun _ _ => rfl)) (pa_cons pe_int pa_nil))) pa_nil))))))
  (pss_one (ps_ret (pe_tup (pa_cons (pe_callTy call_tuple_of (by rfl) T.tuple (by decide +kernel) (pa_cons (pe_lc (own := [("end", 7)]) (g := gName 7) (tt := tYes) rfl sc_reach_of_row.nd (pi_tup (pv 5)) (blkOk_by (N := N_reach_of_row) (sc := defScope s_reach_of_row) (by decide +kernel)) (fun _ _ _ _ _ => pg_name (i := 7) sc_reach_of_row.nd rfl (Or.inl rfl)) (fun _ _ _ _ _ => pts_nil) (fun _ _ _ _ _ => (pe_op op_mul (pe_ix (ix_tupK (K := K)) (pv 0) pe_int (fun _ _ => rfl)) (pv 7)))) pa_nil)) (pa_cons (pe_df D_moved_marks (hr.mono (by first | decide | omega)) (pa_cons (pv 2) (pa_cons (pv 8) pa_nil))) pa_nil)))))))))))), ?_⟩)
    · obtain ⟨v, r, rfl, _⟩ := h
      rfl
    · obtain ⟨v, r, rfl, hR, ho, hd, q⟩ := h
      walk_at "lw i0"
      cases r with
      | junk d => exact ho.elim
      | move a b =>
        obtain ⟨p, rfl, hp⟩ := hR
        obtain ⟨⟨i, rfl, i0, i1⟩, ⟨j, rfl, j0, j1⟩⟩ := ho
        walk_at "lw go"
        refine g_ixT (SqT.of hp) (v := .str "move") (atI_nat (j := 0) (by rfl)) ?_
        walk_at "lw go"
        refine g_ixT (SqT.of hp) (v := .int i) (atI_nat (j := 1) (by rfl)) ?_
        walk_at "lw go"
        refine g_ixT (SqT.of hp) (v := .int j) (atI_nat (j := 2) (by rfl)) ?_
        walk_at "lw go"
        refine g_ixT (SqT.of hp) (v := .int i) (atI_nat (j := 1) (by rfl)) ?_
        walk_at "lw go"
        refine g_ixT (SqT.of hp) (v := .int j) (atI_nat (j := 2) (by rfl)) ?_
        walk_at "lw go"
        refine ⟨by rw [sizeLine_eq]; simp, fun t1 h1 => ?_⟩
        walk_at "lw go"
        refine ⟨by rw [sizeLine_eq]; simp, fun t2 h2 => ?_⟩
        exact q t2 _ _ _ (sm_trans (sm_new h1) (sm_new h2)) upd_same ((b4_new rfl : B4R K (upd H t1 (.tup [.int i, .int j, .int i, .int j])) ⟨i, j, i, j⟩ (.ref t1)).mono (sm_new h2)) rfl
      | mark x1 x2 x3 x4 =>
        obtain ⟨p, rfl, hp⟩ := hR
        obtain ⟨⟨i, rfl, i0, i1⟩, ⟨j, rfl, j0, j1⟩⟩ := ho
        walk_at "lw go"
        refine g_ixT (SqT.of hp) (v := .str "mark") (atI_nat (j := 0) (by rfl)) ?_
        walk_at "lw go"
        refine g_ixT (SqT.of hp) (v := .str "mark") (atI_nat (j := 0) (by rfl)) ?_
        walk_at "lw go"
        refine g_ixT (SqT.of hp) (v := .int i) (atI_nat (j := 2) (by rfl)) ?_
        walk_at "lw go"
        refine g_ixT (SqT.of hp) (v := .int j) (atI_nat (j := 3) (by rfl)) ?_
        walk_at "lw go"
        refine ⟨by rw [sizeLine_eq]; simp, fun t1 h1 => ?_⟩
        walk_at "lw go"
        refine ⟨by rw [sizeLine_eq]; simp, fun t2 h2 => ?_⟩
        exact q t2 _ _ _ (sm_trans (sm_new h1) (sm_new h2)) upd_same (here_R K (G.v_HERE _)) ((b4_new rfl : B4R K (upd H t1 (.tup [.int 0, .int 0, .int (i - 1), .int (j - 1)])) ⟨0, 0, i - 1, j - 1⟩ (.ref t1)).mono (sm_new h2))
      | cond f0 b c =>
        obtain ⟨p, l2, l3, xs2, xs3, rfl, hp, hl2, hl3, hb, hc⟩ := hR
        simp only [dR] at hd
        walk_at "lw go"
        refine g_ixT (SqT.of hp) (v := .str "if") (atI_nat (j := 0) (by rfl)) ?_
        walk_at "lw go"
        refine g_ixT (SqT.of hp) (v := .str "if") (atI_nat (j := 0) (by rfl)) ?_
        walk_at "lw go"
        refine g_ixT (SqT.of hp) (v := .str "if") (atI_nat (j := 0) (by rfl)) ?_
        walk_at "lw go"
        refine g_ixT (SqT.of hp) (v := .ref l2) (atI_nat (j := 2) (by rfl)) ?_
        walk_at "lw go"
        refine ⟨l2, xs2, b, rfl, hl2, hb, ho.1, by omega, fun p2 u1 u2 H2 s2 hp2 hu1 hu2 => ?_⟩
        walk_at "lw go"
        refine g_tupT (SqT.of hp2) rfl ?_
        walk_at "lw go"
        refine g_ixT (SqT.of (s2 _ _ hp)) (v := .ref l3) (atI_nat (j := 3) (by rfl)) ?_
        walk_at "lw go"
        refine ⟨l3, xs3, c, rfl, s2 _ _ hl3, rrs_mono s2 hc, ho.2, by omega, fun p3 u3 u4 H3 s3 hp3 hu3 hu4 => ?_⟩
        walk_at "lw go"
        refine g_tupT (SqT.of hp3) rfl ?_
        walk_at "lw go"
        refine ⟨_, _, _, _, rfl, hu1.mono s3, hu3, fun w1 H4 s4 hw1 => ?_⟩
        walk_at "lw go"
        refine ⟨_, _, _, _, rfl, (hu2.mono s3).mono s4, hu4.mono s4, fun w2 H5 s5 hw2 => ?_⟩
        walk_at "lw go"
        refine ⟨by rw [sizeLine_eq]; simp, fun t2 h2 => ?_⟩
        exact q t2 _ _ _ (sm_trans s2 (sm_trans s3 (sm_trans s4 (sm_trans s5 (sm_new h2))))) upd_same ((hw1.mono s5).mono (sm_new h2)) (hw2.mono (sm_new h2))
      | often n0 b =>
        obtain ⟨p, l2, xs2, rfl, hp, hl2, hb⟩ := hR
        obtain ⟨⟨c, rfl, c0, c1⟩, hob⟩ := ho
        simp only [dR] at hd
        walk_at "lw go"
        refine g_ixT (SqT.of hp) (v := .str "often") (atI_nat (j := 0) (by rfl)) ?_
        walk_at "lw go"
        refine g_ixT (SqT.of hp) (v := .str "often") (atI_nat (j := 0) (by rfl)) ?_
        walk_at "lw go"
        refine g_ixT (SqT.of hp) (v := .str "often") (atI_nat (j := 0) (by rfl)) ?_
        walk_at "lw go"
        refine g_ixT (SqT.of hp) (v := .int c) (atI_nat (j := 1) (by rfl)) ?_
        walk_at "lw go"
        refine g_ite (fun z => ?_) (fun z => ?_)
        · obtain rfl : c = 0 := V.int.inj z
          have e : chR (.often (.int 0) b) = (HERE, none) := by simp only [chR]; rw [if_pos (show (At.int 0).i = 0 from rfl)]
          rw [e] at q
          walk_at "lw go"
          refine ⟨by rw [sizeLine_eq]; simp, fun t2 h2 => ?_⟩
          exact q t2 _ _ _ (sm_new h2) upd_same (here_R K (G.v_HERE _)) rfl
        · have e : chR (.often (.int c) b) = (mulB c (chRs b HERE none).1, mvO (chRs b HERE none).2 (spread c (chRs b HERE none).1)) := by simp only [chR]; rw [if_neg (show ¬ (At.int c).i = 0 from fun z' => z (congrArg V.int z'))]; rfl
          rw [e] at q
          walk_at "lw go"
          refine g_ixT (SqT.of hp) (v := .ref l2) (atI_nat (j := 2) (by rfl)) ?_
          walk_at "lw go"
          refine ⟨l2, xs2, b, rfl, hl2, hb, hob, by omega, fun p2 u1 u2 H2 s2 hp2 hu1 hu2 => ?_⟩
          obtain ⟨e1, rfl, he1⟩ := hu1
          generalize (chRs b HERE none).1 = eB at *
          generalize (chRs b HERE none).2 = mB at *
          walk_at "lw go"
          refine g_tupT (SqT.of hp2) rfl ?_
          walk_at "lw go"
          refine ⟨e1, rfl, ⟨_, he1⟩, fun D hD => it_tup (xs := eB.l.map V.int) (fun k G => Sm H2 G ∧ G D = some (.lst (((mulB (c - 1) eB).l.take k).map V.int))) ⟨sm_new hD, upd_same⟩ (fun k G ⟨s1, _⟩ => sqT_mono s1 he1) ?_ ?_⟩
          · rintro k y G' hy ⟨s3, hd3⟩
            obtain ⟨i, hi, rfl⟩ := intAt hy
            walk_at "lw go"
            refine ⟨rfl, g_yes (iteT ?_)⟩
            walk_at "lw go"
            refine g_ixT (SqT.of (s3 _ _ (s2 _ _ hp))) (v := .int c) (atI_nat (j := 1) (by rfl)) ?_
            walk_at "lw go"
            refine ⟨_, hd3, by rw [List.length_map, List.length_take, sizeLine_eq, show (mulB (c - 1) eB).l.length = 4 from rfl]; omega, fun b u hb => by rw [upd_ne (ne_of_none hb hD)]; exact s3 _ _ hb, ?_⟩
            rw [upd_same, List.take_add_one, mulB_at hi, List.map_append]
            rfl
          · rintro G' ⟨s3, hd3⟩
            have hL : G' D = some (.lst [.int ((c - 1) * eB.a), .int ((c - 1) * eB.b), .int ((c - 1) * eB.c), .int ((c - 1) * eB.d)]) := hd3
            clear hd3
            walk_at "lw go"
            refine g_ixL (SqL.of hL) (atI_nat (j := 0) (by rfl)) ?_
            walk_at "lw go"
            refine ⟨_, _, rfl, ?_⟩
            walk_at "lw go"
            refine g_ixL (SqL.of hL) (atI_nat (j := 1) (by rfl)) ?_
            walk_at "lw go"
            refine ⟨_, _, rfl, ?_⟩
            walk_at "lw go"
            refine g_ixL (SqL.of hL) (atI_nat (j := 2) (by rfl)) ?_
            walk_at "lw go"
            refine ⟨_, _, rfl, ?_⟩
            walk_at "lw go"
            refine g_ixL (SqL.of hL) (atI_nat (j := 3) (by rfl)) ?_
            walk_at "lw go"
            refine ⟨_, _, rfl, ?_⟩
            walk_at "lw go"
            refine ⟨by rw [sizeLine_eq]; simp, fun t3 h3 => ?_⟩
            have e1' : ∀ i j : Int, (if j < i then j else i) = min i j := fun i j => by split <;> omega
            have e2' : ∀ i j : Int, (if j > i then j else i) = max i j := fun i j => by split <;> omega
            have hB : B4R K (upd G' t3 (.tup [.int (if 0 < (c - 1) * eB.a then 0 else (c - 1) * eB.a), .int (if 0 < (c - 1) * eB.b then 0 else (c - 1) * eB.b), .int (if 0 > (c - 1) * eB.c then 0 else (c - 1) * eB.c), .int (if 0 > (c - 1) * eB.d then 0 else (c - 1) * eB.d)])) (spread c eB) (.ref t3) := b4_new (by simp only [e1', e2']; rfl)
            have s4 := sm_trans s3 (sm_new (o := .tup [.int (if 0 < (c - 1) * eB.a then 0 else (c - 1) * eB.a), .int (if 0 < (c - 1) * eB.b then 0 else (c - 1) * eB.b), .int (if 0 > (c - 1) * eB.c then 0 else (c - 1) * eB.c), .int (if 0 > (c - 1) * eB.d then 0 else (c - 1) * eB.d)]) h3)
            generalize upd G' t3 _ = G3 at *
            walk_at "lw go"
            refine ⟨e1, rfl, ⟨_, sqT_mono s4 he1⟩, fun D2 hD2 => it_tup (xs := eB.l.map V.int) (fun k G => Sm G3 G ∧ G D2 = some (.lst (((mulB c eB).l.take k).map V.int))) ⟨sm_new hD2, upd_same⟩ (fun k G ⟨s1, _⟩ => sqT_mono s1 (sqT_mono s4 he1)) ?_ ?_⟩
            · rintro k y G5 hy ⟨s5, hd5⟩
              obtain ⟨i, hi, rfl⟩ := intAt hy
              walk_at "lw go"
              refine ⟨rfl, g_yes (iteT ?_)⟩
              walk_at "lw go"
              refine g_ixT (SqT.of (s5 _ _ (s4 _ _ (s2 _ _ hp)))) (v := .int c) (atI_nat (j := 1) (by rfl)) ?_
              walk_at "lw go"
              refine ⟨_, hd5, by rw [List.length_map, List.length_take, sizeLine_eq, show (mulB c eB).l.length = 4 from rfl]; omega, fun b u hb => by rw [upd_ne (ne_of_none hb hD2)]; exact s5 _ _ hb, ?_⟩
              rw [upd_same, List.take_add_one, mulB_at hi, List.map_append]
              rfl
            · rintro G5 ⟨s5, hd5⟩
              walk_at "lw go"
              refine ⟨D2, _, rfl, .inl ⟨SqL.of hd5, fun t4 h4 => ?_⟩⟩
              have hM : B4R K (upd G5 t4 (.tup (((mulB c eB).l.take (eB.l.map V.int).length).map V.int))) (mulB c eB) (.ref t4) := b4_new rfl
              have s6 := sm_trans s5 (sm_new (o := .tup (((mulB c eB).l.take (eB.l.map V.int).length).map V.int)) h4)
              generalize upd G5 t4 _ = G6 at *
              walk_at "lw go"
              refine ⟨u2, .ref t3, mB, spread c eB, rfl, (hu2.mono s4).mono s6, hB.mono s6, fun w G7 s7 hw => ?_⟩
              walk_at "lw go"
              refine ⟨by rw [sizeLine_eq]; simp, fun t5 h5 => ?_⟩
              exact q t5 _ _ _ (sm_trans s2 (sm_trans s4 (sm_trans s6 (sm_trans s7 (sm_new h5))))) upd_same ((hM.mono s7).mono (sm_new h5)) (hw.mono (sm_new h5))
  intro n
  induction n with
  | zero =>
    have h0 : FnOk P w K mg base CX0 (2 * 0 + 8) f fd ["rows"] (spRowsR K 0) := by
      refine F.ok (k := 7) sc_reach_of_rows (fun vs H Q E h => ?_) (fun cdv A outer s H vs Q E hr h => ?_)
      · obtain ⟨l, xs, rs, rfl, _⟩ := h
        rfl
      · obtain ⟨l, xs, rs, rfl, _, _, _, hd, _⟩ := h
        omega
    exact ⟨h0, part 0 h0⟩
  | succ n ih =>
    have D_reach_of_row : Df P w K mg base "reach_of_row" ["row"] (2 * n + 9) (spRow K (n + 1)) := ⟨f2, fd2, gm2, kp2, bb2, ih.2⟩
    have h0 : FnOk P w K mg base CX0 (2 * (n + 1) + 8) f fd ["rows"] (spRowsR K (n + 1)) := by
      refine F.ok (k := 2 * n + 9) sc_reach_of_rows (fun vs H Q E h => ?_) (fun cdv A outer s H vs Q E hr h => ⟨_, PSs.nox
(pss_cons (ps_par (i := 1) (j := 2) rfl sc_reach_of_rows.nd rfl rfl (by decide) rfl rfl (pa_cons (pe_gR (by rfl) G.g_HERE) (pa_cons pe_non pa_nil)) rfl)
  (pss_cons (ps_for PassesOwn.never rfl (pi_list (pv 0)) (pg_name (i := 3) sc_reach_of_rows.nd rfl (Or.inl rfl))
  (pss_cons (ps_asg (pe_df D_reach_of_row (hr.mono (by first | decide | omega)) (pa_cons (pv 3) pa_nil)) (pg_tup (by rfl) (pgs_cons (pg_name (i := 4) sc_reach_of_rows.nd rfl (Or.inl rfl)) (pgs_cons (pg_name (i := 5) sc_reach_of_rows.nd rfl (Or.inl rfl)) pgs_nil))))
  (pss_cons (ps_set (i := 2) sc_reach_of_rows.nd rfl (Or.inl rfl) (pe_df D_around_marks (hr.mono (by first | decide | omega)) (pa_cons (pv 2) (pa_cons (pe_df D_moved_marks (hr.mono (by first | decide | omega)) (pa_cons (pv 5) (pa_cons (pv 1) pa_nil))) pa_nil))))
  (pss_one (ps_set (i := 1) sc_reach_of_rows.nd rfl (Or.inl rfl) (pe_df D_sums (hr.mono (by first | decide | omega)) (pa_cons (pv 1) (pa_cons (pv 4) pa_nil))))))))
  (pss_one (ps_ret (pe_tup (pa_cons (pv 1) (pa_cons (pv 2) pa_nil))))))), ?_⟩)
      · obtain ⟨l, xs, rs, rfl, _⟩ := h
        rfl
      · obtain ⟨l, xs, rs, rfl, hl, hR, ho, hd, q⟩ := h
        walk_at "lw i0"
        walk_at "lw go"
        refine g_par ?_
        walk_at "lw go"
        refine ⟨_, _, rfl, ?_⟩
        walk_at "lw go"
        refine ⟨l, rfl, ⟨xs, SqL.of hl⟩, for_list (xs := xs) (fun i σ H' => ∃ (e m : V) (o1 o2 o3 : Option V), σ = [some (.ref l), some e, some m, o1, o2, o3] ∧ Sm H H' ∧ B4R K H' (chRs (rs.take i) HERE none).1 e ∧ OB K H' (chRs (rs.take i) HERE none).2 m) ⟨_, _, none, none, none, rfl, fun _ _ h => h, here_R K (G.v_HERE _), rfl⟩ (fun i σ H' _ ⟨_, _, _, _, _, _, s, _⟩ => SqL.of (s _ _ hl)) ?_ ?_⟩
        · rintro i y σ H' hy ⟨e, m, o1, o2, o3, rfl, s0, he, hm⟩
          obtain ⟨r, hr', hrr⟩ := rrs_at hR hy
          have hrr := rr_mono s0 hrr
          have hok := okRs_at ho hr'
          have hdr := dRs_at hr'
          rw [chRs_take rs i r HERE none hr']
          walk_at "lw go"
          refine ⟨y, r, rfl, hrr, hok, by omega, fun p u1 u2 H1 s1 hp hu1 hu2 => ?_⟩
          walk_at "lw go"
          refine g_tupT (SqT.of hp) rfl ?_
          walk_at "lw go"
          refine ⟨u2, e, _, _, rfl, hu2, he.mono s1, fun w1 H2 s2 hw1 => ?_⟩
          walk_at "lw go"
          refine ⟨m, w1, _, _, rfl, (hm.mono s1).mono s2, hw1, fun w2 H3 s3 hw2 => ?_⟩
          walk_at "lw go"
          refine ⟨e, u1, _, _, rfl, ((he.mono s1).mono s2).mono s3, (hu1.mono s2).mono s3, fun w3 H4 s4 hw3 => ?_⟩
          walk_at "lw go"
          exact ⟨_, _, _, _, _, rfl, sm_trans s0 (sm_trans s1 (sm_trans s2 (sm_trans s3 s4))), hw3, hw2.mono s4⟩
        · rintro σ H' ⟨e, m, o1, o2, o3, rfl, s0, he, hm⟩
          have hlen := rrs_len hR
          rw [hlen, List.take_length] at he hm
          walk_at "lw go"
          refine ⟨by rw [sizeLine_eq]; simp, fun t5 h5 => ?_⟩
          exact q t5 _ _ _ (sm_trans s0 (sm_new h5)) upd_same (he.mono (sm_new h5)) (hm.mono (sm_new h5))
    exact ⟨h0, part (n + 1) h0⟩
abbrev N_reach_of : List Str := ["brush"]
theorem sc_reach_of : FnScope N_reach_of ["brush"] (defScope s_reach_of) := ⟨rfl, rfl, rfl, by decide +kernel, rfl, by decide +kernel, by decide +kernel⟩
theorem ok_reach_of (F : FnP K "reach_of" s_reach_of f fd) (T : Bi mg) (G : Kn w K mg) (DX_must_brush : DfX P w K mg base "must_brush" ["brush"] 9 (spMust K)) (D_reach_of_rows : Df P w K mg base "reach_of_rows" ["rows"] 16 (spRowsR K 4)) : FnOk P w K mg base (L2.CX P w) 22 f fd ["brush"] (spReach K) := by
  refine F.ok (k := 21) sc_reach_of (fun vs H Q E h => ?_) (fun cdv A outer s H vs Q E hr h => ⟨_,
(pss_cons (ps_expr (pe_dfX DX_must_brush (hr.mono (by first | decide | omega)) (takes_of rfl rfl rfl rfl) (pa_cons (pv 0) pa_nil)))
  (pss_one (ps_ret (pe_ix ix_tup (pe_df D_reach_of_rows (hr.mono (by first | decide | omega)) (pa_cons (pv 0) pa_nil)) pe_int (fun _ _ => rfl))))), ?_⟩)
  · obtain ⟨_, _, _, rfl, _⟩ := h
    rfl
  · obtain ⟨l, xs, rs, rfl, hl, hR, hz, hd, qN, qF⟩ := h
    walk_at "lw i0"
    walk_at "lw go"
    refine g_callS ?_
    walk_at "lw go"
    refine ⟨l, xs, rs, rfl, hl, hR, hz, hd, fun hn H1 s1 => ?_, qF⟩
    have hok : okRs rs := oks_none (k := 0) (by
      unfold faultB at hn
      exact (or_none hn).1)
    walk_at "lw go"
    refine ⟨l, xs, rs, rfl, s1 _ _ hl, rrs_mono s1 hR, hok, hd, fun p u1 u2 H2 s2 hp hu1 hu2 => ?_⟩
    walk_at "lw go"
    refine g_ixT (SqT.of hp) (v := u2) (atI_nat (j := 1) (by rfl)) ?_
    exact qN hn u2 H2 (sm_trans s1 s2) hu2
abbrev N_law_mixed : List Str := ["_law_cell", "_law_k", "_law_figure"]
theorem sc_law_mixed : FnScope N_law_mixed ["_law_cell", "_law_k"] (defScope s_law_mixed) := ⟨rfl, rfl, rfl, by decide +kernel, rfl, by decide +kernel, by decide +kernel⟩
theorem ok_law_mixed (F : FnP K "_law_mixed" s_law_mixed f fd) (T : Bi mg) (G : Kn w K mg)  : FnOk P w K mg base CX0 1 f fd ["_law_cell", "_law_k"] spMixed := by
  refine F.ok sc_law_mixed (fun vs H Q E h => ?_) (fun cdv A outer s H vs Q E hr h => ⟨_, PSs.nox
(pss_cons (ps_set (i := 2) sc_law_mixed.nd rfl (Or.inl rfl) (pe_op op_mod (pe_op op_add (pe_op op_add (pe_op op_add (pe_op op_mul (pv 0) pe_int) (pe_op op_mul (pe_op op_mul pe_int (pv 1)) (pv 1))) (pv 1)) pe_int) pe_int))
  (pss_cons (ps_set (i := 2) sc_law_mixed.nd rfl (Or.inl rfl) (pe_op op_mod (pe_op op_add (pe_op op_mul (pv 2) (pv 2)) pe_int) pe_int))
  (pss_one (ps_ret (pe_op op_mod (pe_op op_mul (pv 2) pe_int) pe_int))))), ?_⟩)
  · obtain ⟨a, k, rfl, _⟩ := h
    rfl
  · obtain ⟨a, k, rfl, h0, h1, q⟩ := h
    walk_at "lw i0"
    walk_at "lw go"
    exact q _
abbrev N_law_purse : List Str := ["_law_script", "_law_at", "_law_cell"]
theorem sc_law_purse : FnScope N_law_purse ["_law_script", "_law_at"] (defScope s_law_purse) := ⟨rfl, rfl, rfl, by decide +kernel, rfl, by decide +kernel, by decide +kernel⟩
theorem ok_law_purse (F : FnP K "_law_purse" s_law_purse f fd) (T : Bi mg) (G : Kn w K mg)  : FnOk P w K mg base CX0 1 f fd ["_law_script", "_law_at"] (spPurse2 K) := by
  refine F.ok sc_law_purse (fun vs H Q E h => ?_) (fun cdv A outer s H vs Q E hr h => ⟨_, PSs.nox
(pss_cons (ps_set (i := 2) sc_law_purse.nd rfl (Or.inl rfl) (pe_callB (cr_sum rfl) (by rfl) T.sum (by decide +kernel) (pa_cons (pe_slice sl_list (pv 0) (po_some (pv 1)) (po_some (pe_op op_add (pv 1) pe_int))) pa_nil)))
  (pss_one (ps_ret (pe_lst (pa_cons (pe_op op_mod (pe_callB (call_max2 rfl) (by rfl) T.max (by decide +kernel) (pa_cons (pe_op op_sub (pv 2) (pe_op op_pow pe_int pe_int)) (pa_cons pe_int pa_nil))) (pe_op op_powW (pe_op op_pow pe_int pe_int) pe_int)) (pa_cons (pe_op op_mod (pv 2) pe_int) (pa_cons (pe_op op_mul pe_int (pv 1)) pa_nil))))))), ?_⟩)
  · obtain ⟨a, ns, k, rfl, _⟩ := h
    rfl
  · obtain ⟨a, ns, k, rfl, hS, hk, hk2, q⟩ := h
    walk_at "lw i0"
    walk_at "lw go"
    refine ⟨a, _, rfl, hS, fun t ht => ?_⟩
    rw [cut_ints]
    walk_at "lw go"
    refine ⟨t, _, rfl, SqL.of upd_same, ?_⟩
    walk_at "lw go"
    refine ⟨_, _, rfl, ?_⟩
    walk_at "lw go"
    refine ⟨by show 3 ≤ sizeLine; decide, fun p hp => ?_⟩
    have e : H p = none := by
      cases e : H p with
      | none => rfl
      | some u => rw [upd_ne (ne_of_none e ht), e] at hp; cases hp
    exact q p _ _ e (fun b u hb => by rw [upd_ne (ne_of_none hb e), upd_ne (ne_of_none hb ht)]; exact hb) upd_same ⟨_, _, _, rfl, by omega, by omega⟩
abbrev N_law_draw : List Str := ["_law_purse_here", "_law_out_of", "_law_drawn", "_law_figure", "_law_k"]
theorem sc_law_draw : FnScope N_law_draw ["_law_purse_here", "_law_out_of"] (defScope s_law_draw) := ⟨rfl, rfl, rfl, by decide +kernel, rfl, by decide +kernel, by decide +kernel⟩
theorem ok_law_draw (F : FnP K "_law_draw" s_law_draw f fd) (T : Bi mg) (G : Kn w K mg) (D_law_mixed : Df P w K mg base "_law_mixed" ["_law_cell", "_law_k"] 1 spMixed) : FnOk P w K mg base CX0 2 f fd ["_law_purse_here", "_law_out_of"] spDraw := by
  refine F.ok sc_law_draw (fun vs H Q E h => ?_) (fun cdv A outer s H vs Q E hr h => ⟨_, PSs.nox
(pss_cons (ps_if (pt_cmpR op_gt (pe_ix ix_list (pv 0) pe_int (fun _ _ => rfl)) pe_int (nomark _))
  (pss_cons (ps_set (i := 2) sc_law_draw.nd rfl (Or.inl rfl) (pe_op op_mod (pe_ix ix_list (pv 0) pe_int (fun _ _ => rfl)) (pv 1)))
  (pss_cons (ps_asg (pe_op op_fdivW (pe_ix ix_list (pv 0) pe_int (fun _ _ => rfl)) (pv 1)) (pg_sub (pv 0) pe_int set_list))
  (pss_one (ps_ret (pv 2)))))
  pss_nil)
  (pss_cons (ps_set (i := 3) sc_law_draw.nd rfl (Or.inl rfl) pe_int)
  (pss_cons (ps_for PassesOwn.never rfl (pi_range1 (by rfl) T.range (pa_cons (pe_op op_add pe_int (pe_op op_fdiv (pe_bits (pv 1)) pe_int)) pa_nil)) (pg_name (i := 4) sc_law_draw.nd rfl (Or.inl rfl))
  (pss_cons (ps_asg (pe_op op_add (pe_ix ix_list (pv 0) pe_int (fun _ _ => rfl)) pe_int) (pg_sub (pv 0) pe_int set_list))
  (pss_one (ps_set (i := 3) sc_law_draw.nd rfl (Or.inl rfl) (pe_op op_add (pe_op op_mul (pv 3) pe_int) (pe_df D_law_mixed (hr.mono (by first | decide | omega)) (pa_cons (pe_ix ix_list (pv 0) pe_int (fun _ _ => rfl)) (pa_cons (pe_ix ix_list (pv 0) pe_int (fun _ _ => rfl)) pa_nil))))))))
  (pss_one (ps_ret (pe_op op_mod (pv 3) (pv 1))))))), ?_⟩)
  · obtain ⟨p, n, m, o, rfl, _⟩ := h
    rfl
  · obtain ⟨p, n, m, o, rfl, hp, ⟨a, b, c, rfl, c0, c1⟩, hm, hn, hn2, q⟩ := h
    walk_at "lw i0"
    walk_at "lw go"
    refine g_ixL (SqL.of hp) (v := .int a) rfl ?_
    walk_at "lw go"
    refine g_ite (fun h => ?_) (fun h => ?_)
    · walk_at "lw go"
      refine g_ixL (SqL.of hp) (v := .int a) rfl ?_
      walk_at "lw go"
      refine g_ixL (SqL.of hp) (v := .int a) rfl ?_
      walk_at "lw go"
      refine g_setL (m := 0) hp (by rfl) ?_
      walk_at "lw go"
      exact q _ _ (Int.emod_nonneg _ (by omega)) (Int.emod_lt_of_pos _ hn) ⟨_, _, _, rfl, c0, by omega⟩
    · have hb := bits_le (n := n) (by omega) hn2
      walk_at "lw go"
      refine ⟨_, rfl, by omega, by omega, for_range (fun i σ H' => ∃ (num c' : Int) (v4 : Option V), σ = [some (.ref p), some (.int n), none, some (.int num), v4] ∧ H' p = some (.lst [.int a, .int b, .int c']) ∧ 0 ≤ c' ∧ c' ≤ c + i ∧ (∀ x, upd H' p x = upd H p x) ∧ upd H p (.lst [.int a, .int b, .int c']) = H')
        ⟨0, c, none, rfl, hp, c0, by omega, fun _ => rfl, upd_self hp⟩ ?_ ?_⟩
      · rintro i σ H' hi ⟨num, c', v4, rfl, hp', d0, d1, hu, he⟩
        walk_at "lw go"
        refine g_ixL (SqL.of hp') (v := .int c') rfl ?_
        walk_at "lw go"
        refine g_setL (m := 2) hp' (by rfl) ?_
        walk_at "lw go"
        refine g_ixL (SqL.of upd_same) (v := .int b) rfl ?_
        walk_at "lw go"
        refine g_ixL (SqL.of upd_same) (v := .int (c' + 1)) rfl ?_
        walk_at "lw go"
        refine ⟨b, c' + 1, rfl, by omega, by omega, fun x => ?_⟩
        walk_at "lw go"
        refine ⟨_, c' + 1, _, rfl, upd_same, by omega, by omega, fun x => ?_, ?_⟩
        · rw [upd_upd]; exact hu x
        · exact (hu _).symm
      · rintro σ H' ⟨num, c', v4, rfl, hp', d0, d1, hu, he⟩
        walk_at "lw go"
        rw [← he]
        exact q _ _ (Int.emod_nonneg _ (by omega)) (Int.emod_lt_of_pos _ hn) ⟨_, _, _, rfl, d0, by omega⟩
abbrev N_law_rows : List Str := ["_law_purse_here", "_law_deep", "_law_found", "_law_k", "_law_way", "_law_far", "_law_word", "_law_wide"]
theorem sc_law_rows : FnScope N_law_rows ["_law_purse_here", "_law_deep"] (defScope s_law_rows) := ⟨rfl, rfl, rfl, by decide +kernel, rfl, by decide +kernel, by decide +kernel⟩
theorem ok_law_rows (F : FnP K "_law_rows" s_law_rows f fd) (T : Bi mg) (G : Kn w K mg) (D_law_draw : Df P w K mg base "_law_draw" ["_law_purse_here", "_law_out_of"] 2 spDraw) (gm : mg "_law_rows" = some (.ref f)) (kp : PySem.W.keepIn K (.ref f) = true) (bb : Binds K fd ["_law_purse_here", "_law_deep"] []) : ∀ n : Nat, FnOk P w K mg base CX0 (n + 3) f fd ["_law_purse_here", "_law_deep"] (spDrawn K n)
  | 0 => by
    refine F.ok sc_law_rows (fun vs H Q E h => ?_) (fun cdv A outer s H vs Q E hr h => ?_)
    · obtain ⟨p, m, o, d, N, rfl, _⟩ := h
      rfl
    · exact (spDrawn_zero h).elim
  | n + 1 => by
    have D_law_rows : Df P w K mg base "_law_rows" ["_law_purse_here", "_law_deep"] (n + 3) (spDrawn K n) := ⟨f, fd, gm, kp, bb, ok_law_rows F T G D_law_draw gm kp bb n⟩
    refine F.ok (k := n + 3) sc_law_rows (fun vs H Q E h => ?_) (fun cdv A outer s H vs Q E hr h => ⟨_, PSs.nox
(pss_cons (ps_set (i := 2) sc_law_rows.nd rfl (Or.inl rfl) (pe_lst pa_nil))
  (pss_cons (ps_for PassesOwn.never rfl (pi_range1 (by rfl) T.range (pa_cons (pe_df D_law_draw (hr.mono (by first | decide | omega)) (pa_cons (pv 0) (pa_cons (pe_ix ix_list (pe_lst (pa_cons pe_int (pa_cons pe_int (pa_cons pe_int pa_nil)))) (pv 1) (fun _ _ => rfl)) pa_nil))) pa_nil)) (pg_name (i := 3) sc_law_rows.nd rfl (Or.inl rfl))
  (pss_cons (ps_set (i := 4) sc_law_rows.nd rfl (Or.inl rfl) (pe_df D_law_draw (hr.mono (by first | decide | omega)) (pa_cons (pv 0) (pa_cons (pe_ix ix_list (pe_lst (pa_cons pe_int (pa_cons pe_int (pa_cons pe_int pa_nil)))) (pv 1) (fun _ _ => rfl)) pa_nil))))
  (pss_one (ps_if (pt_cmpR op_lt (pv 4) pe_int (nomark _))
  (pss_cons (ps_set (i := 5) sc_law_rows.nd rfl (Or.inl rfl) (pe_ix ix_list (pe_lst (pa_cons pe_int (pa_cons pe_int pa_nil))) (pe_df D_law_draw (hr.mono (by first | decide | omega)) (pa_cons (pv 0) (pa_cons pe_int pa_nil))) (fun _ _ => rfl)))
  (pss_one (ps_expr (pe_bm PySem.F.plainAttrs_list PySem.F.slot_list_append PySem.F.type_list_append mt_append (pv 2) (pa_cons (pe_tup (pa_cons pe_str (pa_cons (pe_op op_sub (pe_df D_law_draw (hr.mono (by first | decide | omega)) (pa_cons (pv 0) (pa_cons pe_int pa_nil))) pe_int) (pa_cons (pe_op op_sub (pe_df D_law_draw (hr.mono (by first | decide | omega)) (pa_cons (pv 0) (pa_cons (pe_op op_add (pe_op op_mul pe_int (pv 5)) pe_int) pa_nil))) (pv 5)) pa_nil)))) pa_nil)))))
  (pss_one (ps_if (pt_cmpR op_lt (pv 4) pe_int (nomark _))
  (pss_cons (ps_set (i := 6) sc_law_rows.nd rfl (Or.inl rfl) (pe_ix ix_list (pe_lst (pa_cons pe_str (pa_cons pe_str (pa_cons pe_str (pa_cons pe_str pa_nil))))) (pe_df D_law_draw (hr.mono (by first | decide | omega)) (pa_cons (pv 0) (pa_cons pe_int pa_nil))) (fun _ _ => rfl)))
  (pss_cons (ps_set (i := 7) sc_law_rows.nd rfl (Or.inl rfl) (pe_op op_add pe_int (pe_df D_law_draw (hr.mono (by first | decide | omega)) (pa_cons (pv 0) (pa_cons pe_int pa_nil)))))
  (pss_one (ps_expr (pe_bm PySem.F.plainAttrs_list PySem.F.slot_list_append PySem.F.type_list_append mt_append (pv 2) (pa_cons (pe_tup (pa_cons pe_str (pa_cons (pv 6) (pa_cons (pv 7) (pa_cons (pe_op op_add pe_int (pe_df D_law_draw (hr.mono (by first | decide | omega)) (pa_cons (pv 0) (pa_cons pe_int pa_nil)))) (pa_cons (pe_op op_sub (pe_df D_law_draw (hr.mono (by first | decide | omega)) (pa_cons (pv 0) (pa_cons pe_int pa_nil))) pe_int) pa_nil)))))) pa_nil))))))
  (pss_one (ps_if (pt_cmpR op_lt (pv 4) pe_int (nomark _))
  (pss_one (ps_expr (pe_bm PySem.F.plainAttrs_list PySem.F.slot_list_append PySem.F.type_list_append mt_append (pv 2) (pa_cons (pe_tup (pa_cons pe_str (pa_cons (pe_df D_law_draw (hr.mono (by first | decide | omega)) (pa_cons (pv 0) (pa_cons pe_int pa_nil))) (pa_cons (pe_df D_law_rows (hr.mono (by first | decide | omega)) (pa_cons (pv 0) (pa_cons (pe_op op_sub (pv 1) pe_int) pa_nil))) pa_nil)))) pa_nil))))
  (pss_one (ps_expr (pe_bm PySem.F.plainAttrs_list PySem.F.slot_list_append PySem.F.type_list_append mt_append (pv 2) (pa_cons (pe_tup (pa_cons pe_str (pa_cons (pe_df D_law_draw (hr.mono (by first | decide | omega)) (pa_cons (pv 0) (pa_cons pe_int pa_nil))) (pa_cons (pe_df D_law_rows (hr.mono (by first | decide | omega)) (pa_cons (pv 0) (pa_cons (pe_op op_sub (pv 1) pe_int) pa_nil))) (pa_cons (pe_df D_law_rows (hr.mono (by first | decide | omega)) (pa_cons (pv 0) (pa_cons (pe_op op_sub (pv 1) pe_int) pa_nil))) pa_nil))))) pa_nil))))))))))))
  (pss_one (ps_ret (pv 2))))), ?_⟩)
    · obtain ⟨p, m, o, d, N, rfl, _⟩ := h
      rfl
    · obtain ⟨p, m, o, d, N, rfl, hp, hP, hm, hd, hd2, hS, hN, q⟩ := h
      walk_at "lw i0"
      walk_at "lw go"
      refine ⟨by rw [sizeLine_eq]; simp, fun L hL => ?_⟩
      have nL : N L = none := by
        cases e : N L with
        | none => rfl
        | some v => have := hS _ _ e; rw [hL] at this; cases this
      have npL : L ≠ p := fun e => by rw [e, hp] at hL; cases hL
      have D : Dw K N H p L d m (upd H L (.lst [])) N [] [] := ⟨Keep.refl.new hL, ⟨o, sm_up hL _ _ hp, hP⟩, (Grow.refl hS).aside nL, hN, nL, upd_same, npL, hL, rfl, fun r hr => (by cases hr)⟩
      generalize upd H L (.lst []) = G at *
      have e3 : atI [V.int 3, .int 4, .int 5] (d : Nat) = some (.int ((lenR d : Nat) + 1)) := by
        rcases (show d = 0 ∨ d = 1 ∨ d = 2 by omega) with rfl | rfl | rfl <;> rfl
      have e5 : atI [V.int 5, .int 7, .int 8] (d : Nat) = some (.int (if d = 0 then 5 else if d = 1 then 7 else 8)) := by
        rcases (show d = 0 ∨ d = 1 ∨ d = 2 by omega) with rfl | rfl | rfl <;> rfl
      have hlen : lenR d ≤ 4 := by unfold lenR; split <;> (try split) <;> omega
      have hcost : 24 ≤ costR d ∧ costR d ≤ 2100 := by unfold costR; split <;> (try split) <;> omega
      have htot : 4 + (lenR d : Nat) * costR d ≤ capR d := by
        rcases (show d = 0 ∨ d = 1 ∨ d = 2 by omega) with rfl | rfl | rfl <;> decide
      walk_at "lw go"
      refine ⟨by rw [sizeLine_eq]; simp, fun t ht => ?_⟩
      have ntp : t ≠ p := fun e => by obtain ⟨o9, h9, _⟩ := D.ap; rw [e, h9] at ht; cases ht
      replace D := D.new (u := .lst [.int 3, .int 4, .int 5]) ht
      have hT : upd G t (.lst [.int 3, .int 4, .int 5]) t = some (.lst [.int 3, .int 4, .int 5]) := upd_same
      generalize upd G t _ = G at *
      walk_at "lw go"
      refine g_ixL (SqL.of hT) e3 ?_
      walk_at "lw go"
      obtain ⟨o1, hp1, hP1⟩ := D.ap
      refine ⟨p, _, _, o1, rfl, hp1, hP1, by omega, by omega, by omega, fun c o2 c0 c1 hP2 => ?_⟩
      replace D := D.draw hP2
      clear hp1 hP1 hP2
      generalize upd G p o2 = G at *
      clear hT
      walk_at "lw go"
      refine ⟨c, rfl, by omega, by omega, for_range (fun i σ G => ∃ (o1 o2 o3 o4 o5 : Option V) (N1 : Hp) (ys : List V) (rs : List Br.Row), σ = [some (.ref p), some (.int (d : Nat)), some (.ref L), o1, o2, o3, o4, o5] ∧ Dw K N H p L d (m + 4 + i * costR d) G N1 ys rs ∧ rs.length = i) ⟨none, none, none, none, none, N, [], [], rfl, by simpa using D, rfl⟩ ?_ ?_⟩
      · rintro i σ G hi ⟨o1, o2, o3, o4, o5, N1, ys, rs, rfl, D, hlr⟩
        have hil : i < lenR d := by omega
        have hys : ys.length = i := by rw [rrs_len D.rrs, hlr]
        have hX0 : 0 ≤ (i : Int) * costR d := Int.mul_nonneg (Int.natCast_nonneg i) (by omega)
        have hX1 : ((i + 1 : Nat) : Int) * costR d = (i : Int) * costR d + costR d := by rw [Int.natCast_add, Int.add_mul]; simp
        have hX2 : ((i + 1 : Nat) : Int) * costR d ≤ (lenR d : Nat) * costR d := Int.mul_le_mul_of_nonneg_right (by omega) (by omega)
        have hcap : capR d ≤ 10000 := by unfold capR; split <;> (try split) <;> omega
        rw [hX1]
        rw [hX1] at hX2
        generalize (i : Int) * costR d = X at *
        walk_at "lw go"
        refine ⟨by rw [sizeLine_eq]; simp, fun t ht => ?_⟩
        have ntp : t ≠ p := fun e => by obtain ⟨o9, h9, _⟩ := D.ap; rw [e, h9] at ht; cases ht
        replace D := D.new (u := .lst [.int 5, .int 7, .int 8]) ht
        have hT : upd G t (.lst [.int 5, .int 7, .int 8]) t = some (.lst [.int 5, .int 7, .int 8]) := upd_same
        generalize upd G t _ = G at *
        walk_at "lw go"
        refine g_ixL (SqL.of hT) e5 ?_
        walk_at "lw go"
        obtain ⟨o1, hp1, hP1⟩ := D.ap
        refine ⟨p, _, _, o1, rfl, hp1, hP1, by omega, by split <;> (try split) <;> omega, by split <;> (try split) <;> omega, fun w o2 w0 w1 hP2 => ?_⟩
        replace D := D.draw hP2
        clear hp1 hP1 hP2
        generalize upd G p o2 = G at *
        clear hT ht ntp
        walk_at "lw go"
        refine g_ite (fun hw2 => ?_) (fun hw2 => ?_)
        · walk_at "lw go"
          refine ⟨by rw [sizeLine_eq]; simp, fun t ht => ?_⟩
          have ntp : t ≠ p := fun e => by obtain ⟨o9, h9, _⟩ := D.ap; rw [e, h9] at ht; cases ht
          replace D := D.new (u := .lst [.int 1, .int 100]) ht
          have hT : upd G t (.lst [.int 1, .int 100]) t = some (.lst [.int 1, .int 100]) := upd_same
          generalize upd G t _ = G at *
          walk_at "lw go"
          obtain ⟨o1, hp1, hP1⟩ := D.ap
          refine ⟨p, _, _, o1, rfl, hp1, hP1, by omega, by decide, by decide, fun v o2 v0 v1 hP2 => ?_⟩
          replace D := D.draw hP2
          clear hp1 hP1 hP2
          replace hT := (upd_ne (o := o2) ntp).trans hT
          generalize upd G p o2 = G at *
          obtain ⟨far, hfar, hf1⟩ : ∃ far : Int, atI [V.int 1, .int 100] v = some (.int far) ∧ (far = 1 ∨ far = 100) := by
            rcases (show v = 0 ∨ v = 1 by omega) with rfl | rfl
            · exact ⟨1, rfl, .inl rfl⟩
            · exact ⟨100, rfl, .inr rfl⟩
          walk_at "lw go"
          refine g_ixL (SqL.of hT) hfar ?_
          clear hT ht ntp
          walk_at "lw go"
          walk_at "lw go"
          refine ⟨.inl ⟨rfl, _, SqL.of D.at_⟩, ?_⟩
          walk_at "lw go"
          obtain ⟨o1, hp1, hP1⟩ := D.ap
          refine ⟨p, 41, _, o1, rfl, hp1, hP1, by omega, by decide, by decide, fun x o2 x0 x1 hP2 => ?_⟩
          replace D := D.draw hP2
          clear hp1 hP1 hP2
          generalize upd G p o2 = G at *
          walk_at "lw go"
          obtain ⟨o1, hp1, hP1⟩ := D.ap
          refine ⟨p, (2 * far + 1), _, o1, rfl, hp1, hP1, by omega, by omega, by omega, fun z o2 z0 z1 hP2 => ?_⟩
          replace D := D.draw hP2
          clear hp1 hP1 hP2
          generalize upd G p o2 = G at *
          walk_at "lw go"
          refine ⟨by rw [sizeLine_eq]; simp, fun t ht => ?_⟩
          refine ⟨L, ys, .ref t, rfl, rfl, sm_up ht _ _ D.at_, by rw [hys, sizeLine_eq]; omega, ?_⟩
          exact ⟨_, _, _, _, _, _, _, _, rfl, D.tup ht ⟨t, rfl, upd_same⟩ (r := .move (.int (x - 20)) (.int (z - far))) (good_move (by omega) (by omega)) (by omega), by rw [List.length_append, hlr]; rfl⟩
        · walk_at "lw go"
          refine g_ite (fun hw5 => ?_) (fun hw5 => ?_)
          · walk_at "lw go"
            refine ⟨by rw [sizeLine_eq]; simp, fun t ht => ?_⟩
            have ntp : t ≠ p := fun e => by obtain ⟨o9, h9, _⟩ := D.ap; rw [e, h9] at ht; cases ht
            replace D := D.new (u := .lst [.str "set", .str "raise", .str "least", .str "most"]) ht
            have hT : upd G t (.lst [.str "set", .str "raise", .str "least", .str "most"]) t = some (.lst [.str "set", .str "raise", .str "least", .str "most"]) := upd_same
            generalize upd G t _ = G at *
            walk_at "lw go"
            obtain ⟨o1, hp1, hP1⟩ := D.ap
            refine ⟨p, _, _, o1, rfl, hp1, hP1, by omega, by decide, by decide, fun v o2 v0 v1 hP2 => ?_⟩
            replace D := D.draw hP2
            clear hp1 hP1 hP2
            replace hT := (upd_ne (o := o2) ntp).trans hT
            generalize upd G p o2 = G at *
            obtain ⟨word, hword, hwm⟩ : ∃ y : Str, atI [V.str "set", .str "raise", .str "least", .str "most"] v = some (.str y) ∧ y ∈ marks := by
              rcases (show v = 0 ∨ v = 1 ∨ v = 2 ∨ v = 3 by omega) with rfl | rfl | rfl | rfl
              · exact ⟨"set", rfl, by decide +kernel⟩
              · exact ⟨"raise", rfl, by decide +kernel⟩
              · exact ⟨"least", rfl, by decide +kernel⟩
              · exact ⟨"most", rfl, by decide +kernel⟩
            walk_at "lw go"
            refine g_ixL (SqL.of hT) hword ?_
            clear hT ht ntp
            walk_at "lw go"
            obtain ⟨o1, hp1, hP1⟩ := D.ap
            refine ⟨p, 9, _, o1, rfl, hp1, hP1, by omega, by decide, by decide, fun x o2 x0 x1 hP2 => ?_⟩
            replace D := D.draw hP2
            clear hp1 hP1 hP2
            generalize upd G p o2 = G at *
            walk_at "lw go"
            refine ⟨.inl ⟨rfl, _, SqL.of D.at_⟩, ?_⟩
            walk_at "lw go"
            obtain ⟨o1, hp1, hP1⟩ := D.ap
            refine ⟨p, 6, _, o1, rfl, hp1, hP1, by omega, by decide, by decide, fun y o2 y0 y1 hP2 => ?_⟩
            replace D := D.draw hP2
            clear hp1 hP1 hP2
            generalize upd G p o2 = G at *
            walk_at "lw go"
            obtain ⟨o1, hp1, hP1⟩ := D.ap
            refine ⟨p, 99999, _, o1, rfl, hp1, hP1, by omega, by decide, by decide, fun z o2 z0 z1 hP2 => ?_⟩
            replace D := D.draw hP2
            clear hp1 hP1 hP2
            generalize upd G p o2 = G at *
            walk_at "lw go"
            refine ⟨by rw [sizeLine_eq]; simp, fun t ht => ?_⟩
            refine ⟨L, ys, .ref t, rfl, rfl, sm_up ht _ _ D.at_, by rw [hys, sizeLine_eq]; omega, ?_⟩
            exact ⟨_, _, _, _, _, _, _, _, rfl, D.tup ht ⟨t, rfl, upd_same⟩ (r := .mark word (.int (1 + x)) (.int (1 + y)) (.int (z - 999))) (good_mark hwm (by omega) (by omega) (by omega)) (by omega), by rw [List.length_append, hlr]; rfl⟩
          · walk_at "lw go"
            have d0 : d ≠ 0 := fun e => by
              subst e
              simp at w1
              omega
            obtain ⟨d', rfl⟩ : ∃ d', d = d' + 1 := ⟨d - 1, by omega⟩
            have hcs : 8 + 2 * capR d' ≤ costR (d' + 1) ∨ (d' = 0 ∧ 8 + capR d' ≤ costR (d' + 1)) := by
              rcases (show d' = 0 ∨ d' = 1 by omega) with rfl | rfl
              · exact .inr ⟨rfl, by decide⟩
              · exact .inl (by decide)
            have hcap0 : 0 ≤ capR d' := by unfold capR; split <;> (try split) <;> omega
            refine g_ite (fun hw7 => ?_) (fun hw7 => ?_)
            · walk_at "lw go"
              refine ⟨.inl ⟨rfl, _, SqL.of D.at_⟩, ?_⟩
              walk_at "lw go"
              obtain ⟨o1, hp1, hP1⟩ := D.ap
              refine ⟨p, 5, _, o1, rfl, hp1, hP1, by omega, by decide, by decide, fun x o2 x0 x1 hP2 => ?_⟩
              replace D := D.draw hP2
              clear hp1 hP1 hP2
              generalize upd G p o2 = G at *
              walk_at "lw go"
              obtain ⟨o8, h81, h82⟩ := D.ap
              refine ⟨p, _, o8, d', N1, by simp, h81, h82, by omega, by omega, by omega, D.grow.dn, D.np, fun l xs2 rs2 o' H2 N2 k2 hp2 hP2 g2 hl2 hR2 hg2 hlen2 => ?_⟩
              walk_at "lw go"
              refine ⟨by rw [sizeLine_eq]; simp, fun t ht => ?_⟩
              have hLd := k2 L _ npL D.at_
              refine ⟨L, ys, .ref t, rfl, rfl, sm_up ht _ _ hLd, by rw [hys, sizeLine_eq]; omega, ?_⟩
              have kd : ∀ b, G b ≠ none → H2 b ≠ none := fun b hb => by
                by_cases e : b = p
                · rw [e, hp2]; simp
                · cases e2 : G b with
                  | none => exact absurd e2 hb
                  | some u => rw [k2 b u e e2]; simp
              have D2 := D.push (k2.new (o := .tup [.str "often", .int x, .ref l]) ht) (sm_up ht _ _ hp2) (hP2.mono (m' := m + 4 + (X + costR (d' + 1))) (by omega)) (g2.trans (Grow.new (u := .tup [.str "often", .int x, .ref l]) g2.dn ht) kd) (r := .often (.int x) rs2) (v := .ref t) ⟨t, l, xs2, rfl, upd_same, sm_up (by cases e : N2 t with | none => rfl | some u => have := g2.dn _ _ e; rw [ht] at this; cases this) _ _ hl2, rrs_mono (sm_up (by cases e : N2 t with | none => rfl | some u => have := g2.dn _ _ e; rw [ht] at this; cases this)) hR2⟩ (good_often (by omega) (by omega) hg2 (by
                refine Nat.le_trans hlen2 ?_
                unfold lenR
                rcases (show d' = 0 ∨ d' = 1 by omega) with rfl | rfl <;> simp))
              exact ⟨_, _, _, _, _, _, _, _, rfl, D2, by rw [List.length_append, hlr]; rfl⟩
            · have d1 : d' = 1 := by
                rcases (show d' = 0 ∨ d' = 1 by omega) with rfl | rfl
                · simp at w1
                  omega
                · rfl
              subst d1
              walk_at "lw go"
              refine ⟨.inl ⟨rfl, _, SqL.of D.at_⟩, ?_⟩
              walk_at "lw go"
              obtain ⟨o1, hp1, hP1⟩ := D.ap
              refine ⟨p, 60000, _, o1, rfl, hp1, hP1, by omega, by decide, by decide, fun x o2 x0 x1 hP2 => ?_⟩
              replace D := D.draw hP2
              clear hp1 hP1 hP2
              generalize upd G p o2 = G at *
              walk_at "lw go"
              obtain ⟨o8, h81, h82⟩ := D.ap
              have c1 : capR 1 = 1000 := by decide
              have c2 : costR (1 + 1) = 2100 := by decide
              refine ⟨p, _, o8, 1, N1, by simp, h81, h82, by omega, by omega, by omega, D.grow.dn, D.np, fun l xs2 rs2 o' H2 N2 k2 hp2 hP2 g2 hl2 hR2 hg2 hlen2 => ?_⟩
              have np2 : N2 p = none := (g2.same p (by rw [h81]; simp)).trans D.np
              walk_at "lw go"
              refine ⟨p, _, o', 1, N2, by simp, hp2, hP2, by omega, by omega, by omega, g2.dn, np2, fun l' xs3 rs3 o3 H3 N3 k3 hp3 hP3 g3 hl3 hR3 hg3 hlen3 => ?_⟩
              walk_at "lw go"
              refine ⟨by rw [sizeLine_eq]; simp, fun t ht => ?_⟩
              have kd : ∀ (G' H' : Hp), Keep p G' H' → (∃ o, H' p = some o) → ∀ b, G' b ≠ none → H' b ≠ none := fun G' H' k ⟨o, hp⟩ b hb => by
                by_cases e : b = p
                · rw [e, hp]; simp
                · cases e2 : G' b with
                  | none => exact absurd e2 hb
                  | some u => rw [k b u e e2]; simp
              have k23 := k2.trans k3
              have hLd := k23 L _ npL D.at_
              have n3 : N3 t = none := by
                cases e : N3 t with
                | none => rfl
                | some u => have := g3.dn _ _ e; rw [ht] at this; cases this
              refine ⟨L, ys, .ref t, rfl, rfl, sm_up ht _ _ hLd, by rw [hys, sizeLine_eq]; omega, ?_⟩
              have g23 := g2.trans g3 (kd _ _ k2 ⟨_, hp2⟩)
              have s3 := sm_up (o := .tup [.str "if", .int x, .ref l, .ref l']) n3
              have D2 := D.push (k23.new (o := .tup [.str "if", .int x, .ref l, .ref l']) ht) (sm_up ht _ _ hp3) (hP3.mono (m' := m + 4 + (X + costR (1 + 1))) (by omega)) (g23.trans (Grow.new (u := .tup [.str "if", .int x, .ref l, .ref l']) g23.dn ht) (kd _ _ k23 ⟨_, hp3⟩)) (r := .cond (.int x) rs2 rs3) (v := .ref t) ⟨t, l, l', xs2, xs3, rfl, upd_same, s3 _ _ (g3.up _ _ hl2), s3 _ _ hl3, rrs_mono s3 (rrs_mono g3.up hR2), rrs_mono s3 hR3⟩ (good_cond (by omega) hg2 hlen2 hg3 hlen3)
              exact ⟨_, _, _, _, _, _, _, _, rfl, D2, by rw [List.length_append, hlr]; rfl⟩
      · rintro σ G ⟨o1, o2, o3, o4, o5, N1, ys, rs, rfl, D, hlr⟩
        walk_at "lw go"
        obtain ⟨o8, h81, h82⟩ := D.ap
        obtain ⟨gf, rf⟩ := D.fin
        have hX2 : ((Int.toNat c : Nat) : Int) * costR d ≤ (lenR d : Nat) * costR d := Int.mul_le_mul_of_nonneg_right (by omega) (by omega)
        exact q L ys rs o8 G _ D.keep h81 (h82.mono (by omega)) gf upd_same rf D.good (by omega)
abbrev N_law_counts : List Str := ["_law_rows_here", "_law_marks", "_law_gone", "_law_row", "_law_more", "_law_both"]
theorem sc_law_counts : FnScope N_law_counts ["_law_rows_here"] (defScope s_law_counts) := ⟨rfl, rfl, rfl, by decide +kernel, rfl, by decide +kernel, by decide +kernel⟩
theorem ok_law_counts (F : FnP K "_law_counts" s_law_counts f fd) (T : Bi mg) (G : Kn w K mg)  (gm : mg "_law_counts" = some (.ref f)) (kp : PySem.W.keepIn K (.ref f) = true) (bb : Binds K fd ["_law_rows_here"] []) : ∀ n : Nat, FnOk P w K mg base CX0 (n + 1) f fd ["_law_rows_here"] (spCounts K n)
  | 0 => by
    refine F.ok sc_law_counts (fun vs H Q E h => ?_) (fun cdv A outer s H vs Q E hr h => ?_)
    · obtain ⟨l, xs, rs, rfl, _⟩ := h
      rfl
    · exact (spCounts_zero h).elim
  | n + 1 => by
    have D_law_counts : Df P w K mg base "_law_counts" ["_law_rows_here"] (n + 1) (spCounts K n) := ⟨f, fd, gm, kp, bb, ok_law_counts F T G  gm kp bb n⟩
    refine F.ok (k := n + 1) sc_law_counts (fun vs H Q E h => ?_) (fun cdv A outer s H vs Q E hr h => ⟨_, PSs.nox
(pss_cons (ps_set (i := 1) sc_law_counts.nd rfl (Or.inl rfl) pe_int)
  (pss_cons (ps_set (i := 2) sc_law_counts.nd rfl (Or.inl rfl) pe_int)
  (pss_cons (ps_for PassesOwn.never rfl (pi_list (pv 0)) (pg_name (i := 3) sc_law_counts.nd rfl (Or.inl rfl))
  (pss_cons (ps_set (i := 2) sc_law_counts.nd rfl (Or.inl rfl) (pe_op op_add (pv 2) pe_int))
  (pss_cons (ps_if (pt_cmpR op_eq (pe_ix ix_tup (pv 3) pe_int (fun _ _ => rfl)) pe_str (nomark _))
  (pss_one (ps_set (i := 1) sc_law_counts.nd rfl (Or.inl rfl) (pe_op op_add (pv 1) pe_int)))
  pss_nil)
  (pss_cons (ps_if (pt_cmpR op_eq (pe_ix ix_tup (pv 3) pe_int (fun _ _ => rfl)) pe_str (nomark _))
  (pss_cons (ps_set (i := 4) sc_law_counts.nd rfl (Or.inl rfl) (pe_df D_law_counts (hr.mono (by first | decide | omega)) (pa_cons (pe_ix ix_tup (pv 3) pe_int (fun _ _ => rfl)) pa_nil)))
  (pss_cons (ps_set (i := 1) sc_law_counts.nd rfl (Or.inl rfl) (pe_op op_add (pv 1) (pe_op op_mul (pe_ix ix_tup (pv 3) pe_int (fun _ _ => rfl)) (pe_ix ix_tup (pv 4) pe_int (fun _ _ => rfl)))))
  (pss_one (ps_set (i := 2) sc_law_counts.nd rfl (Or.inl rfl) (pe_op op_add (pv 2) (pe_op op_mul (pe_ix ix_tup (pv 3) pe_int (fun _ _ => rfl)) (pe_ix ix_tup (pv 4) pe_int (fun _ _ => rfl))))))))
  pss_nil)
  (pss_one (ps_if (pt_cmpR op_eq (pe_ix ix_tup (pv 3) pe_int (fun _ _ => rfl)) pe_str (nomark _))
  (pss_cons (ps_set (i := 5) sc_law_counts.nd rfl (Or.inl rfl) (pe_lst (pa_cons (pe_df D_law_counts (hr.mono (by first | decide | omega)) (pa_cons (pe_ix ix_tup (pv 3) pe_int (fun _ _ => rfl)) pa_nil)) (pa_cons (pe_df D_law_counts (hr.mono (by first | decide | omega)) (pa_cons (pe_ix ix_tup (pv 3) pe_int (fun _ _ => rfl)) pa_nil)) pa_nil))))
  (pss_cons (ps_set (i := 1) sc_law_counts.nd rfl (Or.inl rfl) (pe_op op_add (pv 1) (pe_callB (call_max2 rfl) (by rfl) T.max (by decide +kernel) (pa_cons (pe_ix ix_tup (pe_ix ix_list (pv 5) pe_int (fun _ _ => rfl)) pe_int (fun _ _ => rfl)) (pa_cons (pe_ix ix_tup (pe_ix ix_list (pv 5) pe_int (fun _ _ => rfl)) pe_int (fun _ _ => rfl)) pa_nil)))))
  (pss_one (ps_set (i := 2) sc_law_counts.nd rfl (Or.inl rfl) (pe_op op_add (pv 2) (pe_callB (call_max2 rfl) (by rfl) T.max (by decide +kernel) (pa_cons (pe_ix ix_tup (pe_ix ix_list (pv 5) pe_int (fun _ _ => rfl)) pe_int (fun _ _ => rfl)) (pa_cons (pe_ix ix_tup (pe_ix ix_list (pv 5) pe_int (fun _ _ => rfl)) pe_int (fun _ _ => rfl)) pa_nil))))))))
  pss_nil))))))
  (pss_one (ps_ret (pe_tup (pa_cons (pv 1) (pa_cons (pv 2) pa_nil)))))))), ?_⟩)
    · obtain ⟨l, xs, rs, rfl, _⟩ := h
      rfl
    · obtain ⟨l, xs, rs, rfl, hl, hR, ho, hd, q⟩ := h
      walk_at "lw i0"
      walk_at "lw go"
      refine ⟨l, rfl, ⟨xs, SqL.of hl⟩, for_list (xs := xs) (fun i σ H' => ∃ o1 o2 o3 : Option V, σ = [some (.ref l), some (.int (mRs (rs.take i)).1), some (.int (mRs (rs.take i)).2), o1, o2, o3] ∧ Sm H H') ⟨none, none, none, rfl, fun _ _ h => h⟩ (fun i σ H' _ ⟨_, _, _, _, s⟩ => SqL.of (s _ _ hl)) ?_ ?_⟩
      · rintro i y σ H' hy ⟨o1, o2, o3, rfl, s⟩
        obtain ⟨r, hr', hrr⟩ := rrs_at hR hy
        have hrr := rr_mono s hrr
        have hok := okRs_at ho hr'
        have hdr := dRs_at hr'
        rw [mRs_take hr']
        cases r with
        | junk d => exact hok.elim
        | move a b =>
          obtain ⟨p, rfl, hp⟩ := hrr
          walk_at "lw go"
          refine g_ixT (SqT.of hp) (v := .str "move") (atI_nat (j := 0) (by rfl)) ?_
          walk_at "lw go"
          refine g_ixT (SqT.of hp) (v := .str "move") (atI_nat (j := 0) (by rfl)) ?_
          walk_at "lw go"
          refine g_ixT (SqT.of hp) (v := .str "move") (atI_nat (j := 0) (by rfl)) ?_
          walk_at "lw go"
          exact ⟨_, _, _, st6 (by simp [mR]) (by simp [mR]), s⟩
        | mark x1 x2 x3 x4 =>
          obtain ⟨p, rfl, hp⟩ := hrr
          walk_at "lw go"
          refine g_ixT (SqT.of hp) (v := .str "mark") (atI_nat (j := 0) (by rfl)) ?_
          walk_at "lw go"
          refine g_ixT (SqT.of hp) (v := .str "mark") (atI_nat (j := 0) (by rfl)) ?_
          walk_at "lw go"
          refine g_ixT (SqT.of hp) (v := .str "mark") (atI_nat (j := 0) (by rfl)) ?_
          walk_at "lw go"
          exact ⟨_, _, _, st6 (by simp [mR]) (by simp [mR]), s⟩
        | often n0 b =>
          obtain ⟨p, l2, xs2, rfl, hp, hl2, hb⟩ := hrr
          obtain ⟨⟨c, rfl, c0, c1⟩, hob⟩ := hok
          walk_at "lw go"
          refine g_ixT (SqT.of hp) (v := .str "often") (atI_nat (j := 0) (by rfl)) ?_
          walk_at "lw go"
          refine g_ixT (SqT.of hp) (v := .str "often") (atI_nat (j := 0) (by rfl)) ?_
          walk_at "lw go"
          refine g_ixT (SqT.of hp) (v := .ref l2) (atI_nat (j := 2) (by rfl)) ?_
          walk_at "lw go"
          refine ⟨l2, xs2, b, rfl, hl2, hb, hob, by simp only [dR] at hdr; omega, fun p2 H2 s2 hp2 => ?_⟩
          walk_at "lw go"
          refine g_ixT (SqT.of (s2 _ _ hp)) (v := .int c) (atI_nat (j := 1) (by rfl)) ?_
          walk_at "lw go"
          refine g_ixT (SqT.of hp2) (v := .int (mRs b).1) (atI_nat (j := 0) (by rfl)) ?_
          walk_at "lw go"
          refine g_ixT (SqT.of (s2 _ _ hp)) (v := .int c) (atI_nat (j := 1) (by rfl)) ?_
          walk_at "lw go"
          refine g_ixT (SqT.of hp2) (v := .int (mRs b).2) (atI_nat (j := 1) (by rfl)) ?_
          walk_at "lw go"
          refine g_ixT (SqT.of (s2 _ _ hp)) (v := .str "often") (atI_nat (j := 0) (by rfl)) ?_
          walk_at "lw go"
          exact ⟨_, _, _, st6 (by simp [mR, At.i]) (by simp [mR, At.i, Int.add_assoc]), sm_trans s s2⟩
        | cond f0 b c =>
          obtain ⟨p, l2, l3, xs2, xs3, rfl, hp, hl2, hl3, hb, hc⟩ := hrr
          obtain ⟨hob, hoc⟩ := hok
          walk_at "lw go"
          refine g_ixT (SqT.of hp) (v := .str "if") (atI_nat (j := 0) (by rfl)) ?_
          walk_at "lw go"
          refine g_ixT (SqT.of hp) (v := .str "if") (atI_nat (j := 0) (by rfl)) ?_
          walk_at "lw go"
          refine g_ixT (SqT.of hp) (v := .str "if") (atI_nat (j := 0) (by rfl)) ?_
          walk_at "lw go"
          refine g_ixT (SqT.of hp) (v := .ref l2) (atI_nat (j := 2) (by rfl)) ?_
          walk_at "lw go"
          refine ⟨l2, xs2, b, rfl, hl2, hb, hob, by simp only [dR] at hdr; omega, fun p2 H2 s2 hp2 => ?_⟩
          walk_at "lw go"
          refine g_ixT (SqT.of (s2 _ _ hp)) (v := .ref l3) (atI_nat (j := 3) (by rfl)) ?_
          walk_at "lw go"
          refine ⟨l3, xs3, c, rfl, s2 _ _ hl3, rrs_mono s2 hc, hoc, by simp only [dR] at hdr; omega, fun p3 H3 s3 hp3 => ?_⟩
          have hp2' := s3 _ _ hp2
          walk_at "lw go"
          refine ⟨by rw [sizeLine_eq]; simp, fun t ht => ?_⟩
          have s4 := sm_new (o := .lst [.ref p2, .ref p3]) ht
          have hL : upd H3 t (.lst [.ref p2, .ref p3]) t = some (.lst [.ref p2, .ref p3]) := upd_same
          have hq2 := s4 _ _ hp2'
          have hq3 := s4 _ _ hp3
          generalize upd H3 t _ = H4 at *
          walk_at "lw go"
          refine g_ixL (SqL.of hL) (v := .ref p2) (atI_nat (j := 0) (by rfl)) ?_
          walk_at "lw go"
          refine g_ixT (SqT.of hq2) (v := .int (mRs b).1) (atI_nat (j := 0) (by rfl)) ?_
          walk_at "lw go"
          refine g_ixL (SqL.of hL) (v := .ref p3) (atI_nat (j := 1) (by rfl)) ?_
          walk_at "lw go"
          refine g_ixT (SqT.of hq3) (v := .int (mRs c).1) (atI_nat (j := 0) (by rfl)) ?_
          walk_at "lw go"
          refine ⟨_, _, rfl, ?_⟩
          walk_at "lw go"
          refine g_ixL (SqL.of hL) (v := .ref p2) (atI_nat (j := 0) (by rfl)) ?_
          walk_at "lw go"
          refine g_ixT (SqT.of hq2) (v := .int (mRs b).2) (atI_nat (j := 1) (by rfl)) ?_
          walk_at "lw go"
          refine g_ixL (SqL.of hL) (v := .ref p3) (atI_nat (j := 1) (by rfl)) ?_
          walk_at "lw go"
          refine g_ixT (SqT.of hq3) (v := .int (mRs c).2) (atI_nat (j := 1) (by rfl)) ?_
          walk_at "lw go"
          refine ⟨_, _, rfl, ?_⟩
          walk_at "lw go"
          exact ⟨_, _, _, st6 (by simp only [mR]; split <;> omega) (by simp only [mR]; split <;> omega), sm_trans s (sm_trans s2 (sm_trans s3 s4))⟩
      · rintro σ H' ⟨o1, o2, o3, rfl, s⟩
        have hlen := rrs_len hR
        rw [hlen, List.take_length]
        walk_at "lw go"
        refine ⟨by rw [sizeLine_eq]; simp, fun p hp => ?_⟩
        exact q p _ (sm_trans s (sm_new hp)) upd_same
abbrev N_law_brush : List Str := ["_law_purse_here", "_law_found"]
theorem sc_law_brush : FnScope N_law_brush ["_law_purse_here"] (defScope s_law_brush) := ⟨rfl, rfl, rfl, by decide +kernel, rfl, by decide +kernel, by decide +kernel⟩
theorem ok_law_brush (F : FnP K "_law_brush" s_law_brush f fd) (T : Bi mg) (G : Kn w K mg) (D_law_rows : Df P w K mg base "_law_rows" ["_law_purse_here", "_law_deep"] 6 (spDrawn K 3)) (D_law_counts : Df P w K mg base "_law_counts" ["_law_rows_here"] 5 (spCounts K 4)) : FnOk P w K mg base CX0 7 f fd ["_law_purse_here"] (spBrush K) := by
  refine F.ok sc_law_brush (fun vs H Q E h => ?_) (fun cdv A outer s H vs Q E hr h => ⟨_, PSs.nox
(pss_cons (ps_set (i := 1) sc_law_brush.nd rfl (Or.inl rfl) (pe_df D_law_rows (hr.mono (by first | decide | omega)) (pa_cons (pv 0) (pa_cons pe_int pa_nil))))
  (pss_cons (ps_if (PW.pt (pw_or (pt_cmpR op_gt (pe_ix ix_tup (pe_df D_law_counts (hr.mono (by first | decide | omega)) (pa_cons (pv 1) pa_nil)) pe_int (fun _ _ => rfl)) pe_int (nomark _)) (pw_or1 (pt_cmpR op_gt (pe_ix ix_tup (pe_df D_law_counts (hr.mono (by first | decide | omega)) (pa_cons (pv 1) pa_nil)) pe_int (fun _ _ => rfl)) pe_int (nomark _)))))
  (pss_one (ps_ret (pe_lst (pa_cons (pe_tup (pa_cons pe_str (pa_cons pe_str (pa_cons pe_int (pa_cons pe_int (pa_cons pe_int pa_nil)))))) (pa_cons (pe_tup (pa_cons pe_str (pa_cons pe_int (pa_cons (pe_lst (pa_cons (pe_tup (pa_cons pe_str (pa_cons pe_int (pa_cons pe_int pa_nil)))) (pa_cons (pe_tup (pa_cons pe_str (pa_cons pe_str (pa_cons pe_int (pa_cons pe_int (pa_cons pe_int pa_nil)))))) pa_nil))) pa_nil)))) pa_nil)))))
  pss_nil)
  (pss_one (ps_ret (pv 1))))), ?_⟩)
  · obtain ⟨p, m, o, N, rfl, _⟩ := h
    rfl
  · obtain ⟨p, m, o, N, rfl, hp, hP, hm, hS, hN, q⟩ := h
    walk_at "lw i0"
    walk_at "lw go"
    refine ⟨p, m, o, 2, N, rfl, hp, hP, by omega, by omega, by omega, hS, hN, fun l xs rs o' H1 N1 k1 hp1 hP1 g1 hl hR hg hlen => ?_⟩
    have hP2 : Purse (m + 10000) o' := hP1.mono (by show m + capR 2 ≤ _; have : capR 2 = 10000 := by decide
                                                    omega)
    have hlen4 : rs.length ≤ 4 := hlen
    obtain ⟨gf, gl, gd, gz⟩ := good_all (k := 0) hg
    have gz2 : zRs rs ≤ 1000 := by
      have : zB 2 = 198 := rfl
      rw [this] at gz
      omega
    have hR1 := rrs_mono g1.dn hR
    have hl1 := g1.dn _ _ hl
    have gok := oks_none gf
    walk_at "lw go"
    -- the brush that stands for those too great
    have other : ∀ H2, Sm H1 H2 → ∀ t1, H2 t1 = none → ∀ G1, upd H2 t1 (.tup [.str "mark", .str "raise", .int 3, .int 2, .int 5]) = G1 → ∀ t2, G1 t2 = none → ∀ G2, upd G1 t2 (.tup [.str "move", .int 2, .int 1]) = G2 → ∀ t3, G2 t3 = none → ∀ G3, upd G2 t3 (.tup [.str "mark", .str "set", .int 1, .int 1, .int 7]) = G3 →
        ∀ l4, G3 l4 = none → ∀ G4, upd G3 l4 (.lst [.ref t2, .ref t3]) = G4 → ∀ t5, G4 t5 = none → ∀ G5, upd G4 t5 (.tup [.str "often", .int 3, .ref l4]) = G5 → ∀ l6, G5 l6 = none → Q (.ref l6) (upd G5 l6 (.lst [.ref t1, .ref t5])) := by
      intro H2 s2 t1 h1 G1 e1 t2 h2 G2 e2 t3 h3 G3 e3 l4 h4 G4 e4 t5 h5 G5 e5 l6 h6
      have a0 := Grow.sm g1 s2
      subst e1
      have a1 := Grow.new (u := .tup [.str "mark", .str "raise", .int 3, .int 2, .int 5]) a0.dn h1
      have b1 := upd_same (H := N1) (a := t1) (o := .tup [.str "mark", .str "raise", .int 3, .int 2, .int 5])
      generalize upd N1 t1 _ = M1 at *
      subst e2
      have a2 := Grow.new (u := .tup [.str "move", .int 2, .int 1]) a1.dn h2
      have b2 := upd_same (H := M1) (a := t2) (o := .tup [.str "move", .int 2, .int 1])
      generalize upd M1 t2 _ = M2 at *
      subst e3
      have a3 := Grow.new (u := .tup [.str "mark", .str "set", .int 1, .int 1, .int 7]) a2.dn h3
      have b3 := upd_same (H := M2) (a := t3) (o := .tup [.str "mark", .str "set", .int 1, .int 1, .int 7])
      generalize upd M2 t3 _ = M3 at *
      subst e4
      have a4 := Grow.new (u := .lst [.ref t2, .ref t3]) a3.dn h4
      have b4 := upd_same (H := M3) (a := l4) (o := .lst [.ref t2, .ref t3])
      generalize upd M3 l4 _ = M4 at *
      subst e5
      have a5 := Grow.new (u := .tup [.str "often", .int 3, .ref l4]) a4.dn h5
      have b5 := upd_same (H := M4) (a := t5) (o := .tup [.str "often", .int 3, .ref l4])
      generalize upd M4 t5 _ = M5 at *
      have a6 := Grow.new (u := .lst [.ref t1, .ref t5]) a5.dn h6
      have b6 := upd_same (H := M5) (a := l6) (o := .lst [.ref t1, .ref t5])
      have up6 := a6.up
      generalize upd M5 l6 _ = M6 at *
      have s26 : Sm H2 (upd (upd (upd (upd (upd (upd H2 t1 (.tup [.str "mark", .str "raise", .int 3, .int 2, .int 5])) t2 (.tup [.str "move", .int 2, .int 1])) t3 (.tup [.str "mark", .str "set", .int 1, .int 1, .int 7])) l4 (.lst [.ref t2, .ref t3])) t5 (.tup [.str "often", .int 3, .ref l4])) l6 (.lst [.ref t1, .ref t5])) :=
        sm_trans (sm_up h1) (sm_trans (sm_up h2) (sm_trans (sm_up h3) (sm_trans (sm_up h4) (sm_trans (sm_up h5) (sm_up h6)))))
      have gA := ((((a1.trans a2 dom_new).trans a3 (fun b h => dom_new b (dom_new b h))).trans a4 (fun b h => dom_new b (dom_new b (dom_new b h)))).trans a5 (fun b h => dom_new b (dom_new b (dom_new b (dom_new b h))))).trans a6 (fun b h => dom_new b (dom_new b (dom_new b (dom_new b (dom_new b h)))))
      have gT := a0.trans gA (fun b hb => by
        by_cases e : b = p
        · rw [e, s2 _ _ hp1]; simp
        · cases e2 : H b with
          | none => exact absurd e2 hb
          | some u => rw [s2 _ _ (k1 b u e e2)]; simp)
      have w1 : GoodRow 1 (.mark "raise" (.int 3) (.int 2) (.int 5)) := good_mark (by decide +kernel) (by omega) (by omega) (by omega)
      have w2 : GoodRow 1 (.often (.int 3) [.move (.int 2) (.int 1), .mark "set" (.int 1) (.int 1) (.int 7)]) := good_often (d := 0) (by omega) (by omega) (fun r hr => by
        simp only [List.mem_cons, List.not_mem_nil, or_false] at hr
        rcases hr with rfl | rfl
        · exact good_move (by omega) (by omega)
        · exact good_mark (by decide +kernel) (by omega) (by omega) (by omega)) (by simp)
      obtain ⟨f1, f2, f3, f4⟩ := good_all (k := 0) (d := 1) (rs := [.mark "raise" (.int 3) (.int 2) (.int 5), .often (.int 3) [.move (.int 2) (.int 1), .mark "set" (.int 1) (.int 1) (.int 7)]]) (fun r hr => by
        simp only [List.mem_cons, List.not_mem_nil, or_false] at hr
        rcases hr with rfl | rfl
        · exact w1
        · exact w2)
      refine q l6 _ [.mark "raise" (.int 3) (.int 2) (.int 5), .often (.int 3) [.move (.int 2) (.int 1), .mark "set" (.int 1) (.int 1) (.int 7)]] o' _ M6 (fun b u n hb => s26 _ _ (s2 _ _ (k1 b u n hb))) (s26 _ _ (s2 _ _ hp1)) hP2 gT b6
        ⟨_, _, rfl, ⟨t1, rfl, up6 _ _ (a5.up _ _ (a4.up _ _ (a3.up _ _ (a2.up _ _ b1))))⟩, _, _, rfl, ⟨t5, l4, _, rfl, up6 _ _ b5, up6 _ _ (a5.up _ _ b4), _, _, rfl, ⟨t2, rfl, up6 _ _ (a5.up _ _ (a4.up _ _ (a3.up _ _ b2)))⟩, _, _, rfl, ⟨t3, rfl, up6 _ _ (a5.up _ _ (a4.up _ _ b3))⟩, rfl⟩, rfl⟩ ⟨?_, oks_none f1, f2, by omega, by simp [zB] at f4; omega⟩
      unfold faultB
      rw [f1, if_neg (by simp [mRs, mR, At.i])]
      rfl
    have build : ∀ H2, Sm H1 H2 → True := fun _ _ => True.intro
    refine ⟨l, xs, rs, rfl, hl1, hR1, gok, by omega, fun p2 H2 s2 hp2 => ?_⟩
    walk_at "lw go"
    refine g_ixT (SqT.of hp2) (v := .int (mRs rs).1) (atI_nat (j := 0) (by rfl)) ?_
    walk_at "lw go"
    refine g_ite (fun h1 => ?_) (fun h1 => ?_)
    · walk_at "lw go"
      refine ⟨by rw [sizeLine_eq]; simp, fun t1 h1 => ?_⟩
      walk_at "lw go"
      refine ⟨by rw [sizeLine_eq]; simp, fun t2 h2 => ?_⟩
      walk_at "lw go"
      refine ⟨by rw [sizeLine_eq]; simp, fun t3 h3 => ?_⟩
      walk_at "lw go"
      refine ⟨by rw [sizeLine_eq]; simp, fun l4 h4 => ?_⟩
      walk_at "lw go"
      refine ⟨by rw [sizeLine_eq]; simp, fun t5 h5 => ?_⟩
      walk_at "lw go"
      refine ⟨by rw [sizeLine_eq]; simp, fun l6 h6 => ?_⟩
      exact other H2 s2 t1 h1 _ rfl t2 h2 _ rfl t3 h3 _ rfl l4 h4 _ rfl t5 h5 _ rfl l6 h6
    · walk_at "lw go"
      refine ⟨l, xs, rs, rfl, s2 _ _ hl1, rrs_mono s2 hR1, gok, by omega, fun p3 H3 s3 hp3 => ?_⟩
      have s23 := sm_trans s2 s3
      walk_at "lw go"
      refine g_ixT (SqT.of hp3) (v := .int (mRs rs).2) (atI_nat (j := 1) (by rfl)) ?_
      walk_at "lw go"
      refine g_ite (fun h2 => ?_) (fun h2 => ?_)
      · walk_at "lw go"
        refine ⟨by rw [sizeLine_eq]; simp, fun t1 h1 => ?_⟩
        walk_at "lw go"
        refine ⟨by rw [sizeLine_eq]; simp, fun t2 h2 => ?_⟩
        walk_at "lw go"
        refine ⟨by rw [sizeLine_eq]; simp, fun t3 h3 => ?_⟩
        walk_at "lw go"
        refine ⟨by rw [sizeLine_eq]; simp, fun l4 h4 => ?_⟩
        walk_at "lw go"
        refine ⟨by rw [sizeLine_eq]; simp, fun t5 h5 => ?_⟩
        walk_at "lw go"
        refine ⟨by rw [sizeLine_eq]; simp, fun l6 h6 => ?_⟩
        exact other H3 s23 t1 h1 _ rfl t2 h2 _ rfl t3 h3 _ rfl l4 h4 _ rfl t5 h5 _ rfl l6 h6
      · walk_at "lw go"
        refine q l xs rs o' H3 N1 (fun b u n hb => s23 _ _ (k1 b u n hb)) (s23 _ _ hp1) hP2 (Grow.sm g1 s23) hl hR ⟨?_, gok, gl, gd, gz2⟩
        unfold faultB
        rw [gf, if_neg (by omega)]
        rfl
abbrev N_law_hull : List Str := ["_law_one", "_law_other"]
theorem sc_law_hull : FnScope N_law_hull ["_law_one", "_law_other"] (defScope s_law_hull) := ⟨rfl, rfl, rfl, by decide +kernel, rfl, by decide +kernel, by decide +kernel⟩
theorem ok_law_hull (F : FnP K "_law_hull" s_law_hull f fd) (T : Bi mg) (G : Kn w K mg)  : FnOk P w K mg base CX0 1 f fd ["_law_one", "_law_other"] (spAround K) := by
  refine F.ok sc_law_hull (fun vs H Q E h => ?_) (fun cdv A outer s H vs Q E hr h => ⟨_, PSs.nox
(pss_cons (ps_if (pt_cmpR op_isN (pv 0) pe_non (nomark _))
  (pss_one (ps_ret (pv 1)))
  pss_nil)
  (pss_cons (ps_if (pt_cmpR op_isN (pv 1) pe_non (nomark _))
  (pss_one (ps_ret (pv 0)))
  pss_nil)
  (pss_one (ps_ret (pe_tup (pa_cons (pe_callB (call_min2 rfl) (by rfl) T.min (by decide +kernel) (pa_cons (pe_ix ix_tup (pv 0) pe_int (fun _ _ => rfl)) (pa_cons (pe_ix ix_tup (pv 1) pe_int (fun _ _ => rfl)) pa_nil))) (pa_cons (pe_callB (call_min2 rfl) (by rfl) T.min (by decide +kernel) (pa_cons (pe_ix ix_tup (pv 0) pe_int (fun _ _ => rfl)) (pa_cons (pe_ix ix_tup (pv 1) pe_int (fun _ _ => rfl)) pa_nil))) (pa_cons (pe_callB (call_max2 rfl) (by rfl) T.max (by decide +kernel) (pa_cons (pe_ix ix_tup (pv 0) pe_int (fun _ _ => rfl)) (pa_cons (pe_ix ix_tup (pv 1) pe_int (fun _ _ => rfl)) pa_nil))) (pa_cons (pe_callB (call_max2 rfl) (by rfl) T.max (by decide +kernel) (pa_cons (pe_ix ix_tup (pv 0) pe_int (fun _ _ => rfl)) (pa_cons (pe_ix ix_tup (pv 1) pe_int (fun _ _ => rfl)) pa_nil))) pa_nil))))))))), ?_⟩)
  · obtain ⟨u, v, a, b, rfl, _⟩ := h
    rfl
  · obtain ⟨u, v, a, b, rfl, h1, h2, q⟩ := h
    walk_at "lw i0"
    cases a with
    | none =>
      obtain rfl : u = .non := h1
      walk_at "lw go"
      refine ⟨rfl, bl_is (c := true) (by simp) (iteT ?_)⟩
      walk_at "lw go"
      exact q _ _ (fun _ _ h => h) h2
    | some a =>
      obtain ⟨p1, rfl, h1⟩ := h1
      cases b with
      | none =>
        obtain rfl : v = .non := h2
        walk_at "lw go"
        refine ⟨rfl, bl_is (c := false) (by simp) (iteF ?_)⟩
        walk_at "lw go"
        refine ⟨rfl, bl_is (c := true) (by simp) (iteT ?_)⟩
        walk_at "lw go"
        exact q _ _ (fun _ _ h => h) ⟨p1, rfl, h1⟩
      | some b =>
        obtain ⟨p2, rfl, h2⟩ := h2
        obtain ⟨a0, a1, a2, a3⟩ := b4_at (x := a)
        obtain ⟨c0, c1, c2, c3⟩ := b4_at (x := b)
        walk_at "lw go"
        refine ⟨rfl, bl_is (c := false) (by simp) (iteF ?_)⟩
        walk_at "lw go"
        refine ⟨rfl, bl_is (c := false) (by simp) (iteF ?_)⟩
        walk_at "lw go"
        refine g_ixT h1 a0 ?_
        walk_at "lw go"
        refine g_ixT h2 c0 ⟨_, _, rfl, ?_⟩
        walk_at "lw go"
        refine g_ixT h1 a1 ?_
        walk_at "lw go"
        refine g_ixT h2 c1 ⟨_, _, rfl, ?_⟩
        walk_at "lw go"
        refine g_ixT h1 a2 ?_
        walk_at "lw go"
        refine g_ixT h2 c2 ⟨_, _, rfl, ?_⟩
        walk_at "lw go"
        refine g_ixT h1 a3 ?_
        walk_at "lw go"
        refine g_ixT h2 c3 ⟨_, _, rfl, ?_⟩
        walk_at "lw go"
        refine ⟨by rw [sizeLine_eq]; simp, fun p hp => q _ _ (sm_new hp) ?_⟩
        have e1 : ∀ i j : Int, (if j < i then j else i) = min i j := fun i j => by split <;> omega
        have e2 : ∀ i j : Int, (if j > i then j else i) = max i j := fun i j => by split <;> omega
        exact b4_new (x := around a b) (by simp [around, B4.l, e1, e2])
abbrev N_law_reached : List Str := ["_law_rows_here", "_law_at", "_law_hull_here", "_law_row", "_law_turn", "_law_first_here", "_law_second"]
theorem sc_law_reached : FnScope N_law_reached ["_law_rows_here", "_law_at", "_law_hull_here"] (defScope s_law_reached) := ⟨rfl, rfl, rfl, by decide +kernel, rfl, by decide +kernel, by decide +kernel⟩
theorem ok_law_reached (F : FnP K "_law_reached" s_law_reached f fd) (T : Bi mg) (G : Kn w K mg) (D_law_hull : Df P w K mg base "_law_hull" ["_law_one", "_law_other"] 1 (spAround K)) (gm : mg "_law_reached" = some (.ref f)) (kp : PySem.W.keepIn K (.ref f) = true) (bb : Binds K fd ["_law_rows_here", "_law_at", "_law_hull_here"] []) : ∀ n : Nat, FnOk P w K mg base CX0 (n + 2) f fd ["_law_rows_here", "_law_at", "_law_hull_here"] (spReached K n)
  | 0 => by
    refine F.ok sc_law_reached (fun vs H Q E h => ?_) (fun cdv A outer s H vs Q E hr h => ?_)
    · obtain ⟨l, xs, rs, e, m, e0, m0, rfl, _⟩ := h
      rfl
    · exact (spReached_zero h).elim
  | n + 1 => by
    have D_law_reached : Df P w K mg base "_law_reached" ["_law_rows_here", "_law_at", "_law_hull_here"] (n + 2) (spReached K n) := ⟨f, fd, gm, kp, bb, ok_law_reached F T G D_law_hull gm kp bb n⟩
    refine F.ok (k := n + 2) sc_law_reached (fun vs H Q E h => ?_) (fun cdv A outer s H vs Q E hr h => ⟨_, PSs.nox
(pss_cons (ps_for PassesOwn.never rfl (pi_list (pv 0)) (pg_name (i := 3) sc_law_reached.nd rfl (Or.inl rfl))
  (pss_one (ps_if (pt_cmpR op_eq (pe_ix ix_tup (pv 3) pe_int (fun _ _ => rfl)) pe_str (nomark _))
  (pss_one (ps_set (i := 1) sc_law_reached.nd rfl (Or.inl rfl) (pe_tup (pa_cons (pe_op op_add (pe_ix ix_tup (pv 1) pe_int (fun _ _ => rfl)) (pe_ix ix_tup (pv 3) pe_int (fun _ _ => rfl))) (pa_cons (pe_op op_add (pe_ix ix_tup (pv 1) pe_int (fun _ _ => rfl)) (pe_ix ix_tup (pv 3) pe_int (fun _ _ => rfl))) (pa_cons (pe_op op_add (pe_ix ix_tup (pv 1) pe_int (fun _ _ => rfl)) (pe_ix ix_tup (pv 3) pe_int (fun _ _ => rfl))) (pa_cons (pe_op op_add (pe_ix ix_tup (pv 1) pe_int (fun _ _ => rfl)) (pe_ix ix_tup (pv 3) pe_int (fun _ _ => rfl))) pa_nil)))))))
  (pss_one (ps_if (pt_cmpR op_eq (pe_ix ix_tup (pv 3) pe_int (fun _ _ => rfl)) pe_str (nomark _))
  (pss_one (ps_set (i := 2) sc_law_reached.nd rfl (Or.inl rfl) (pe_df D_law_hull (hr.mono (by first | decide | omega)) (pa_cons (pv 2) (pa_cons (pe_tup (pa_cons (pe_ix ix_tup (pv 1) pe_int (fun _ _ => rfl)) (pa_cons (pe_ix ix_tup (pv 1) pe_int (fun _ _ => rfl)) (pa_cons (pe_op op_sub (pe_op op_add (pe_ix ix_tup (pv 1) pe_int (fun _ _ => rfl)) (pe_ix ix_tup (pv 3) pe_int (fun _ _ => rfl))) pe_int) (pa_cons (pe_op op_sub (pe_op op_add (pe_ix ix_tup (pv 1) pe_int (fun _ _ => rfl)) (pe_ix ix_tup (pv 3) pe_int (fun _ _ => rfl))) pe_int) pa_nil))))) pa_nil)))))
  (pss_one (ps_if (pt_cmpR op_eq (pe_ix ix_tup (pv 3) pe_int (fun _ _ => rfl)) pe_str (nomark _))
  (pss_one (ps_for PassesOwn.never rfl (pi_range1 (by rfl) T.range (pa_cons (pe_ix ix_tup (pv 3) pe_int (fun _ _ => rfl)) pa_nil)) (pg_name (i := 4) sc_law_reached.nd rfl (Or.inl rfl))
  (pss_one (ps_asg (pe_df D_law_reached (hr.mono (by first | decide | omega)) (pa_cons (pe_ix ix_tup (pv 3) pe_int (fun _ _ => rfl)) (pa_cons (pv 1) (pa_cons (pv 2) pa_nil)))) (pg_tup (by rfl) (pgs_cons (pg_name (i := 1) sc_law_reached.nd rfl (Or.inl rfl)) (pgs_cons (pg_name (i := 2) sc_law_reached.nd rfl (Or.inl rfl)) pgs_nil)))))))
  (pss_cons (ps_set (i := 5) sc_law_reached.nd rfl (Or.inl rfl) (pe_df D_law_reached (hr.mono (by first | decide | omega)) (pa_cons (pe_ix ix_tup (pv 3) pe_int (fun _ _ => rfl)) (pa_cons (pv 1) (pa_cons (pv 2) pa_nil)))))
  (pss_cons (ps_set (i := 6) sc_law_reached.nd rfl (Or.inl rfl) (pe_df D_law_reached (hr.mono (by first | decide | omega)) (pa_cons (pe_ix ix_tup (pv 3) pe_int (fun _ _ => rfl)) (pa_cons (pv 1) (pa_cons (pv 2) pa_nil)))))
  (pss_cons (ps_set (i := 1) sc_law_reached.nd rfl (Or.inl rfl) (pe_df D_law_hull (hr.mono (by first | decide | omega)) (pa_cons (pe_ix ix_tup (pv 5) pe_int (fun _ _ => rfl)) (pa_cons (pe_ix ix_tup (pv 6) pe_int (fun _ _ => rfl)) pa_nil))))
  (pss_one (ps_set (i := 2) sc_law_reached.nd rfl (Or.inl rfl) (pe_df D_law_hull (hr.mono (by first | decide | omega)) (pa_cons (pe_ix ix_tup (pv 5) pe_int (fun _ _ => rfl)) (pa_cons (pe_ix ix_tup (pv 6) pe_int (fun _ _ => rfl)) pa_nil)))))))))))))))
  (pss_one (ps_ret (pe_tup (pa_cons (pv 1) (pa_cons (pv 2) pa_nil)))))), ?_⟩)
    · obtain ⟨l, xs, rs, e, m, e0, m0, rfl, _⟩ := h
      rfl
    · obtain ⟨l, xs, rs, e, m, e0, m0, rfl, hl, hR, ho, hd, he, hm, q⟩ := h
      walk_at "lw i0"
      walk_at "lw go"
      refine ⟨l, rfl, ⟨xs, SqL.of hl⟩, for_list (xs := xs) (fun i σ H' => ∃ (e m : V) (o1 o2 o3 o4 : Option V), σ = [some (.ref l), some e, some m, o1, o2, o3, o4] ∧ Sm H H' ∧ B4R K H' (goRs (rs.take i) e0 m0).1 e ∧ OB K H' (goRs (rs.take i) e0 m0).2 m) ⟨e, m, none, none, none, none, rfl, fun _ _ h => h, he, hm⟩ (fun i σ H' _ ⟨_, _, _, _, _, _, _, s, _⟩ => SqL.of (s _ _ hl)) ?_ ?_⟩
      · rintro i y σ H' hy ⟨e, m, o1, o2, o3, o4, rfl, s, he, hm⟩
        obtain ⟨r, hr', hrr⟩ := rrs_at hR hy
        have hrr := rr_mono s hrr
        have hok := okRs_at ho hr'
        have hdr := dRs_at hr'
        rw [goRs_take rs i r e0 m0 hr']
        generalize (goRs (rs.take i) e0 m0).1 = e1 at *
        generalize (goRs (rs.take i) e0 m0).2 = m1 at *
        cases r with
        | junk d => exact hok.elim
        | move a b =>
          obtain ⟨p, rfl, hp⟩ := hrr
          obtain ⟨⟨i, rfl, i0, i1⟩, ⟨j, rfl, j0, j1⟩⟩ := hok
          obtain ⟨pe, rfl, hpe⟩ := he
          obtain ⟨a0, a1, a2, a3⟩ := b4_at (x := e1)
          walk_at "lw go"
          refine g_ixT (SqT.of hp) (v := .str "move") (atI_nat (j := 0) (by rfl)) ?_
          walk_at "lw go"
          refine g_ixT hpe a0 ?_
          walk_at "lw go"
          refine g_ixT (SqT.of hp) (v := .int i) (atI_nat (j := 1) (by rfl)) ?_
          walk_at "lw go"
          refine g_ixT hpe a1 ?_
          walk_at "lw go"
          refine g_ixT (SqT.of hp) (v := .int j) (atI_nat (j := 2) (by rfl)) ?_
          walk_at "lw go"
          refine g_ixT hpe a2 ?_
          walk_at "lw go"
          refine g_ixT (SqT.of hp) (v := .int i) (atI_nat (j := 1) (by rfl)) ?_
          walk_at "lw go"
          refine g_ixT hpe a3 ?_
          walk_at "lw go"
          refine g_ixT (SqT.of hp) (v := .int j) (atI_nat (j := 2) (by rfl)) ?_
          walk_at "lw go"
          refine ⟨by rw [sizeLine_eq]; simp, fun t ht => ?_⟩
          walk_at "lw go"
          exact ⟨_, _, _, _, _, _, rfl, sm_trans s (sm_new ht), b4_new rfl, hm.mono (sm_new ht)⟩
        | mark x1 x2 x3 x4 =>
          obtain ⟨p, rfl, hp⟩ := hrr
          obtain ⟨⟨i, rfl, i0, i1⟩, ⟨j, rfl, j0, j1⟩⟩ := hok
          obtain ⟨pe, rfl, hpe⟩ := he
          obtain ⟨a0, a1, a2, a3⟩ := b4_at (x := e1)
          walk_at "lw go"
          refine g_ixT (SqT.of hp) (v := .str "mark") (atI_nat (j := 0) (by rfl)) ?_
          walk_at "lw go"
          refine g_ixT (SqT.of hp) (v := .str "mark") (atI_nat (j := 0) (by rfl)) ?_
          walk_at "lw go"
          refine g_ixT hpe a0 ?_
          walk_at "lw go"
          refine g_ixT hpe a1 ?_
          walk_at "lw go"
          refine g_ixT hpe a2 ?_
          walk_at "lw go"
          refine g_ixT (SqT.of hp) (v := .int i) (atI_nat (j := 2) (by rfl)) ?_
          walk_at "lw go"
          refine g_ixT hpe a3 ?_
          walk_at "lw go"
          refine g_ixT (SqT.of hp) (v := .int j) (atI_nat (j := 3) (by rfl)) ?_
          walk_at "lw go"
          refine ⟨by rw [sizeLine_eq]; simp, fun t ht => ?_⟩
          walk_at "lw go"
          refine ⟨m, .ref t, m1, some ⟨e1.a, e1.b, e1.c + i - 1, e1.d + j - 1⟩, rfl, hm.mono (sm_new ht), b4_new rfl, fun w H2 s2 hw => ?_⟩
          walk_at "lw go"
          exact ⟨_, _, _, _, _, _, rfl, sm_trans s (sm_trans (sm_new ht) s2), ⟨pe, rfl, sqT_mono (sm_trans (sm_new ht) s2) hpe⟩, hw⟩
        | often n0 b =>
          obtain ⟨p, l2, xs2, rfl, hp, hl2, hb⟩ := hrr
          obtain ⟨⟨c, rfl, c0, c1⟩, hob⟩ := hok
          walk_at "lw go"
          refine g_ixT (SqT.of hp) (v := .str "often") (atI_nat (j := 0) (by rfl)) ?_
          walk_at "lw go"
          refine g_ixT (SqT.of hp) (v := .str "often") (atI_nat (j := 0) (by rfl)) ?_
          walk_at "lw go"
          refine g_ixT (SqT.of hp) (v := .str "often") (atI_nat (j := 0) (by rfl)) ?_
          walk_at "lw go"
          refine g_ixT (SqT.of hp) (v := .int c) (atI_nat (j := 1) (by rfl)) ?_
          walk_at "lw go"
          refine ⟨c, rfl, by omega, by omega, for_range (fun k σ H2 => ∃ (e m : V) (o2 : Option V), σ = [some (.ref l), some e, some m, some (.ref p), o2, o3, o4] ∧ Sm H' H2 ∧ B4R K H2 (turns (fun e m => goRs b e m) k e1 m1).1 e ∧ OB K H2 (turns (fun e m => goRs b e m) k e1 m1).2 m) ⟨e, m, o2, rfl, fun _ _ h => h, he, hm⟩ ?_ ?_⟩
          · rintro k σ H2 hk ⟨e, m, o2, rfl, s2, he, hm⟩
            rw [turns_more]
            generalize (turns (fun e m => goRs b e m) k e1 m1).1 = e2 at *
            generalize (turns (fun e m => goRs b e m) k e1 m1).2 = m2 at *
            walk_at "lw go"
            refine g_ixT (SqT.of (s2 _ _ hp)) (v := .ref l2) (atI_nat (j := 2) (by rfl)) ?_
            walk_at "lw go"
            refine ⟨l2, xs2, b, e, m, e2, m2, rfl, s2 _ _ hl2, rrs_mono s2 hb, hob, by simp only [dR] at hdr; omega, he, hm, fun p2 u1 u2 H3 s3 hp2 hu1 hu2 => ?_⟩
            walk_at "lw go"
            refine g_tupT (SqT.of hp2) rfl ?_
            walk_at "lw go"
            exact ⟨_, _, _, rfl, sm_trans s2 s3, hu1, hu2⟩
          · rintro σ H2 ⟨e, m, o2, rfl, s2, he, hm⟩
            walk_at "lw go"
            exact ⟨_, _, _, _, _, _, rfl, sm_trans s s2, he, hm⟩
        | cond f0 b c =>
          obtain ⟨p, l2, l3, xs2, xs3, rfl, hp, hl2, hl3, hb, hc⟩ := hrr
          obtain ⟨hob, hoc⟩ := hok
          simp only [dR] at hdr
          walk_at "lw go"
          refine g_ixT (SqT.of hp) (v := .str "if") (atI_nat (j := 0) (by rfl)) ?_
          walk_at "lw go"
          refine g_ixT (SqT.of hp) (v := .str "if") (atI_nat (j := 0) (by rfl)) ?_
          walk_at "lw go"
          refine g_ixT (SqT.of hp) (v := .str "if") (atI_nat (j := 0) (by rfl)) ?_
          walk_at "lw go"
          refine g_ixT (SqT.of hp) (v := .ref l2) (atI_nat (j := 2) (by rfl)) ?_
          walk_at "lw go"
          refine ⟨l2, xs2, b, e, m, e1, m1, rfl, hl2, hb, hob, by omega, he, hm, fun p2 u1 u2 H2 s2 hp2 hu1 hu2 => ?_⟩
          walk_at "lw go"
          refine g_ixT (SqT.of (s2 _ _ hp)) (v := .ref l3) (atI_nat (j := 3) (by rfl)) ?_
          walk_at "lw go"
          refine ⟨l3, xs3, c, e, m, e1, m1, rfl, s2 _ _ hl3, rrs_mono s2 hc, hoc, by omega, he.mono s2, hm.mono s2, fun p3 u3 u4 H3 s3 hp3 hu3 hu4 => ?_⟩
          have hp2' := s3 _ _ hp2
          walk_at "lw go"
          refine g_ixT (SqT.of hp2') (v := u1) (atI_nat (j := 0) (by rfl)) ?_
          walk_at "lw go"
          refine g_ixT (SqT.of hp3) (v := u3) (atI_nat (j := 0) (by rfl)) ?_
          walk_at "lw go"
          refine ⟨u1, u3, some _, some _, rfl, hu1.mono s3, hu3, fun w1 H4 s4 hw1 => ?_⟩
          walk_at "lw go"
          refine g_ixT (SqT.of (s4 _ _ hp2')) (v := u2) (atI_nat (j := 1) (by rfl)) ?_
          walk_at "lw go"
          refine g_ixT (SqT.of (s4 _ _ hp3)) (v := u4) (atI_nat (j := 1) (by rfl)) ?_
          walk_at "lw go"
          refine ⟨u2, u4, _, _, rfl, (hu2.mono s3).mono s4, hu4.mono s4, fun w2 H5 s5 hw2 => ?_⟩
          walk_at "lw go"
          exact ⟨_, _, _, _, _, _, rfl, sm_trans s (sm_trans s2 (sm_trans s3 (sm_trans s4 s5))), hw1.mono s5, hw2⟩
      · rintro σ H' ⟨e, m, o1, o2, o3, o4, rfl, s, he, hm⟩
        have hlen := rrs_len hR
        rw [hlen, List.take_length] at he hm
        walk_at "lw go"
        refine ⟨by rw [sizeLine_eq]; simp, fun t ht => ?_⟩
        exact q t _ _ _ (sm_trans s (sm_new ht)) upd_same (he.mono (sm_new ht)) (hm.mono (sm_new ht))
abbrev N_law_is_whole : List Str := ["_law_thing", "_law_low", "_law_high"]
theorem sc_law_is_whole : FnScope N_law_is_whole ["_law_thing", "_law_low", "_law_high"] (defScope s_law_is_whole) := ⟨rfl, rfl, rfl, by decide +kernel, rfl, by decide +kernel, by decide +kernel⟩
theorem ok_law_is_whole (F : FnP K "_law_is_whole" s_law_is_whole f fd) (T : Bi mg) (G : Kn w K mg)  : FnOk P w K mg base CX0 1 f fd ["_law_thing", "_law_low", "_law_high"] spWholeA := by
  refine F.ok sc_law_is_whole (fun vs H Q E h => ?_) (fun cdv A outer s H vs Q E hr h => ⟨_, PSs.nox
(pss_one (ps_ret (pe_and (pe_callB call_isi (by rfl) T.isinstance (by decide +kernel) (pa_cons (pv 0) (pa_cons (pe_bltn (v := .ty "int") (by rfl) T.int boot_int rfl) pa_nil))) (pe_and (pe_not (pe_callB call_isi (by rfl) T.isinstance (by decide +kernel) (pa_cons (pv 0) (pa_cons (pe_bltn (v := .ty "bool") (by rfl) T.bool boot_bool rfl) pa_nil)))) (pe_one (pe_chain op_le op_le (pv 1) (pv 0) (pv 2))))))), ?_⟩)
  · obtain ⟨a, lo, hi, rfl, _⟩ := h
    rfl
  · obtain ⟨a, lo, hi, rfl, q⟩ := h
    walk_at "lw i0"
    cases a with
    | int i =>
      walk_at "lw go"
      refine ⟨_, _, _, _, true, rfl, .ty "int", .base (.int _), kit_ty (by decide +kernel), ?_⟩
      walk_at "lw go"
      refine ⟨_, _, _, _, false, rfl, .ty "bool", .base (.int _), kit_ty (by decide +kernel), ?_⟩
      walk_at "lw go"
      refine ⟨lo, i, rfl, rfl, _, rfl, g_ite (fun k1 => ?_) (fun k1 => ?_)⟩
      · walk_at "lw go"
        refine ⟨i, hi, rfl, rfl, ?_⟩
        have e : (At.int i).ok lo hi = decide (i ≤ hi) := decide_eq_decide.mpr ⟨fun z => z.2, fun z => ⟨k1, z⟩⟩
        rw [e] at q
        exact q
      · have e : (At.int i).ok lo hi = false := decide_eq_false fun z => k1 z.1
        rw [e] at q
        exact q
    | tru =>
      walk_at "lw go"
      refine ⟨_, _, _, _, true, rfl, .ty "int", .base (.bl _), kit_ty (by decide +kernel), ?_⟩
      walk_at "lw go"
      refine ⟨_, _, _, _, true, rfl, .ty "bool", .base (.bl _), kit_ty (by decide +kernel), ?_⟩
      walk_at "lw go"
      exact q
    | non =>
      walk_at "lw go"
      refine ⟨_, _, _, _, false, rfl, .ty "int", .base .non, kit_ty (by decide +kernel), ?_⟩
      walk_at "lw go"
      exact q
    | one =>
      walk_at "lw go"
      refine ⟨_, _, _, _, false, rfl, .ty "int", .base (.str _), kit_ty (by decide +kernel), ?_⟩
      walk_at "lw go"
      exact q
abbrev N_law_spans : List Str := ["_law_row"]
theorem sc_law_spans : FnScope N_law_spans ["_law_row"] (defScope s_law_spans) := ⟨rfl, rfl, rfl, by decide +kernel, rfl, by decide +kernel, by decide +kernel⟩
theorem ok_law_spans (F : FnP K "_law_spans" s_law_spans f fd) (T : Bi mg) (G : Kn w K mg)  : FnOk P w K mg base CX0 1 f fd ["_law_row"] (spSpans K) := by
  refine F.ok sc_law_spans (fun vs H Q E h => ?_) (fun cdv A outer s H vs Q E hr h => ⟨_, PSs.nox
(pss_cons (ps_if (pt_cmpR op_eq (pe_ix ix_tup (pv 0) pe_int (fun _ _ => rfl)) pe_str (nomark _))
  (pss_one (ps_ret (pe_lst (pa_cons (pe_tup (pa_cons pe_int (pa_cons (pe_un un_neg pe_int) (pa_cons pe_int pa_nil)))) (pa_cons (pe_tup (pa_cons pe_int (pa_cons (pe_un un_neg pe_int) (pa_cons pe_int pa_nil)))) pa_nil)))))
  pss_nil)
  (pss_cons (ps_if (pt_cmpR op_eq (pe_ix ix_tup (pv 0) pe_int (fun _ _ => rfl)) pe_str (nomark _))
  (pss_one (ps_ret (pe_lst (pa_cons (pe_tup (pa_cons pe_int (pa_cons pe_int (pa_cons pe_int pa_nil)))) (pa_cons (pe_tup (pa_cons pe_int (pa_cons pe_int (pa_cons pe_int pa_nil)))) (pa_cons (pe_tup (pa_cons pe_int (pa_cons (pe_op op_sub pe_int (pe_op op_pow pe_int pe_int)) (pa_cons (pe_op op_sub (pe_op op_pow pe_int pe_int) pe_int) pa_nil)))) pa_nil))))))
  pss_nil)
  (pss_cons (ps_if (pt_cmpR op_eq (pe_ix ix_tup (pv 0) pe_int (fun _ _ => rfl)) pe_str (nomark _))
  (pss_one (ps_ret (pe_lst (pa_cons (pe_tup (pa_cons pe_int (pa_cons pe_int (pa_cons pe_int pa_nil)))) pa_nil))))
  pss_nil)
  (pss_one (ps_ret (pe_lst (pa_cons (pe_tup (pa_cons pe_int (pa_cons (pe_op op_sub pe_int (pe_op op_pow pe_int pe_int)) (pa_cons (pe_op op_sub (pe_op op_pow pe_int pe_int) pe_int) pa_nil)))) pa_nil))))))), ?_⟩)
  · obtain ⟨v, r, rfl, _⟩ := h
    rfl
  · obtain ⟨v, r, rfl, hR, hi, q⟩ := h
    walk_at "lw i0"
    cases r with
    | junk d => cases hi
    | move a b =>
      obtain ⟨p, rfl, hp⟩ := hR
      walk_at "lw go"
      refine g_ixT (SqT.of hp) (v := .str "move") (atI_nat (j := 0) (by rfl)) ?_
      walk_at "lw go"
      refine ⟨by rw [sizeLine_eq]; simp, fun t0 h0 => ?_⟩
      walk_at "lw go"
      refine ⟨by rw [sizeLine_eq]; simp, fun t1 h1 => ?_⟩
      walk_at "lw go"
      refine ⟨by rw [sizeLine_eq]; simp, fun l hl => ?_⟩
      have k1 := ne_of_none upd_same h1
      refine q l _ _ (sm_trans (sm_new h0) (sm_trans (sm_new h1) (sm_new hl))) upd_same ⟨_, _, rfl, ⟨t0, rfl, sm_new hl _ _ (sm_new h1 _ _ upd_same)⟩, _, _, rfl, ⟨t1, rfl, sm_new hl _ _ upd_same⟩, rfl⟩
    | mark x1 x2 x3 x4 =>
      obtain ⟨p, rfl, hp⟩ := hR
      walk_at "lw go"
      refine g_ixT (SqT.of hp) (v := .str "mark") (atI_nat (j := 0) (by rfl)) ?_
      walk_at "lw go"
      refine g_ixT (SqT.of hp) (v := .str "mark") (atI_nat (j := 0) (by rfl)) ?_
      walk_at "lw go"
      refine ⟨by rw [sizeLine_eq]; simp, fun t0 h0 => ?_⟩
      walk_at "lw go"
      refine ⟨by rw [sizeLine_eq]; simp, fun t1 h1 => ?_⟩
      walk_at "lw go"
      refine ⟨by rw [sizeLine_eq]; simp, fun t2 h2 => ?_⟩
      walk_at "lw go"
      refine ⟨by rw [sizeLine_eq]; simp, fun l hl => ?_⟩
      have k2 := pw9
      refine q l _ _ (sm_trans (sm_new h0) (sm_trans (sm_new h1) (sm_trans (sm_new h2) (sm_new hl)))) upd_same ⟨_, _, rfl, ⟨t0, rfl, sm_new hl _ _ (sm_new h2 _ _ (sm_new h1 _ _ upd_same))⟩, _, _, rfl, ⟨t1, rfl, sm_new hl _ _ (sm_new h2 _ _ upd_same)⟩, _, _, rfl, ⟨t2, rfl, ?_⟩, rfl⟩
      rw [sm_new hl _ _ upd_same, k2]
      rfl
    | often n b =>
      obtain ⟨p, l2, xs2, rfl, hp, hl2, hb⟩ := hR
      walk_at "lw go"
      refine g_ixT (SqT.of hp) (v := .str "often") (atI_nat (j := 0) (by rfl)) ?_
      walk_at "lw go"
      refine g_ixT (SqT.of hp) (v := .str "often") (atI_nat (j := 0) (by rfl)) ?_
      walk_at "lw go"
      refine g_ixT (SqT.of hp) (v := .str "often") (atI_nat (j := 0) (by rfl)) ?_
      walk_at "lw go"
      refine ⟨by rw [sizeLine_eq]; simp, fun t0 h0 => ?_⟩
      walk_at "lw go"
      refine ⟨by rw [sizeLine_eq]; simp, fun l hl => ?_⟩
      exact q l _ _ (sm_trans (sm_new h0) (sm_new hl)) upd_same ⟨_, _, rfl, ⟨t0, rfl, sm_new hl _ _ upd_same⟩, rfl⟩
    | cond f0 b c =>
      obtain ⟨p, l2, l3, xs2, xs3, rfl, hp, hl2, hl3, hb, hc⟩ := hR
      walk_at "lw go"
      refine g_ixT (SqT.of hp) (v := .str "if") (atI_nat (j := 0) (by rfl)) ?_
      walk_at "lw go"
      refine g_ixT (SqT.of hp) (v := .str "if") (atI_nat (j := 0) (by rfl)) ?_
      walk_at "lw go"
      refine g_ixT (SqT.of hp) (v := .str "if") (atI_nat (j := 0) (by rfl)) ?_
      walk_at "lw go"
      refine ⟨by rw [sizeLine_eq]; simp, fun t0 h0 => ?_⟩
      walk_at "lw go"
      refine ⟨by rw [sizeLine_eq]; simp, fun l hl => ?_⟩
      refine q l _ _ (sm_trans (sm_new h0) (sm_new hl)) upd_same ⟨_, _, rfl, ⟨t0, rfl, ?_⟩, rfl⟩
      rw [sm_new hl _ _ upd_same, pw9]
      rfl
abbrev N_law_fault : List Str := ["_law_rows_here", "_law_path", "_law_k", "_law_row", "_law_fault_here"]
theorem sc_law_fault : FnScope N_law_fault ["_law_rows_here", "_law_path"] (defScope s_law_fault) := ⟨rfl, rfl, rfl, by decide +kernel, rfl, by decide +kernel, by decide +kernel⟩
abbrev N_law_row_fault : List Str := ["_law_row", "_law_path", "_law_place", "_law_low", "_law_high", "_law_fault_here"]
theorem sc_law_row_fault : FnScope N_law_row_fault ["_law_row", "_law_path"] (defScope s_law_row_fault) := ⟨rfl, rfl, rfl, by decide +kernel, rfl, by decide +kernel, by decide +kernel⟩
theorem ok_law_fault {f2 : Addr} {fd2 : FuncData} (F : FnP K "_law_fault" s_law_fault f fd) (F2 : FnP K "_law_row_fault" s_law_row_fault f2 fd2) (T : Bi mg) (G : Kn w K mg) (gm : mg "_law_fault" = some (.ref f)) (kp : PySem.W.keepIn K (.ref f) = true) (bb : Binds K fd ["_law_rows_here", "_law_path"] [])
    (gm2 : mg "_law_row_fault" = some (.ref f2)) (kp2 : PySem.W.keepIn K (.ref f2) = true) (bb2 : Binds K fd2 ["_law_row", "_law_path"] []) (D_law_spans : Df P w K mg base "_law_spans" ["_law_row"] 1 (spSpans K)) (D_law_is_whole : Df P w K mg base "_law_is_whole" ["_law_thing", "_law_low", "_law_high"] 1 spWholeA) :
    ∀ n : Nat, FnOk P w K mg base CX0 (2 * n + 8) f fd ["_law_rows_here", "_law_path"] (spRowsF K n) ∧ FnOk P w K mg base CX0 (2 * n + 9) f2 fd2 ["_law_row", "_law_path"] (spRowF K (n + 1)) := by
  have part : ∀ n : Nat, FnOk P w K mg base CX0 (2 * n + 8) f fd ["_law_rows_here", "_law_path"] (spRowsF K n) → FnOk P w K mg base CX0 (2 * n + 9) f2 fd2 ["_law_row", "_law_path"] (spRowF K (n + 1)) := by
    intro n IH
    have D_law_fault : Df P w K mg base "_law_fault" ["_law_rows_here", "_law_path"] (2 * n + 8) (spRowsF K n) := ⟨f, fd, gm, kp, bb, IH⟩
    refine F2.ok (k := 2 * n + 8) sc_law_row_fault (fun vs H Q E h => ?_) (fun cdv A outer s H vs Q E hr h => ⟨_, PSs.nox
(pss_cons (ps_if (PW.pt (pw_or (pt_not (pt_val (pe_callB call_isi (by rfl) T.isinstance (by decide +kernel) (pa_cons (pv 0) (pa_cons (pe_bltn (v := .ty "tuple") (by rfl) T.tuple boot_tuple rfl) pa_nil))))) (pw_or (pt_cmpR (op_eqD hr.units) (pv 0) (pe_tup pa_nil) (nomark _)) (pw_or1 (pt_cmpR op_notIn_seq (pe_ix ix_tup (pv 0) pe_int (fun _ _ => rfl)) (pe_lst (pa_cons pe_str (pa_cons pe_str (pa_cons pe_str (pa_cons pe_str pa_nil))))) (by rfl))))))
  (pss_one (ps_ret (pe_tup (pa_cons (pv 1) (pa_cons pe_str pa_nil)))))
  pss_nil)
  (pss_cons (ps_if (pt_cmpR op_ne (pe_callB call_len_seq (by rfl) T.len (by decide +kernel) (pa_cons (pv 0) pa_nil)) (pe_dget (hu_of hr) (pe_disp (pps_cons pe_str pe_int (pps_cons pe_str pe_int (pps_cons pe_str pe_int (pps_cons pe_str pe_int pps_nil)))) (by rfl) (by rfl) (by intro z; cases z) (by decide)) (pe_ix ix_tup (pv 0) pe_int (fun _ _ => rfl)) (fun _ _ => rfl)) (nomark _))
  (pss_one (ps_ret (pe_tup (pa_cons (pv 1) (pa_cons pe_str pa_nil)))))
  pss_nil)
  (pss_cons (ps_if (PW.pt (pw_and (pt_cmpR op_eq (pe_ix ix_tup (pv 0) pe_int (fun _ _ => rfl)) pe_str (nomark _)) (pw_and1 (pt_cmpR op_notIn_seq (pe_ix ix_tup (pv 0) pe_int (fun _ _ => rfl)) (pe_lst (pa_cons pe_str (pa_cons pe_str (pa_cons pe_str (pa_cons pe_str pa_nil))))) (by rfl)))))
  (pss_one (ps_ret (pe_tup (pa_cons (pe_op op_catA (pv 1) (pe_tup (pa_cons pe_int pa_nil))) (pa_cons pe_str pa_nil)))))
  pss_nil)
  (pss_cons (ps_for PassesOwn.never rfl (pi_list (pe_df D_law_spans (hr.mono (by first | decide | omega)) (pa_cons (pv 0) pa_nil))) (pg_tup (by rfl) (pgs_cons (pg_name (i := 2) sc_law_row_fault.nd rfl (Or.inl rfl)) (pgs_cons (pg_name (i := 3) sc_law_row_fault.nd rfl (Or.inl rfl)) (pgs_cons (pg_name (i := 4) sc_law_row_fault.nd rfl (Or.inl rfl)) pgs_nil))))
  (pss_one (ps_if (pt_not (pt_val (pe_df D_law_is_whole (hr.mono (by first | decide | omega)) (pa_cons (pe_ix ix_tup (pv 0) (pv 2) (fun _ _ => rfl)) (pa_cons (pv 3) (pa_cons (pv 4) pa_nil))))))
  (pss_one (ps_ret (pe_tup (pa_cons (pe_op op_catA (pv 1) (pe_tup (pa_cons (pv 2) pa_nil))) (pa_cons pe_str pa_nil)))))
  pss_nil)))
  (pss_cons (ps_for PassesOwn.never rfl (pi_list (pe_dget (hu_of hr) (pe_disp (pps_cons pe_str (pe_lst pa_nil) (pps_cons pe_str (pe_lst pa_nil) (pps_cons pe_str (pe_lst (pa_cons pe_int pa_nil)) (pps_cons pe_str (pe_lst (pa_cons pe_int (pa_cons pe_int pa_nil))) pps_nil)))) (by rfl) (by rfl) (by intro z; cases z) (by decide)) (pe_ix ix_tup (pv 0) pe_int (fun _ _ => rfl)) (fun _ _ => rfl))) (pg_name (i := 2) sc_law_row_fault.nd rfl (Or.inl rfl))
  (pss_cons (ps_set (i := 5) sc_law_row_fault.nd rfl (Or.inl rfl) (pe_df D_law_fault (hr.mono (by first | decide | omega)) (pa_cons (pe_ix ix_tup (pv 0) (pv 2) (fun _ _ => rfl)) (pa_cons (pe_op op_catA (pv 1) (pe_tup (pa_cons (pv 2) pa_nil))) pa_nil))))
  (pss_one (ps_if (pt_cmpR op_notN (pv 5) pe_non (nomark _))
  (pss_one (ps_ret (pv 5)))
  pss_nil))))
  (pss_one (ps_ret pe_non))))))), ?_⟩)
    · obtain ⟨v, p, r, path, rfl, _⟩ := h
      rfl
    · obtain ⟨v, p, r, path, rfl, hR, hp, hy, hd, hd2, hz, q⟩ := h
      have hzr := zR_pos r
      walk_at "lw i0"
      -- what is told at once: the row is none
      have out : fR r = some (([] : List Int), ("kind" : Str)) → ∀ H1, Sm H H1 → [V.ref p, V.str "kind"].length ≤ sizeLine ∧ ∀ u, H1 u = none → Q (.ref u) (upd H1 u (.tup [.ref p, .str "kind"])) := fun e H1 s1 => ⟨by rw [sizeLine_eq]; simp, fun u hu => q _ _ (sm_trans s1 (sm_new hu)) (by
        rw [e]
        exact ⟨u, p, rfl, upd_same, by rw [sm_new hu _ _ (s1 _ _ hp)]; simp⟩)⟩
      cases hi : isRow r with
      | false =>
        cases r with
        | move a b => cases hi
        | mark x y z u => cases hi
        | often n b => cases hi
        | cond f b c => cases hi
        | junk d =>
          have hDp := rr_dp hR
          obtain ⟨a, xs, ds, rfl, hD, hJ⟩ := hR
          rcases hJ with ⟨rfl, ha⟩ | ⟨rfl, ha, hj⟩
          · walk_at "lw go"
            refine ⟨_, _, _, _, false, rfl, .ty "tuple", .base (.lst ha), kit_ty (by decide +kernel), ?_⟩
            walk_at "lw go"
            exact out rfl _ (fun _ _ h => h)
          · walk_at "lw go"
            refine ⟨_, _, _, _, true, rfl, .ty "tuple", .base (.tup ha), kit_ty (by decide +kernel), ?_⟩
            walk_at "lw go"
            refine ⟨by show 0 ≤ sizeLine; decide, fun e0 he0 => ?_⟩
            have s1 := sm_new (o := .tup []) he0
            refine ⟨.tuple ds, .tuple [], dp_mono s1 hDp, .tup (SqT.of upd_same) .nil, rD_shaped (r := .junk (.tuple ds)) hy hd2, by decide +kernel, ?_⟩
            rcases hj with rfl | ⟨x, rs, rfl, hj⟩
            · refine bl_is (c := true) (by simp [PyData.eqv, PyData.eqvAll]) ?_
              walk_at "lw go"
              exact out rfl _ s1
            · cases hD with
              | cons h1 h2 =>
                cases h1
                refine bl_is (c := false) (by simp [PyData.eqv, PyData.eqvAll]) ?_
                walk_at "lw go"
                refine g_ixT (SqT.of (s1 _ _ ha)) (v := .str x) (atI_nat (j := 0) (by rfl)) ?_
                walk_at "lw go"
                refine ⟨by rw [sizeLine_eq]; simp, fun l1 hl1 => ?_⟩
                have s2 := sm_trans s1 (sm_new (o := .lst [.str "move", .str "mark", .str "often", .str "if"]) hl1)
                refine ⟨l1, _, rfl, .inl (SqL.of upd_same), rfl, rfl, ?_⟩
                rw [if_pos rfl, show inV (V.str x) [.str "move", .str "mark", .str "often", .str "if"] = decide (x ∈ words) from in_strs x words]
                generalize upd (upd H e0 (.tup [])) l1 _ = H2 at *
                rcases hj with rfl | ⟨hw, hl⟩
                · rw [decide_eq_false (by simp only [words]; decide +kernel)]
                  refine ⟨true, rfl, ?_⟩
                  walk_at "lw go"
                  exact out rfl _ s2
                · rw [decide_eq_true hw]
                  refine ⟨false, rfl, ?_⟩
                  walk_at "lw go"
                  refine ⟨a, _, rfl, .inr (SqT.of (s2 _ _ ha)), ?_⟩
                  walk_at "lw go"
                  refine fun d1 hd1 => ⟨upd_same, [(.inr "move", .int 3), (.inr "mark", .int 5), (.inr "often", .int 3), (.inr "if", .int 4)], rfl, by decide, ?_⟩
                  rw [upd_upd]
                  have s3 := sm_trans s2 (sm_new (o := .dK (mergeK [] [((.inr "move" : Key), V.int 3), (.inr "mark", .int 5), (.inr "often", .int 3), (.inr "if", .int 4)])) hd1)
                  have hdk : upd H2 d1 (.dK (mergeK [] [((.inr "move" : Key), V.int 3), (.inr "mark", .int 5), (.inr "often", .int 3), (.inr "if", .int 4)])) d1 = some (.dK (mergeK [] [((.inr "move" : Key), V.int 3), (.inr "mark", .int 5), (.inr "often", .int 3), (.inr "if", .int 4)])) := upd_same
                  generalize upd H2 d1 _ = H3 at *
                  walk_at "lw go"
                  refine g_ixT (SqT.of (s3 _ _ ha)) (v := .str x) (atI_nat (j := 0) (by rfl)) ?_
                  refine ⟨d1, .int (arity x : Nat), rfl, .inl ⟨_, .inr x, .inl hdk, rfl, (arity_tab hw).symm⟩, ?_⟩
                  walk_at "lw go"
                  rename_i vs
                  have hlen : ∀ {ds : List PyData} {vs : List V}, DpAll K H vs ds → vs.length = ds.length := by
                    intro ds
                    induction ds with
                    | nil => intro vs h; cases h; rfl
                    | cons d ds ih => intro vs h; cases h with | cons h1 h2 => rw [List.length_cons, List.length_cons, ih h2]
                  have hl2 := hlen h2
                  rw [decide_eq_false (fun z => hl (by
                    have z2 := V.int.inj z
                    rw [List.length_cons] at z2
                    omega))]
                  walk_at "lw go"
                  exact out rfl _ s3
      | true =>
        obtain ⟨a, x, xs, rfl, ha, hA, hm⟩ := row_has hR hi
        walk_at "lw go"
        refine ⟨_, _, _, _, true, rfl, .ty "tuple", .base (.tup ha), kit_ty (by decide +kernel), ?_⟩
        walk_at "lw go"
        refine ⟨by show 0 ≤ sizeLine; decide, fun e0 he0 => ?_⟩
        have s1 := sm_new (o := .tup []) he0
        refine ⟨rD r, .tuple [], dp_mono s1 (rr_dp hR), .tup (SqT.of upd_same) .nil, rD_shaped hy hd2, by decide +kernel, ?_⟩
        have hE : PyData.eqv (rD r) (.tuple []) = false := by cases r <;> first | (cases hi; done) | simp [rD, PyData.eqv, PyData.eqvAll]
        refine bl_is (c := false) hE ?_
        walk_at "lw go"
        refine g_ixT (SqT.of (s1 _ _ ha)) (v := .str x) (atI_nat (j := 0) (by rfl)) ?_
        walk_at "lw go"
        refine ⟨by rw [sizeLine_eq]; simp, fun l1 h1 => ?_⟩
        have s2 := sm_trans s1 (sm_new (o := .lst [.str "move", .str "mark", .str "often", .str "if"]) h1)
        obtain ⟨hx, har⟩ := tab_word hm
        refine ⟨l1, _, rfl, .inl (SqL.of upd_same), rfl, rfl, ?_⟩
        rw [if_pos rfl, show inV (V.str x) [.str "move", .str "mark", .str "often", .str "if"] = decide (x ∈ words) from in_strs x words, decide_eq_true hx]
        generalize upd (upd H e0 (.tup [])) l1 _ = H2 at *
        refine ⟨false, rfl, ?_⟩
        walk_at "lw go"
        refine ⟨a, _, rfl, .inr (SqT.of (s2 _ _ ha)), ?_⟩
        walk_at "lw go"
        refine fun d1 hd1 => ⟨upd_same, [(.inr "move", .int 3), (.inr "mark", .int 5), (.inr "often", .int 3), (.inr "if", .int 4)], rfl, by decide, ?_⟩
        rw [upd_upd]
        have s3 := sm_trans s2 (sm_new (o := .dK (mergeK [] [((.inr "move" : Key), V.int 3), (.inr "mark", .int 5), (.inr "often", .int 3), (.inr "if", .int 4)])) hd1)
        have hdk : upd H2 d1 (.dK (mergeK [] [((.inr "move" : Key), V.int 3), (.inr "mark", .int 5), (.inr "often", .int 3), (.inr "if", .int 4)])) d1 = some (.dK (mergeK [] [((.inr "move" : Key), V.int 3), (.inr "mark", .int 5), (.inr "often", .int 3), (.inr "if", .int 4)])) := upd_same
        generalize upd H2 d1 _ = H3 at *
        walk_at "lw go"
        refine g_ixT (SqT.of (s3 _ _ ha)) (v := .str x) (atI_nat (j := 0) (by rfl)) ?_
        refine ⟨d1, .int (arity x : Nat), rfl, .inl ⟨_, .inr x, .inl hdk, rfl, (arity_tab hx).symm⟩, ?_⟩
        walk_at "lw go"
        have hxs : (V.str x :: xs).length = arity x := by rw [List.length_cons, hA.len, ← har, List.length_map]
        rw [decide_eq_true (show V.int ((V.str x :: xs).length : Nat) = V.int (arity x : Nat) by rw [hxs])]
        have hrow := row_at hR hi ha
        rcases mark_word hR hi ha with ⟨hxm, hW⟩ | ⟨rfl, w, hW, hw⟩
        case' inl =>
          walk_at "lw go"
          refine g_ixT (SqT.of (s3 _ _ ha)) (v := .str x) (atI_nat (j := 0) (by rfl)) ?_
          walk_at "lw go"
          refine iteNo (fun z => hxm (V.str.inj z)) ?_
          walk_at "lw go"
          generalize hh : H3 = H4 at *
        case' inr =>
          walk_at "lw go"
          refine g_ixT (SqT.of (s3 _ _ ha)) (v := .str "mark") (atI_nat (j := 0) (by rfl)) ?_
          walk_at "lw go"
          refine g_ixT (SqT.of (s3 _ _ ha)) (v := .str w) hw ?_
          walk_at "lw go"
          refine ⟨by rw [sizeLine_eq]; simp, fun l2 h2 => ?_⟩
          have s4 := sm_trans s3 (sm_new (o := .lst [.str "set", .str "raise", .str "least", .str "most"]) h2)
          refine ⟨l2, _, rfl, .inl (SqL.of upd_same), rfl, rfl, ?_⟩
          rw [if_pos rfl, show inV (V.str w) [.str "set", .str "raise", .str "least", .str "most"] = decide (w ∈ marks) from in_strs w marks]
          clear hdk
          generalize upd H3 l2 _ = H4 at *
          by_cases hwm : w ∈ marks
        case' neg =>
          rw [decide_eq_false hwm]
          refine ⟨true, rfl, iteT ?_⟩
          walk_at "lw go"
          refine ⟨by rw [sizeLine_eq]; simp, fun t1 ht1 => ?_⟩
          refine path_cat (sm_new ht1 _ _ (s4 _ _ hp)) upd_same (by omega) fun u1 H5 s5 hu1 => ?_
          walk_at "lw go"
          refine ⟨by rw [sizeLine_eq]; simp, fun t2 ht2 => ?_⟩
          refine q _ _ (sm_trans s4 (sm_trans (sm_new ht1) (sm_trans s5 (sm_new ht2)))) ?_
          have e1 : fR r = some (([1] : List Int), ("kind" : Str)) := by
            rw [fR_parts hi, hW]
            simp only [wF]
            rw [if_neg hwm]
            rfl
          rw [e1]
          exact ⟨t2, u1, rfl, upd_same, sm_new ht2 _ _ hu1⟩
        case' pos =>
          rw [decide_eq_true hwm]
          refine ⟨false, rfl, iteF ?_⟩
          walk_at "lw go"
          replace hW : fWd r = none := by
            rw [hW]
            simp only [wF]
            rw [if_pos hwm]
            rfl
          clear s3
          have s3 := s4
        all_goals
          refine ⟨.ref a, r, rfl, rr_mono s3 hR, hi, fun l ys H5 s5 hl hA5 => ?_⟩
          refine ⟨l, rfl, ⟨ys, SqL.of hl⟩, for_list (xs := ys) (fun i σ G' => ∃ o1 o2 o3 : Option V, σ = [some (.ref a), some (.ref p), o1, o2, o3, none] ∧ Sm H5 G' ∧ fSp ((spans r).take i) = none) ⟨none, none, none, rfl, fun _ _ h => h, rfl⟩ (fun i σ G' _ ⟨_, _, _, _, s, _⟩ => SqL.of (s _ _ hl)) ?_ ?_⟩
          · rintro i y σ G' hy' ⟨o1, o2, o3, rfl, s6, hf⟩
            obtain ⟨t, ht, a5, rfl, ha5⟩ := al_at' hA5 hy'
            have sH : Sm H G' := sm_trans s3 (sm_trans s5 s6)
            have htm : t ∈ spans r := List.mem_of_getElem? ht
            walk_at "lw go"
            refine g_tupT (SqT.of (s6 _ _ ha5)) rfl ?_
            walk_at "lw go"
            refine g_ixT (SqT.of (sH _ _ ha)) (hrow.1 t htm) ?_
            walk_at "lw go"
            refine ⟨t.2.2.2, t.2.1, t.2.2.1, rfl, ?_⟩
            cases ho : t.2.2.2.ok t.2.1 t.2.2.1 with
            | true =>
              walk_at "lw go"
              exact ⟨_, _, _, rfl, s6, (fSp_next hf ht).1 ho⟩
            | false =>
              have e1 : fR r = some (([t.1] : List Int), ("number" : Str)) := by
                rw [fR_parts hi, hW, (fSp_next hf ht).2 ho]
                rfl
              walk_at "lw go"
              refine ⟨by rw [sizeLine_eq]; simp, fun t1 ht1 => ?_⟩
              refine path_cat (sm_new ht1 _ _ (sH _ _ hp)) upd_same (by omega) fun u1 H6 s7 hu1 => ?_
              walk_at "lw go"
              refine ⟨by rw [sizeLine_eq]; simp, fun t2 ht2 => ?_⟩
              refine q _ _ (sm_trans sH (sm_trans (sm_new ht1) (sm_trans s7 (sm_new ht2)))) ?_
              rw [e1]
              exact ⟨t2, u1, rfl, upd_same, sm_new ht2 _ _ hu1⟩
          · rintro σ G' ⟨o1, o2, o3, rfl, s6, hf⟩
            rw [hA5.len, List.take_length] at hf
            have sH : Sm H G' := sm_trans s3 (sm_trans s5 s6)
            walk_at "lw go"
            refine fun d2 hd2 => ?_
            refine ⟨by rw [sizeLine_eq]; simp, fun m1 hm1 => ⟨by rw [sizeLine_eq]; simp, fun m2 hm2 => ⟨by rw [sizeLine_eq]; simp, fun m3 hm3 => ⟨by rw [sizeLine_eq]; simp, fun m4 hm4 => ?_⟩⟩⟩⟩
            have n1 := (ne_of_none upd_same hm1).symm
            have n2 := (ne_of_none (sm_new hm1 _ _ upd_same) hm2).symm
            have n3 := (ne_of_none (sm_new hm2 _ _ (sm_new hm1 _ _ upd_same)) hm3).symm
            have n4 := (ne_of_none (sm_new hm3 _ _ (sm_new hm2 _ _ (sm_new hm1 _ _ upd_same))) hm4).symm
            refine ⟨sm_new hm4 _ _ (sm_new hm3 _ _ (sm_new hm2 _ _ (sm_new hm1 _ _ upd_same))), [(.inr "move", .ref m1), (.inr "mark", .ref m2), (.inr "often", .ref m3), (.inr "if", .ref m4)], rfl, by simp, ?_⟩
            have f1 := sm_new (o := .lst [.int 2, .int 3]) hm4 _ _ (sm_new (o := .lst [.int 2]) hm3 _ _ (sm_new (o := .lst []) hm2 _ _ (upd_same (H := upd G' d2 (.dK [])) (a := m1) (o := .lst []))))
            have f2 := sm_new (o := .lst [.int 2, .int 3]) hm4 _ _ (sm_new (o := .lst [.int 2]) hm3 _ _ (upd_same (H := upd (upd G' d2 (.dK [])) m1 (.lst [])) (a := m2) (o := .lst [])))
            have f3 := sm_new (o := .lst [.int 2, .int 3]) hm4 _ _ (upd_same (H := upd (upd (upd G' d2 (.dK [])) m1 (.lst [])) m2 (.lst [])) (a := m3) (o := .lst [.int 2]))
            have f4 := upd_same (H := upd (upd (upd (upd G' d2 (.dK [])) m1 (.lst [])) m2 (.lst [])) m3 (.lst [.int 2])) (a := m4) (o := .lst [.int 2, .int 3])
            have s7 : Sm G' (upd (upd (upd (upd (upd G' d2 (.dK [])) m1 (.lst [])) m2 (.lst [])) m3 (.lst [.int 2])) m4 (.lst [.int 2, .int 3])) := sm_trans (sm_new hd2) (sm_trans (sm_new hm1) (sm_trans (sm_new hm2) (sm_trans (sm_new hm3) (sm_new hm4))))
            clear hm1 hm2 hm3 hm4
            generalize upd (upd (upd (upd (upd G' d2 (.dK [])) m1 (.lst [])) m2 (.lst [])) m3 (.lst [.int 2])) m4 (.lst [.int 2, .int 3]) = G6 at *
            have s8 : Sm G' (upd G6 d2 (.dK (mergeK [] [((.inr "move" : Key), V.ref m1), (.inr "mark", .ref m2), (.inr "often", .ref m3), (.inr "if", .ref m4)]))) := fun b u hb => by
              rw [upd_ne (ne_of_none hb hd2)]
              exact s7 _ _ hb
            have hdk2 : upd G6 d2 (.dK (mergeK [] [((.inr "move" : Key), V.ref m1), (.inr "mark", .ref m2), (.inr "often", .ref m3), (.inr "if", .ref m4)])) d2 = some (.dK (mergeK [] [((.inr "move" : Key), V.ref m1), (.inr "mark", .ref m2), (.inr "often", .ref m3), (.inr "if", .ref m4)])) := upd_same
            obtain ⟨l7, hv7, hl7⟩ := subs_tab hm hi m1 m2 m3 m4
            have hlst := hl7 (upd G6 d2 (.dK (mergeK [] [((.inr "move" : Key), V.ref m1), (.inr "mark", .ref m2), (.inr "often", .ref m3), (.inr "if", .ref m4)]))) (by rw [upd_ne n1]; exact f1) (by rw [upd_ne n2]; exact f2) (by rw [upd_ne n3]; exact f3) (by rw [upd_ne n4]; exact f4)
            generalize upd G6 d2 _ = G7 at *
            clear f1 f2 f3 f4 s7 hl7
            walk_at "lw go"
            refine g_ixT (SqT.of (s8 _ _ (sH _ _ ha))) (atI_nat (j := 0) (by rfl)) ?_
            refine ⟨d2, .ref l7, rfl, .inl ⟨_, .inr _, .inl hdk2, rfl, hv7.symm⟩, ?_⟩
            refine ⟨l7, rfl, ⟨_, SqL.of hlst⟩, for_list (xs := (subs r).map fun t => V.int t.1) (fun i σ G8 => ∃ o1 o2 o3 o4 : Option V, σ = [some (.ref a), some (.ref p), o1, o2, o3, o4] ∧ Sm G7 G8 ∧ fSb ((subs r).take i) = none) ⟨o1, o2, o3, none, rfl, fun _ _ h => h, rfl⟩ (fun i σ G8 _ ⟨_, _, _, _, _, s, _⟩ => SqL.of (s _ _ hlst)) ?_ ?_⟩
            · rintro i y σ G8 hy' ⟨o1, o2, o3, o4, rfl, s9, hb⟩
              obtain ⟨t, ht, rfl⟩ : ∃ t, (subs r)[i]? = some t ∧ y = .int t.1 := by
                rw [List.getElem?_map] at hy'
                cases e : (subs r)[i]? with
                | none => rw [e] at hy'; cases hy'
                | some t => rw [e] at hy'; exact ⟨t, rfl, (Option.some.inj hy').symm⟩
              have htm : t ∈ subs r := List.mem_of_getElem? ht
              have sH8 : Sm H G8 := sm_trans sH (sm_trans s8 s9)
              obtain ⟨l2, xs2, hat, hl2, hR2⟩ := hrow.2 t htm
              obtain ⟨hly, hdd, hzz⟩ := subs_facts htm hy
              walk_at "lw go"
              refine g_ixT (SqT.of (sH8 _ _ ha)) hat ?_
              walk_at "lw go"
              refine ⟨by rw [sizeLine_eq]; simp, fun t1 ht1 => ?_⟩
              refine path_cat (sm_new ht1 _ _ (sH8 _ _ hp)) upd_same (by omega) fun u1 H6 s10 hu1 => ?_
              have sH6 := sm_trans sH8 (sm_trans (sm_new (o := .tup [.int t.1]) ht1) s10)
              walk_at "lw go"
              refine ⟨l2, u1, xs2, t.2, path ++ [t.1], rfl, sH6 _ _ hl2, rrs_mono sH6 hR2, hu1, hly, by omega, by omega, by rw [List.length_append]; simp; omega, fun u2 H9 s11 hf9 => ?_⟩
              walk_at "lw go"
              cases e : fRs t.2 0 with
              | none =>
                rw [e] at hf9
                obtain rfl : u2 = .non := hf9
                refine ⟨rfl, bl_is (c := false) (by simp) (iteF ?_)⟩
                walk_at "lw go"
                exact ⟨_, _, _, _, rfl, sm_trans s9 (sm_trans (sm_new ht1) (sm_trans s10 s11)), (fSb_next hb ht).1 e⟩
              | some py =>
                obtain ⟨p', y'⟩ := py
                have e2 := (fSb_next hb ht).2 p' y' e
                rw [e] at hf9
                obtain ⟨a9, t9, rfl, h91, h92⟩ := hf9
                refine ⟨rfl, bl_is (c := true) (by simp) (iteT ?_)⟩
                walk_at "lw go"
                refine q _ _ (sm_trans sH6 s11) ?_
                rw [fR_parts hi, hW, hf, e2, e]
                show FlR H9 (some (path ++ ([t.1] ++ p'), y')) _
                exact ⟨a9, t9, rfl, h91, by rw [h92, List.append_assoc]⟩
            · rintro σ G8 ⟨o1, o2, o3, o4, rfl, s9, hb⟩
              rw [List.length_map, List.take_length] at hb
              walk_at "lw go"
              refine q _ _ (sm_trans sH (sm_trans s8 s9)) ?_
              rw [fR_parts hi, hW, hf, hb]
              rfl
  intro n
  induction n with
  | zero =>
    have h0 : FnOk P w K mg base CX0 (2 * 0 + 8) f fd ["_law_rows_here", "_law_path"] (spRowsF K 0) := by
      refine F.ok (k := 7) sc_law_fault (fun vs H Q E h => ?_) (fun cdv A outer s H vs Q E hr h => ?_)
      · obtain ⟨_, _, _, _, _, rfl, _⟩ := h
        rfl
      · obtain ⟨l, p, xs, rs, path, rfl, _, _, _, _, hd, _⟩ := h
        omega
    exact ⟨h0, part 0 h0⟩
  | succ n ih =>
    have D_law_row_fault : Df P w K mg base "_law_row_fault" ["_law_row", "_law_path"] (2 * n + 9) (spRowF K (n + 1)) := ⟨f2, fd2, gm2, kp2, bb2, ih.2⟩
    have h0 : FnOk P w K mg base CX0 (2 * (n + 1) + 8) f fd ["_law_rows_here", "_law_path"] (spRowsF K (n + 1)) := by
      refine F.ok (k := 2 * n + 9) sc_law_fault (fun vs H Q E h => ?_) (fun cdv A outer s H vs Q E hr h => ⟨_, PSs.nox
(pss_cons (ps_for PassesOwn.never rfl (pi_enum (by rfl) T.enumerate (pa_cons (pv 0) pa_nil)) (pg_tup (by rfl) (pgs_cons (pg_name (i := 2) sc_law_fault.nd rfl (Or.inl rfl)) (pgs_cons (pg_name (i := 3) sc_law_fault.nd rfl (Or.inl rfl)) pgs_nil)))
  (pss_cons (ps_set (i := 4) sc_law_fault.nd rfl (Or.inl rfl) (pe_df D_law_row_fault (hr.mono (by first | decide | omega)) (pa_cons (pv 3) (pa_cons (pe_op op_catA (pv 1) (pe_tup (pa_cons (pv 2) pa_nil))) pa_nil))))
  (pss_one (ps_if (pt_cmpR op_notN (pv 4) pe_non (nomark _))
  (pss_one (ps_ret (pv 4)))
  pss_nil))))
  (pss_one (ps_ret pe_non))), ?_⟩)
      · obtain ⟨_, _, _, _, _, rfl, _⟩ := h
        rfl
      · obtain ⟨l, p, xs, rs, path, rfl, hl, hR, hp, hy, hd, hd2, hz, q⟩ := h
        walk_at "lw i0"
        walk_at "lw go"
        refine g_enum ?_
        walk_at "lw go"
        refine ⟨l, xs, rfl, SqL.of hl, for_enumL (xs := xs) (fun i σ G => ∃ o2 o3 o4 : Option V, σ = [some (.ref l), some (.ref p), o2, o3, o4] ∧ Sm H G ∧ fRs (rs.take i) 0 = none) ⟨none, none, none, rfl, fun _ _ h => h, rfl⟩ (fun i σ G ⟨_, _, _, _, s, _⟩ => SqL.of (s _ _ hl)) ?_ ?_⟩
        · rintro i y t σ G' hx ⟨o2, o3, o4, rfl, s1, hf⟩ ht
          obtain ⟨r, hr', hrr⟩ := rrs_at hR hx
          have hdr := dRs_at hr'
          have hzr := zRs_at hr'
          have s2 := sm_trans s1 (sm_new (o := .tup [.int (i : Nat), y]) ht)
          walk_at "lw go"
          refine g_tupT (SqT.of upd_same) rfl ?_
          walk_at "lw go"
          refine ⟨by rw [sizeLine_eq]; simp, fun t1 ht1 => ?_⟩
          refine path_cat (sm_new ht1 _ _ (s2 _ _ hp)) upd_same (by omega) fun u1 H6 s3 hu1 => ?_
          have s4 := sm_trans s2 (sm_trans (sm_new (o := .tup [.int (i : Nat)]) ht1) s3)
          walk_at "lw go"
          refine ⟨y, u1, r, path ++ [(i : Int)], rfl, rr_mono s4 hrr, hu1, lyRs_at hy hr', by omega, by omega, by rw [List.length_append]; simp; omega, fun u2 H9 s5 hf9 => ?_⟩
          walk_at "lw go"
          cases e : fR r with
          | none =>
            rw [e] at hf9
            obtain rfl : u2 = .non := hf9
            refine ⟨rfl, bl_is (c := false) (by simp) (iteF ?_)⟩
            walk_at "lw go"
            exact ⟨_, _, _, rfl, sm_trans s4 s5, (fRs_next hf hr').1 e⟩
          | some py =>
            obtain ⟨p', y'⟩ := py
            have e2 := (fRs_next hf hr').2 p' y' e
            rw [e] at hf9
            obtain ⟨a9, t9, rfl, h91, h92⟩ := hf9
            refine ⟨rfl, bl_is (c := true) (by simp) (iteT ?_)⟩
            walk_at "lw go"
            refine q _ _ (sm_trans s4 s5) ?_
            rw [e2, e]
            show FlR H9 (some (path ++ ([0 + (i : Int)] ++ p'), y')) _
            exact ⟨a9, t9, rfl, h91, by rw [h92, List.append_assoc, Int.zero_add]⟩
        · rintro σ G' ⟨o2, o3, o4, rfl, s1, hf⟩
          rw [rrs_len hR, List.take_length] at hf
          walk_at "lw go"
          refine q _ _ s1 ?_
          rw [hf]
          rfl
    exact ⟨h0, part (n + 1) h0⟩
abbrev N_law_first : List Str := ["_law_rows_here", "_law_fault_here"]
theorem sc_law_first : FnScope N_law_first ["_law_rows_here"] (defScope s_law_first) := ⟨rfl, rfl, rfl, by decide +kernel, rfl, by decide +kernel, by decide +kernel⟩
theorem ok_law_first (F : FnP K "_law_first" s_law_first f fd) (T : Bi mg) (G : Kn w K mg) (D_law_fault : Df P w K mg base "_law_fault" ["_law_rows_here", "_law_path"] 16 (spRowsF K 4)) (D_law_counts : Df P w K mg base "_law_counts" ["_law_rows_here"] 5 (spCounts K 4)) : FnOk P w K mg base CX0 17 f fd ["_law_rows_here"] (spFirst K) := by
  refine F.ok sc_law_first (fun vs H Q E h => ?_) (fun cdv A outer s H vs Q E hr h => ⟨_, PSs.nox
(pss_cons (ps_set (i := 1) sc_law_first.nd rfl (Or.inl rfl) (pe_df D_law_fault (hr.mono (by first | decide | omega)) (pa_cons (pv 0) (pa_cons (pe_tup pa_nil) pa_nil))))
  (pss_cons (ps_if (PW.pt (pw_and (pt_cmpR op_isN (pv 1) pe_non (nomark _)) (pw_and1 (PW.pt (pw_or (pt_cmpR op_gt (pe_ix ix_tup (pe_df D_law_counts (hr.mono (by first | decide | omega)) (pa_cons (pv 0) pa_nil)) pe_int (fun _ _ => rfl)) pe_int (nomark _)) (pw_or1 (pt_cmpR op_gt (pe_ix ix_tup (pe_df D_law_counts (hr.mono (by first | decide | omega)) (pa_cons (pv 0) pa_nil)) pe_int (fun _ _ => rfl)) pe_int (nomark _))))))))
  (pss_one (ps_ret (pe_tup (pa_cons (pe_tup pa_nil) (pa_cons pe_str pa_nil)))))
  pss_nil)
  (pss_one (ps_ret (pv 1))))), ?_⟩)
  · obtain ⟨l, xs, rs, rfl, _⟩ := h
    rfl
  · obtain ⟨l, xs, rs, rfl, hl, hR, hy, hd, hz, q⟩ := h
    walk_at "lw i0"
    walk_at "lw go"
    refine ⟨by show 0 ≤ sizeLine; decide, fun e0 he0 => ?_⟩
    have s1 := sm_new (o := .tup []) he0
    walk_at "lw go"
    refine ⟨l, e0, xs, rs, [], rfl, s1 _ _ hl, rrs_mono s1 hR, upd_same, hy, hd, by omega, by simp; omega, fun u H2 s2 hf => ?_⟩
    have s3 := sm_trans s1 s2
    rw [pre_nil] at hf
    walk_at "lw go"
    cases e : fRs rs 0 with
    | some py =>
      obtain ⟨p, y⟩ := py
      have eB : faultB rs = some (p, y) := by unfold faultB; rw [e]; rfl
      rw [e] at hf
      obtain ⟨a9, t9, rfl, h91, h92⟩ := hf
      refine ⟨rfl, bl_is (c := false) (by simp) (iteF ?_)⟩
      walk_at "lw go"
      refine q _ _ s3 ?_
      rw [eB]
      exact ⟨a9, t9, rfl, h91, h92⟩
    | none =>
      rw [e] at hf
      obtain rfl : u = .non := hf
      have eB : faultB rs = (if (mRs rs).1 > 60 ∨ (mRs rs).2 > 2000 then some (([] : List Int), ("great" : Str)) else none : Fl) := by unfold faultB; rw [e]; rfl
      refine ⟨rfl, bl_is (c := true) (by simp) (iteT ?_)⟩
      walk_at "lw go"
      refine ⟨l, xs, rs, rfl, s3 _ _ hl, rrs_mono s3 hR, oks_none e, hd, fun p3 H3 s4 hp3 => ?_⟩
      walk_at "lw go"
      refine g_ixT (SqT.of hp3) (v := .int (mRs rs).1) (atI_nat (j := 0) (by rfl)) ?_
      walk_at "lw go"
      have great : ((mRs rs).1 > 60 ∨ (mRs rs).2 > 2000) → ∀ H4, Sm H H4 → ∀ t, H4 t = none → ∀ a, upd H4 t (.tup []) a = none → Q (.ref a) (upd (upd H4 t (.tup [])) a (.tup [.ref t, .str "great"])) := fun hb H4 s4 t ht a ha => q _ _ (sm_trans s4 (sm_trans (sm_new ht) (sm_new ha))) (by
        rw [eB, if_pos hb]
        exact ⟨a, t, rfl, upd_same, by rw [sm_new ha _ _ upd_same]; rfl⟩)
      refine g_ite (fun h1 => ?_) (fun h1 => ?_)
      · walk_at "lw go"
        refine ⟨by show 0 ≤ sizeLine; decide, fun t ht => ?_⟩
        walk_at "lw go"
        refine ⟨by rw [sizeLine_eq]; simp, fun a ha => ?_⟩
        exact great (.inl h1) _ (sm_trans s3 s4) t ht a ha
      · walk_at "lw go"
        refine ⟨l, xs, rs, rfl, s4 _ _ (s3 _ _ hl), rrs_mono (sm_trans s3 s4) hR, oks_none e, hd, fun p5 H5 s5 hp5 => ?_⟩
        walk_at "lw go"
        refine g_ixT (SqT.of hp5) (v := .int (mRs rs).2) (atI_nat (j := 1) (by rfl)) ?_
        walk_at "lw go"
        refine g_ite (fun h2 => ?_) (fun h2 => ?_)
        · walk_at "lw go"
          refine ⟨by show 0 ≤ sizeLine; decide, fun t ht => ?_⟩
          walk_at "lw go"
          refine ⟨by rw [sizeLine_eq]; simp, fun a ha => ?_⟩
          exact great (.inr h2) _ (sm_trans s3 (sm_trans s4 s5)) t ht a ha
        · walk_at "lw go"
          refine q _ _ (sm_trans s3 (sm_trans s4 s5)) ?_
          rw [eB, if_neg (by omega)]
          rfl
abbrev N_law_told : List Str := ["_law_way", "_law_rows_here", "_law_caught", "_law_told_here", "e"]
theorem sc_law_told : FnScope N_law_told ["_law_way", "_law_rows_here"] (defScope s_law_told) := ⟨rfl, rfl, rfl, by decide +kernel, rfl, by decide +kernel, by decide +kernel⟩
theorem ok_law_told (F : FnP K "_law_told" s_law_told f fd) (T : Bi mg) (G : Kn w K mg) (DX_must_brush : DfX P w K mg base "must_brush" ["brush"] 9 (spMust K)) (DX_reach_of : DfX P w K mg base "reach_of" ["brush"] 22 (spReach K)) : FnOk P w K mg base CX0 24 f fd ["_law_way", "_law_rows_here"] (spTold K) := by
  refine F.ok (k := 23) sc_law_told (fun vs H Q E h => ?_) (fun cdv A outer s H vs Q E hr h => ⟨_, PSs.nox
(pss_cons (ps_set (i := 2) sc_law_told.nd rfl (Or.inl rfl) pe_non)
  (pss_cons (ps_set (i := 3) sc_law_told.nd rfl (Or.inl rfl) pe_non)
  (pss_cons (ps_try_keep (i := 4) rfl rfl rfl sc_law_told.nd rfl rfl (c := .ref (cA K "LandError")) ⟨rfl, by decide, .inl G.g_LandError⟩ takes0
  (fun W pn xe tk po => (pss_one (ps_if (pt_cmpR op_eq (pv 0) pe_int (nomark _))
  (pss_one (ps_set (i := 3) sc_law_told.nd rfl (Or.inl rfl) (pe_dfX DX_must_brush (hr.mono (by first | decide | omega)) tk (pa_cons (pv 1) pa_nil))))
  (pss_one (ps_set (i := 3) sc_law_told.nd rfl (Or.inl rfl) (pe_dfX DX_reach_of (hr.mono (by first | decide | omega)) tk (pa_cons (pv 1) pa_nil)))))))
  (fun a oe cls d pn hz hv => (pss_one (ps_set (i := 2) sc_law_told.nd rfl (Or.inl rfl) (pv 4)))))
  (pss_cons (ps_if (pt_val (pe_callB call_isXi (by rfl) T.isinstance (by decide +kernel) (pa_cons (pv 2) (pa_cons (pe_cls G.g_NoBrush) pa_nil))))
  (pss_one (ps_ret (pe_lst (pa_cons (pe_fx (pv 2)) (pa_cons (pe_fx (pv 2)) pa_nil)))))
  pss_nil)
  (pss_cons (ps_if (pt_cmpR op_notN (pv 2) pe_non (nomark _))
  (pss_one (ps_ret pe_str))
  pss_nil)
  (pss_one (ps_ret (pv 3)))))))), ?_⟩)
  · obtain ⟨_, _, _, _, rfl, _⟩ := h
    rfl
  · obtain ⟨way, l, xs, rs, rfl, hl, hR, hz, hd, q0, q1, qF⟩ := h
    walk_at "lw i0"
    walk_at "lw go"
    refine g_ite (fun h0 => ?_) (fun h0 => ?_)
    · walk_at "lw go"
      refine g_callS ?_
      walk_at "lw go"
      refine ⟨l, xs, rs, rfl, hl, hR, hz, hd, fun hn H1 s1 => ?_, fun p y hf d t H1 s1 hd1 ht => ⟨true, G.mP, (fun z => by cases z), fun _ a ha => ?_⟩⟩
      · walk_at "lw go"
        refine .inr ⟨.non, _, _, _, false, rfl, .own _, .base .non, G.kN, false, rfl, iteF ?_⟩
        walk_at "lw go"
        refine ⟨rfl, bl_is (c := false) (by simp) (iteF ?_)⟩
        walk_at "lw go"
        exact q0 hn (by simpa using h0) _ s1
      · have k12 : Sm H1 (upd H1 a (exg a (.ref (cA K "NoBrush")) (some d))) := sm_new ha
        have hx : Exc (upd H1 a (exg a (.ref (cA K "NoBrush")) (some d))) a (cA K "NoBrush") [("why", .str y), ("path", .ref t)] := .heldD upd_same (k12 _ _ hd1)
        have O := G.er.own (x := "NoBrush") (b := true) (fs := ["path", "why"]) (by simp [csK])
        have ht2 := k12 _ _ ht
        walk_at "lw go"
        refine .inl ⟨a, _, _, _, _, _, rfl, O, hx, .own _, G.er.kin ("NoBrush", "NoBrush", true) (by simp [kinsK]), true, rfl, iteT ?_⟩
        walk_at "lw go"
        refine g_fx ?_
        walk_at "lw go"
        refine ⟨a, _, _, .ref t, rfl, O, G.er.fld (x := "NoBrush") (b := true) (fs := ["path", "why"]) (by simp [csK]) (by simp), hx, by rfl, ?_⟩
        walk_at "lw go"
        refine g_fx ?_
        walk_at "lw go"
        refine ⟨a, _, _, .str y, rfl, O, G.er.fld (x := "NoBrush") (b := true) (fs := ["path", "why"]) (by simp [csK]) (by simp), hx, by rfl, ?_⟩
        walk_at "lw go"
        refine ⟨by rw [sizeLine_eq]; simp, fun l5 hl5 => ?_⟩
        exact qF p y hf l5 t _ (sm_trans s1 (sm_trans k12 (sm_new hl5))) upd_same (sm_new hl5 _ _ ht2)
    · walk_at "lw go"
      refine g_callS ?_
      walk_at "lw go"
      refine ⟨l, xs, rs, rfl, hl, hR, hz, hd, fun hn u H1 s1 hu => ?_, fun p y hf d t H1 s1 hd1 ht => ⟨true, G.mP, (fun z => by cases z), fun _ a ha => ?_⟩⟩
      · walk_at "lw go"
        refine .inr ⟨.non, _, _, _, false, rfl, .own _, .base .non, G.kN, false, rfl, iteF ?_⟩
        walk_at "lw go"
        refine ⟨rfl, bl_is (c := false) (by simp) (iteF ?_)⟩
        walk_at "lw go"
        exact q1 hn (by simpa using h0) u _ s1 hu
      · have k12 : Sm H1 (upd H1 a (exg a (.ref (cA K "NoBrush")) (some d))) := sm_new ha
        have hx : Exc (upd H1 a (exg a (.ref (cA K "NoBrush")) (some d))) a (cA K "NoBrush") [("why", .str y), ("path", .ref t)] := .heldD upd_same (k12 _ _ hd1)
        have O := G.er.own (x := "NoBrush") (b := true) (fs := ["path", "why"]) (by simp [csK])
        have ht2 := k12 _ _ ht
        walk_at "lw go"
        refine .inl ⟨a, _, _, _, _, _, rfl, O, hx, .own _, G.er.kin ("NoBrush", "NoBrush", true) (by simp [kinsK]), true, rfl, iteT ?_⟩
        walk_at "lw go"
        refine g_fx ?_
        walk_at "lw go"
        refine ⟨a, _, _, .ref t, rfl, O, G.er.fld (x := "NoBrush") (b := true) (fs := ["path", "why"]) (by simp [csK]) (by simp), hx, by rfl, ?_⟩
        walk_at "lw go"
        refine g_fx ?_
        walk_at "lw go"
        refine ⟨a, _, _, .str y, rfl, O, G.er.fld (x := "NoBrush") (b := true) (fs := ["path", "why"]) (by simp [csK]) (by simp), hx, by rfl, ?_⟩
        walk_at "lw go"
        refine ⟨by rw [sizeLine_eq]; simp, fun l5 hl5 => ?_⟩
        exact qF p y hf l5 t _ (sm_trans s1 (sm_trans k12 (sm_new hl5))) upd_same (sm_new hl5 _ _ ht2)
abbrev N_law_bent_row : List Str := ["_law_purse_here", "_law_row", "_law_way", "_law_at", "_law_spans_here", "_law_place", "_law_low", "_law_high", "_law_things"]
theorem sc_law_bent_row : FnScope N_law_bent_row ["_law_purse_here", "_law_row"] (defScope s_law_bent_row) := ⟨rfl, rfl, rfl, by decide +kernel, rfl, by decide +kernel, by decide +kernel⟩
theorem ok_law_bent_row (F : FnP K "_law_bent_row" s_law_bent_row f fd) (T : Bi mg) (G : Kn w K mg) (D_law_draw : Df P w K mg base "_law_draw" ["_law_purse_here", "_law_out_of"] 2 spDraw) (D_law_spans : Df P w K mg base "_law_spans" ["_law_row"] 1 (spSpans K)) : FnOk P w K mg base CX0 3 f fd ["_law_purse_here", "_law_row"] (spBentRow K) := by
  refine F.ok sc_law_bent_row (fun vs H Q E h => ?_) (fun cdv A outer s H vs Q E hr h => ⟨_, PSs.nox
(pss_cons (ps_set (i := 2) sc_law_bent_row.nd rfl (Or.inl rfl) (pe_df D_law_draw (hr.mono (by first | decide | omega)) (pa_cons (pv 0) (pa_cons pe_int pa_nil))))
  (pss_cons (ps_set (i := 3) sc_law_bent_row.nd rfl (Or.inr rfl) (pe_op op_add pe_int (pe_df D_law_draw (hr.mono (by first | decide | omega)) (pa_cons (pv 0) (pa_cons (pe_op op_sub (pe_callB call_len_seq (by rfl) T.len (by decide +kernel) (pa_cons (pv 1) pa_nil)) pe_int) pa_nil)))))
  (pss_cons (ps_if (pt_cmpR op_eq (pv 2) pe_int (nomark _))
  (pss_one (ps_ret (pe_callTy call_list_of (by rfl) T.list (by decide +kernel) (pa_cons (pv 1) pa_nil))))
  pss_nil)
  (pss_cons (ps_if (pt_cmpR op_eq (pv 2) pe_int (nomark _))
  (pss_one (ps_ret (pe_tup pa_nil)))
  pss_nil)
  (pss_cons (ps_if (pt_cmpR op_eq (pv 2) pe_int (nomark _))
  (pss_one (ps_ret (pe_slice sl_tupA (pv 1) po_none (po_some (pe_un un_neg pe_int)))))
  pss_nil)
  (pss_cons (ps_if (pt_cmpR op_eq (pv 2) pe_int (nomark _))
  (pss_one (ps_ret (pe_op op_catA (pv 1) (pe_tup (pa_cons pe_int pa_nil)))))
  pss_nil)
  (pss_cons (ps_if (pt_cmpR op_eq (pv 2) pe_int (nomark _))
  (pss_one (ps_ret (pe_op op_catA (pe_tup (pa_cons pe_str pa_nil)) (pe_slice sl_tupA (pv 1) (po_some pe_int) po_none))))
  pss_nil)
  (pss_cons (ps_setLc (i := 4) (own := [("_law_place", 5), ("_law_low", 6), ("_law_high", 7)]) (g := (gTup K 3 (gCons (gName 5) (gCons (gName 6) (gCons (gName 7) gNil)))))  rfl sc_law_bent_row.nd rfl rfl (sw_true rfl rfl rfl (by decide +kernel)) (pi_list (pe_df D_law_spans (hr.mono (by first | decide | omega)) (pa_cons (pv 1) pa_nil))) (blkOk_by (N := N_law_bent_row) (sc := defScope s_law_bent_row) (by decide +kernel)) (fun _ _ _ _ _ => pg_tup (by rfl) (pgs_cons (pg_name (i := 5) sc_law_bent_row.nd rfl (Or.inl rfl)) (pgs_cons (pg_name (i := 6) sc_law_bent_row.nd rfl (Or.inl rfl)) (pgs_cons (pg_name (i := 7) sc_law_bent_row.nd rfl (Or.inl rfl)) pgs_nil)))) (fun _ _ _ _ _ => (pts_one (pt_cmpR op_eq (pv 5) (pv 3) (nomark _)))) (fun _ _ _ _ _ => (pe_tup (pa_cons (pv 5) (pa_cons (pv 6) (pa_cons (pv 7) pa_nil))))))
  (pss_cons (ps_if (pt_cmpR (op_eqD hr.units) (pv 4) (pe_lst pa_nil) (nomark _))
  (pss_one (ps_ret (pe_tup (pa_cons pe_str (pa_cons (pe_ix ix_list (pe_lst (pa_cons pe_str (pa_cons pe_str (pa_cons pe_str (pa_cons pe_str pa_nil))))) (pe_df D_law_draw (hr.mono (by first | decide | omega)) (pa_cons (pv 0) (pa_cons pe_int pa_nil))) (fun _ _ => rfl)) (pa_cons pe_int (pa_cons pe_int (pa_cons pe_int pa_nil))))))))
  pss_nil)
  (pss_cons (ps_asg (pe_slice sl_tupA (pe_ix ix_list (pv 4) pe_int (fun _ _ => rfl)) (po_some pe_int) po_none) (pg_tup (by rfl) (pgs_cons (pg_name (i := 6) sc_law_bent_row.nd rfl (Or.inl rfl)) (pgs_cons (pg_name (i := 7) sc_law_bent_row.nd rfl (Or.inl rfl)) pgs_nil))))
  (pss_cons (ps_set (i := 8) sc_law_bent_row.nd rfl (Or.inl rfl) (pe_lst (pa_cons (pe_op op_sub (pv 6) pe_int) (pa_cons (pe_op op_add (pv 7) pe_int) (pa_cons pe_bl (pa_cons pe_non (pa_cons pe_str pa_nil)))))))
  (pss_one (ps_ret (pe_op op_catA (pe_op op_catA (pe_slice sl_tupA (pv 1) po_none (po_some (pv 3))) (pe_tup (pa_cons (pe_ix ix_list (pv 8) (pe_df D_law_draw (hr.mono (by first | decide | omega)) (pa_cons (pv 0) (pa_cons pe_int pa_nil))) (fun _ _ => rfl)) pa_nil))) (pe_slice sl_tupA (pv 1) (po_some (pe_op op_add (pv 3) pe_int)) po_none))))))))))))))), ?_⟩)
  · obtain ⟨p, m, o, v, r, N, rfl, _⟩ := h
    rfl
  · obtain ⟨p, m, o, v, r, N, rfl, hp, hP, hm, hS, hN, hR, ho, hy, hd, q⟩ := h
    walk_at "lw i0"
    have hlay := rD_lay hy
    have hdep := rD_dep ho
    walk_at "lw go"
    refine ⟨p, 9, m, o, rfl, hp, hP, by omega, by decide, by decide, fun w o1 w0 w1 hP1 => ?_⟩
    have s1 : Sm N (upd H p o1) := fun b u hb => by
      rw [upd_ne (fun e => by rw [e, hN] at hb; cases hb)]
      exact hS _ _ hb
    walk_at "lw go"
    cases r with
    | junk d => exact ho.elim
    | move a b =>
      obtain ⟨pr, rfl, ha⟩ := hR
      have hDp : DpAll K N [V.str "move", a.v, b.v] [PyData.str "move", a.d, b.d] := (.cons (.str _) (.cons (at_dp a) (.cons (at_dp b) .nil)))
      simp only [rD, PyData.canLay0, PyData.canLayAll0, PyData.depth, PyData.depthAll] at hlay hdep
      have za := s1 _ _ ha
      refine ⟨pr, _, rfl, .inr (SqT.of za), ?_⟩
      walk_at "lw go"
      refine ⟨p, 2, _, o1, rfl, upd_same, hP1, by omega, by decide, by decide, fun x o2 x0 y1 hP2 => ?_⟩
      rw [upd_upd]
      have s2 : Sm N (upd H p o2) := fun b u hb => by
        rw [upd_ne (fun e => by rw [e, hN] at hb; cases hb)]
        exact hS _ _ hb
      have g2 : Grow N H N (upd H p o2) := (Grow.refl hS).aside hN
      have k2 : Keep p H (upd H p o2) := Keep.refl.put
      have hp2 : upd H p o2 p = some o2 := upd_same
      have dm : ∀ b, H b ≠ none → upd H p o2 b ≠ none := dom_new
      generalize upd H p o2 = G at *
      clear za s1
      have za := s2 _ _ ha
      walk_at "lw go"
      have outT : ∀ (G2 : Hp), Sm G G2 → ∀ (t : Addr) (xs' : List V) (ds' : List PyData), G2 t = none → DpAll K N xs' ds' → PyData.canLayAll0 ds' = true → PyData.depthAll ds' ≤ 29 → junkT ds' → Q (.ref t) (upd G2 t (.tup xs')) := fun G2 s t xs' ds' ht hD hl hdp hj =>
        q (.ref t) (.junk (.tuple ds')) o2 _ (upd N t (.tup xs')) (Keep.new (fun c u n h => s _ _ (k2 c u n h)) ht) (sm_up ht _ _ (s _ _ hp2)) (hP2.mono (by omega)) ((Grow.sm g2 s).trans (Grow.new (Grow.sm g2 s).dn ht) (fun c h => sm_dom s c (dm c h))) ⟨t, xs', ds', rfl, dpA_mono (sm_up (n_none (sm_trans s2 s) ht)) hD, .inr ⟨rfl, upd_same, hj⟩⟩ ⟨hl, by simp only [PyData.depth]; omega⟩ (Nat.zero_le _) (zR_pos _)
      have outL : ∀ (t : Addr) (xs' : List V) (ds' : List PyData), G t = none → DpAll K N xs' ds' → PyData.canLayAll0 ds' = true → PyData.depthAll ds' ≤ 29 → Q (.ref t) (upd G t (.lst xs')) := fun t xs' ds' ht hD hl hdp =>
        q (.ref t) (.junk (.list ds')) o2 _ (upd N t (.lst xs')) (k2.new ht) (sm_up ht _ _ hp2) (hP2.mono (by omega)) (g2.trans (Grow.new g2.dn ht) dm) ⟨t, xs', ds', rfl, dpA_mono (sm_up (n_none s2 ht)) hD, .inl ⟨rfl, upd_same⟩⟩ ⟨hl, by simp only [PyData.depth]; omega⟩ (Nat.zero_le _) (zR_pos _)
      have hdd := hd
      refine g_ite (fun hw0 => ?_) (fun hw0 => ?_)
      · walk_at "lw go"
        exact ⟨pr, _, rfl, .inr (SqT.of za), fun t ht => outL t _ _ ht hDp (by have z := hlay.1; clear outT outL q; simp_all [PyData.canLay0, PyData.canLayAll0]) (by simp only [PyData.depth, PyData.depthAll]; omega)⟩
      walk_at "lw go"
      refine g_ite (fun hw1 => ?_) (fun hw1 => ?_)
      · walk_at "lw go"
        exact ⟨by show 0 ≤ sizeLine; decide, fun t ht => outT G (fun _ _ h => h) t [] [] ht .nil rfl (by simp [PyData.depthAll]) (.inl rfl)⟩
      walk_at "lw go"
      refine g_ite (fun hw2 => ?_) (fun hw2 => ?_)
      · walk_at "lw go"
        refine ⟨pr, _, rfl, SqT.of za, fun h => absurd h.2 (by show ¬ HT.sIx 3 3 (some (-1)) = 3; decide), fun _ t ht => ?_⟩
        exact outT G (fun _ _ h => h) t [.str "move", a.v] [.str "move", a.d] ht (.cons (.str _) (.cons (at_dp a) .nil)) (by have z := hlay.1; clear outT outL q; simp_all [PyData.canLay0, PyData.canLayAll0]) (by simp only [PyData.depth, PyData.depthAll]; omega) (.inr ⟨_, _, rfl, .inr ⟨by decide +kernel, by show ¬ (2 = arity _); decide +kernel⟩⟩)
      walk_at "lw go"
      refine g_ite (fun hw3 => ?_) (fun hw3 => ?_)
      · walk_at "lw go"
        refine ⟨by rw [sizeLine_eq]; simp, fun t1 ht1 => ?_⟩
        refine ⟨pr, t1, _, _, rfl, rfl, SqT.of (sm_up ht1 _ _ za), SqT.of upd_same, by rw [sizeLine_eq]; simp, fun z => (by cases z), fun _ z => (by cases z), fun _ _ t ht => ?_⟩
        exact outT _ (sm_up ht1) t [.str "move", a.v, b.v, .int 1] [.str "move", a.d, b.d, .int 1] ht (.cons (.str _) (.cons (at_dp a) (.cons (at_dp b) (.cons (.int _) .nil)))) (by have z := hlay.1; clear outT outL q; simp_all [PyData.canLay0, PyData.canLayAll0]) (by simp only [PyData.depth, PyData.depthAll]; omega) (.inr ⟨_, _, rfl, .inr ⟨by decide +kernel, by show ¬ (4 = arity _); decide +kernel⟩⟩)
      walk_at "lw go"
      refine g_ite (fun hw4 => ?_) (fun hw4 => ?_)
      · walk_at "lw go"
        refine ⟨by rw [sizeLine_eq]; simp, fun t1 ht1 => ?_⟩
        walk_at "lw go"
        refine ⟨pr, _, rfl, SqT.of (sm_up ht1 _ _ za), fun h => absurd h.1 (by show ¬ HT.sIx 3 0 (some 1) = 0; decide), fun _ t2 ht2 => ?_⟩
        refine ⟨t1, t2, _, _, rfl, rfl, SqT.of (sm_up ht2 _ _ upd_same), SqT.of upd_same, by rw [sizeLine_eq]; show 3 ≤ _; omega, fun z => (by cases z), fun _ z => (by cases z), fun _ _ t ht => ?_⟩
        have hM : PyData.strOk "Move" = true := by decide +kernel
        exact outT _ (sm_trans (sm_up ht1) (sm_up ht2)) t [.str "Move", a.v, b.v] [.str "Move", a.d, b.d] ht (.cons (.str _) (.cons (at_dp a) (.cons (at_dp b) .nil))) (by have z := hlay.1; clear outT outL q; simp_all [PyData.canLay0, PyData.canLayAll0]) (by simp only [PyData.depth, PyData.depthAll]; omega) (.inr ⟨_, _, rfl, .inl rfl⟩)
      walk_at "lw go"
      refine ⟨.ref pr, _, rfl, rr_mono s2 (r := .move a b) ⟨pr, rfl, ha⟩, rfl, fun l5 ys5 H5 s5 hl5 hA5 => ?_⟩
      refine ⟨l5, rfl, ⟨ys5, SqL.of hl5⟩, fun D hD => it_lst (xs := ys5) (fun k G' => Sm H5 G' ∧ ∃ acc, G' D = some (.lst acc) ∧ Al (SpR G') (((spans (.move a b)).take k).filter fun t => decide (t.1 = 1 + x)) acc) ⟨sm_up hD, [], upd_same, rfl⟩ (fun k G' ⟨s, _⟩ => SqL.of (s _ _ hl5)) ?_ ?_⟩
      · rintro k y G' hy' ⟨s6, acc, hacc, hA⟩
        obtain ⟨t, ht, a5, rfl, ha5⟩ := al_at' hA5 hy'
        walk_at "lw go"
        refine g_tupT (SqT.of (s6 _ _ ha5)) rfl ?_
        walk_at "lw go"
        refine ⟨rfl, ?_⟩
        walk_at "lw go"
        rw [filter_take _ ht]
        refine g_ite (fun z => ?_) (fun z => ?_)
        · have z1 : decide (t.1 = 1 + x) = true := decide_eq_true (V.int.inj z)
          rw [z1, if_pos rfl]
          walk_at "lw go"
          refine ⟨by rw [sizeLine_eq]; simp, fun t7 h7 => ?_⟩
          have h7D := sm_up (o := .tup [.int t.1, .int t.2.1, .int t.2.2.1]) h7 _ _ hacc
          have lacc : acc.length ≤ 3 := by
            rw [hA.len]
            refine Nat.le_trans (List.length_filter_le _ _) ?_
            rw [List.length_take]
            simp only [spans, List.length_cons, List.length_nil]
            omega
          refine ⟨acc, h7D, by rw [sizeLine_eq]; omega, fun b u hb => by rw [upd_ne (fun e => by rw [e, hD] at hb; cases hb)]; exact sm_up h7 _ _ (s6 _ _ hb), _, upd_same, ?_⟩
          have n7 : t7 ≠ D := fun e => by rw [e, hacc] at h7; cases h7
          refine (hA.mono fun _ _ h => SpR.monoD (fun b u n hb => by rw [upd_ne n]; exact sm_up h7 _ _ hb) hacc h).append ⟨_, [], rfl, ⟨t7, rfl, ?_⟩, rfl⟩
          rw [upd_ne n7]
          exact upd_same
        · have z1 : decide (t.1 = 1 + x) = false := decide_eq_false fun e => z (congrArg V.int e)
          rw [z1, if_neg (by simp), List.append_nil]
          exact ⟨s6, acc, hacc, hA⟩
      · rintro G' ⟨s6, acc, hacc, hA⟩
        rw [hA5.len, List.take_length] at hA
        walk_at "lw go"
        rcases (show x = 0 ∨ x = 1 by omega) with rfl | rfl
        · have hA' : Al (SpR G') [(1, -100, 100, a)] acc := hA
          clear hA
          obtain ⟨_, _, rfl, ⟨a7, rfl, h7⟩, rfl⟩ := hA'
          replace h7 : G' a7 = some (.tup [.int 1, .int (-100), .int 100]) := h7
          refine ⟨by show 0 ≤ sizeLine; decide, fun e0 he0 => ?_⟩
          obtain ⟨G7, e7⟩ : ∃ Gx, upd G' e0 (.lst []) = Gx := ⟨_, rfl⟩
          have s7 : Sm G' G7 := e7 ▸ sm_up he0
          have c7 : G7 e0 = some (.lst []) := e7 ▸ upd_same
          rw [e7]
          clear e7
          refine ⟨.list [.tuple [.int 1, .int (-100), .int 100]], .list [], .lst (SqL.of (s7 _ _ hacc)) (.cons (.tup (SqT.of (s7 _ _ h7)) (.cons (.int _) (.cons (.int _) (.cons (.int _) .nil)))) .nil), .lst (SqL.of c7) .nil, by decide +kernel, by decide +kernel, ?_⟩
          refine bl_is (c := false) (by decide +kernel) (iteF ?_)
          walk_at "lw go"
          refine g_ixL (SqL.of (s7 _ _ hacc)) (v := .ref a7) rfl ?_
          walk_at "lw go"
          refine ⟨a7, _, rfl, SqT.of (s7 _ _ h7), fun h => absurd h.1 (by show ¬ HT.sIx 3 0 (some 1) = 0; decide), fun _ t8 ht8 => ?_⟩
          rw [show cutV [V.int 1, V.int (-100), V.int 100] (some 1) none = [V.int (-100), V.int 100] from rfl]
          obtain ⟨G8, e8⟩ : ∃ Gx, upd G7 t8 (.tup [.int (-100), .int 100]) = Gx := ⟨_, rfl⟩
          have s8 : Sm G7 G8 := e8 ▸ sm_up ht8
          have c8 : G8 t8 = some (.tup [.int (-100), .int 100]) := e8 ▸ upd_same
          rw [e8]
          clear e8
          refine g_tupT (SqT.of c8) rfl ?_
          walk_at "lw go"
          refine ⟨by rw [sizeLine_eq]; simp, fun t9 ht9 => ?_⟩
          obtain ⟨G9, e9⟩ : ∃ Gx, upd G8 t9 (.lst [.int (-100 - 1), .int (100 + 1), .bl true, .non, .str "1"]) = Gx := ⟨_, rfl⟩
          have s9 : Sm G8 G9 := e9 ▸ sm_up ht9
          have c9 : G9 t9 = some (.lst [.int (-100 - 1), .int (100 + 1), .bl true, .non, .str "1"]) := e9 ▸ upd_same
          rw [e9]
          clear e9
          have s69 := sm_trans (sm_trans (sm_trans (sm_trans s5 s6) s7) s8) s9
          walk_at "lw go"
          refine ⟨pr, _, rfl, SqT.of (s69 _ _ za), fun h => absurd h.2 (by show ¬ HT.sIx 3 3 (some (1 + 0)) = 3; decide), fun _ u1 hu1 => ?_⟩
          rw [show cutV [V.str "move", a.v, b.v] none (some (1 + 0)) = [V.str "move"] from rfl]
          obtain ⟨G10, e10⟩ : ∃ Gx, upd G9 u1 (.tup [.str "move"]) = Gx := ⟨_, rfl⟩
          have s10 : Sm G9 G10 := e10 ▸ sm_up hu1
          have c10 : G10 u1 = some (.tup [.str "move"]) := e10 ▸ upd_same
          rw [e10]
          clear e10
          walk_at "lw go"
          have s6a := sm_trans s69 s10
          refine ⟨p, 5, _, o2, rfl, s6a _ _ hp2, hP2, by omega, by decide, by decide, fun y o3 y0 y1 hP3 => ?_⟩
          have n9 : t9 ≠ p := fun e => by rw [e, (sm_trans (sm_trans (sm_trans (sm_trans s5 s6) s7) s8 : Sm G G8) (fun _ _ h => h)) _ _ hp2] at ht9; cases ht9
          have nu : u1 ≠ p := fun e => by rw [e, s69 _ _ hp2] at hu1; cases hu1
          have npr : pr ≠ p := fun e => by rw [e, hN] at ha; cases ha
          obtain ⟨A, hAv⟩ : ∃ A : Br.At, atI [V.int (-100 - 1), .int (100 + 1), .bl true, .non, .str "1"] y = some A.v := by
            rcases (show y = 0 ∨ y = 1 ∨ y = 2 ∨ y = 3 ∨ y = 4 by omega) with rfl | rfl | rfl | rfl | rfl
            · exact ⟨.int (-100 - 1), rfl⟩
            · exact ⟨.int (100 + 1), rfl⟩
            · exact ⟨.tru, rfl⟩
            · exact ⟨.non, rfl⟩
            · exact ⟨.one, rfl⟩
          walk_at "lw go"
          refine g_ixL (SqL.of ((upd_ne (o := o3) n9).trans (s10 _ _ c9))) hAv ?_
          walk_at "lw go"
          have w10 : upd G10 p o3 u1 = some (.tup [.str "move"]) := (upd_ne nu).trans c10
          have w11 : upd G10 p o3 pr = some (.tup [.str "move", a.v, b.v]) := (upd_ne npr).trans (s6a _ _ za)
          refine ⟨by rw [sizeLine_eq]; simp, fun u2 hu2 => ?_⟩
          have s12 := sm_up (o := .tup [A.v]) hu2
          refine ⟨u1, u2, _, _, rfl, rfl, SqT.of (s12 _ _ w10), SqT.of upd_same, by rw [sizeLine_eq]; simp, fun z => (by cases z), fun _ z => (by cases z), fun _ _ t ht => ?_⟩
          walk_at "lw go"
          have s13 := sm_up (o := .tup [.str "move", A.v]) ht
          refine ⟨pr, _, rfl, SqT.of (s13 _ _ (s12 _ _ w11)), fun h => absurd h.1 (by show ¬ HT.sIx 3 0 (some (1 + 0 + 1)) = 0; decide), fun _ u4 hu4 => ?_⟩
          have s14 := sm_up (o := .tup [b.v]) hu4
          refine ⟨t, u4, [.str "move", A.v], [b.v], rfl, rfl, SqT.of (s14 _ _ upd_same), SqT.of upd_same, by rw [sizeLine_eq]; simp, fun z => (by cases z), fun _ z => (by cases z), fun _ _ t ht => ?_⟩
          exact bent_out (r := .move a b) (r' := .move A b) hS hN k2 s2 dm q s6a (hP3.mono (by omega)) (sm_trans (sm_trans s12 s13) s14) ht (fun _ _ h => h) (fun sN => ⟨t, rfl, upd_same⟩) hy (Nat.le_refl _) (Nat.le_refl _)
        · have hA' : Al (SpR G') [(2, -100, 100, b)] acc := hA
          clear hA
          obtain ⟨_, _, rfl, ⟨a7, rfl, h7⟩, rfl⟩ := hA'
          replace h7 : G' a7 = some (.tup [.int 2, .int (-100), .int 100]) := h7
          refine ⟨by show 0 ≤ sizeLine; decide, fun e0 he0 => ?_⟩
          obtain ⟨G7, e7⟩ : ∃ Gx, upd G' e0 (.lst []) = Gx := ⟨_, rfl⟩
          have s7 : Sm G' G7 := e7 ▸ sm_up he0
          have c7 : G7 e0 = some (.lst []) := e7 ▸ upd_same
          rw [e7]
          clear e7
          refine ⟨.list [.tuple [.int 2, .int (-100), .int 100]], .list [], .lst (SqL.of (s7 _ _ hacc)) (.cons (.tup (SqT.of (s7 _ _ h7)) (.cons (.int _) (.cons (.int _) (.cons (.int _) .nil)))) .nil), .lst (SqL.of c7) .nil, by decide +kernel, by decide +kernel, ?_⟩
          refine bl_is (c := false) (by decide +kernel) (iteF ?_)
          walk_at "lw go"
          refine g_ixL (SqL.of (s7 _ _ hacc)) (v := .ref a7) rfl ?_
          walk_at "lw go"
          refine ⟨a7, _, rfl, SqT.of (s7 _ _ h7), fun h => absurd h.1 (by show ¬ HT.sIx 3 0 (some 1) = 0; decide), fun _ t8 ht8 => ?_⟩
          rw [show cutV [V.int 2, V.int (-100), V.int 100] (some 1) none = [V.int (-100), V.int 100] from rfl]
          obtain ⟨G8, e8⟩ : ∃ Gx, upd G7 t8 (.tup [.int (-100), .int 100]) = Gx := ⟨_, rfl⟩
          have s8 : Sm G7 G8 := e8 ▸ sm_up ht8
          have c8 : G8 t8 = some (.tup [.int (-100), .int 100]) := e8 ▸ upd_same
          rw [e8]
          clear e8
          refine g_tupT (SqT.of c8) rfl ?_
          walk_at "lw go"
          refine ⟨by rw [sizeLine_eq]; simp, fun t9 ht9 => ?_⟩
          obtain ⟨G9, e9⟩ : ∃ Gx, upd G8 t9 (.lst [.int (-100 - 1), .int (100 + 1), .bl true, .non, .str "1"]) = Gx := ⟨_, rfl⟩
          have s9 : Sm G8 G9 := e9 ▸ sm_up ht9
          have c9 : G9 t9 = some (.lst [.int (-100 - 1), .int (100 + 1), .bl true, .non, .str "1"]) := e9 ▸ upd_same
          rw [e9]
          clear e9
          have s69 := sm_trans (sm_trans (sm_trans (sm_trans s5 s6) s7) s8) s9
          walk_at "lw go"
          refine ⟨pr, _, rfl, SqT.of (s69 _ _ za), fun h => absurd h.2 (by show ¬ HT.sIx 3 3 (some (1 + 1)) = 3; decide), fun _ u1 hu1 => ?_⟩
          rw [show cutV [V.str "move", a.v, b.v] none (some (1 + 1)) = [V.str "move", a.v] from rfl]
          obtain ⟨G10, e10⟩ : ∃ Gx, upd G9 u1 (.tup [.str "move", a.v]) = Gx := ⟨_, rfl⟩
          have s10 : Sm G9 G10 := e10 ▸ sm_up hu1
          have c10 : G10 u1 = some (.tup [.str "move", a.v]) := e10 ▸ upd_same
          rw [e10]
          clear e10
          walk_at "lw go"
          have s6a := sm_trans s69 s10
          refine ⟨p, 5, _, o2, rfl, s6a _ _ hp2, hP2, by omega, by decide, by decide, fun y o3 y0 y1 hP3 => ?_⟩
          have n9 : t9 ≠ p := fun e => by rw [e, (sm_trans (sm_trans (sm_trans (sm_trans s5 s6) s7) s8 : Sm G G8) (fun _ _ h => h)) _ _ hp2] at ht9; cases ht9
          have nu : u1 ≠ p := fun e => by rw [e, s69 _ _ hp2] at hu1; cases hu1
          have npr : pr ≠ p := fun e => by rw [e, hN] at ha; cases ha
          obtain ⟨A, hAv⟩ : ∃ A : Br.At, atI [V.int (-100 - 1), .int (100 + 1), .bl true, .non, .str "1"] y = some A.v := by
            rcases (show y = 0 ∨ y = 1 ∨ y = 2 ∨ y = 3 ∨ y = 4 by omega) with rfl | rfl | rfl | rfl | rfl
            · exact ⟨.int (-100 - 1), rfl⟩
            · exact ⟨.int (100 + 1), rfl⟩
            · exact ⟨.tru, rfl⟩
            · exact ⟨.non, rfl⟩
            · exact ⟨.one, rfl⟩
          walk_at "lw go"
          refine g_ixL (SqL.of ((upd_ne (o := o3) n9).trans (s10 _ _ c9))) hAv ?_
          walk_at "lw go"
          have w10 : upd G10 p o3 u1 = some (.tup [.str "move", a.v]) := (upd_ne nu).trans c10
          have w11 : upd G10 p o3 pr = some (.tup [.str "move", a.v, b.v]) := (upd_ne npr).trans (s6a _ _ za)
          refine ⟨by rw [sizeLine_eq]; simp, fun u2 hu2 => ?_⟩
          have s12 := sm_up (o := .tup [A.v]) hu2
          refine ⟨u1, u2, _, _, rfl, rfl, SqT.of (s12 _ _ w10), SqT.of upd_same, by rw [sizeLine_eq]; simp, fun z => (by cases z), fun _ z => (by cases z), fun _ _ t ht => ?_⟩
          walk_at "lw go"
          have s13 := sm_up (o := .tup [.str "move", a.v, A.v]) ht
          refine ⟨pr, _, rfl, SqT.of (s13 _ _ (s12 _ _ w11)), fun h => absurd h.1 (by show ¬ HT.sIx 3 0 (some (1 + 1 + 1)) = 0; decide), fun _ u4 hu4 => ?_⟩
          have s14 := sm_up (o := .tup []) hu4
          refine ⟨t, u4, [.str "move", a.v, A.v], [], rfl, rfl, SqT.of (s14 _ _ upd_same), SqT.of upd_same, by rw [sizeLine_eq]; simp, fun z => (by cases z), fun _ _ => ?_, fun _ z => absurd rfl z⟩
          exact bent_out (r := .move a b) (r' := .move a A) hS hN k2 s2 dm q s6a (hP3.mono (by omega)) s12 ht s14 (fun sN => ⟨t, rfl, upd_same⟩) hy (Nat.le_refl _) (Nat.le_refl _)
    | mark x1 x2 x3 x4 =>
      obtain ⟨pr, rfl, ha⟩ := hR
      have hDp : DpAll K N [V.str "mark", .str x1, x2.v, x3.v, x4.v] [PyData.str "mark", .str x1, x2.d, x3.d, x4.d] := (.cons (.str _) (.cons (.str _) (.cons (at_dp x2) (.cons (at_dp x3) (.cons (at_dp x4) .nil)))))
      simp only [rD, PyData.canLay0, PyData.canLayAll0, PyData.depth, PyData.depthAll] at hlay hdep
      have za := s1 _ _ ha
      refine ⟨pr, _, rfl, .inr (SqT.of za), ?_⟩
      walk_at "lw go"
      refine ⟨p, 4, _, o1, rfl, upd_same, hP1, by omega, by decide, by decide, fun x o2 x0 y1 hP2 => ?_⟩
      rw [upd_upd]
      have s2 : Sm N (upd H p o2) := fun b u hb => by
        rw [upd_ne (fun e => by rw [e, hN] at hb; cases hb)]
        exact hS _ _ hb
      have g2 : Grow N H N (upd H p o2) := (Grow.refl hS).aside hN
      have k2 : Keep p H (upd H p o2) := Keep.refl.put
      have hp2 : upd H p o2 p = some o2 := upd_same
      have dm : ∀ b, H b ≠ none → upd H p o2 b ≠ none := dom_new
      generalize upd H p o2 = G at *
      clear za s1
      have za := s2 _ _ ha
      walk_at "lw go"
      have outT : ∀ (G2 : Hp), Sm G G2 → ∀ (t : Addr) (xs' : List V) (ds' : List PyData), G2 t = none → DpAll K N xs' ds' → PyData.canLayAll0 ds' = true → PyData.depthAll ds' ≤ 29 → junkT ds' → Q (.ref t) (upd G2 t (.tup xs')) := fun G2 s t xs' ds' ht hD hl hdp hj =>
        q (.ref t) (.junk (.tuple ds')) o2 _ (upd N t (.tup xs')) (Keep.new (fun c u n h => s _ _ (k2 c u n h)) ht) (sm_up ht _ _ (s _ _ hp2)) (hP2.mono (by omega)) ((Grow.sm g2 s).trans (Grow.new (Grow.sm g2 s).dn ht) (fun c h => sm_dom s c (dm c h))) ⟨t, xs', ds', rfl, dpA_mono (sm_up (n_none (sm_trans s2 s) ht)) hD, .inr ⟨rfl, upd_same, hj⟩⟩ ⟨hl, by simp only [PyData.depth]; omega⟩ (Nat.zero_le _) (zR_pos _)
      have outL : ∀ (t : Addr) (xs' : List V) (ds' : List PyData), G t = none → DpAll K N xs' ds' → PyData.canLayAll0 ds' = true → PyData.depthAll ds' ≤ 29 → Q (.ref t) (upd G t (.lst xs')) := fun t xs' ds' ht hD hl hdp =>
        q (.ref t) (.junk (.list ds')) o2 _ (upd N t (.lst xs')) (k2.new ht) (sm_up ht _ _ hp2) (hP2.mono (by omega)) (g2.trans (Grow.new g2.dn ht) dm) ⟨t, xs', ds', rfl, dpA_mono (sm_up (n_none s2 ht)) hD, .inl ⟨rfl, upd_same⟩⟩ ⟨hl, by simp only [PyData.depth]; omega⟩ (Nat.zero_le _) (zR_pos _)
      have hdd := hd
      refine g_ite (fun hw0 => ?_) (fun hw0 => ?_)
      · walk_at "lw go"
        exact ⟨pr, _, rfl, .inr (SqT.of za), fun t ht => outL t _ _ ht hDp (by have z := hlay.1; clear outT outL q; simp_all [PyData.canLay0, PyData.canLayAll0]) (by simp only [PyData.depth, PyData.depthAll]; omega)⟩
      walk_at "lw go"
      refine g_ite (fun hw1 => ?_) (fun hw1 => ?_)
      · walk_at "lw go"
        exact ⟨by show 0 ≤ sizeLine; decide, fun t ht => outT G (fun _ _ h => h) t [] [] ht .nil rfl (by simp [PyData.depthAll]) (.inl rfl)⟩
      walk_at "lw go"
      refine g_ite (fun hw2 => ?_) (fun hw2 => ?_)
      · walk_at "lw go"
        refine ⟨pr, _, rfl, SqT.of za, fun h => absurd h.2 (by show ¬ HT.sIx 5 5 (some (-1)) = 5; decide), fun _ t ht => ?_⟩
        exact outT G (fun _ _ h => h) t [.str "mark", .str x1, x2.v, x3.v] [.str "mark", .str x1, x2.d, x3.d] ht (.cons (.str _) (.cons (.str _) (.cons (at_dp x2) (.cons (at_dp x3) .nil)))) (by have z := hlay.1; clear outT outL q; simp_all [PyData.canLay0, PyData.canLayAll0]) (by simp only [PyData.depth, PyData.depthAll]; omega) (.inr ⟨_, _, rfl, .inr ⟨by decide +kernel, by show ¬ (4 = arity _); decide +kernel⟩⟩)
      walk_at "lw go"
      refine g_ite (fun hw3 => ?_) (fun hw3 => ?_)
      · walk_at "lw go"
        refine ⟨by rw [sizeLine_eq]; simp, fun t1 ht1 => ?_⟩
        refine ⟨pr, t1, _, _, rfl, rfl, SqT.of (sm_up ht1 _ _ za), SqT.of upd_same, by rw [sizeLine_eq]; simp, fun z => (by cases z), fun _ z => (by cases z), fun _ _ t ht => ?_⟩
        exact outT _ (sm_up ht1) t [.str "mark", .str x1, x2.v, x3.v, x4.v, .int 1] [.str "mark", .str x1, x2.d, x3.d, x4.d, .int 1] ht (.cons (.str _) (.cons (.str _) (.cons (at_dp x2) (.cons (at_dp x3) (.cons (at_dp x4) (.cons (.int _) .nil)))))) (by have z := hlay.1; clear outT outL q; simp_all [PyData.canLay0, PyData.canLayAll0]) (by simp only [PyData.depth, PyData.depthAll]; omega) (.inr ⟨_, _, rfl, .inr ⟨by decide +kernel, by show ¬ (6 = arity _); decide +kernel⟩⟩)
      walk_at "lw go"
      refine g_ite (fun hw4 => ?_) (fun hw4 => ?_)
      · walk_at "lw go"
        refine ⟨by rw [sizeLine_eq]; simp, fun t1 ht1 => ?_⟩
        walk_at "lw go"
        refine ⟨pr, _, rfl, SqT.of (sm_up ht1 _ _ za), fun h => absurd h.1 (by show ¬ HT.sIx 5 0 (some 1) = 0; decide), fun _ t2 ht2 => ?_⟩
        refine ⟨t1, t2, _, _, rfl, rfl, SqT.of (sm_up ht2 _ _ upd_same), SqT.of upd_same, by rw [sizeLine_eq]; show 5 ≤ _; omega, fun z => (by cases z), fun _ z => (by cases z), fun _ _ t ht => ?_⟩
        have hM : PyData.strOk "Move" = true := by decide +kernel
        exact outT _ (sm_trans (sm_up ht1) (sm_up ht2)) t [.str "Move", .str x1, x2.v, x3.v, x4.v] [.str "Move", .str x1, x2.d, x3.d, x4.d] ht (.cons (.str _) (.cons (.str _) (.cons (at_dp x2) (.cons (at_dp x3) (.cons (at_dp x4) .nil))))) (by have z := hlay.1; clear outT outL q; simp_all [PyData.canLay0, PyData.canLayAll0]) (by simp only [PyData.depth, PyData.depthAll]; omega) (.inr ⟨_, _, rfl, .inl rfl⟩)
      walk_at "lw go"
      refine ⟨.ref pr, _, rfl, rr_mono s2 (r := .mark x1 x2 x3 x4) ⟨pr, rfl, ha⟩, rfl, fun l5 ys5 H5 s5 hl5 hA5 => ?_⟩
      refine ⟨l5, rfl, ⟨ys5, SqL.of hl5⟩, fun D hD => it_lst (xs := ys5) (fun k G' => Sm H5 G' ∧ ∃ acc, G' D = some (.lst acc) ∧ Al (SpR G') (((spans (.mark x1 x2 x3 x4)).take k).filter fun t => decide (t.1 = 1 + x)) acc) ⟨sm_up hD, [], upd_same, rfl⟩ (fun k G' ⟨s, _⟩ => SqL.of (s _ _ hl5)) ?_ ?_⟩
      · rintro k y G' hy' ⟨s6, acc, hacc, hA⟩
        obtain ⟨t, ht, a5, rfl, ha5⟩ := al_at' hA5 hy'
        walk_at "lw go"
        refine g_tupT (SqT.of (s6 _ _ ha5)) rfl ?_
        walk_at "lw go"
        refine ⟨rfl, ?_⟩
        walk_at "lw go"
        rw [filter_take _ ht]
        refine g_ite (fun z => ?_) (fun z => ?_)
        · have z1 : decide (t.1 = 1 + x) = true := decide_eq_true (V.int.inj z)
          rw [z1, if_pos rfl]
          walk_at "lw go"
          refine ⟨by rw [sizeLine_eq]; simp, fun t7 h7 => ?_⟩
          have h7D := sm_up (o := .tup [.int t.1, .int t.2.1, .int t.2.2.1]) h7 _ _ hacc
          have lacc : acc.length ≤ 3 := by
            rw [hA.len]
            refine Nat.le_trans (List.length_filter_le _ _) ?_
            rw [List.length_take]
            simp only [spans, List.length_cons, List.length_nil]
            omega
          refine ⟨acc, h7D, by rw [sizeLine_eq]; omega, fun b u hb => by rw [upd_ne (fun e => by rw [e, hD] at hb; cases hb)]; exact sm_up h7 _ _ (s6 _ _ hb), _, upd_same, ?_⟩
          have n7 : t7 ≠ D := fun e => by rw [e, hacc] at h7; cases h7
          refine (hA.mono fun _ _ h => SpR.monoD (fun b u n hb => by rw [upd_ne n]; exact sm_up h7 _ _ hb) hacc h).append ⟨_, [], rfl, ⟨t7, rfl, ?_⟩, rfl⟩
          rw [upd_ne n7]
          exact upd_same
        · have z1 : decide (t.1 = 1 + x) = false := decide_eq_false fun e => z (congrArg V.int e)
          rw [z1, if_neg (by simp), List.append_nil]
          exact ⟨s6, acc, hacc, hA⟩
      · rintro G' ⟨s6, acc, hacc, hA⟩
        rw [hA5.len, List.take_length] at hA
        walk_at "lw go"
        rcases (show x = 0 ∨ x = 1 ∨ x = 2 ∨ x = 3 by omega) with rfl | rfl | rfl | rfl
        · obtain rfl : acc = [] := hA
          refine ⟨by show 0 ≤ sizeLine; decide, fun e0 he0 => ?_⟩
          obtain ⟨G7, e7⟩ : ∃ Gx, upd G' e0 (.lst []) = Gx := ⟨_, rfl⟩
          have s7 : Sm G' G7 := e7 ▸ sm_up he0
          have c7 : G7 e0 = some (.lst []) := e7 ▸ upd_same
          rw [e7]
          clear e7
          refine ⟨.list [], .list [], .lst (SqL.of (s7 _ _ hacc)) .nil, .lst (SqL.of c7) .nil, by decide +kernel, by decide +kernel, ?_⟩
          refine bl_is (c := true) (by decide +kernel) (iteT ?_)
          walk_at "lw go"
          refine ⟨by rw [sizeLine_eq]; simp, fun t8 ht8 => ?_⟩
          obtain ⟨G8, e8⟩ : ∃ Gx, upd G7 t8 (.lst [.str "copy", .str "", .str "field", .str "Set"]) = Gx := ⟨_, rfl⟩
          have s8 : Sm G7 G8 := e8 ▸ sm_up ht8
          have c8 : G8 t8 = some (.lst [.str "copy", .str "", .str "field", .str "Set"]) := e8 ▸ upd_same
          rw [e8]
          clear e8
          have s68 := sm_trans (sm_trans (sm_trans s5 s6) s7) s8
          walk_at "lw go"
          refine ⟨p, 4, _, o2, rfl, s68 _ _ hp2, hP2, by omega, by decide, by decide, fun y o3 y0 y1 hP3 => ?_⟩
          have n8 : t8 ≠ p := fun e => by rw [e, (sm_trans (sm_trans s5 s6) s7) _ _ hp2] at ht8; cases ht8
          obtain ⟨word, hword, hwm⟩ : ∃ z : Str, atI [V.str "copy", .str "", .str "field", .str "Set"] y = some (.str z) ∧ PyData.strOk z = true := by
            rcases (show y = 0 ∨ y = 1 ∨ y = 2 ∨ y = 3 by omega) with rfl | rfl | rfl | rfl
            · exact ⟨"copy", rfl, by decide +kernel⟩
            · exact ⟨"", rfl, by decide +kernel⟩
            · exact ⟨"field", rfl, by decide +kernel⟩
            · exact ⟨"Set", rfl, by decide +kernel⟩
          walk_at "lw go"
          refine g_ixL (SqL.of ((upd_ne (o := o3) n8).trans c8)) hword ?_
          walk_at "lw go"
          refine ⟨by rw [sizeLine_eq]; simp, fun t ht => ?_⟩
          exact bent_out (r := .mark x1 x2 x3 x4) (r' := .mark word (.int 1) (.int 1) (.int 1)) hS hN k2 s2 dm q s68 (hP3.mono (by omega)) (fun _ _ h => h) ht (fun _ _ h => h) (fun _ => ⟨t, rfl, upd_same⟩) hwm (Nat.zero_le _) (zR_pos _)
        · have hA' : Al (SpR G') [(2, 1, 50, x2)] acc := hA
          clear hA
          obtain ⟨_, _, rfl, ⟨a7, rfl, h7⟩, rfl⟩ := hA'
          replace h7 : G' a7 = some (.tup [.int 2, .int (1), .int 50]) := h7
          refine ⟨by show 0 ≤ sizeLine; decide, fun e0 he0 => ?_⟩
          obtain ⟨G7, e7⟩ : ∃ Gx, upd G' e0 (.lst []) = Gx := ⟨_, rfl⟩
          have s7 : Sm G' G7 := e7 ▸ sm_up he0
          have c7 : G7 e0 = some (.lst []) := e7 ▸ upd_same
          rw [e7]
          clear e7
          refine ⟨.list [.tuple [.int 2, .int (1), .int 50]], .list [], .lst (SqL.of (s7 _ _ hacc)) (.cons (.tup (SqT.of (s7 _ _ h7)) (.cons (.int _) (.cons (.int _) (.cons (.int _) .nil)))) .nil), .lst (SqL.of c7) .nil, by decide +kernel, by decide +kernel, ?_⟩
          refine bl_is (c := false) (by decide +kernel) (iteF ?_)
          walk_at "lw go"
          refine g_ixL (SqL.of (s7 _ _ hacc)) (v := .ref a7) rfl ?_
          walk_at "lw go"
          refine ⟨a7, _, rfl, SqT.of (s7 _ _ h7), fun h => absurd h.1 (by show ¬ HT.sIx 3 0 (some 1) = 0; decide), fun _ t8 ht8 => ?_⟩
          rw [show cutV [V.int 2, V.int (1), V.int 50] (some 1) none = [V.int (1), V.int 50] from rfl]
          obtain ⟨G8, e8⟩ : ∃ Gx, upd G7 t8 (.tup [.int (1), .int 50]) = Gx := ⟨_, rfl⟩
          have s8 : Sm G7 G8 := e8 ▸ sm_up ht8
          have c8 : G8 t8 = some (.tup [.int (1), .int 50]) := e8 ▸ upd_same
          rw [e8]
          clear e8
          refine g_tupT (SqT.of c8) rfl ?_
          walk_at "lw go"
          refine ⟨by rw [sizeLine_eq]; simp, fun t9 ht9 => ?_⟩
          obtain ⟨G9, e9⟩ : ∃ Gx, upd G8 t9 (.lst [.int (1 - 1), .int (50 + 1), .bl true, .non, .str "1"]) = Gx := ⟨_, rfl⟩
          have s9 : Sm G8 G9 := e9 ▸ sm_up ht9
          have c9 : G9 t9 = some (.lst [.int (1 - 1), .int (50 + 1), .bl true, .non, .str "1"]) := e9 ▸ upd_same
          rw [e9]
          clear e9
          have s69 := sm_trans (sm_trans (sm_trans (sm_trans s5 s6) s7) s8) s9
          walk_at "lw go"
          refine ⟨pr, _, rfl, SqT.of (s69 _ _ za), fun h => absurd h.2 (by show ¬ HT.sIx 5 5 (some (1 + 1)) = 5; decide), fun _ u1 hu1 => ?_⟩
          rw [show cutV [V.str "mark", V.str x1, x2.v, x3.v, x4.v] none (some (1 + 1)) = [V.str "mark", V.str x1] from rfl]
          obtain ⟨G10, e10⟩ : ∃ Gx, upd G9 u1 (.tup [.str "mark", .str x1]) = Gx := ⟨_, rfl⟩
          have s10 : Sm G9 G10 := e10 ▸ sm_up hu1
          have c10 : G10 u1 = some (.tup [.str "mark", .str x1]) := e10 ▸ upd_same
          rw [e10]
          clear e10
          walk_at "lw go"
          have s6a := sm_trans s69 s10
          refine ⟨p, 5, _, o2, rfl, s6a _ _ hp2, hP2, by omega, by decide, by decide, fun y o3 y0 y1 hP3 => ?_⟩
          have n9 : t9 ≠ p := fun e => by rw [e, (sm_trans (sm_trans (sm_trans (sm_trans s5 s6) s7) s8 : Sm G G8) (fun _ _ h => h)) _ _ hp2] at ht9; cases ht9
          have nu : u1 ≠ p := fun e => by rw [e, s69 _ _ hp2] at hu1; cases hu1
          have npr : pr ≠ p := fun e => by rw [e, hN] at ha; cases ha
          obtain ⟨A, hAv⟩ : ∃ A : Br.At, atI [V.int (1 - 1), .int (50 + 1), .bl true, .non, .str "1"] y = some A.v := by
            rcases (show y = 0 ∨ y = 1 ∨ y = 2 ∨ y = 3 ∨ y = 4 by omega) with rfl | rfl | rfl | rfl | rfl
            · exact ⟨.int (1 - 1), rfl⟩
            · exact ⟨.int (50 + 1), rfl⟩
            · exact ⟨.tru, rfl⟩
            · exact ⟨.non, rfl⟩
            · exact ⟨.one, rfl⟩
          walk_at "lw go"
          refine g_ixL (SqL.of ((upd_ne (o := o3) n9).trans (s10 _ _ c9))) hAv ?_
          walk_at "lw go"
          have w10 : upd G10 p o3 u1 = some (.tup [.str "mark", .str x1]) := (upd_ne nu).trans c10
          have w11 : upd G10 p o3 pr = some (.tup [.str "mark", .str x1, x2.v, x3.v, x4.v]) := (upd_ne npr).trans (s6a _ _ za)
          refine ⟨by rw [sizeLine_eq]; simp, fun u2 hu2 => ?_⟩
          have s12 := sm_up (o := .tup [A.v]) hu2
          refine ⟨u1, u2, _, _, rfl, rfl, SqT.of (s12 _ _ w10), SqT.of upd_same, by rw [sizeLine_eq]; simp, fun z => (by cases z), fun _ z => (by cases z), fun _ _ t ht => ?_⟩
          walk_at "lw go"
          have s13 := sm_up (o := .tup [.str "mark", .str x1, A.v]) ht
          refine ⟨pr, _, rfl, SqT.of (s13 _ _ (s12 _ _ w11)), fun h => absurd h.1 (by show ¬ HT.sIx 5 0 (some (1 + 1 + 1)) = 0; decide), fun _ u4 hu4 => ?_⟩
          have s14 := sm_up (o := .tup [x3.v, x4.v]) hu4
          refine ⟨t, u4, [.str "mark", .str x1, A.v], [x3.v, x4.v], rfl, rfl, SqT.of (s14 _ _ upd_same), SqT.of upd_same, by rw [sizeLine_eq]; simp, fun z => (by cases z), fun _ z => (by cases z), fun _ _ t ht => ?_⟩
          exact bent_out (r := .mark x1 x2 x3 x4) (r' := .mark x1 A x3 x4) hS hN k2 s2 dm q s6a (hP3.mono (by omega)) (sm_trans (sm_trans s12 s13) s14) ht (fun _ _ h => h) (fun sN => ⟨t, rfl, upd_same⟩) hy (Nat.le_refl _) (Nat.le_refl _)
        · have hA' : Al (SpR G') [(3, 1, 50, x3)] acc := hA
          clear hA
          obtain ⟨_, _, rfl, ⟨a7, rfl, h7⟩, rfl⟩ := hA'
          replace h7 : G' a7 = some (.tup [.int 3, .int (1), .int 50]) := h7
          refine ⟨by show 0 ≤ sizeLine; decide, fun e0 he0 => ?_⟩
          obtain ⟨G7, e7⟩ : ∃ Gx, upd G' e0 (.lst []) = Gx := ⟨_, rfl⟩
          have s7 : Sm G' G7 := e7 ▸ sm_up he0
          have c7 : G7 e0 = some (.lst []) := e7 ▸ upd_same
          rw [e7]
          clear e7
          refine ⟨.list [.tuple [.int 3, .int (1), .int 50]], .list [], .lst (SqL.of (s7 _ _ hacc)) (.cons (.tup (SqT.of (s7 _ _ h7)) (.cons (.int _) (.cons (.int _) (.cons (.int _) .nil)))) .nil), .lst (SqL.of c7) .nil, by decide +kernel, by decide +kernel, ?_⟩
          refine bl_is (c := false) (by decide +kernel) (iteF ?_)
          walk_at "lw go"
          refine g_ixL (SqL.of (s7 _ _ hacc)) (v := .ref a7) rfl ?_
          walk_at "lw go"
          refine ⟨a7, _, rfl, SqT.of (s7 _ _ h7), fun h => absurd h.1 (by show ¬ HT.sIx 3 0 (some 1) = 0; decide), fun _ t8 ht8 => ?_⟩
          rw [show cutV [V.int 3, V.int (1), V.int 50] (some 1) none = [V.int (1), V.int 50] from rfl]
          obtain ⟨G8, e8⟩ : ∃ Gx, upd G7 t8 (.tup [.int (1), .int 50]) = Gx := ⟨_, rfl⟩
          have s8 : Sm G7 G8 := e8 ▸ sm_up ht8
          have c8 : G8 t8 = some (.tup [.int (1), .int 50]) := e8 ▸ upd_same
          rw [e8]
          clear e8
          refine g_tupT (SqT.of c8) rfl ?_
          walk_at "lw go"
          refine ⟨by rw [sizeLine_eq]; simp, fun t9 ht9 => ?_⟩
          obtain ⟨G9, e9⟩ : ∃ Gx, upd G8 t9 (.lst [.int (1 - 1), .int (50 + 1), .bl true, .non, .str "1"]) = Gx := ⟨_, rfl⟩
          have s9 : Sm G8 G9 := e9 ▸ sm_up ht9
          have c9 : G9 t9 = some (.lst [.int (1 - 1), .int (50 + 1), .bl true, .non, .str "1"]) := e9 ▸ upd_same
          rw [e9]
          clear e9
          have s69 := sm_trans (sm_trans (sm_trans (sm_trans s5 s6) s7) s8) s9
          walk_at "lw go"
          refine ⟨pr, _, rfl, SqT.of (s69 _ _ za), fun h => absurd h.2 (by show ¬ HT.sIx 5 5 (some (1 + 2)) = 5; decide), fun _ u1 hu1 => ?_⟩
          rw [show cutV [V.str "mark", V.str x1, x2.v, x3.v, x4.v] none (some (1 + 2)) = [V.str "mark", V.str x1, x2.v] from rfl]
          obtain ⟨G10, e10⟩ : ∃ Gx, upd G9 u1 (.tup [.str "mark", .str x1, x2.v]) = Gx := ⟨_, rfl⟩
          have s10 : Sm G9 G10 := e10 ▸ sm_up hu1
          have c10 : G10 u1 = some (.tup [.str "mark", .str x1, x2.v]) := e10 ▸ upd_same
          rw [e10]
          clear e10
          walk_at "lw go"
          have s6a := sm_trans s69 s10
          refine ⟨p, 5, _, o2, rfl, s6a _ _ hp2, hP2, by omega, by decide, by decide, fun y o3 y0 y1 hP3 => ?_⟩
          have n9 : t9 ≠ p := fun e => by rw [e, (sm_trans (sm_trans (sm_trans (sm_trans s5 s6) s7) s8 : Sm G G8) (fun _ _ h => h)) _ _ hp2] at ht9; cases ht9
          have nu : u1 ≠ p := fun e => by rw [e, s69 _ _ hp2] at hu1; cases hu1
          have npr : pr ≠ p := fun e => by rw [e, hN] at ha; cases ha
          obtain ⟨A, hAv⟩ : ∃ A : Br.At, atI [V.int (1 - 1), .int (50 + 1), .bl true, .non, .str "1"] y = some A.v := by
            rcases (show y = 0 ∨ y = 1 ∨ y = 2 ∨ y = 3 ∨ y = 4 by omega) with rfl | rfl | rfl | rfl | rfl
            · exact ⟨.int (1 - 1), rfl⟩
            · exact ⟨.int (50 + 1), rfl⟩
            · exact ⟨.tru, rfl⟩
            · exact ⟨.non, rfl⟩
            · exact ⟨.one, rfl⟩
          walk_at "lw go"
          refine g_ixL (SqL.of ((upd_ne (o := o3) n9).trans (s10 _ _ c9))) hAv ?_
          walk_at "lw go"
          have w10 : upd G10 p o3 u1 = some (.tup [.str "mark", .str x1, x2.v]) := (upd_ne nu).trans c10
          have w11 : upd G10 p o3 pr = some (.tup [.str "mark", .str x1, x2.v, x3.v, x4.v]) := (upd_ne npr).trans (s6a _ _ za)
          refine ⟨by rw [sizeLine_eq]; simp, fun u2 hu2 => ?_⟩
          have s12 := sm_up (o := .tup [A.v]) hu2
          refine ⟨u1, u2, _, _, rfl, rfl, SqT.of (s12 _ _ w10), SqT.of upd_same, by rw [sizeLine_eq]; simp, fun z => (by cases z), fun _ z => (by cases z), fun _ _ t ht => ?_⟩
          walk_at "lw go"
          have s13 := sm_up (o := .tup [.str "mark", .str x1, x2.v, A.v]) ht
          refine ⟨pr, _, rfl, SqT.of (s13 _ _ (s12 _ _ w11)), fun h => absurd h.1 (by show ¬ HT.sIx 5 0 (some (1 + 2 + 1)) = 0; decide), fun _ u4 hu4 => ?_⟩
          have s14 := sm_up (o := .tup [x4.v]) hu4
          refine ⟨t, u4, [.str "mark", .str x1, x2.v, A.v], [x4.v], rfl, rfl, SqT.of (s14 _ _ upd_same), SqT.of upd_same, by rw [sizeLine_eq]; simp, fun z => (by cases z), fun _ z => (by cases z), fun _ _ t ht => ?_⟩
          exact bent_out (r := .mark x1 x2 x3 x4) (r' := .mark x1 x2 A x4) hS hN k2 s2 dm q s6a (hP3.mono (by omega)) (sm_trans (sm_trans s12 s13) s14) ht (fun _ _ h => h) (fun sN => ⟨t, rfl, upd_same⟩) hy (Nat.le_refl _) (Nat.le_refl _)
        · have hA' : Al (SpR G') [(4, -999999999, 999999999, x4)] acc := hA
          clear hA
          obtain ⟨_, _, rfl, ⟨a7, rfl, h7⟩, rfl⟩ := hA'
          replace h7 : G' a7 = some (.tup [.int 4, .int (-999999999), .int 999999999]) := h7
          refine ⟨by show 0 ≤ sizeLine; decide, fun e0 he0 => ?_⟩
          obtain ⟨G7, e7⟩ : ∃ Gx, upd G' e0 (.lst []) = Gx := ⟨_, rfl⟩
          have s7 : Sm G' G7 := e7 ▸ sm_up he0
          have c7 : G7 e0 = some (.lst []) := e7 ▸ upd_same
          rw [e7]
          clear e7
          refine ⟨.list [.tuple [.int 4, .int (-999999999), .int 999999999]], .list [], .lst (SqL.of (s7 _ _ hacc)) (.cons (.tup (SqT.of (s7 _ _ h7)) (.cons (.int _) (.cons (.int _) (.cons (.int _) .nil)))) .nil), .lst (SqL.of c7) .nil, by decide +kernel, by decide +kernel, ?_⟩
          refine bl_is (c := false) (by decide +kernel) (iteF ?_)
          walk_at "lw go"
          refine g_ixL (SqL.of (s7 _ _ hacc)) (v := .ref a7) rfl ?_
          walk_at "lw go"
          refine ⟨a7, _, rfl, SqT.of (s7 _ _ h7), fun h => absurd h.1 (by show ¬ HT.sIx 3 0 (some 1) = 0; decide), fun _ t8 ht8 => ?_⟩
          rw [show cutV [V.int 4, V.int (-999999999), V.int 999999999] (some 1) none = [V.int (-999999999), V.int 999999999] from rfl]
          obtain ⟨G8, e8⟩ : ∃ Gx, upd G7 t8 (.tup [.int (-999999999), .int 999999999]) = Gx := ⟨_, rfl⟩
          have s8 : Sm G7 G8 := e8 ▸ sm_up ht8
          have c8 : G8 t8 = some (.tup [.int (-999999999), .int 999999999]) := e8 ▸ upd_same
          rw [e8]
          clear e8
          refine g_tupT (SqT.of c8) rfl ?_
          walk_at "lw go"
          refine ⟨by rw [sizeLine_eq]; simp, fun t9 ht9 => ?_⟩
          obtain ⟨G9, e9⟩ : ∃ Gx, upd G8 t9 (.lst [.int (-999999999 - 1), .int (999999999 + 1), .bl true, .non, .str "1"]) = Gx := ⟨_, rfl⟩
          have s9 : Sm G8 G9 := e9 ▸ sm_up ht9
          have c9 : G9 t9 = some (.lst [.int (-999999999 - 1), .int (999999999 + 1), .bl true, .non, .str "1"]) := e9 ▸ upd_same
          rw [e9]
          clear e9
          have s69 := sm_trans (sm_trans (sm_trans (sm_trans s5 s6) s7) s8) s9
          walk_at "lw go"
          refine ⟨pr, _, rfl, SqT.of (s69 _ _ za), fun h => absurd h.2 (by show ¬ HT.sIx 5 5 (some (1 + 3)) = 5; decide), fun _ u1 hu1 => ?_⟩
          rw [show cutV [V.str "mark", V.str x1, x2.v, x3.v, x4.v] none (some (1 + 3)) = [V.str "mark", V.str x1, x2.v, x3.v] from rfl]
          obtain ⟨G10, e10⟩ : ∃ Gx, upd G9 u1 (.tup [.str "mark", .str x1, x2.v, x3.v]) = Gx := ⟨_, rfl⟩
          have s10 : Sm G9 G10 := e10 ▸ sm_up hu1
          have c10 : G10 u1 = some (.tup [.str "mark", .str x1, x2.v, x3.v]) := e10 ▸ upd_same
          rw [e10]
          clear e10
          walk_at "lw go"
          have s6a := sm_trans s69 s10
          refine ⟨p, 5, _, o2, rfl, s6a _ _ hp2, hP2, by omega, by decide, by decide, fun y o3 y0 y1 hP3 => ?_⟩
          have n9 : t9 ≠ p := fun e => by rw [e, (sm_trans (sm_trans (sm_trans (sm_trans s5 s6) s7) s8 : Sm G G8) (fun _ _ h => h)) _ _ hp2] at ht9; cases ht9
          have nu : u1 ≠ p := fun e => by rw [e, s69 _ _ hp2] at hu1; cases hu1
          have npr : pr ≠ p := fun e => by rw [e, hN] at ha; cases ha
          obtain ⟨A, hAv⟩ : ∃ A : Br.At, atI [V.int (-999999999 - 1), .int (999999999 + 1), .bl true, .non, .str "1"] y = some A.v := by
            rcases (show y = 0 ∨ y = 1 ∨ y = 2 ∨ y = 3 ∨ y = 4 by omega) with rfl | rfl | rfl | rfl | rfl
            · exact ⟨.int (-999999999 - 1), rfl⟩
            · exact ⟨.int (999999999 + 1), rfl⟩
            · exact ⟨.tru, rfl⟩
            · exact ⟨.non, rfl⟩
            · exact ⟨.one, rfl⟩
          walk_at "lw go"
          refine g_ixL (SqL.of ((upd_ne (o := o3) n9).trans (s10 _ _ c9))) hAv ?_
          walk_at "lw go"
          have w10 : upd G10 p o3 u1 = some (.tup [.str "mark", .str x1, x2.v, x3.v]) := (upd_ne nu).trans c10
          have w11 : upd G10 p o3 pr = some (.tup [.str "mark", .str x1, x2.v, x3.v, x4.v]) := (upd_ne npr).trans (s6a _ _ za)
          refine ⟨by rw [sizeLine_eq]; simp, fun u2 hu2 => ?_⟩
          have s12 := sm_up (o := .tup [A.v]) hu2
          refine ⟨u1, u2, _, _, rfl, rfl, SqT.of (s12 _ _ w10), SqT.of upd_same, by rw [sizeLine_eq]; simp, fun z => (by cases z), fun _ z => (by cases z), fun _ _ t ht => ?_⟩
          walk_at "lw go"
          have s13 := sm_up (o := .tup [.str "mark", .str x1, x2.v, x3.v, A.v]) ht
          refine ⟨pr, _, rfl, SqT.of (s13 _ _ (s12 _ _ w11)), fun h => absurd h.1 (by show ¬ HT.sIx 5 0 (some (1 + 3 + 1)) = 0; decide), fun _ u4 hu4 => ?_⟩
          have s14 := sm_up (o := .tup []) hu4
          refine ⟨t, u4, [.str "mark", .str x1, x2.v, x3.v, A.v], [], rfl, rfl, SqT.of (s14 _ _ upd_same), SqT.of upd_same, by rw [sizeLine_eq]; simp, fun z => (by cases z), fun _ _ => ?_, fun _ z => absurd rfl z⟩
          exact bent_out (r := .mark x1 x2 x3 x4) (r' := .mark x1 x2 x3 A) hS hN k2 s2 dm q s6a (hP3.mono (by omega)) s12 ht s14 (fun sN => ⟨t, rfl, upd_same⟩) hy (Nat.le_refl _) (Nat.le_refl _)
    | often n0 b =>
      obtain ⟨pr, l2, xs2, rfl, ha, hl2, hb⟩ := hR
      have hDp : DpAll K N [V.str "often", n0.v, .ref l2] [PyData.str "often", n0.d, .list (rsD b)] := (.cons (.str _) (.cons (at_dp n0) (.cons (.lst (SqL.of hl2) (rrs_dp hb)) .nil)))
      simp only [rD, PyData.canLay0, PyData.canLayAll0, PyData.depth, PyData.depthAll] at hlay hdep
      have za := s1 _ _ ha
      refine ⟨pr, _, rfl, .inr (SqT.of za), ?_⟩
      walk_at "lw go"
      refine ⟨p, 2, _, o1, rfl, upd_same, hP1, by omega, by decide, by decide, fun x o2 x0 y1 hP2 => ?_⟩
      rw [upd_upd]
      have s2 : Sm N (upd H p o2) := fun b u hb => by
        rw [upd_ne (fun e => by rw [e, hN] at hb; cases hb)]
        exact hS _ _ hb
      have g2 : Grow N H N (upd H p o2) := (Grow.refl hS).aside hN
      have k2 : Keep p H (upd H p o2) := Keep.refl.put
      have hp2 : upd H p o2 p = some o2 := upd_same
      have dm : ∀ b, H b ≠ none → upd H p o2 b ≠ none := dom_new
      generalize upd H p o2 = G at *
      clear za s1
      have za := s2 _ _ ha
      walk_at "lw go"
      have outT : ∀ (G2 : Hp), Sm G G2 → ∀ (t : Addr) (xs' : List V) (ds' : List PyData), G2 t = none → DpAll K N xs' ds' → PyData.canLayAll0 ds' = true → PyData.depthAll ds' ≤ 29 → junkT ds' → Q (.ref t) (upd G2 t (.tup xs')) := fun G2 s t xs' ds' ht hD hl hdp hj =>
        q (.ref t) (.junk (.tuple ds')) o2 _ (upd N t (.tup xs')) (Keep.new (fun c u n h => s _ _ (k2 c u n h)) ht) (sm_up ht _ _ (s _ _ hp2)) (hP2.mono (by omega)) ((Grow.sm g2 s).trans (Grow.new (Grow.sm g2 s).dn ht) (fun c h => sm_dom s c (dm c h))) ⟨t, xs', ds', rfl, dpA_mono (sm_up (n_none (sm_trans s2 s) ht)) hD, .inr ⟨rfl, upd_same, hj⟩⟩ ⟨hl, by simp only [PyData.depth]; omega⟩ (Nat.zero_le _) (zR_pos _)
      have outL : ∀ (t : Addr) (xs' : List V) (ds' : List PyData), G t = none → DpAll K N xs' ds' → PyData.canLayAll0 ds' = true → PyData.depthAll ds' ≤ 29 → Q (.ref t) (upd G t (.lst xs')) := fun t xs' ds' ht hD hl hdp =>
        q (.ref t) (.junk (.list ds')) o2 _ (upd N t (.lst xs')) (k2.new ht) (sm_up ht _ _ hp2) (hP2.mono (by omega)) (g2.trans (Grow.new g2.dn ht) dm) ⟨t, xs', ds', rfl, dpA_mono (sm_up (n_none s2 ht)) hD, .inl ⟨rfl, upd_same⟩⟩ ⟨hl, by simp only [PyData.depth]; omega⟩ (Nat.zero_le _) (zR_pos _)
      have hdd := hd
      refine g_ite (fun hw0 => ?_) (fun hw0 => ?_)
      · walk_at "lw go"
        exact ⟨pr, _, rfl, .inr (SqT.of za), fun t ht => outL t _ _ ht hDp (by have z := hlay.1; clear outT outL q; simp_all [PyData.canLay0, PyData.canLayAll0]) (by simp only [PyData.depth, PyData.depthAll]; omega)⟩
      walk_at "lw go"
      refine g_ite (fun hw1 => ?_) (fun hw1 => ?_)
      · walk_at "lw go"
        exact ⟨by show 0 ≤ sizeLine; decide, fun t ht => outT G (fun _ _ h => h) t [] [] ht .nil rfl (by simp [PyData.depthAll]) (.inl rfl)⟩
      walk_at "lw go"
      refine g_ite (fun hw2 => ?_) (fun hw2 => ?_)
      · walk_at "lw go"
        refine ⟨pr, _, rfl, SqT.of za, fun h => absurd h.2 (by show ¬ HT.sIx 3 3 (some (-1)) = 3; decide), fun _ t ht => ?_⟩
        exact outT G (fun _ _ h => h) t [.str "often", n0.v] [.str "often", n0.d] ht (.cons (.str _) (.cons (at_dp n0) .nil)) (by have z := hlay.1; clear outT outL q; simp_all [PyData.canLay0, PyData.canLayAll0]) (by simp only [PyData.depth, PyData.depthAll]; omega) (.inr ⟨_, _, rfl, .inr ⟨by decide +kernel, by show ¬ (2 = arity _); decide +kernel⟩⟩)
      walk_at "lw go"
      refine g_ite (fun hw3 => ?_) (fun hw3 => ?_)
      · walk_at "lw go"
        refine ⟨by rw [sizeLine_eq]; simp, fun t1 ht1 => ?_⟩
        refine ⟨pr, t1, _, _, rfl, rfl, SqT.of (sm_up ht1 _ _ za), SqT.of upd_same, by rw [sizeLine_eq]; simp, fun z => (by cases z), fun _ z => (by cases z), fun _ _ t ht => ?_⟩
        exact outT _ (sm_up ht1) t [.str "often", n0.v, .ref l2, .int 1] [.str "often", n0.d, .list (rsD b), .int 1] ht (.cons (.str _) (.cons (at_dp n0) (.cons (.lst (SqL.of hl2) (rrs_dp hb)) (.cons (.int _) .nil)))) (by have z := hlay.1; clear outT outL q; simp_all [PyData.canLay0, PyData.canLayAll0]) (by simp only [PyData.depth, PyData.depthAll]; omega) (.inr ⟨_, _, rfl, .inr ⟨by decide +kernel, by show ¬ (4 = arity _); decide +kernel⟩⟩)
      walk_at "lw go"
      refine g_ite (fun hw4 => ?_) (fun hw4 => ?_)
      · walk_at "lw go"
        refine ⟨by rw [sizeLine_eq]; simp, fun t1 ht1 => ?_⟩
        walk_at "lw go"
        refine ⟨pr, _, rfl, SqT.of (sm_up ht1 _ _ za), fun h => absurd h.1 (by show ¬ HT.sIx 3 0 (some 1) = 0; decide), fun _ t2 ht2 => ?_⟩
        refine ⟨t1, t2, _, _, rfl, rfl, SqT.of (sm_up ht2 _ _ upd_same), SqT.of upd_same, by rw [sizeLine_eq]; show 3 ≤ _; omega, fun z => (by cases z), fun _ z => (by cases z), fun _ _ t ht => ?_⟩
        have hM : PyData.strOk "Move" = true := by decide +kernel
        exact outT _ (sm_trans (sm_up ht1) (sm_up ht2)) t [.str "Move", n0.v, .ref l2] [.str "Move", n0.d, .list (rsD b)] ht (.cons (.str _) (.cons (at_dp n0) (.cons (.lst (SqL.of hl2) (rrs_dp hb)) .nil))) (by have z := hlay.1; clear outT outL q; simp_all [PyData.canLay0, PyData.canLayAll0]) (by simp only [PyData.depth, PyData.depthAll]; omega) (.inr ⟨_, _, rfl, .inl rfl⟩)
      walk_at "lw go"
      refine ⟨.ref pr, _, rfl, rr_mono s2 (r := .often n0 b) ⟨pr, l2, xs2, rfl, ha, hl2, hb⟩, rfl, fun l5 ys5 H5 s5 hl5 hA5 => ?_⟩
      refine ⟨l5, rfl, ⟨ys5, SqL.of hl5⟩, fun D hD => it_lst (xs := ys5) (fun k G' => Sm H5 G' ∧ ∃ acc, G' D = some (.lst acc) ∧ Al (SpR G') (((spans (.often n0 b)).take k).filter fun t => decide (t.1 = 1 + x)) acc) ⟨sm_up hD, [], upd_same, rfl⟩ (fun k G' ⟨s, _⟩ => SqL.of (s _ _ hl5)) ?_ ?_⟩
      · rintro k y G' hy' ⟨s6, acc, hacc, hA⟩
        obtain ⟨t, ht, a5, rfl, ha5⟩ := al_at' hA5 hy'
        walk_at "lw go"
        refine g_tupT (SqT.of (s6 _ _ ha5)) rfl ?_
        walk_at "lw go"
        refine ⟨rfl, ?_⟩
        walk_at "lw go"
        rw [filter_take _ ht]
        refine g_ite (fun z => ?_) (fun z => ?_)
        · have z1 : decide (t.1 = 1 + x) = true := decide_eq_true (V.int.inj z)
          rw [z1, if_pos rfl]
          walk_at "lw go"
          refine ⟨by rw [sizeLine_eq]; simp, fun t7 h7 => ?_⟩
          have h7D := sm_up (o := .tup [.int t.1, .int t.2.1, .int t.2.2.1]) h7 _ _ hacc
          have lacc : acc.length ≤ 3 := by
            rw [hA.len]
            refine Nat.le_trans (List.length_filter_le _ _) ?_
            rw [List.length_take]
            simp only [spans, List.length_cons, List.length_nil]
            omega
          refine ⟨acc, h7D, by rw [sizeLine_eq]; omega, fun b u hb => by rw [upd_ne (fun e => by rw [e, hD] at hb; cases hb)]; exact sm_up h7 _ _ (s6 _ _ hb), _, upd_same, ?_⟩
          have n7 : t7 ≠ D := fun e => by rw [e, hacc] at h7; cases h7
          refine (hA.mono fun _ _ h => SpR.monoD (fun b u n hb => by rw [upd_ne n]; exact sm_up h7 _ _ hb) hacc h).append ⟨_, [], rfl, ⟨t7, rfl, ?_⟩, rfl⟩
          rw [upd_ne n7]
          exact upd_same
        · have z1 : decide (t.1 = 1 + x) = false := decide_eq_false fun e => z (congrArg V.int e)
          rw [z1, if_neg (by simp), List.append_nil]
          exact ⟨s6, acc, hacc, hA⟩
      · rintro G' ⟨s6, acc, hacc, hA⟩
        rw [hA5.len, List.take_length] at hA
        walk_at "lw go"
        rcases (show x = 0 ∨ x = 1 by omega) with rfl | rfl
        · have hA' : Al (SpR G') [(1, 0, 20, n0)] acc := hA
          clear hA
          obtain ⟨_, _, rfl, ⟨a7, rfl, h7⟩, rfl⟩ := hA'
          replace h7 : G' a7 = some (.tup [.int 1, .int (0), .int 20]) := h7
          refine ⟨by show 0 ≤ sizeLine; decide, fun e0 he0 => ?_⟩
          obtain ⟨G7, e7⟩ : ∃ Gx, upd G' e0 (.lst []) = Gx := ⟨_, rfl⟩
          have s7 : Sm G' G7 := e7 ▸ sm_up he0
          have c7 : G7 e0 = some (.lst []) := e7 ▸ upd_same
          rw [e7]
          clear e7
          refine ⟨.list [.tuple [.int 1, .int (0), .int 20]], .list [], .lst (SqL.of (s7 _ _ hacc)) (.cons (.tup (SqT.of (s7 _ _ h7)) (.cons (.int _) (.cons (.int _) (.cons (.int _) .nil)))) .nil), .lst (SqL.of c7) .nil, by decide +kernel, by decide +kernel, ?_⟩
          refine bl_is (c := false) (by decide +kernel) (iteF ?_)
          walk_at "lw go"
          refine g_ixL (SqL.of (s7 _ _ hacc)) (v := .ref a7) rfl ?_
          walk_at "lw go"
          refine ⟨a7, _, rfl, SqT.of (s7 _ _ h7), fun h => absurd h.1 (by show ¬ HT.sIx 3 0 (some 1) = 0; decide), fun _ t8 ht8 => ?_⟩
          rw [show cutV [V.int 1, V.int (0), V.int 20] (some 1) none = [V.int (0), V.int 20] from rfl]
          obtain ⟨G8, e8⟩ : ∃ Gx, upd G7 t8 (.tup [.int (0), .int 20]) = Gx := ⟨_, rfl⟩
          have s8 : Sm G7 G8 := e8 ▸ sm_up ht8
          have c8 : G8 t8 = some (.tup [.int (0), .int 20]) := e8 ▸ upd_same
          rw [e8]
          clear e8
          refine g_tupT (SqT.of c8) rfl ?_
          walk_at "lw go"
          refine ⟨by rw [sizeLine_eq]; simp, fun t9 ht9 => ?_⟩
          obtain ⟨G9, e9⟩ : ∃ Gx, upd G8 t9 (.lst [.int (0 - 1), .int (20 + 1), .bl true, .non, .str "1"]) = Gx := ⟨_, rfl⟩
          have s9 : Sm G8 G9 := e9 ▸ sm_up ht9
          have c9 : G9 t9 = some (.lst [.int (0 - 1), .int (20 + 1), .bl true, .non, .str "1"]) := e9 ▸ upd_same
          rw [e9]
          clear e9
          have s69 := sm_trans (sm_trans (sm_trans (sm_trans s5 s6) s7) s8) s9
          walk_at "lw go"
          refine ⟨pr, _, rfl, SqT.of (s69 _ _ za), fun h => absurd h.2 (by show ¬ HT.sIx 3 3 (some (1 + 0)) = 3; decide), fun _ u1 hu1 => ?_⟩
          rw [show cutV [V.str "often", n0.v, V.ref l2] none (some (1 + 0)) = [V.str "often"] from rfl]
          obtain ⟨G10, e10⟩ : ∃ Gx, upd G9 u1 (.tup [.str "often"]) = Gx := ⟨_, rfl⟩
          have s10 : Sm G9 G10 := e10 ▸ sm_up hu1
          have c10 : G10 u1 = some (.tup [.str "often"]) := e10 ▸ upd_same
          rw [e10]
          clear e10
          walk_at "lw go"
          have s6a := sm_trans s69 s10
          refine ⟨p, 5, _, o2, rfl, s6a _ _ hp2, hP2, by omega, by decide, by decide, fun y o3 y0 y1 hP3 => ?_⟩
          have n9 : t9 ≠ p := fun e => by rw [e, (sm_trans (sm_trans (sm_trans (sm_trans s5 s6) s7) s8 : Sm G G8) (fun _ _ h => h)) _ _ hp2] at ht9; cases ht9
          have nu : u1 ≠ p := fun e => by rw [e, s69 _ _ hp2] at hu1; cases hu1
          have npr : pr ≠ p := fun e => by rw [e, hN] at ha; cases ha
          obtain ⟨A, hAv⟩ : ∃ A : Br.At, atI [V.int (0 - 1), .int (20 + 1), .bl true, .non, .str "1"] y = some A.v := by
            rcases (show y = 0 ∨ y = 1 ∨ y = 2 ∨ y = 3 ∨ y = 4 by omega) with rfl | rfl | rfl | rfl | rfl
            · exact ⟨.int (0 - 1), rfl⟩
            · exact ⟨.int (20 + 1), rfl⟩
            · exact ⟨.tru, rfl⟩
            · exact ⟨.non, rfl⟩
            · exact ⟨.one, rfl⟩
          walk_at "lw go"
          refine g_ixL (SqL.of ((upd_ne (o := o3) n9).trans (s10 _ _ c9))) hAv ?_
          walk_at "lw go"
          have w10 : upd G10 p o3 u1 = some (.tup [.str "often"]) := (upd_ne nu).trans c10
          have w11 : upd G10 p o3 pr = some (.tup [.str "often", n0.v, .ref l2]) := (upd_ne npr).trans (s6a _ _ za)
          refine ⟨by rw [sizeLine_eq]; simp, fun u2 hu2 => ?_⟩
          have s12 := sm_up (o := .tup [A.v]) hu2
          refine ⟨u1, u2, _, _, rfl, rfl, SqT.of (s12 _ _ w10), SqT.of upd_same, by rw [sizeLine_eq]; simp, fun z => (by cases z), fun _ z => (by cases z), fun _ _ t ht => ?_⟩
          walk_at "lw go"
          have s13 := sm_up (o := .tup [.str "often", A.v]) ht
          refine ⟨pr, _, rfl, SqT.of (s13 _ _ (s12 _ _ w11)), fun h => absurd h.1 (by show ¬ HT.sIx 3 0 (some (1 + 0 + 1)) = 0; decide), fun _ u4 hu4 => ?_⟩
          have s14 := sm_up (o := .tup [.ref l2]) hu4
          refine ⟨t, u4, [.str "often", A.v], [.ref l2], rfl, rfl, SqT.of (s14 _ _ upd_same), SqT.of upd_same, by rw [sizeLine_eq]; simp, fun z => (by cases z), fun _ z => (by cases z), fun _ _ t ht => ?_⟩
          exact bent_out (r := .often n0 b) (r' := .often A b) hS hN k2 s2 dm q s6a (hP3.mono (by omega)) (sm_trans (sm_trans s12 s13) s14) ht (fun _ _ h => h) (fun sN => ⟨t, l2, xs2, rfl, upd_same, sN _ _ hl2, rrs_mono sN hb⟩) hy (Nat.le_refl _) (Nat.le_refl _)
        · obtain rfl : acc = [] := hA
          refine ⟨by show 0 ≤ sizeLine; decide, fun e0 he0 => ?_⟩
          obtain ⟨G7, e7⟩ : ∃ Gx, upd G' e0 (.lst []) = Gx := ⟨_, rfl⟩
          have s7 : Sm G' G7 := e7 ▸ sm_up he0
          have c7 : G7 e0 = some (.lst []) := e7 ▸ upd_same
          rw [e7]
          clear e7
          refine ⟨.list [], .list [], .lst (SqL.of (s7 _ _ hacc)) .nil, .lst (SqL.of c7) .nil, by decide +kernel, by decide +kernel, ?_⟩
          refine bl_is (c := true) (by decide +kernel) (iteT ?_)
          walk_at "lw go"
          refine ⟨by rw [sizeLine_eq]; simp, fun t8 ht8 => ?_⟩
          obtain ⟨G8, e8⟩ : ∃ Gx, upd G7 t8 (.lst [.str "copy", .str "", .str "field", .str "Set"]) = Gx := ⟨_, rfl⟩
          have s8 : Sm G7 G8 := e8 ▸ sm_up ht8
          have c8 : G8 t8 = some (.lst [.str "copy", .str "", .str "field", .str "Set"]) := e8 ▸ upd_same
          rw [e8]
          clear e8
          have s68 := sm_trans (sm_trans (sm_trans s5 s6) s7) s8
          walk_at "lw go"
          refine ⟨p, 4, _, o2, rfl, s68 _ _ hp2, hP2, by omega, by decide, by decide, fun y o3 y0 y1 hP3 => ?_⟩
          have n8 : t8 ≠ p := fun e => by rw [e, (sm_trans (sm_trans s5 s6) s7) _ _ hp2] at ht8; cases ht8
          obtain ⟨word, hword, hwm⟩ : ∃ z : Str, atI [V.str "copy", .str "", .str "field", .str "Set"] y = some (.str z) ∧ PyData.strOk z = true := by
            rcases (show y = 0 ∨ y = 1 ∨ y = 2 ∨ y = 3 by omega) with rfl | rfl | rfl | rfl
            · exact ⟨"copy", rfl, by decide +kernel⟩
            · exact ⟨"", rfl, by decide +kernel⟩
            · exact ⟨"field", rfl, by decide +kernel⟩
            · exact ⟨"Set", rfl, by decide +kernel⟩
          walk_at "lw go"
          refine g_ixL (SqL.of ((upd_ne (o := o3) n8).trans c8)) hword ?_
          walk_at "lw go"
          refine ⟨by rw [sizeLine_eq]; simp, fun t ht => ?_⟩
          exact bent_out (r := .often n0 b) (r' := .mark word (.int 1) (.int 1) (.int 1)) hS hN k2 s2 dm q s68 (hP3.mono (by omega)) (fun _ _ h => h) ht (fun _ _ h => h) (fun _ => ⟨t, rfl, upd_same⟩) hwm (Nat.zero_le _) (zR_pos _)
    | cond f0 b c =>
      obtain ⟨pr, l2, l3, xs2, xs3, rfl, ha, hl2, hl3, hb, hc⟩ := hR
      have hDp : DpAll K N [V.str "if", f0.v, .ref l2, .ref l3] [PyData.str "if", f0.d, .list (rsD b), .list (rsD c)] := (.cons (.str _) (.cons (at_dp f0) (.cons (.lst (SqL.of hl2) (rrs_dp hb)) (.cons (.lst (SqL.of hl3) (rrs_dp hc)) .nil))))
      simp only [rD, PyData.canLay0, PyData.canLayAll0, PyData.depth, PyData.depthAll] at hlay hdep
      have za := s1 _ _ ha
      refine ⟨pr, _, rfl, .inr (SqT.of za), ?_⟩
      walk_at "lw go"
      refine ⟨p, 3, _, o1, rfl, upd_same, hP1, by omega, by decide, by decide, fun x o2 x0 y1 hP2 => ?_⟩
      rw [upd_upd]
      have s2 : Sm N (upd H p o2) := fun b u hb => by
        rw [upd_ne (fun e => by rw [e, hN] at hb; cases hb)]
        exact hS _ _ hb
      have g2 : Grow N H N (upd H p o2) := (Grow.refl hS).aside hN
      have k2 : Keep p H (upd H p o2) := Keep.refl.put
      have hp2 : upd H p o2 p = some o2 := upd_same
      have dm : ∀ b, H b ≠ none → upd H p o2 b ≠ none := dom_new
      generalize upd H p o2 = G at *
      clear za s1
      have za := s2 _ _ ha
      walk_at "lw go"
      have outT : ∀ (G2 : Hp), Sm G G2 → ∀ (t : Addr) (xs' : List V) (ds' : List PyData), G2 t = none → DpAll K N xs' ds' → PyData.canLayAll0 ds' = true → PyData.depthAll ds' ≤ 29 → junkT ds' → Q (.ref t) (upd G2 t (.tup xs')) := fun G2 s t xs' ds' ht hD hl hdp hj =>
        q (.ref t) (.junk (.tuple ds')) o2 _ (upd N t (.tup xs')) (Keep.new (fun c u n h => s _ _ (k2 c u n h)) ht) (sm_up ht _ _ (s _ _ hp2)) (hP2.mono (by omega)) ((Grow.sm g2 s).trans (Grow.new (Grow.sm g2 s).dn ht) (fun c h => sm_dom s c (dm c h))) ⟨t, xs', ds', rfl, dpA_mono (sm_up (n_none (sm_trans s2 s) ht)) hD, .inr ⟨rfl, upd_same, hj⟩⟩ ⟨hl, by simp only [PyData.depth]; omega⟩ (Nat.zero_le _) (zR_pos _)
      have outL : ∀ (t : Addr) (xs' : List V) (ds' : List PyData), G t = none → DpAll K N xs' ds' → PyData.canLayAll0 ds' = true → PyData.depthAll ds' ≤ 29 → Q (.ref t) (upd G t (.lst xs')) := fun t xs' ds' ht hD hl hdp =>
        q (.ref t) (.junk (.list ds')) o2 _ (upd N t (.lst xs')) (k2.new ht) (sm_up ht _ _ hp2) (hP2.mono (by omega)) (g2.trans (Grow.new g2.dn ht) dm) ⟨t, xs', ds', rfl, dpA_mono (sm_up (n_none s2 ht)) hD, .inl ⟨rfl, upd_same⟩⟩ ⟨hl, by simp only [PyData.depth]; omega⟩ (Nat.zero_le _) (zR_pos _)
      have hdd := hd
      refine g_ite (fun hw0 => ?_) (fun hw0 => ?_)
      · walk_at "lw go"
        exact ⟨pr, _, rfl, .inr (SqT.of za), fun t ht => outL t _ _ ht hDp (by have z := hlay.1; clear outT outL q; simp_all [PyData.canLay0, PyData.canLayAll0]) (by simp only [PyData.depth, PyData.depthAll]; omega)⟩
      walk_at "lw go"
      refine g_ite (fun hw1 => ?_) (fun hw1 => ?_)
      · walk_at "lw go"
        exact ⟨by show 0 ≤ sizeLine; decide, fun t ht => outT G (fun _ _ h => h) t [] [] ht .nil rfl (by simp [PyData.depthAll]) (.inl rfl)⟩
      walk_at "lw go"
      refine g_ite (fun hw2 => ?_) (fun hw2 => ?_)
      · walk_at "lw go"
        refine ⟨pr, _, rfl, SqT.of za, fun h => absurd h.2 (by show ¬ HT.sIx 4 4 (some (-1)) = 4; decide), fun _ t ht => ?_⟩
        exact outT G (fun _ _ h => h) t [.str "if", f0.v, .ref l2] [.str "if", f0.d, .list (rsD b)] ht (.cons (.str _) (.cons (at_dp f0) (.cons (.lst (SqL.of hl2) (rrs_dp hb)) .nil))) (by have z := hlay.1; clear outT outL q; simp_all [PyData.canLay0, PyData.canLayAll0]) (by simp only [PyData.depth, PyData.depthAll]; omega) (.inr ⟨_, _, rfl, .inr ⟨by decide +kernel, by show ¬ (3 = arity _); decide +kernel⟩⟩)
      walk_at "lw go"
      refine g_ite (fun hw3 => ?_) (fun hw3 => ?_)
      · walk_at "lw go"
        refine ⟨by rw [sizeLine_eq]; simp, fun t1 ht1 => ?_⟩
        refine ⟨pr, t1, _, _, rfl, rfl, SqT.of (sm_up ht1 _ _ za), SqT.of upd_same, by rw [sizeLine_eq]; simp, fun z => (by cases z), fun _ z => (by cases z), fun _ _ t ht => ?_⟩
        exact outT _ (sm_up ht1) t [.str "if", f0.v, .ref l2, .ref l3, .int 1] [.str "if", f0.d, .list (rsD b), .list (rsD c), .int 1] ht (.cons (.str _) (.cons (at_dp f0) (.cons (.lst (SqL.of hl2) (rrs_dp hb)) (.cons (.lst (SqL.of hl3) (rrs_dp hc)) (.cons (.int _) .nil))))) (by have z := hlay.1; clear outT outL q; simp_all [PyData.canLay0, PyData.canLayAll0]) (by simp only [PyData.depth, PyData.depthAll]; omega) (.inr ⟨_, _, rfl, .inr ⟨by decide +kernel, by show ¬ (5 = arity _); decide +kernel⟩⟩)
      walk_at "lw go"
      refine g_ite (fun hw4 => ?_) (fun hw4 => ?_)
      · walk_at "lw go"
        refine ⟨by rw [sizeLine_eq]; simp, fun t1 ht1 => ?_⟩
        walk_at "lw go"
        refine ⟨pr, _, rfl, SqT.of (sm_up ht1 _ _ za), fun h => absurd h.1 (by show ¬ HT.sIx 4 0 (some 1) = 0; decide), fun _ t2 ht2 => ?_⟩
        refine ⟨t1, t2, _, _, rfl, rfl, SqT.of (sm_up ht2 _ _ upd_same), SqT.of upd_same, by rw [sizeLine_eq]; show 4 ≤ _; omega, fun z => (by cases z), fun _ z => (by cases z), fun _ _ t ht => ?_⟩
        have hM : PyData.strOk "Move" = true := by decide +kernel
        exact outT _ (sm_trans (sm_up ht1) (sm_up ht2)) t [.str "Move", f0.v, .ref l2, .ref l3] [.str "Move", f0.d, .list (rsD b), .list (rsD c)] ht (.cons (.str _) (.cons (at_dp f0) (.cons (.lst (SqL.of hl2) (rrs_dp hb)) (.cons (.lst (SqL.of hl3) (rrs_dp hc)) .nil)))) (by have z := hlay.1; clear outT outL q; simp_all [PyData.canLay0, PyData.canLayAll0]) (by simp only [PyData.depth, PyData.depthAll]; omega) (.inr ⟨_, _, rfl, .inl rfl⟩)
      walk_at "lw go"
      refine ⟨.ref pr, _, rfl, rr_mono s2 (r := .cond f0 b c) ⟨pr, l2, l3, xs2, xs3, rfl, ha, hl2, hl3, hb, hc⟩, rfl, fun l5 ys5 H5 s5 hl5 hA5 => ?_⟩
      refine ⟨l5, rfl, ⟨ys5, SqL.of hl5⟩, fun D hD => it_lst (xs := ys5) (fun k G' => Sm H5 G' ∧ ∃ acc, G' D = some (.lst acc) ∧ Al (SpR G') (((spans (.cond f0 b c)).take k).filter fun t => decide (t.1 = 1 + x)) acc) ⟨sm_up hD, [], upd_same, rfl⟩ (fun k G' ⟨s, _⟩ => SqL.of (s _ _ hl5)) ?_ ?_⟩
      · rintro k y G' hy' ⟨s6, acc, hacc, hA⟩
        obtain ⟨t, ht, a5, rfl, ha5⟩ := al_at' hA5 hy'
        walk_at "lw go"
        refine g_tupT (SqT.of (s6 _ _ ha5)) rfl ?_
        walk_at "lw go"
        refine ⟨rfl, ?_⟩
        walk_at "lw go"
        rw [filter_take _ ht]
        refine g_ite (fun z => ?_) (fun z => ?_)
        · have z1 : decide (t.1 = 1 + x) = true := decide_eq_true (V.int.inj z)
          rw [z1, if_pos rfl]
          walk_at "lw go"
          refine ⟨by rw [sizeLine_eq]; simp, fun t7 h7 => ?_⟩
          have h7D := sm_up (o := .tup [.int t.1, .int t.2.1, .int t.2.2.1]) h7 _ _ hacc
          have lacc : acc.length ≤ 3 := by
            rw [hA.len]
            refine Nat.le_trans (List.length_filter_le _ _) ?_
            rw [List.length_take]
            simp only [spans, List.length_cons, List.length_nil]
            omega
          refine ⟨acc, h7D, by rw [sizeLine_eq]; omega, fun b u hb => by rw [upd_ne (fun e => by rw [e, hD] at hb; cases hb)]; exact sm_up h7 _ _ (s6 _ _ hb), _, upd_same, ?_⟩
          have n7 : t7 ≠ D := fun e => by rw [e, hacc] at h7; cases h7
          refine (hA.mono fun _ _ h => SpR.monoD (fun b u n hb => by rw [upd_ne n]; exact sm_up h7 _ _ hb) hacc h).append ⟨_, [], rfl, ⟨t7, rfl, ?_⟩, rfl⟩
          rw [upd_ne n7]
          exact upd_same
        · have z1 : decide (t.1 = 1 + x) = false := decide_eq_false fun e => z (congrArg V.int e)
          rw [z1, if_neg (by simp), List.append_nil]
          exact ⟨s6, acc, hacc, hA⟩
      · rintro G' ⟨s6, acc, hacc, hA⟩
        rw [hA5.len, List.take_length] at hA
        walk_at "lw go"
        rcases (show x = 0 ∨ x = 1 ∨ x = 2 by omega) with rfl | rfl | rfl
        · have hA' : Al (SpR G') [(1, -999999999, 999999999, f0)] acc := hA
          clear hA
          obtain ⟨_, _, rfl, ⟨a7, rfl, h7⟩, rfl⟩ := hA'
          replace h7 : G' a7 = some (.tup [.int 1, .int (-999999999), .int 999999999]) := h7
          refine ⟨by show 0 ≤ sizeLine; decide, fun e0 he0 => ?_⟩
          obtain ⟨G7, e7⟩ : ∃ Gx, upd G' e0 (.lst []) = Gx := ⟨_, rfl⟩
          have s7 : Sm G' G7 := e7 ▸ sm_up he0
          have c7 : G7 e0 = some (.lst []) := e7 ▸ upd_same
          rw [e7]
          clear e7
          refine ⟨.list [.tuple [.int 1, .int (-999999999), .int 999999999]], .list [], .lst (SqL.of (s7 _ _ hacc)) (.cons (.tup (SqT.of (s7 _ _ h7)) (.cons (.int _) (.cons (.int _) (.cons (.int _) .nil)))) .nil), .lst (SqL.of c7) .nil, by decide +kernel, by decide +kernel, ?_⟩
          refine bl_is (c := false) (by decide +kernel) (iteF ?_)
          walk_at "lw go"
          refine g_ixL (SqL.of (s7 _ _ hacc)) (v := .ref a7) rfl ?_
          walk_at "lw go"
          refine ⟨a7, _, rfl, SqT.of (s7 _ _ h7), fun h => absurd h.1 (by show ¬ HT.sIx 3 0 (some 1) = 0; decide), fun _ t8 ht8 => ?_⟩
          rw [show cutV [V.int 1, V.int (-999999999), V.int 999999999] (some 1) none = [V.int (-999999999), V.int 999999999] from rfl]
          obtain ⟨G8, e8⟩ : ∃ Gx, upd G7 t8 (.tup [.int (-999999999), .int 999999999]) = Gx := ⟨_, rfl⟩
          have s8 : Sm G7 G8 := e8 ▸ sm_up ht8
          have c8 : G8 t8 = some (.tup [.int (-999999999), .int 999999999]) := e8 ▸ upd_same
          rw [e8]
          clear e8
          refine g_tupT (SqT.of c8) rfl ?_
          walk_at "lw go"
          refine ⟨by rw [sizeLine_eq]; simp, fun t9 ht9 => ?_⟩
          obtain ⟨G9, e9⟩ : ∃ Gx, upd G8 t9 (.lst [.int (-999999999 - 1), .int (999999999 + 1), .bl true, .non, .str "1"]) = Gx := ⟨_, rfl⟩
          have s9 : Sm G8 G9 := e9 ▸ sm_up ht9
          have c9 : G9 t9 = some (.lst [.int (-999999999 - 1), .int (999999999 + 1), .bl true, .non, .str "1"]) := e9 ▸ upd_same
          rw [e9]
          clear e9
          have s69 := sm_trans (sm_trans (sm_trans (sm_trans s5 s6) s7) s8) s9
          walk_at "lw go"
          refine ⟨pr, _, rfl, SqT.of (s69 _ _ za), fun h => absurd h.2 (by show ¬ HT.sIx 4 4 (some (1 + 0)) = 4; decide), fun _ u1 hu1 => ?_⟩
          rw [show cutV [V.str "if", f0.v, V.ref l2, V.ref l3] none (some (1 + 0)) = [V.str "if"] from rfl]
          obtain ⟨G10, e10⟩ : ∃ Gx, upd G9 u1 (.tup [.str "if"]) = Gx := ⟨_, rfl⟩
          have s10 : Sm G9 G10 := e10 ▸ sm_up hu1
          have c10 : G10 u1 = some (.tup [.str "if"]) := e10 ▸ upd_same
          rw [e10]
          clear e10
          walk_at "lw go"
          have s6a := sm_trans s69 s10
          refine ⟨p, 5, _, o2, rfl, s6a _ _ hp2, hP2, by omega, by decide, by decide, fun y o3 y0 y1 hP3 => ?_⟩
          have n9 : t9 ≠ p := fun e => by rw [e, (sm_trans (sm_trans (sm_trans (sm_trans s5 s6) s7) s8 : Sm G G8) (fun _ _ h => h)) _ _ hp2] at ht9; cases ht9
          have nu : u1 ≠ p := fun e => by rw [e, s69 _ _ hp2] at hu1; cases hu1
          have npr : pr ≠ p := fun e => by rw [e, hN] at ha; cases ha
          obtain ⟨A, hAv⟩ : ∃ A : Br.At, atI [V.int (-999999999 - 1), .int (999999999 + 1), .bl true, .non, .str "1"] y = some A.v := by
            rcases (show y = 0 ∨ y = 1 ∨ y = 2 ∨ y = 3 ∨ y = 4 by omega) with rfl | rfl | rfl | rfl | rfl
            · exact ⟨.int (-999999999 - 1), rfl⟩
            · exact ⟨.int (999999999 + 1), rfl⟩
            · exact ⟨.tru, rfl⟩
            · exact ⟨.non, rfl⟩
            · exact ⟨.one, rfl⟩
          walk_at "lw go"
          refine g_ixL (SqL.of ((upd_ne (o := o3) n9).trans (s10 _ _ c9))) hAv ?_
          walk_at "lw go"
          have w10 : upd G10 p o3 u1 = some (.tup [.str "if"]) := (upd_ne nu).trans c10
          have w11 : upd G10 p o3 pr = some (.tup [.str "if", f0.v, .ref l2, .ref l3]) := (upd_ne npr).trans (s6a _ _ za)
          refine ⟨by rw [sizeLine_eq]; simp, fun u2 hu2 => ?_⟩
          have s12 := sm_up (o := .tup [A.v]) hu2
          refine ⟨u1, u2, _, _, rfl, rfl, SqT.of (s12 _ _ w10), SqT.of upd_same, by rw [sizeLine_eq]; simp, fun z => (by cases z), fun _ z => (by cases z), fun _ _ t ht => ?_⟩
          walk_at "lw go"
          have s13 := sm_up (o := .tup [.str "if", A.v]) ht
          refine ⟨pr, _, rfl, SqT.of (s13 _ _ (s12 _ _ w11)), fun h => absurd h.1 (by show ¬ HT.sIx 4 0 (some (1 + 0 + 1)) = 0; decide), fun _ u4 hu4 => ?_⟩
          have s14 := sm_up (o := .tup [.ref l2, .ref l3]) hu4
          refine ⟨t, u4, [.str "if", A.v], [.ref l2, .ref l3], rfl, rfl, SqT.of (s14 _ _ upd_same), SqT.of upd_same, by rw [sizeLine_eq]; simp, fun z => (by cases z), fun _ z => (by cases z), fun _ _ t ht => ?_⟩
          exact bent_out (r := .cond f0 b c) (r' := .cond A b c) hS hN k2 s2 dm q s6a (hP3.mono (by omega)) (sm_trans (sm_trans s12 s13) s14) ht (fun _ _ h => h) (fun sN => ⟨t, l2, l3, xs2, xs3, rfl, upd_same, sN _ _ hl2, sN _ _ hl3, rrs_mono sN hb, rrs_mono sN hc⟩) hy (Nat.le_refl _) (Nat.le_refl _)
        · obtain rfl : acc = [] := hA
          refine ⟨by show 0 ≤ sizeLine; decide, fun e0 he0 => ?_⟩
          obtain ⟨G7, e7⟩ : ∃ Gx, upd G' e0 (.lst []) = Gx := ⟨_, rfl⟩
          have s7 : Sm G' G7 := e7 ▸ sm_up he0
          have c7 : G7 e0 = some (.lst []) := e7 ▸ upd_same
          rw [e7]
          clear e7
          refine ⟨.list [], .list [], .lst (SqL.of (s7 _ _ hacc)) .nil, .lst (SqL.of c7) .nil, by decide +kernel, by decide +kernel, ?_⟩
          refine bl_is (c := true) (by decide +kernel) (iteT ?_)
          walk_at "lw go"
          refine ⟨by rw [sizeLine_eq]; simp, fun t8 ht8 => ?_⟩
          obtain ⟨G8, e8⟩ : ∃ Gx, upd G7 t8 (.lst [.str "copy", .str "", .str "field", .str "Set"]) = Gx := ⟨_, rfl⟩
          have s8 : Sm G7 G8 := e8 ▸ sm_up ht8
          have c8 : G8 t8 = some (.lst [.str "copy", .str "", .str "field", .str "Set"]) := e8 ▸ upd_same
          rw [e8]
          clear e8
          have s68 := sm_trans (sm_trans (sm_trans s5 s6) s7) s8
          walk_at "lw go"
          refine ⟨p, 4, _, o2, rfl, s68 _ _ hp2, hP2, by omega, by decide, by decide, fun y o3 y0 y1 hP3 => ?_⟩
          have n8 : t8 ≠ p := fun e => by rw [e, (sm_trans (sm_trans s5 s6) s7) _ _ hp2] at ht8; cases ht8
          obtain ⟨word, hword, hwm⟩ : ∃ z : Str, atI [V.str "copy", .str "", .str "field", .str "Set"] y = some (.str z) ∧ PyData.strOk z = true := by
            rcases (show y = 0 ∨ y = 1 ∨ y = 2 ∨ y = 3 by omega) with rfl | rfl | rfl | rfl
            · exact ⟨"copy", rfl, by decide +kernel⟩
            · exact ⟨"", rfl, by decide +kernel⟩
            · exact ⟨"field", rfl, by decide +kernel⟩
            · exact ⟨"Set", rfl, by decide +kernel⟩
          walk_at "lw go"
          refine g_ixL (SqL.of ((upd_ne (o := o3) n8).trans c8)) hword ?_
          walk_at "lw go"
          refine ⟨by rw [sizeLine_eq]; simp, fun t ht => ?_⟩
          exact bent_out (r := .cond f0 b c) (r' := .mark word (.int 1) (.int 1) (.int 1)) hS hN k2 s2 dm q s68 (hP3.mono (by omega)) (fun _ _ h => h) ht (fun _ _ h => h) (fun _ => ⟨t, rfl, upd_same⟩) hwm (Nat.zero_le _) (zR_pos _)
        · obtain rfl : acc = [] := hA
          refine ⟨by show 0 ≤ sizeLine; decide, fun e0 he0 => ?_⟩
          obtain ⟨G7, e7⟩ : ∃ Gx, upd G' e0 (.lst []) = Gx := ⟨_, rfl⟩
          have s7 : Sm G' G7 := e7 ▸ sm_up he0
          have c7 : G7 e0 = some (.lst []) := e7 ▸ upd_same
          rw [e7]
          clear e7
          refine ⟨.list [], .list [], .lst (SqL.of (s7 _ _ hacc)) .nil, .lst (SqL.of c7) .nil, by decide +kernel, by decide +kernel, ?_⟩
          refine bl_is (c := true) (by decide +kernel) (iteT ?_)
          walk_at "lw go"
          refine ⟨by rw [sizeLine_eq]; simp, fun t8 ht8 => ?_⟩
          obtain ⟨G8, e8⟩ : ∃ Gx, upd G7 t8 (.lst [.str "copy", .str "", .str "field", .str "Set"]) = Gx := ⟨_, rfl⟩
          have s8 : Sm G7 G8 := e8 ▸ sm_up ht8
          have c8 : G8 t8 = some (.lst [.str "copy", .str "", .str "field", .str "Set"]) := e8 ▸ upd_same
          rw [e8]
          clear e8
          have s68 := sm_trans (sm_trans (sm_trans s5 s6) s7) s8
          walk_at "lw go"
          refine ⟨p, 4, _, o2, rfl, s68 _ _ hp2, hP2, by omega, by decide, by decide, fun y o3 y0 y1 hP3 => ?_⟩
          have n8 : t8 ≠ p := fun e => by rw [e, (sm_trans (sm_trans s5 s6) s7) _ _ hp2] at ht8; cases ht8
          obtain ⟨word, hword, hwm⟩ : ∃ z : Str, atI [V.str "copy", .str "", .str "field", .str "Set"] y = some (.str z) ∧ PyData.strOk z = true := by
            rcases (show y = 0 ∨ y = 1 ∨ y = 2 ∨ y = 3 by omega) with rfl | rfl | rfl | rfl
            · exact ⟨"copy", rfl, by decide +kernel⟩
            · exact ⟨"", rfl, by decide +kernel⟩
            · exact ⟨"field", rfl, by decide +kernel⟩
            · exact ⟨"Set", rfl, by decide +kernel⟩
          walk_at "lw go"
          refine g_ixL (SqL.of ((upd_ne (o := o3) n8).trans c8)) hword ?_
          walk_at "lw go"
          refine ⟨by rw [sizeLine_eq]; simp, fun t ht => ?_⟩
          exact bent_out (r := .cond f0 b c) (r' := .mark word (.int 1) (.int 1) (.int 1)) hS hN k2 s2 dm q s68 (hP3.mono (by omega)) (fun _ _ h => h) ht (fun _ _ h => h) (fun _ => ⟨t, rfl, upd_same⟩) hwm (Nat.zero_le _) (zR_pos _)
abbrev N_law_bent : List Str := ["_law_purse_here", "_law_rows_here", "_law_k", "_law_row", "_law_place"]
theorem sc_law_bent : FnScope N_law_bent ["_law_purse_here", "_law_rows_here"] (defScope s_law_bent) := ⟨rfl, rfl, rfl, by decide +kernel, rfl, by decide +kernel, by decide +kernel⟩
theorem ok_law_bent (F : FnP K "_law_bent" s_law_bent f fd) (T : Bi mg) (G : Kn w K mg) (D_law_draw : Df P w K mg base "_law_draw" ["_law_purse_here", "_law_out_of"] 2 spDraw) (D_law_bent_row : Df P w K mg base "_law_bent_row" ["_law_purse_here", "_law_row"] 3 (spBentRow K)) (gm : mg "_law_bent" = some (.ref f)) (kp : PySem.W.keepIn K (.ref f) = true) (bb : Binds K fd ["_law_purse_here", "_law_rows_here"] []) : ∀ n : Nat, FnOk P w K mg base CX0 (n + 4) f fd ["_law_purse_here", "_law_rows_here"] (spBent K n)
  | 0 => by
    refine F.ok sc_law_bent (fun vs H Q E h => ?_) (fun cdv A outer s H vs Q E hr h => ?_)
    · obtain ⟨p, m, o, l, xs, rs, N, rfl, _⟩ := h
      rfl
    · exact (spBent_zero h).elim
  | n + 1 => by
    have D_law_bent : Df P w K mg base "_law_bent" ["_law_purse_here", "_law_rows_here"] (n + 4) (spBent K n) := ⟨f, fd, gm, kp, bb, ok_law_bent F T G D_law_draw D_law_bent_row gm kp bb n⟩
    refine F.ok (k := n + 4) sc_law_bent (fun vs H Q E h => ?_) (fun cdv A outer s H vs Q E hr h => ⟨_, PSs.nox
(pss_cons (ps_if (pt_cmpR (op_eqD hr.units) (pv 1) (pe_lst pa_nil) (nomark _))
  (pss_one (ps_ret (pe_lst (pa_cons (pe_tup (pa_cons pe_str (pa_cons pe_int (pa_cons pe_int pa_nil)))) pa_nil))))
  pss_nil)
  (pss_cons (ps_set (i := 2) sc_law_bent.nd rfl (Or.inl rfl) (pe_df D_law_draw (hr.mono (by first | decide | omega)) (pa_cons (pv 0) (pa_cons (pe_callB call_len_seq (by rfl) T.len (by decide +kernel) (pa_cons (pv 1) pa_nil)) pa_nil))))
  (pss_cons (ps_set (i := 3) sc_law_bent.nd rfl (Or.inl rfl) (pe_ix ix_list (pv 1) (pv 2) (fun _ _ => rfl)))
  (pss_cons (ps_if (PW.pt (pw_and (pt_cmpR op_in_seq (pe_ix ix_tup (pv 3) pe_int (fun _ _ => rfl)) (pe_lst (pa_cons pe_str (pa_cons pe_str pa_nil))) (by rfl)) (pw_and1 (pt_cmpR op_gt (pe_df D_law_draw (hr.mono (by first | decide | omega)) (pa_cons (pv 0) (pa_cons pe_int pa_nil))) pe_int (nomark _)))))
  (pss_cons (ps_set (i := 4) sc_law_bent.nd rfl (Or.inl rfl) (pe_op op_sub (pe_callB call_len_seq (by rfl) T.len (by decide +kernel) (pa_cons (pv 3) pa_nil)) pe_int))
  (pss_one (ps_ret (pe_op op_cat (pe_op op_cat (pe_slice sl_list (pv 1) po_none (po_some (pv 2))) (pe_lst (pa_cons (pe_op op_catA (pe_slice sl_tupA (pv 3) po_none (po_some (pv 4))) (pe_tup (pa_cons (pe_df D_law_bent (hr.mono (by first | decide | omega)) (pa_cons (pv 0) (pa_cons (pe_ix ix_tup (pv 3) (pv 4) (fun _ _ => rfl)) pa_nil))) pa_nil))) pa_nil))) (pe_slice sl_list (pv 1) (po_some (pe_op op_add (pv 2) pe_int)) po_none)))))
  pss_nil)
  (pss_one (ps_ret (pe_op op_cat (pe_op op_cat (pe_slice sl_list (pv 1) po_none (po_some (pv 2))) (pe_lst (pa_cons (pe_df D_law_bent_row (hr.mono (by first | decide | omega)) (pa_cons (pv 0) (pa_cons (pv 3) pa_nil))) pa_nil))) (pe_slice sl_list (pv 1) (po_some (pe_op op_add (pv 2) pe_int)) po_none)))))))), ?_⟩)
    · obtain ⟨p, m, o, l, xs, rs, N, rfl, _⟩ := h
      rfl
    · obtain ⟨p, m, o, l, xs, rs, N, rfl, hp, hP, hm, hS, hN, hl, hR, ho, hy, hd, hd3, hz, q⟩ := h
      walk_at "lw i0"
      have hlz := len_zRs rs
      have hlen := rrs_len hR
      have D : Bw N H p m H N := ⟨Keep.refl, ⟨o, hp, hP⟩, Grow.refl hS, hN⟩
      walk_at "lw go"
      refine ⟨by show 0 ≤ sizeLine; decide, fun e0 he0 => ?_⟩
      refine ⟨.list (rsD rs), .list [], .lst (SqL.of (sm_up he0 _ _ (hS _ _ hl))) (dpA_mono (sm_up he0) (rrs_dp (rrs_mono hS hR))), .lst (SqL.of upd_same) .nil, rsD_shaped hy (by omega), by decide +kernel, ?_⟩
      replace D := D.new (u := .lst []) he0
      generalize upd H e0 (.lst []) = G at *
      by_cases hz0 : rs = []
      · subst hz0
        obtain rfl : xs = [] := hR
        refine bl_is (c := true) (by simp [rsD, PyData.eqv, PyData.eqvAll]) (iteT ?_)
        walk_at "lw go"
        refine ⟨by rw [sizeLine_eq]; simp, fun t ht => ?_⟩
        replace D := D.put (u := .tup [.str "move", .int 0, .int 101]) ht
        walk_at "lw go"
        refine ⟨by rw [sizeLine_eq]; simp, fun t2 ht2 => ?_⟩
        have D2 := D.put (u := .lst [.ref t]) ht2
        obtain ⟨o2, hp2, hP2⟩ := D2.ap
        exact q t2 _ [.move (.int 0) (.int 101)] o2 _ _ D2.keep hp2 (hP2.mono (by simp [dRs]; omega)) D2.grow upd_same ⟨_, _, rfl, ⟨t, rfl, sm_up (D.nn ht2) _ _ upd_same⟩, rfl⟩ ⟨True.intro, True.intro⟩ (by simp [dRs, dR]) (by simp [zRs, zR])
      · have en : PyData.eqv (.list (rsD rs)) (.list []) = false := by
          cases rs with
          | nil => exact absurd rfl hz0
          | cons r rs => simp [rsD, PyData.eqv, PyData.eqvAll]
        have hpos : 0 < rs.length := by
          cases rs with
          | nil => exact absurd rfl hz0
          | cons r rs => simp
        refine bl_is (c := false) en (iteF ?_)
        walk_at "lw go"
        refine ⟨l, xs, rfl, .inl (SqL.of (D.grow.dn _ _ hl)), ?_⟩
        walk_at "lw go"
        obtain ⟨o1, hp1, hP1⟩ := D.ap
        refine ⟨p, _, _, o1, rfl, hp1, hP1, by omega, by omega, by omega, fun k o2 k0 k1 hP2 => ?_⟩
        replace D := D.draw hP2
        clear hp1 hP1 hP2
        generalize upd G p o2 = G at *
        walk_at "lw go"
        obtain ⟨i, rfl⟩ : ∃ i : Nat, k = (i : Int) := ⟨k.toNat, by omega⟩
        have hi : i < xs.length := by omega
        obtain ⟨r, hr, hRr⟩ := rrs_at hR (List.getElem?_eq_getElem hi)
        have okr := okRs_at ho hr
        have lyr := lyRs_at hy hr
        have dr := dRs_at hr
        have zr := zRs_at hr
        obtain ⟨pr, zs, ev, hpr, hin⟩ := rr_head okr hRr
        refine g_ixL (SqL.of (D.grow.dn _ _ hl)) (v := .ref pr) (by rw [← ev]; exact atI_nat (List.getElem?_eq_getElem hi)) ?_
        rw [ev] at hRr
        walk_at "lw go"
        refine g_ixT (SqT.of (D.grow.dn _ _ hpr)) (v := .str (wordR r)) (atI_nat (j := 0) (by rfl)) ?_
        walk_at "lw go"
        refine ⟨by rw [sizeLine_eq]; simp, fun e1 he1 => ?_⟩
        replace D := D.new (u := .lst [.str "often", .str "if"]) he1
        refine ⟨e1, _, rfl, .inl (SqL.of upd_same), rfl, rfl, ?_⟩
        generalize upd G e1 (.lst [.str "often", .str "if"]) = G at *
        clear he1
        rw [if_neg (by simp), hin]
        cases hn : nestR r with
        | false =>
          refine bl_is (c := false) rfl (iteF ?_)
          walk_at "lw go"
          refine g_slL (SqL.of (D.grow.dn _ _ hl)) fun L1 hL1 => ?_
          rw [cut_to xs i (by omega)]
          have nL1 : L1 ≠ p := fun e => by
            obtain ⟨o9, h9, _⟩ := D.ap
            rw [e, h9] at hL1
            cases hL1
          replace D := D.new (u := .lst (xs.take i)) hL1
          have c1 : upd G L1 (.lst (xs.take i)) L1 = some (.lst (xs.take i)) := upd_same
          generalize upd G L1 (.lst (xs.take i)) = G at *
          clear hL1
          walk_at "lw go"
          obtain ⟨o3, hp3, hP3⟩ := D.ap
          refine ⟨p, _, o3, _, r, N, rfl, hp3, hP3, by omega, D.grow.dn, hN, hRr, okr, lyr, by omega, fun v2 r2 o4 G2 N2 k2 hp4 hP4 g2 hR2 ly2 d2 z2 => ?_⟩
          replace c1 := k2 L1 _ nL1 c1
          replace D := D.call k2 hp4 hP4 g2
          have up2 := g2.up
          clear k2 hp4 hP4 g2 hp3 hP3 nL1
          walk_at "lw go"
          refine ⟨by rw [sizeLine_eq]; simp, fun L2 hL2 => ?_⟩
          replace c1 := sm_up (o := .lst [v2]) hL2 _ _ c1
          replace D := D.new (u := .lst [v2]) hL2
          have c2 : upd G2 L2 (.lst [v2]) L2 = some (.lst [v2]) := upd_same
          generalize upd G2 L2 (.lst [v2]) = G2 at *
          refine g_cat c1 c2 (by rw [sizeLine_eq, List.length_take]; simp; omega) fun L3 hL3 => ?_
          replace D := D.new (u := .lst (xs.take i ++ [v2])) hL3
          have c3 : upd G2 L3 (.lst (xs.take i ++ [v2])) L3 = some (.lst (xs.take i ++ [v2])) := upd_same
          generalize upd G2 L3 (.lst (xs.take i ++ [v2])) = G2 at *
          clear c1 c2 hL2 hL3
          walk_at "lw go"
          refine g_slL (SqL.of (D.grow.dn _ _ (up2 _ _ hl))) fun L4 hL4 => ?_
          rw [show ((i : Int) + 1) = ((i + 1 : Nat) : Int) from rfl, cut_from xs (i + 1) (by omega)]
          replace c3 := sm_up (o := .lst (xs.drop (i + 1))) hL4 _ _ c3
          replace D := D.new (u := .lst (xs.drop (i + 1))) hL4
          have c4 : upd G2 L4 (.lst (xs.drop (i + 1))) L4 = some (.lst (xs.drop (i + 1))) := upd_same
          generalize upd G2 L4 (.lst (xs.drop (i + 1))) = G2 at *
          refine g_cat c3 c4 (by rw [sizeLine_eq]; simp; omega) fun L5 hL5 => ?_
          rw [cat_set hi]
          have sN := sm_up (o := .lst (xs.set i v2)) (D.nn hL5)
          have D5 := D.put (u := .lst (xs.set i v2)) hL5
          obtain ⟨o9, hp9, hP9⟩ := D5.ap
          have zz := zRs_set (r' := r2) i hr
          have dd2 : dR r2 ≤ dR r := by exact d2
          have dd3 : dR r2 ≤ dRs rs := by omega
          have zz2 : zR r2 ≤ zR r + 10 := by omega
          exact q L5 _ (rs.set i r2) o9 _ _ D5.keep hp9 (hP9.mono (by omega)) D5.grow upd_same (rrs_set i (rrs_mono sN (rrs_mono up2 hR)) (rr_mono (r := r2) sN hR2)) (lyRs_set (r := r2) (ly2) i hy) (dRs_set dd3 i (Nat.le_refl _)) (by omega)
        | true =>
          refine bl_is (c := true) rfl (iteT ?_)
          walk_at "lw go"
          obtain ⟨o1, hp1, hP1⟩ := D.ap
          refine ⟨p, 3, _, o1, rfl, hp1, hP1, by omega, by decide, by decide, fun k o2 k0' k1' hP2 => ?_⟩
          replace D := D.draw hP2
          clear hp1 hP1 hP2
          generalize upd G p o2 = G at *
          walk_at "lw go"
          refine g_ite (fun hk => ?_) (fun hk => ?_)
          · cases r with
            | move a b => cases hn
            | mark w x y z => cases hn
            | junk d => cases hn
            | often n0 b =>
              obtain ⟨pr', l2, xs2, e9, ha, hl2, hb⟩ := hRr
              cases e9
              simp only [dR, zR] at dr zr
              walk_at "lw go"
              refine ⟨pr, [V.str "often", n0.v, V.ref l2], rfl, .inr (SqT.of (D.grow.dn _ _ ha)), ?_⟩
              walk_at "lw go"
              refine g_slL (SqL.of (D.grow.dn _ _ hl)) fun L1 hL1 => ?_
              rw [cut_to xs i (by omega)]
              have nL1 : L1 ≠ p := fun e => by
                obtain ⟨o9, h9, _⟩ := D.ap
                rw [e, h9] at hL1
                cases hL1
              replace D := D.new (u := .lst (xs.take i)) hL1
              have c1 : upd G L1 (.lst (xs.take i)) L1 = some (.lst (xs.take i)) := upd_same
              generalize upd G L1 (.lst (xs.take i)) = G at *
              clear hL1
              walk_at "lw go"
              refine ⟨pr, _, rfl, SqT.of (D.grow.dn _ _ ha), fun h => absurd h.2 (by show ¬ HT.sIx 3 3 (some (3 - 1)) = 3; decide), fun _ u1 hu1 => ?_⟩
              rw [show cutV [V.str "often", n0.v, V.ref l2] none (some ((([V.str "often", n0.v, V.ref l2]).length : Int) - 1)) = [V.str "often", n0.v] from rfl]
              have nu1 : u1 ≠ p := fun e => by
                obtain ⟨o9, h9, _⟩ := D.ap
                rw [e, h9] at hu1
                cases hu1
              replace c1 := sm_up (o := .tup [.str "often", n0.v]) hu1 _ _ c1
              replace D := D.new (u := .tup [.str "often", n0.v]) hu1
              have cu : upd G u1 (.tup [.str "often", n0.v]) u1 = some (.tup [.str "often", n0.v]) := upd_same
              generalize upd G u1 (.tup [.str "often", n0.v]) = G at *
              clear hu1
              walk_at "lw go"
              refine g_ixT (SqT.of (D.grow.dn _ _ ha)) (v := .ref l2) rfl ?_
              walk_at "lw go"
              obtain ⟨o3, hp3, hP3⟩ := D.ap
              refine ⟨p, _, o3, l2, xs2, b, N, rfl, hp3, hP3, by omega, D.grow.dn, hN, hl2, hb, okr.2, lyr, by omega, by omega, by omega, fun l9 xs9 rs2 o4 G2 N2 k2 hp4 hP4 g9 hl9 hR9 ly9 d9 z9 => ?_⟩
              replace c1 := k2 L1 _ nL1 c1
              replace cu := k2 u1 _ nu1 cu
              replace D := D.call k2 hp4 hP4 g9
              clear k2 hp4 hP4 hp3 hP3 nL1 nu1
              refine ⟨by rw [sizeLine_eq]; simp, fun u2 hu2 => ?_⟩
              replace c1 := sm_up (o := .tup [.ref l9]) hu2 _ _ c1
              replace cu := sm_up (o := .tup [.ref l9]) hu2 _ _ cu
              replace D := D.new (u := .tup [.ref l9]) hu2
              have cv : upd G2 u2 (.tup [.ref l9]) u2 = some (.tup [.ref l9]) := upd_same
              generalize upd G2 u2 (.tup [.ref l9]) = G2 at *
              refine ⟨u1, u2, _, _, rfl, rfl, SqT.of cu, SqT.of cv, by rw [sizeLine_eq]; simp, fun z => (by cases z), fun _ z => (by cases z), fun _ _ t ht => ?_⟩
              have sN2 := sm_up (o := .tup ([.str "often", n0.v] ++ [.ref l9])) (D.nn ht)
              have hR2 : RR K (upd N2 t (.tup ([.str "often", n0.v] ++ [.ref l9]))) (.often n0 rs2) (.ref t) := ⟨t, l9, xs9, rfl, upd_same, sN2 _ _ hl9, rrs_mono sN2 hR9⟩
              have up2 := sm_trans g9.up sN2
              replace c1 := sm_up (o := .tup ([.str "often", n0.v] ++ [.ref l9])) ht _ _ c1
              replace D := D.put (u := .tup ([.str "often", n0.v] ++ [.ref l9])) ht
              generalize upd G2 t _ = G2 at *
              clear ht hu2 cu cv
              walk_at "lw go"
              refine ⟨by rw [sizeLine_eq]; simp, fun L2 hL2 => ?_⟩
              replace c1 := sm_up (o := .lst [V.ref t]) hL2 _ _ c1
              replace D := D.new (u := .lst [V.ref t]) hL2
              have c2 : upd G2 L2 (.lst [V.ref t]) L2 = some (.lst [V.ref t]) := upd_same
              generalize upd G2 L2 (.lst [V.ref t]) = G2 at *
              refine g_cat c1 c2 (by rw [sizeLine_eq, List.length_take]; simp; omega) fun L3 hL3 => ?_
              replace D := D.new (u := .lst (xs.take i ++ [V.ref t])) hL3
              have c3 : upd G2 L3 (.lst (xs.take i ++ [V.ref t])) L3 = some (.lst (xs.take i ++ [V.ref t])) := upd_same
              generalize upd G2 L3 (.lst (xs.take i ++ [V.ref t])) = G2 at *
              clear c1 c2 hL2 hL3
              walk_at "lw go"
              refine g_slL (SqL.of (D.grow.dn _ _ (up2 _ _ hl))) fun L4 hL4 => ?_
              rw [show ((i : Int) + 1) = ((i + 1 : Nat) : Int) from rfl, cut_from xs (i + 1) (by omega)]
              replace c3 := sm_up (o := .lst (xs.drop (i + 1))) hL4 _ _ c3
              replace D := D.new (u := .lst (xs.drop (i + 1))) hL4
              have c4 : upd G2 L4 (.lst (xs.drop (i + 1))) L4 = some (.lst (xs.drop (i + 1))) := upd_same
              generalize upd G2 L4 (.lst (xs.drop (i + 1))) = G2 at *
              refine g_cat c3 c4 (by rw [sizeLine_eq]; simp; omega) fun L5 hL5 => ?_
              rw [cat_set hi]
              have sN := sm_up (o := .lst (xs.set i (V.ref t))) (D.nn hL5)
              have D5 := D.put (u := .lst (xs.set i (V.ref t))) hL5
              obtain ⟨o9, hp9, hP9⟩ := D5.ap
              have zz := zRs_set (r' := (.often n0 rs2)) i hr
              have dd2 : dR (.often n0 rs2) ≤ dR (.often n0 b) := by simp only [dR]; omega
              have dd3 : dR (.often n0 rs2) ≤ dRs rs := by simp only [dR]; omega
              have zz2 : zR (.often n0 rs2) ≤ zR (.often n0 b) + 10 := by simp only [zR]; omega
              exact q L5 _ (rs.set i (.often n0 rs2)) o9 _ _ D5.keep hp9 (hP9.mono (by omega)) D5.grow upd_same (rrs_set i (rrs_mono sN (rrs_mono up2 hR)) (rr_mono (r := (.often n0 rs2)) sN hR2)) (lyRs_set (r := (.often n0 rs2)) (ly9) i hy) (dRs_set dd3 i (Nat.le_refl _)) (by omega)
            | cond f0 b c =>
              obtain ⟨pr', l2, l3, xs2, xs3, e9, ha, hl2, hl3, hb, hc⟩ := hRr
              cases e9
              simp only [dR, zR] at dr zr
              walk_at "lw go"
              refine ⟨pr, [V.str "if", f0.v, V.ref l2, V.ref l3], rfl, .inr (SqT.of (D.grow.dn _ _ ha)), ?_⟩
              walk_at "lw go"
              refine g_slL (SqL.of (D.grow.dn _ _ hl)) fun L1 hL1 => ?_
              rw [cut_to xs i (by omega)]
              have nL1 : L1 ≠ p := fun e => by
                obtain ⟨o9, h9, _⟩ := D.ap
                rw [e, h9] at hL1
                cases hL1
              replace D := D.new (u := .lst (xs.take i)) hL1
              have c1 : upd G L1 (.lst (xs.take i)) L1 = some (.lst (xs.take i)) := upd_same
              generalize upd G L1 (.lst (xs.take i)) = G at *
              clear hL1
              walk_at "lw go"
              refine ⟨pr, _, rfl, SqT.of (D.grow.dn _ _ ha), fun h => absurd h.2 (by show ¬ HT.sIx 4 4 (some (4 - 1)) = 4; decide), fun _ u1 hu1 => ?_⟩
              rw [show cutV [V.str "if", f0.v, V.ref l2, V.ref l3] none (some ((([V.str "if", f0.v, V.ref l2, V.ref l3]).length : Int) - 1)) = [V.str "if", f0.v, V.ref l2] from rfl]
              have nu1 : u1 ≠ p := fun e => by
                obtain ⟨o9, h9, _⟩ := D.ap
                rw [e, h9] at hu1
                cases hu1
              replace c1 := sm_up (o := .tup [.str "if", f0.v, .ref l2]) hu1 _ _ c1
              replace D := D.new (u := .tup [.str "if", f0.v, .ref l2]) hu1
              have cu : upd G u1 (.tup [.str "if", f0.v, .ref l2]) u1 = some (.tup [.str "if", f0.v, .ref l2]) := upd_same
              generalize upd G u1 (.tup [.str "if", f0.v, .ref l2]) = G at *
              clear hu1
              walk_at "lw go"
              refine g_ixT (SqT.of (D.grow.dn _ _ ha)) (v := .ref l3) rfl ?_
              walk_at "lw go"
              obtain ⟨o3, hp3, hP3⟩ := D.ap
              refine ⟨p, _, o3, l3, xs3, c, N, rfl, hp3, hP3, by omega, D.grow.dn, hN, hl3, hc, okr.2, lyr.2, by omega, by omega, by omega, fun l9 xs9 rs2 o4 G2 N2 k2 hp4 hP4 g9 hl9 hR9 ly9 d9 z9 => ?_⟩
              replace c1 := k2 L1 _ nL1 c1
              replace cu := k2 u1 _ nu1 cu
              replace D := D.call k2 hp4 hP4 g9
              clear k2 hp4 hP4 hp3 hP3 nL1 nu1
              refine ⟨by rw [sizeLine_eq]; simp, fun u2 hu2 => ?_⟩
              replace c1 := sm_up (o := .tup [.ref l9]) hu2 _ _ c1
              replace cu := sm_up (o := .tup [.ref l9]) hu2 _ _ cu
              replace D := D.new (u := .tup [.ref l9]) hu2
              have cv : upd G2 u2 (.tup [.ref l9]) u2 = some (.tup [.ref l9]) := upd_same
              generalize upd G2 u2 (.tup [.ref l9]) = G2 at *
              refine ⟨u1, u2, _, _, rfl, rfl, SqT.of cu, SqT.of cv, by rw [sizeLine_eq]; simp, fun z => (by cases z), fun _ z => (by cases z), fun _ _ t ht => ?_⟩
              have sN2 := sm_up (o := .tup ([.str "if", f0.v, .ref l2] ++ [.ref l9])) (D.nn ht)
              have hR2 : RR K (upd N2 t (.tup ([.str "if", f0.v, .ref l2] ++ [.ref l9]))) (.cond f0 b rs2) (.ref t) := ⟨t, l2, l9, xs2, xs9, rfl, upd_same, sN2 _ _ (g9.up _ _ hl2), sN2 _ _ hl9, rrs_mono sN2 (rrs_mono g9.up hb), rrs_mono sN2 hR9⟩
              have up2 := sm_trans g9.up sN2
              replace c1 := sm_up (o := .tup ([.str "if", f0.v, .ref l2] ++ [.ref l9])) ht _ _ c1
              replace D := D.put (u := .tup ([.str "if", f0.v, .ref l2] ++ [.ref l9])) ht
              generalize upd G2 t _ = G2 at *
              clear ht hu2 cu cv
              walk_at "lw go"
              refine ⟨by rw [sizeLine_eq]; simp, fun L2 hL2 => ?_⟩
              replace c1 := sm_up (o := .lst [V.ref t]) hL2 _ _ c1
              replace D := D.new (u := .lst [V.ref t]) hL2
              have c2 : upd G2 L2 (.lst [V.ref t]) L2 = some (.lst [V.ref t]) := upd_same
              generalize upd G2 L2 (.lst [V.ref t]) = G2 at *
              refine g_cat c1 c2 (by rw [sizeLine_eq, List.length_take]; simp; omega) fun L3 hL3 => ?_
              replace D := D.new (u := .lst (xs.take i ++ [V.ref t])) hL3
              have c3 : upd G2 L3 (.lst (xs.take i ++ [V.ref t])) L3 = some (.lst (xs.take i ++ [V.ref t])) := upd_same
              generalize upd G2 L3 (.lst (xs.take i ++ [V.ref t])) = G2 at *
              clear c1 c2 hL2 hL3
              walk_at "lw go"
              refine g_slL (SqL.of (D.grow.dn _ _ (up2 _ _ hl))) fun L4 hL4 => ?_
              rw [show ((i : Int) + 1) = ((i + 1 : Nat) : Int) from rfl, cut_from xs (i + 1) (by omega)]
              replace c3 := sm_up (o := .lst (xs.drop (i + 1))) hL4 _ _ c3
              replace D := D.new (u := .lst (xs.drop (i + 1))) hL4
              have c4 : upd G2 L4 (.lst (xs.drop (i + 1))) L4 = some (.lst (xs.drop (i + 1))) := upd_same
              generalize upd G2 L4 (.lst (xs.drop (i + 1))) = G2 at *
              refine g_cat c3 c4 (by rw [sizeLine_eq]; simp; omega) fun L5 hL5 => ?_
              rw [cat_set hi]
              have sN := sm_up (o := .lst (xs.set i (V.ref t))) (D.nn hL5)
              have D5 := D.put (u := .lst (xs.set i (V.ref t))) hL5
              obtain ⟨o9, hp9, hP9⟩ := D5.ap
              have zz := zRs_set (r' := (.cond f0 b rs2)) i hr
              have dd2 : dR (.cond f0 b rs2) ≤ dR (.cond f0 b c) := by simp only [dR]; omega
              have dd3 : dR (.cond f0 b rs2) ≤ dRs rs := by simp only [dR]; omega
              have zz2 : zR (.cond f0 b rs2) ≤ zR (.cond f0 b c) + 10 := by simp only [zR]; omega
              exact q L5 _ (rs.set i (.cond f0 b rs2)) o9 _ _ D5.keep hp9 (hP9.mono (by omega)) D5.grow upd_same (rrs_set i (rrs_mono sN (rrs_mono up2 hR)) (rr_mono (r := (.cond f0 b rs2)) sN hR2)) (lyRs_set (r := (.cond f0 b rs2)) (⟨lyr.1, ly9⟩) i hy) (dRs_set dd3 i (Nat.le_refl _)) (by omega)
          · skip
            walk_at "lw go"
            refine g_slL (SqL.of (D.grow.dn _ _ hl)) fun L1 hL1 => ?_
            rw [cut_to xs i (by omega)]
            have nL1 : L1 ≠ p := fun e => by
              obtain ⟨o9, h9, _⟩ := D.ap
              rw [e, h9] at hL1
              cases hL1
            replace D := D.new (u := .lst (xs.take i)) hL1
            have c1 : upd G L1 (.lst (xs.take i)) L1 = some (.lst (xs.take i)) := upd_same
            generalize upd G L1 (.lst (xs.take i)) = G at *
            clear hL1
            walk_at "lw go"
            obtain ⟨o3, hp3, hP3⟩ := D.ap
            refine ⟨p, _, o3, _, r, N, rfl, hp3, hP3, by omega, D.grow.dn, hN, hRr, okr, lyr, by omega, fun v2 r2 o4 G2 N2 k2 hp4 hP4 g2 hR2 ly2 d2 z2 => ?_⟩
            replace c1 := k2 L1 _ nL1 c1
            replace D := D.call k2 hp4 hP4 g2
            have up2 := g2.up
            clear k2 hp4 hP4 g2 hp3 hP3 nL1
            walk_at "lw go"
            refine ⟨by rw [sizeLine_eq]; simp, fun L2 hL2 => ?_⟩
            replace c1 := sm_up (o := .lst [v2]) hL2 _ _ c1
            replace D := D.new (u := .lst [v2]) hL2
            have c2 : upd G2 L2 (.lst [v2]) L2 = some (.lst [v2]) := upd_same
            generalize upd G2 L2 (.lst [v2]) = G2 at *
            refine g_cat c1 c2 (by rw [sizeLine_eq, List.length_take]; simp; omega) fun L3 hL3 => ?_
            replace D := D.new (u := .lst (xs.take i ++ [v2])) hL3
            have c3 : upd G2 L3 (.lst (xs.take i ++ [v2])) L3 = some (.lst (xs.take i ++ [v2])) := upd_same
            generalize upd G2 L3 (.lst (xs.take i ++ [v2])) = G2 at *
            clear c1 c2 hL2 hL3
            walk_at "lw go"
            refine g_slL (SqL.of (D.grow.dn _ _ (up2 _ _ hl))) fun L4 hL4 => ?_
            rw [show ((i : Int) + 1) = ((i + 1 : Nat) : Int) from rfl, cut_from xs (i + 1) (by omega)]
            replace c3 := sm_up (o := .lst (xs.drop (i + 1))) hL4 _ _ c3
            replace D := D.new (u := .lst (xs.drop (i + 1))) hL4
            have c4 : upd G2 L4 (.lst (xs.drop (i + 1))) L4 = some (.lst (xs.drop (i + 1))) := upd_same
            generalize upd G2 L4 (.lst (xs.drop (i + 1))) = G2 at *
            refine g_cat c3 c4 (by rw [sizeLine_eq]; simp; omega) fun L5 hL5 => ?_
            rw [cat_set hi]
            have sN := sm_up (o := .lst (xs.set i v2)) (D.nn hL5)
            have D5 := D.put (u := .lst (xs.set i v2)) hL5
            obtain ⟨o9, hp9, hP9⟩ := D5.ap
            have zz := zRs_set (r' := r2) i hr
            have dd2 : dR r2 ≤ dR r := by exact d2
            have dd3 : dR r2 ≤ dRs rs := by omega
            have zz2 : zR r2 ≤ zR r + 10 := by omega
            exact q L5 _ (rs.set i r2) o9 _ _ D5.keep hp9 (hP9.mono (by omega)) D5.grow upd_same (rrs_set i (rrs_mono sN (rrs_mono up2 hR)) (rr_mono (r := r2) sN hR2)) (lyRs_set (r := r2) (ly2) i hy) (dRs_set dd3 i (Nat.le_refl _)) (by omega)
abbrev N_law_great_right : List Str := ["_law_mark", "_law_move", "_law_rows_here", "_law_wide"]
theorem sc_law_great_right : FnScope N_law_great_right [] (defScope s_law_great_right) := ⟨rfl, rfl, rfl, by decide +kernel, rfl, by decide +kernel, by decide +kernel⟩
theorem ok_law_great_right (F : FnP K "_law_great_right" s_law_great_right f fd) (T : Bi mg) (G : Kn w K mg) (D_law_told : Df P w K mg base "_law_told" ["_law_way", "_law_rows_here"] 24 (spTold K)) (D_law_counts : Df P w K mg base "_law_counts" ["_law_rows_here"] 5 (spCounts K 4)) : FnOk P w K mg base CX0 25 f fd [] spGreat := by
  refine F.ok sc_law_great_right (fun vs H Q E h => ?_) (fun cdv A outer s H vs Q E hr h => ⟨_, PSs.nox
(pss_cons (ps_set (i := 0) sc_law_great_right.nd rfl (Or.inl rfl) (pe_tup (pa_cons pe_str (pa_cons pe_str (pa_cons pe_int (pa_cons pe_int (pa_cons pe_int pa_nil)))))))
  (pss_cons (ps_set (i := 1) sc_law_great_right.nd rfl (Or.inl rfl) (pe_tup (pa_cons pe_str (pa_cons pe_int (pa_cons pe_int pa_nil)))))
  (pss_cons (ps_for PassesOwn.never rfl (pi_list (pe_lst (pa_cons (pe_lst (pa_cons (pe_tup (pa_cons pe_str (pa_cons pe_int (pa_cons (pe_lst (pa_cons (pv 0) (pa_cons (pv 0) (pa_cons (pv 0) pa_nil)))) pa_nil)))) pa_nil)) (pa_cons (pe_lst (pa_cons (pe_tup (pa_cons pe_str (pa_cons pe_int (pa_cons (pe_op op_rep (pe_lst (pa_cons (pv 0) pa_nil)) pe_int) pa_nil)))) (pa_cons (pe_tup (pa_cons pe_str (pa_cons pe_int (pa_cons (pe_lst (pa_cons (pv 1) pa_nil)) (pa_cons (pe_lst (pa_cons (pv 0) pa_nil)) pa_nil))))) pa_nil))) pa_nil)))) (pg_name (i := 2) sc_law_great_right.nd rfl (Or.inl rfl))
  (pss_one (ps_if (pt_cmpR (op_neD hr.units) (pe_df D_law_told (hr.mono (by first | decide | omega)) (pa_cons pe_int (pa_cons (pv 2) pa_nil))) (pe_ix ix_list (pe_lst (pa_cons pe_non (pa_cons (pe_lst (pa_cons (pe_tup pa_nil) (pa_cons pe_str pa_nil))) pa_nil))) (pe_callTy call_int1 (by rfl) T.int (by decide +kernel) (pa_cons (pe_cmpR op_gt (pe_callB call_len_seq (by rfl) T.len (by decide +kernel) (pa_cons (pv 2) pa_nil)) pe_int (nomark _)) pa_nil)) (fun _ _ => rfl)) (nomark _))
  (pss_one (ps_ret pe_bl))
  pss_nil)))
  (pss_cons (ps_set (i := 3) sc_law_great_right.nd rfl (Or.inl rfl) (pe_lst (pa_cons (pe_tup (pa_cons pe_str (pa_cons pe_int (pa_cons (pe_lst (pa_cons (pe_tup (pa_cons pe_str (pa_cons pe_int (pa_cons (pe_op op_rep (pe_lst (pa_cons (pv 1) pa_nil)) pe_int) pa_nil)))) (pa_cons (pe_tup (pa_cons pe_str (pa_cons pe_int (pa_cons (pe_lst pa_nil) pa_nil)))) pa_nil))) pa_nil)))) (pa_cons (pe_tup (pa_cons pe_str (pa_cons pe_int (pa_cons (pe_op op_rep (pe_lst (pa_cons (pv 1) pa_nil)) pe_int) pa_nil)))) (pa_cons (pv 1) (pa_cons (pv 1) pa_nil))))))
  (pss_cons (ps_set (i := 3) sc_law_great_right.nd rfl (Or.inl rfl) (pe_op op_cat (pv 3) (pe_op op_rep (pe_lst (pa_cons (pv 1) pa_nil)) (pe_op op_sub pe_int (pe_ix ix_tup (pe_df D_law_counts (hr.mono (by first | decide | omega)) (pa_cons (pv 3) pa_nil)) pe_int (fun _ _ => rfl))))))
  (pss_one (ps_ret (pe_and (pe_cmpR op_isN (pe_df D_law_told (hr.mono (by first | decide | omega)) (pa_cons pe_int (pa_cons (pv 3) pa_nil))) pe_non (nomark _)) (pe_one (pe_cmpR (op_eqD hr.units) (pe_df D_law_told (hr.mono (by first | decide | omega)) (pa_cons pe_int (pa_cons (pe_op op_cat (pv 3) (pe_lst (pa_cons (pv 1) pa_nil))) pa_nil))) (pe_lst (pa_cons (pe_tup pa_nil) (pa_cons pe_str pa_nil))) (nomark _))))))))))), ?_⟩)
  · obtain ⟨rfl, _⟩ := h
    rfl
  · obtain ⟨rfl, q⟩ := h
    walk_at "lw i0"
    have s0 : Sm H H := fun _ _ h => h
    walk_at "lw go"
    refine ⟨by rw [sizeLine_eq]; simp, fun t1 h2 => ?_⟩
    obtain ⟨G3, e4⟩ : ∃ Gx, upd H t1 (.tup [.str "mark", .str "set", .int 1, .int 1, .int 0]) = Gx := ⟨_, rfl⟩
    have s5 : Sm H G3 := e4 ▸ sm_up h2
    have c6 : G3 t1 = some (.tup [.str "mark", .str "set", .int 1, .int 1, .int 0]) := e4 ▸ upd_same
    rw [e4]
    clear e4 h2
    have s0 := sm_trans s0 s5
    have hM : RR K G3 (Br.Row.mark "set" (.int 1) (.int 1) (.int 0)) (.ref t1) := ⟨_, rfl, c6⟩
    walk_at "lw go"
    refine ⟨by rw [sizeLine_eq]; simp, fun t7 h8 => ?_⟩
    obtain ⟨G9, e10⟩ : ∃ Gx, upd G3 t7 (.tup [.str "move", .int 1, .int 0]) = Gx := ⟨_, rfl⟩
    have s11 : Sm G3 G9 := e10 ▸ sm_up h8
    have c12 : G9 t7 = some (.tup [.str "move", .int 1, .int 0]) := e10 ▸ upd_same
    rw [e10]
    clear e10 h8
    have s0 := sm_trans s0 s11
    have hM := rr_mono s11 hM
    have hV : RR K G9 (Br.Row.move (.int 1) (.int 0)) (.ref t7) := ⟨_, rfl, c12⟩
    walk_at "lw go"
    refine ⟨by rw [sizeLine_eq]; simp, fun t13 h14 => ?_⟩
    obtain ⟨G15, e16⟩ : ∃ Gx, upd G9 t13 (.lst [.ref t1, .ref t1, .ref t1]) = Gx := ⟨_, rfl⟩
    have s17 : Sm G9 G15 := e16 ▸ sm_up h14
    have c18 : G15 t13 = some (.lst [.ref t1, .ref t1, .ref t1]) := e16 ▸ upd_same
    rw [e16]
    clear e16 h14
    have s0 := sm_trans s0 s17
    have hM := rr_mono s17 hM
    have hV := rr_mono s17 hV
    walk_at "lw go"
    refine ⟨by rw [sizeLine_eq]; simp, fun t19 h20 => ?_⟩
    obtain ⟨G21, e22⟩ : ∃ Gx, upd G15 t19 (.tup [.str "often", .int 20, .ref t13]) = Gx := ⟨_, rfl⟩
    have s23 : Sm G15 G21 := e22 ▸ sm_up h20
    have c24 : G21 t19 = some (.tup [.str "often", .int 20, .ref t13]) := e22 ▸ upd_same
    rw [e22]
    clear e22 h20
    have s0 := sm_trans s0 s23
    have hM := rr_mono s23 hM
    have hV := rr_mono s23 hV
    have c18 := s23 _ _ c18
    walk_at "lw go"
    refine ⟨by rw [sizeLine_eq]; simp, fun t25 h26 => ?_⟩
    obtain ⟨G27, e28⟩ : ∃ Gx, upd G21 t25 (.lst [.ref t19]) = Gx := ⟨_, rfl⟩
    have s29 : Sm G21 G27 := e28 ▸ sm_up h26
    have c30 : G27 t25 = some (.lst [.ref t19]) := e28 ▸ upd_same
    rw [e28]
    clear e28 h26
    have s0 := sm_trans s0 s29
    have hM := rr_mono s29 hM
    have hV := rr_mono s29 hV
    have c18 := s29 _ _ c18
    have c24 := s29 _ _ c24
    have hR1 : RRs K G27 [.often (.int 20) [(Br.Row.mark "set" (.int 1) (.int 1) (.int 0)), (Br.Row.mark "set" (.int 1) (.int 1) (.int 0)), (Br.Row.mark "set" (.int 1) (.int 1) (.int 0))]] [.ref t19] := ⟨_, _, rfl, ⟨_, _, _, rfl, c24, c18, _, _, rfl, hM, _, _, rfl, hM, _, _, rfl, hM, rfl⟩, rfl⟩
    walk_at "lw go"
    refine ⟨by rw [sizeLine_eq]; simp, fun t31 h32 => ?_⟩
    obtain ⟨G33, e34⟩ : ∃ Gx, upd G27 t31 (.lst [.ref t1]) = Gx := ⟨_, rfl⟩
    have s35 : Sm G27 G33 := e34 ▸ sm_up h32
    have c36 : G33 t31 = some (.lst [.ref t1]) := e34 ▸ upd_same
    rw [e34]
    clear e34 h32
    have s0 := sm_trans s0 s35
    have hM := rr_mono s35 hM
    have hV := rr_mono s35 hV
    have c30 := s35 _ _ c30
    have hR1 := rrs_mono s35 hR1
    walk_at "lw go"
    refine ⟨t31, 3, _, rfl, rfl, c36, by decide, by decide, by rw [sizeLine_eq]; show 1 * Int.toNat 3 ≤ 16777216; decide, fun t37 h38 => ?_⟩
    rw [show (List.replicate (Int.toNat 3) [V.ref t1]).flatten = List.replicate 3 (V.ref t1) from List.flatten_replicate_singleton]
    obtain ⟨G39, e40⟩ : ∃ Gx, upd G33 t37 (.lst (List.replicate 3 (V.ref t1))) = Gx := ⟨_, rfl⟩
    have s41 : Sm G33 G39 := e40 ▸ sm_up h38
    have c42 : G39 t37 = some (.lst (List.replicate 3 (V.ref t1))) := e40 ▸ upd_same
    rw [e40]
    clear e40 h38
    have s0 := sm_trans s0 s41
    have hM := rr_mono s41 hM
    have hV := rr_mono s41 hV
    have c30 := s41 _ _ c30
    have hR1 := rrs_mono s41 hR1
    have c36 := s41 _ _ c36
    walk_at "lw go"
    refine ⟨by rw [sizeLine_eq]; simp, fun t43 h44 => ?_⟩
    obtain ⟨G45, e46⟩ : ∃ Gx, upd G39 t43 (.tup [.str "often", .int 20, .ref t37]) = Gx := ⟨_, rfl⟩
    have s47 : Sm G39 G45 := e46 ▸ sm_up h44
    have c48 : G45 t43 = some (.tup [.str "often", .int 20, .ref t37]) := e46 ▸ upd_same
    rw [e46]
    clear e46 h44
    have s0 := sm_trans s0 s47
    have hM := rr_mono s47 hM
    have hV := rr_mono s47 hV
    have c30 := s47 _ _ c30
    have hR1 := rrs_mono s47 hR1
    have c42 := s47 _ _ c42
    walk_at "lw go"
    refine ⟨by rw [sizeLine_eq]; simp, fun t49 h50 => ?_⟩
    obtain ⟨G51, e52⟩ : ∃ Gx, upd G45 t49 (.lst [.ref t7]) = Gx := ⟨_, rfl⟩
    have s53 : Sm G45 G51 := e52 ▸ sm_up h50
    have c54 : G51 t49 = some (.lst [.ref t7]) := e52 ▸ upd_same
    rw [e52]
    clear e52 h50
    have s0 := sm_trans s0 s53
    have hM := rr_mono s53 hM
    have hV := rr_mono s53 hV
    have c30 := s53 _ _ c30
    have hR1 := rrs_mono s53 hR1
    have c42 := s53 _ _ c42
    have c48 := s53 _ _ c48
    walk_at "lw go"
    refine ⟨by rw [sizeLine_eq]; simp, fun t55 h56 => ?_⟩
    obtain ⟨G57, e58⟩ : ∃ Gx, upd G51 t55 (.lst [.ref t1]) = Gx := ⟨_, rfl⟩
    have s59 : Sm G51 G57 := e58 ▸ sm_up h56
    have c60 : G57 t55 = some (.lst [.ref t1]) := e58 ▸ upd_same
    rw [e58]
    clear e58 h56
    have s0 := sm_trans s0 s59
    have hM := rr_mono s59 hM
    have hV := rr_mono s59 hV
    have c30 := s59 _ _ c30
    have hR1 := rrs_mono s59 hR1
    have c42 := s59 _ _ c42
    have c48 := s59 _ _ c48
    have c54 := s59 _ _ c54
    walk_at "lw go"
    refine ⟨by rw [sizeLine_eq]; simp, fun t61 h62 => ?_⟩
    obtain ⟨G63, e64⟩ : ∃ Gx, upd G57 t61 (.tup [.str "if", .int 0, .ref t49, .ref t55]) = Gx := ⟨_, rfl⟩
    have s65 : Sm G57 G63 := e64 ▸ sm_up h62
    have c66 : G63 t61 = some (.tup [.str "if", .int 0, .ref t49, .ref t55]) := e64 ▸ upd_same
    rw [e64]
    clear e64 h62
    have s0 := sm_trans s0 s65
    have hM := rr_mono s65 hM
    have hV := rr_mono s65 hV
    have c30 := s65 _ _ c30
    have hR1 := rrs_mono s65 hR1
    have c42 := s65 _ _ c42
    have c48 := s65 _ _ c48
    have c54 := s65 _ _ c54
    have c60 := s65 _ _ c60
    walk_at "lw go"
    refine ⟨by rw [sizeLine_eq]; simp, fun t67 h68 => ?_⟩
    obtain ⟨G69, e70⟩ : ∃ Gx, upd G63 t67 (.lst [.ref t43, .ref t61]) = Gx := ⟨_, rfl⟩
    have s71 : Sm G63 G69 := e70 ▸ sm_up h68
    have c72 : G69 t67 = some (.lst [.ref t43, .ref t61]) := e70 ▸ upd_same
    rw [e70]
    clear e70 h68
    have s0 := sm_trans s0 s71
    have hM := rr_mono s71 hM
    have hV := rr_mono s71 hV
    have c30 := s71 _ _ c30
    have hR1 := rrs_mono s71 hR1
    have c42 := s71 _ _ c42
    have c48 := s71 _ _ c48
    have c54 := s71 _ _ c54
    have c60 := s71 _ _ c60
    have c66 := s71 _ _ c66
    have hR2 : RRs K G69 [.often (.int 20) (List.replicate 3 (Br.Row.mark "set" (.int 1) (.int 1) (.int 0))), .cond (.int 0) [(Br.Row.move (.int 1) (.int 0))] [(Br.Row.mark "set" (.int 1) (.int 1) (.int 0))]] [.ref t43, .ref t61] := ⟨_, _, rfl, ⟨_, _, _, rfl, c48, c42, rrs_rep hM 3⟩, _, _, rfl, ⟨_, _, _, _, _, rfl, c66, c54, c60, ⟨_, _, rfl, hV, rfl⟩, ⟨_, _, rfl, hM, rfl⟩⟩, rfl⟩
    walk_at "lw go"
    refine ⟨by rw [sizeLine_eq]; simp, fun t73 h74 => ?_⟩
    obtain ⟨G75, e76⟩ : ∃ Gx, upd G69 t73 (.lst [.ref t25, .ref t67]) = Gx := ⟨_, rfl⟩
    have s77 : Sm G69 G75 := e76 ▸ sm_up h74
    have c78 : G75 t73 = some (.lst [.ref t25, .ref t67]) := e76 ▸ upd_same
    rw [e76]
    clear e76 h74
    have s0 := sm_trans s0 s77
    have hM := rr_mono s77 hM
    have hV := rr_mono s77 hV
    have c30 := s77 _ _ c30
    have hR1 := rrs_mono s77 hR1
    have c72 := s77 _ _ c72
    have hR2 := rrs_mono s77 hR2
    refine ⟨t73, rfl, ⟨_, SqL.of c78⟩, for_list (xs := [.ref t25, .ref t67]) (fun _ σ H' => ∃ o2 : Option V, σ = [some (.ref t1), some (.ref t7), o2, none] ∧ Sm G75 H') ⟨none, rfl, fun _ _ h => h⟩ (fun _ _ _ _ ⟨_, _, s⟩ => SqL.of (s _ _ c78)) ?_ ?_⟩
    · rintro i x σ G hx ⟨o2, rfl, s⟩
      have hM := rr_mono s hM
      have hV := rr_mono s hV
      have c30 := s _ _ c30
      have hR1 := rrs_mono s hR1
      have c72 := s _ _ c72
      have hR2 := rrs_mono s hR2
      have c78 := s _ _ c78
      clear s0
      rcases (show i = 0 ∨ i = 1 by have := (List.getElem?_eq_some_iff.mp hx).1; simp at this; omega) with rfl | rfl
      · cases hx
        walk_at "lw go"
        refine ⟨0, t25, _, [.often (.int 20) [(Br.Row.mark "set" (.int 1) (.int 1) (.int 0)), (Br.Row.mark "set" (.int 1) (.int 1) (.int 0)), (Br.Row.mark "set" (.int 1) (.int 1) (.int 0))]], rfl, c30, hR1, by decide +kernel, by decide +kernel, fun _ _ H2 s2 => ?_, fun _ z => absurd rfl z, fun p y z => absurd (z.symm.trans (show faultB [.often (.int 20) [(Br.Row.mark "set" (.int 1) (.int 1) (.int 0)), (Br.Row.mark "set" (.int 1) (.int 1) (.int 0)), (Br.Row.mark "set" (.int 1) (.int 1) (.int 0))]] = none by decide +kernel)) (by simp)⟩
        have hM := rr_mono s2 hM
        have hV := rr_mono s2 hV
        have c30 := s2 _ _ c30
        have hR1 := rrs_mono s2 hR1
        have c72 := s2 _ _ c72
        have hR2 := rrs_mono s2 hR2
        have sq := sm_trans s s2
        walk_at "lw go"
        refine ⟨by show 0 ≤ sizeLine; decide, fun t79 h80 => ?_⟩
        obtain ⟨G81, e82⟩ : ∃ Gx, upd H2 t79 (.tup []) = Gx := ⟨_, rfl⟩
        have s83 : Sm H2 G81 := e82 ▸ sm_up h80
        have c84 : G81 t79 = some (.tup []) := e82 ▸ upd_same
        rw [e82]
        clear e82 h80
        have hM := rr_mono s83 hM
        have hV := rr_mono s83 hV
        have c30 := s83 _ _ c30
        have hR1 := rrs_mono s83 hR1
        have c72 := s83 _ _ c72
        have hR2 := rrs_mono s83 hR2
        have sq := sm_trans sq s83
        walk_at "lw go"
        refine ⟨by rw [sizeLine_eq]; simp, fun t85 h86 => ?_⟩
        obtain ⟨G87, e88⟩ : ∃ Gx, upd G81 t85 (.lst [.ref t79, .str "great"]) = Gx := ⟨_, rfl⟩
        have s89 : Sm G81 G87 := e88 ▸ sm_up h86
        have c90 : G87 t85 = some (.lst [.ref t79, .str "great"]) := e88 ▸ upd_same
        rw [e88]
        clear e88 h86
        have hM := rr_mono s89 hM
        have hV := rr_mono s89 hV
        have c30 := s89 _ _ c30
        have hR1 := rrs_mono s89 hR1
        have c72 := s89 _ _ c72
        have hR2 := rrs_mono s89 hR2
        have sq := sm_trans sq s89
        have c84 := s89 _ _ c84
        walk_at "lw go"
        refine ⟨by rw [sizeLine_eq]; simp, fun t91 h92 => ?_⟩
        obtain ⟨G93, e94⟩ : ∃ Gx, upd G87 t91 (.lst [.non, .ref t85]) = Gx := ⟨_, rfl⟩
        have s95 : Sm G87 G93 := e94 ▸ sm_up h92
        have c96 : G93 t91 = some (.lst [.non, .ref t85]) := e94 ▸ upd_same
        rw [e94]
        clear e94 h92
        have hM := rr_mono s95 hM
        have hV := rr_mono s95 hV
        have c30 := s95 _ _ c30
        have hR1 := rrs_mono s95 hR1
        have c72 := s95 _ _ c72
        have hR2 := rrs_mono s95 hR2
        have sq := sm_trans sq s95
        have c84 := s95 _ _ c84
        have c90 := s95 _ _ c90
        walk_at "lw go"
        refine ⟨t25, _, rfl, .inl (SqL.of c30), ?_⟩
        walk_at "lw go"
        refine .inr ⟨_, rfl, ?_⟩
        refine g_ixL (SqL.of c96) (v := .non) rfl ?_
        refine ⟨.none, .none, .non, .non, by decide +kernel, by decide +kernel, ?_⟩
        refine bl_is (c := false) (by decide +kernel) (iteF ?_)
        walk_at "lw go"
        exact ⟨_, rfl, sq⟩
      · cases hx
        walk_at "lw go"
        refine ⟨0, t67, _, [.often (.int 20) (List.replicate 3 (Br.Row.mark "set" (.int 1) (.int 1) (.int 0))), .cond (.int 0) [(Br.Row.move (.int 1) (.int 0))] [(Br.Row.mark "set" (.int 1) (.int 1) (.int 0))]], rfl, c72, hR2, by decide +kernel, by decide +kernel, fun z => absurd (z.symm.trans (show faultB [.often (.int 20) (List.replicate 3 (Br.Row.mark "set" (.int 1) (.int 1) (.int 0))), .cond (.int 0) [(Br.Row.move (.int 1) (.int 0))] [(Br.Row.mark "set" (.int 1) (.int 1) (.int 0))]] = some (([] : List Int), ("great" : Str)) by decide +kernel)) (by simp), fun _ z => absurd rfl z, fun p y z a9 t9 H2 s2 ha9 ht9 => ?_⟩
        obtain ⟨rfl, rfl⟩ : p = [] ∧ y = "great" := by
          have e := z.symm.trans (show faultB [.often (.int 20) (List.replicate 3 (Br.Row.mark "set" (.int 1) (.int 1) (.int 0))), .cond (.int 0) [(Br.Row.move (.int 1) (.int 0))] [(Br.Row.mark "set" (.int 1) (.int 1) (.int 0))]] = some (([] : List Int), ("great" : Str)) by decide +kernel)
          simpa using e
        have hM := rr_mono s2 hM
        have hV := rr_mono s2 hV
        have c30 := s2 _ _ c30
        have hR1 := rrs_mono s2 hR1
        have c72 := s2 _ _ c72
        have hR2 := rrs_mono s2 hR2
        have sq := sm_trans s s2
        walk_at "lw go"
        refine ⟨by show 0 ≤ sizeLine; decide, fun t97 h98 => ?_⟩
        obtain ⟨G99, e100⟩ : ∃ Gx, upd H2 t97 (.tup []) = Gx := ⟨_, rfl⟩
        have s101 : Sm H2 G99 := e100 ▸ sm_up h98
        have c102 : G99 t97 = some (.tup []) := e100 ▸ upd_same
        rw [e100]
        clear e100 h98
        have hM := rr_mono s101 hM
        have hV := rr_mono s101 hV
        have c30 := s101 _ _ c30
        have hR1 := rrs_mono s101 hR1
        have c72 := s101 _ _ c72
        have hR2 := rrs_mono s101 hR2
        have ha9 := s101 _ _ ha9
        have ht9 := s101 _ _ ht9
        have sq := sm_trans sq s101
        walk_at "lw go"
        refine ⟨by rw [sizeLine_eq]; simp, fun t103 h104 => ?_⟩
        obtain ⟨G105, e106⟩ : ∃ Gx, upd G99 t103 (.lst [.ref t97, .str "great"]) = Gx := ⟨_, rfl⟩
        have s107 : Sm G99 G105 := e106 ▸ sm_up h104
        have c108 : G105 t103 = some (.lst [.ref t97, .str "great"]) := e106 ▸ upd_same
        rw [e106]
        clear e106 h104
        have hM := rr_mono s107 hM
        have hV := rr_mono s107 hV
        have c30 := s107 _ _ c30
        have hR1 := rrs_mono s107 hR1
        have c72 := s107 _ _ c72
        have hR2 := rrs_mono s107 hR2
        have ha9 := s107 _ _ ha9
        have ht9 := s107 _ _ ht9
        have sq := sm_trans sq s107
        have c102 := s107 _ _ c102
        walk_at "lw go"
        refine ⟨by rw [sizeLine_eq]; simp, fun t109 h110 => ?_⟩
        obtain ⟨G111, e112⟩ : ∃ Gx, upd G105 t109 (.lst [.non, .ref t103]) = Gx := ⟨_, rfl⟩
        have s113 : Sm G105 G111 := e112 ▸ sm_up h110
        have c114 : G111 t109 = some (.lst [.non, .ref t103]) := e112 ▸ upd_same
        rw [e112]
        clear e112 h110
        have hM := rr_mono s113 hM
        have hV := rr_mono s113 hV
        have c30 := s113 _ _ c30
        have hR1 := rrs_mono s113 hR1
        have c72 := s113 _ _ c72
        have hR2 := rrs_mono s113 hR2
        have ha9 := s113 _ _ ha9
        have ht9 := s113 _ _ ht9
        have sq := sm_trans sq s113
        have c102 := s113 _ _ c102
        have c108 := s113 _ _ c108
        walk_at "lw go"
        refine ⟨t67, _, rfl, .inl (SqL.of c72), ?_⟩
        walk_at "lw go"
        refine .inr ⟨_, rfl, ?_⟩
        refine g_ixL (SqL.of c114) (v := .ref t103) rfl ?_
        refine ⟨.list [.tuple [], .str "great"], .list [.tuple [], .str "great"], .lst (SqL.of ha9) (.cons (.tup (SqT.of ht9) .nil) (.cons (.str _) .nil)), .lst (SqL.of c108) (.cons (.tup (SqT.of c102) .nil) (.cons (.str _) .nil)), by decide +kernel, by decide +kernel, ?_⟩
        refine bl_is (c := false) (by decide +kernel) (iteF ?_)
        walk_at "lw go"
        exact ⟨_, rfl, sq⟩
    · rintro σ G ⟨o2, rfl, s⟩
      have sq := sm_trans s0 s
      have hM := rr_mono s hM
      have hV := rr_mono s hV
      walk_at "lw go"
      refine ⟨by rw [sizeLine_eq]; simp, fun t115 h116 => ?_⟩
      obtain ⟨G117, e118⟩ : ∃ Gx, upd G t115 (.lst [.ref t7]) = Gx := ⟨_, rfl⟩
      have s119 : Sm G G117 := e118 ▸ sm_up h116
      have c120 : G117 t115 = some (.lst [.ref t7]) := e118 ▸ upd_same
      rw [e118]
      clear e118 h116
      have hM := rr_mono s119 hM
      have hV := rr_mono s119 hV
      have sq := sm_trans sq s119
      walk_at "lw go"
      refine ⟨t115, 4, _, rfl, rfl, c120, by decide, by decide, by rw [sizeLine_eq]; show 1 * Int.toNat 4 ≤ 16777216; decide, fun t121 h122 => ?_⟩
      rw [show (List.replicate (Int.toNat 4) [V.ref t7]).flatten = List.replicate 4 (V.ref t7) from List.flatten_replicate_singleton]
      obtain ⟨G123, e124⟩ : ∃ Gx, upd G117 t121 (.lst (List.replicate 4 (V.ref t7))) = Gx := ⟨_, rfl⟩
      have s125 : Sm G117 G123 := e124 ▸ sm_up h122
      have c126 : G123 t121 = some (.lst (List.replicate 4 (V.ref t7))) := e124 ▸ upd_same
      rw [e124]
      clear e124 h122
      have hM := rr_mono s125 hM
      have hV := rr_mono s125 hV
      have sq := sm_trans sq s125
      have c120 := s125 _ _ c120
      walk_at "lw go"
      refine ⟨by rw [sizeLine_eq]; simp, fun t127 h128 => ?_⟩
      obtain ⟨G129, e130⟩ : ∃ Gx, upd G123 t127 (.tup [.str "often", .int 20, .ref t121]) = Gx := ⟨_, rfl⟩
      have s131 : Sm G123 G129 := e130 ▸ sm_up h128
      have c132 : G129 t127 = some (.tup [.str "often", .int 20, .ref t121]) := e130 ▸ upd_same
      rw [e130]
      clear e130 h128
      have hM := rr_mono s131 hM
      have hV := rr_mono s131 hV
      have sq := sm_trans sq s131
      have c126 := s131 _ _ c126
      walk_at "lw go"
      refine ⟨by show 0 ≤ sizeLine; decide, fun t133 h134 => ?_⟩
      obtain ⟨G135, e136⟩ : ∃ Gx, upd G129 t133 (.lst []) = Gx := ⟨_, rfl⟩
      have s137 : Sm G129 G135 := e136 ▸ sm_up h134
      have c138 : G135 t133 = some (.lst []) := e136 ▸ upd_same
      rw [e136]
      clear e136 h134
      have hM := rr_mono s137 hM
      have hV := rr_mono s137 hV
      have sq := sm_trans sq s137
      have c126 := s137 _ _ c126
      have c132 := s137 _ _ c132
      walk_at "lw go"
      refine ⟨by rw [sizeLine_eq]; simp, fun t139 h140 => ?_⟩
      obtain ⟨G141, e142⟩ : ∃ Gx, upd G135 t139 (.tup [.str "often", .int 20, .ref t133]) = Gx := ⟨_, rfl⟩
      have s143 : Sm G135 G141 := e142 ▸ sm_up h140
      have c144 : G141 t139 = some (.tup [.str "often", .int 20, .ref t133]) := e142 ▸ upd_same
      rw [e142]
      clear e142 h140
      have hM := rr_mono s143 hM
      have hV := rr_mono s143 hV
      have sq := sm_trans sq s143
      have c126 := s143 _ _ c126
      have c132 := s143 _ _ c132
      have c138 := s143 _ _ c138
      walk_at "lw go"
      refine ⟨by rw [sizeLine_eq]; simp, fun t145 h146 => ?_⟩
      obtain ⟨G147, e148⟩ : ∃ Gx, upd G141 t145 (.lst [.ref t127, .ref t139]) = Gx := ⟨_, rfl⟩
      have s149 : Sm G141 G147 := e148 ▸ sm_up h146
      have c150 : G147 t145 = some (.lst [.ref t127, .ref t139]) := e148 ▸ upd_same
      rw [e148]
      clear e148 h146
      have hM := rr_mono s149 hM
      have hV := rr_mono s149 hV
      have sq := sm_trans sq s149
      have c126 := s149 _ _ c126
      have c132 := s149 _ _ c132
      have c138 := s149 _ _ c138
      have c144 := s149 _ _ c144
      walk_at "lw go"
      refine ⟨by rw [sizeLine_eq]; simp, fun t151 h152 => ?_⟩
      obtain ⟨G153, e154⟩ : ∃ Gx, upd G147 t151 (.tup [.str "often", .int 19, .ref t145]) = Gx := ⟨_, rfl⟩
      have s155 : Sm G147 G153 := e154 ▸ sm_up h152
      have c156 : G153 t151 = some (.tup [.str "often", .int 19, .ref t145]) := e154 ▸ upd_same
      rw [e154]
      clear e154 h152
      have hM := rr_mono s155 hM
      have hV := rr_mono s155 hV
      have sq := sm_trans sq s155
      have c126 := s155 _ _ c126
      have c132 := s155 _ _ c132
      have c138 := s155 _ _ c138
      have c144 := s155 _ _ c144
      have c150 := s155 _ _ c150
      walk_at "lw go"
      refine ⟨by rw [sizeLine_eq]; simp, fun t157 h158 => ?_⟩
      obtain ⟨G159, e160⟩ : ∃ Gx, upd G153 t157 (.lst [.ref t7]) = Gx := ⟨_, rfl⟩
      have s161 : Sm G153 G159 := e160 ▸ sm_up h158
      have c162 : G159 t157 = some (.lst [.ref t7]) := e160 ▸ upd_same
      rw [e160]
      clear e160 h158
      have hM := rr_mono s161 hM
      have hV := rr_mono s161 hV
      have sq := sm_trans sq s161
      have c126 := s161 _ _ c126
      have c132 := s161 _ _ c132
      have c138 := s161 _ _ c138
      have c144 := s161 _ _ c144
      have c150 := s161 _ _ c150
      have c156 := s161 _ _ c156
      walk_at "lw go"
      refine ⟨t157, 20, _, rfl, rfl, c162, by decide, by decide, by rw [sizeLine_eq]; show 1 * Int.toNat 20 ≤ 16777216; decide, fun t163 h164 => ?_⟩
      rw [show (List.replicate (Int.toNat 20) [V.ref t7]).flatten = List.replicate 20 (V.ref t7) from List.flatten_replicate_singleton]
      obtain ⟨G165, e166⟩ : ∃ Gx, upd G159 t163 (.lst (List.replicate 20 (V.ref t7))) = Gx := ⟨_, rfl⟩
      have s167 : Sm G159 G165 := e166 ▸ sm_up h164
      have c168 : G165 t163 = some (.lst (List.replicate 20 (V.ref t7))) := e166 ▸ upd_same
      rw [e166]
      clear e166 h164
      have hM := rr_mono s167 hM
      have hV := rr_mono s167 hV
      have sq := sm_trans sq s167
      have c126 := s167 _ _ c126
      have c132 := s167 _ _ c132
      have c138 := s167 _ _ c138
      have c144 := s167 _ _ c144
      have c150 := s167 _ _ c150
      have c156 := s167 _ _ c156
      have c162 := s167 _ _ c162
      walk_at "lw go"
      refine ⟨by rw [sizeLine_eq]; simp, fun t169 h170 => ?_⟩
      obtain ⟨G171, e172⟩ : ∃ Gx, upd G165 t169 (.tup [.str "often", .int 18, .ref t163]) = Gx := ⟨_, rfl⟩
      have s173 : Sm G165 G171 := e172 ▸ sm_up h170
      have c174 : G171 t169 = some (.tup [.str "often", .int 18, .ref t163]) := e172 ▸ upd_same
      rw [e172]
      clear e172 h170
      have hM := rr_mono s173 hM
      have hV := rr_mono s173 hV
      have sq := sm_trans sq s173
      have c126 := s173 _ _ c126
      have c132 := s173 _ _ c132
      have c138 := s173 _ _ c138
      have c144 := s173 _ _ c144
      have c150 := s173 _ _ c150
      have c156 := s173 _ _ c156
      have c168 := s173 _ _ c168
      walk_at "lw go"
      refine ⟨by rw [sizeLine_eq]; simp, fun t175 h176 => ?_⟩
      obtain ⟨G177, e178⟩ : ∃ Gx, upd G171 t175 (.lst [.ref t151, .ref t169, .ref t7, .ref t7]) = Gx := ⟨_, rfl⟩
      have s179 : Sm G171 G177 := e178 ▸ sm_up h176
      have c180 : G177 t175 = some (.lst [.ref t151, .ref t169, .ref t7, .ref t7]) := e178 ▸ upd_same
      rw [e178]
      clear e178 h176
      have hM := rr_mono s179 hM
      have hV := rr_mono s179 hV
      have sq := sm_trans sq s179
      have c126 := s179 _ _ c126
      have c132 := s179 _ _ c132
      have c138 := s179 _ _ c138
      have c144 := s179 _ _ c144
      have c150 := s179 _ _ c150
      have c156 := s179 _ _ c156
      have c168 := s179 _ _ c168
      have c174 := s179 _ _ c174
      have hW : RRs K G177 [.often (.int 19) [.often (.int 20) (List.replicate 4 (Br.Row.move (.int 1) (.int 0))), .often (.int 20) []], .often (.int 18) (List.replicate 20 (Br.Row.move (.int 1) (.int 0))), (Br.Row.move (.int 1) (.int 0)), (Br.Row.move (.int 1) (.int 0))] [V.ref t151, V.ref t169, V.ref t7, V.ref t7] := ⟨_, _, rfl, ⟨_, _, _, rfl, c156, c150, ⟨_, _, rfl, ⟨_, _, _, rfl, c132, c126, rrs_rep hV 4⟩, _, _, rfl, ⟨_, _, _, rfl, c144, c138, rfl⟩, rfl⟩⟩, _, _, rfl, ⟨_, _, _, rfl, c174, c168, rrs_rep hV 20⟩, _, _, rfl, hV, _, _, rfl, hV, rfl⟩
      walk_at "lw go"
      refine ⟨by rw [sizeLine_eq]; simp, fun t181 h182 => ?_⟩
      obtain ⟨G183, e184⟩ : ∃ Gx, upd G177 t181 (.lst [.ref t7]) = Gx := ⟨_, rfl⟩
      have s185 : Sm G177 G183 := e184 ▸ sm_up h182
      have c186 : G183 t181 = some (.lst [.ref t7]) := e184 ▸ upd_same
      rw [e184]
      clear e184 h182
      have hM := rr_mono s185 hM
      have hV := rr_mono s185 hV
      have sq := sm_trans sq s185
      have c180 := s185 _ _ c180
      have hW := rrs_mono s185 hW
      walk_at "lw go"
      have fW : fRs [.often (.int 19) [.often (.int 20) (List.replicate 4 (Br.Row.move (.int 1) (.int 0))), .often (.int 20) []], .often (.int 18) (List.replicate 20 (Br.Row.move (.int 1) (.int 0))), (Br.Row.move (.int 1) (.int 0)), (Br.Row.move (.int 1) (.int 0))] 0 = none := by decide +kernel
      refine ⟨t175, _, _, rfl, c180, hW, oks_none fW, by decide +kernel, fun p2 H2 s2 hp2 => ?_⟩
      have hM := rr_mono s2 hM
      have hV := rr_mono s2 hV
      have sq := sm_trans sq s2
      have c180 := s2 _ _ c180
      have hW := rrs_mono s2 hW
      have c186 := s2 _ _ c186
      have mW : (mRs [.often (.int 19) [.often (.int 20) (List.replicate 4 (Br.Row.move (.int 1) (.int 0))), .often (.int 20) []], .often (.int 18) (List.replicate 20 (Br.Row.move (.int 1) (.int 0))), (Br.Row.move (.int 1) (.int 0)), (Br.Row.move (.int 1) (.int 0))]).2 = 1922 := by decide +kernel
      rw [mW] at hp2
      walk_at "lw go"
      refine g_ixT (SqT.of hp2) (v := .int 1922) (atI_nat (j := 1) (by rfl)) ?_
      walk_at "lw go"
      refine ⟨t181, _, _, rfl, rfl, c186, by decide, by decide, by rw [sizeLine_eq]; show 1 * Int.toNat (2000 - 1922) ≤ 16777216; decide, fun t187 h188 => ?_⟩
      rw [show (List.replicate (Int.toNat (2000 - 1922)) [V.ref t7]).flatten = List.replicate 78 (V.ref t7) from List.flatten_replicate_singleton]
      obtain ⟨G189, e190⟩ : ∃ Gx, upd H2 t187 (.lst (List.replicate 78 (V.ref t7))) = Gx := ⟨_, rfl⟩
      have s191 : Sm H2 G189 := e190 ▸ sm_up h188
      have c192 : G189 t187 = some (.lst (List.replicate 78 (V.ref t7))) := e190 ▸ upd_same
      rw [e190]
      clear e190 h188
      have hM := rr_mono s191 hM
      have hV := rr_mono s191 hV
      have sq := sm_trans sq s191
      have c180 := s191 _ _ c180
      have hW := rrs_mono s191 hW
      have c186 := s191 _ _ c186
      have hW2 := rrs_cat hW (rrs_rep hV 78)
      walk_at "lw go"
      refine g_cat c180 c192 (by rw [sizeLine_eq]; simp) fun t193 h194 => ?_
      obtain ⟨G195, e196⟩ : ∃ Gx, upd G189 t193 (.lst ([V.ref t151, V.ref t169, V.ref t7, V.ref t7] ++ List.replicate 78 (V.ref t7))) = Gx := ⟨_, rfl⟩
      have s197 : Sm G189 G195 := e196 ▸ sm_up h194
      have c198 : G195 t193 = some (.lst ([V.ref t151, V.ref t169, V.ref t7, V.ref t7] ++ List.replicate 78 (V.ref t7))) := e196 ▸ upd_same
      rw [e196]
      clear e196 h194
      have hM := rr_mono s197 hM
      have hV := rr_mono s197 hV
      have sq := sm_trans sq s197
      have c180 := s197 _ _ c180
      have c186 := s197 _ _ c186
      have c192 := s197 _ _ c192
      have hW2 := rrs_mono s197 hW2
      walk_at "lw go"
      refine ⟨0, t193, _, _, rfl, c198, hW2, by decide +kernel, by decide +kernel, fun _ _ H3 s3 => ?_, fun _ z => absurd rfl z, fun p y z => absurd (z.symm.trans (show faultB ([.often (.int 19) [.often (.int 20) (List.replicate 4 (Br.Row.move (.int 1) (.int 0))), .often (.int 20) []], .often (.int 18) (List.replicate 20 (Br.Row.move (.int 1) (.int 0))), (Br.Row.move (.int 1) (.int 0)), (Br.Row.move (.int 1) (.int 0))] ++ List.replicate 78 (Br.Row.move (.int 1) (.int 0))) = none by decide +kernel)) (by simp)⟩
      have hM := rr_mono s3 hM
      have hV := rr_mono s3 hV
      have sq := sm_trans sq s3
      have hW2 := rrs_mono s3 hW2
      have c198 := s3 _ _ c198
      walk_at "lw go"
      refine ⟨rfl, bl_is (c := true) (by simp) (iteT ?_)⟩
      walk_at "lw go"
      refine ⟨by rw [sizeLine_eq]; simp, fun t199 h200 => ?_⟩
      obtain ⟨G201, e202⟩ : ∃ Gx, upd H3 t199 (.lst [.ref t7]) = Gx := ⟨_, rfl⟩
      have s203 : Sm H3 G201 := e202 ▸ sm_up h200
      have c204 : G201 t199 = some (.lst [.ref t7]) := e202 ▸ upd_same
      rw [e202]
      clear e202 h200
      have hM := rr_mono s203 hM
      have hV := rr_mono s203 hV
      have sq := sm_trans sq s203
      have hW2 := rrs_mono s203 hW2
      have c198 := s203 _ _ c198
      have hW3 := rrs_cat hW2 (rrs_rep hV 1)
      refine g_cat c198 c204 (by rw [sizeLine_eq]; simp) fun t205 h206 => ?_
      obtain ⟨G207, e208⟩ : ∃ Gx, upd G201 t205 (.lst (([V.ref t151, V.ref t169, V.ref t7, V.ref t7] ++ List.replicate 78 (V.ref t7)) ++ [V.ref t7])) = Gx := ⟨_, rfl⟩
      have s209 : Sm G201 G207 := e208 ▸ sm_up h206
      have c210 : G207 t205 = some (.lst (([V.ref t151, V.ref t169, V.ref t7, V.ref t7] ++ List.replicate 78 (V.ref t7)) ++ [V.ref t7])) := e208 ▸ upd_same
      rw [e208]
      clear e208 h206
      have hM := rr_mono s209 hM
      have hV := rr_mono s209 hV
      have sq := sm_trans sq s209
      have c198 := s209 _ _ c198
      have c204 := s209 _ _ c204
      have hW3 := rrs_mono s209 hW3
      walk_at "lw go"
      refine ⟨0, t205, _, _, rfl, c210, hW3, by decide +kernel, by decide +kernel, fun z => absurd (z.symm.trans (show faultB (([.often (.int 19) [.often (.int 20) (List.replicate 4 (Br.Row.move (.int 1) (.int 0))), .often (.int 20) []], .often (.int 18) (List.replicate 20 (Br.Row.move (.int 1) (.int 0))), (Br.Row.move (.int 1) (.int 0)), (Br.Row.move (.int 1) (.int 0))] ++ List.replicate 78 (Br.Row.move (.int 1) (.int 0))) ++ List.replicate 1 (Br.Row.move (.int 1) (.int 0))) = some (([] : List Int), ("great" : Str)) by decide +kernel)) (by simp), fun _ z => absurd rfl z, fun p y z a9 t9 H4 s4 ha9 ht9 => ?_⟩
      obtain ⟨rfl, rfl⟩ : p = [] ∧ y = "great" := by
        have e := z.symm.trans (show faultB (([.often (.int 19) [.often (.int 20) (List.replicate 4 (Br.Row.move (.int 1) (.int 0))), .often (.int 20) []], .often (.int 18) (List.replicate 20 (Br.Row.move (.int 1) (.int 0))), (Br.Row.move (.int 1) (.int 0)), (Br.Row.move (.int 1) (.int 0))] ++ List.replicate 78 (Br.Row.move (.int 1) (.int 0))) ++ List.replicate 1 (Br.Row.move (.int 1) (.int 0))) = some (([] : List Int), ("great" : Str)) by decide +kernel)
        simpa using e
      have sq := sm_trans sq s4
      walk_at "lw go"
      refine ⟨by show 0 ≤ sizeLine; decide, fun t211 h212 => ?_⟩
      obtain ⟨G213, e214⟩ : ∃ Gx, upd H4 t211 (.tup []) = Gx := ⟨_, rfl⟩
      have s215 : Sm H4 G213 := e214 ▸ sm_up h212
      have c216 : G213 t211 = some (.tup []) := e214 ▸ upd_same
      rw [e214]
      clear e214 h212
      have sq := sm_trans sq s215
      have ha9 := s215 _ _ ha9
      have ht9 := s215 _ _ ht9
      walk_at "lw go"
      refine ⟨by rw [sizeLine_eq]; simp, fun t217 h218 => ?_⟩
      obtain ⟨G219, e220⟩ : ∃ Gx, upd G213 t217 (.lst [.ref t211, .str "great"]) = Gx := ⟨_, rfl⟩
      have s221 : Sm G213 G219 := e220 ▸ sm_up h218
      have c222 : G219 t217 = some (.lst [.ref t211, .str "great"]) := e220 ▸ upd_same
      rw [e220]
      clear e220 h218
      have sq := sm_trans sq s221
      have ha9 := s221 _ _ ha9
      have ht9 := s221 _ _ ht9
      have c216 := s221 _ _ c216
      walk_at "lw go"
      refine ⟨.list [.tuple [], .str "great"], .list [.tuple [], .str "great"], .lst (SqL.of ha9) (.cons (.tup (SqT.of ht9) .nil) (.cons (.str _) .nil)), .lst (SqL.of c222) (.cons (.tup (SqT.of c216) .nil) (.cons (.str _) .nil)), by decide +kernel, by decide +kernel, ?_⟩
      rw [show PyData.eqv (.list [.tuple [], .str "great"]) (.list [.tuple [], .str "great"]) = true by decide +kernel]
      exact q _ sq
abbrev N_law : List Str := ["_law_script", "_law_cell", "_law_purse_here", "_law_rows_here", "_law_kept", "_law_turn", "_law_bent_here", "_law_fault_here", "_law_way"]
theorem sc_law : FnScope N_law ["_law_script"] (defScope s_law) := ⟨rfl, rfl, rfl, by decide +kernel, rfl, by decide +kernel, by decide +kernel⟩
theorem ok_law (F : FnP K "law" s_law f fd) (T : Bi mg) (G : Kn w K mg) (D_law_purse : Df P w K mg base "_law_purse" ["_law_script", "_law_at"] 1 (spPurse2 K)) (D_law_brush : Df P w K mg base "_law_brush" ["_law_purse_here"] 7 (spBrush K)) (D_law_told : Df P w K mg base "_law_told" ["_law_way", "_law_rows_here"] 24 (spTold K))
    (D_law_reached : Df P w K mg base "_law_reached" ["_law_rows_here", "_law_at", "_law_hull_here"] 6 (spReached K 4)) (D_law_bent : Df P w K mg base "_law_bent" ["_law_purse_here", "_law_rows_here"] 8 (spBent K 4)) (D_law_first : Df P w K mg base "_law_first" ["_law_rows_here"] 17 (spFirst K))
    (D_law_great_right : Df P w K mg base "_law_great_right" [] 25 spGreat) :
    Gd.FnG P w K mg base CX0 60 f fd ["_law_script"] (spLaw K) := by
  refine Gd.okG (k := 59) F sc_law (fun vs H Q E h => ?_) (fun cdv A outer s H vs Q E gs hr h => ⟨_, PSs.nox
(pss_cons (ps_for PassesOwn.never rfl (pi_range1 (by rfl) T.range (pa_cons pe_int pa_nil)) (pg_name (i := 1) sc_law.nd rfl (Or.inl rfl))
  (pss_cons (ps_set (i := 2) sc_law.nd rfl (Or.inl rfl) (pe_df D_law_purse (hr.mono (by first | decide | omega)) (pa_cons (pv 0) (pa_cons (pv 1) pa_nil))))
  (pss_cons (ps_set (i := 3) sc_law.nd rfl (Or.inl rfl) (pe_df D_law_brush (hr.mono (by first | decide | omega)) (pa_cons (pv 2) pa_nil)))
  (pss_cons (ps_set (i := 4) sc_law.nd rfl (Or.inl rfl) (pe_callB (Gd.call_reprD gs (r100 hr)) (by rfl) T.repr (by decide +kernel) (pa_cons (pv 3) pa_nil)))
  (pss_cons (ps_if (PW.pt (pw_or (pt_cmpR op_notN (pe_df D_law_told (hr.mono (by first | decide | omega)) (pa_cons pe_int (pa_cons (pv 3) pa_nil))) pe_non (nomark _)) (pw_or1 (pt_cmpR (op_neD hr.units) (pe_df D_law_told (hr.mono (by first | decide | omega)) (pa_cons pe_int (pa_cons (pv 3) pa_nil))) (pe_ix ix_tup (pe_df D_law_reached (hr.mono (by first | decide | omega)) (pa_cons (pv 3) (pa_cons (pe_tup (pa_cons pe_int (pa_cons pe_int (pa_cons pe_int (pa_cons pe_int pa_nil))))) (pa_cons pe_non pa_nil)))) pe_int (fun _ _ => rfl)) (nomark _)))))
  (pss_one (ps_ret pe_bl))
  pss_nil)
  (pss_cons (ps_for PassesOwn.never rfl (pi_range1 (by rfl) T.range (pa_cons pe_int pa_nil)) (pg_name (i := 5) sc_law.nd rfl (Or.inl rfl))
  (pss_cons (ps_set (i := 6) sc_law.nd rfl (Or.inl rfl) (pe_df D_law_bent (hr.mono (by first | decide | omega)) (pa_cons (pv 2) (pa_cons (pv 3) pa_nil))))
  (pss_cons (ps_set (i := 7) sc_law.nd rfl (Or.inl rfl) (pe_df D_law_first (hr.mono (by first | decide | omega)) (pa_cons (pv 6) pa_nil)))
  (pss_cons (ps_for PassesOwn.never rfl (pi_range1 (by rfl) T.range (pa_cons pe_int pa_nil)) (pg_name (i := 8) sc_law.nd rfl (Or.inl rfl))
  (pss_one (ps_if (PW.pt (pw_and (pt_cmpR op_notN (pv 7) pe_non (nomark _)) (pw_and1 (pt_cmpR (op_neD hr.units) (pe_df D_law_told (hr.mono (by first | decide | omega)) (pa_cons (pv 8) (pa_cons (pv 6) pa_nil))) (pe_lst (pa_cons (pe_ix ix_tup (pv 7) pe_int (fun _ _ => rfl)) (pa_cons (pe_ix ix_tup (pv 7) pe_int (fun _ _ => rfl)) pa_nil))) (nomark _)))))
  (pss_one (ps_ret pe_bl))
  pss_nil)))
  (pss_one (ps_if (PW.pt (pw_and (pt_cmpR op_isN (pv 7) pe_non (nomark _)) (pw_and1 (pt_cmpR op_notN (pe_df D_law_told (hr.mono (by first | decide | omega)) (pa_cons pe_int (pa_cons (pv 6) pa_nil))) pe_non (nomark _)))))
  (pss_one (ps_ret pe_bl))
  pss_nil))))))
  (pss_one (ps_if (pt_cmpR op_ne (pe_callB (Gd.call_reprD gs (r100 hr)) (by rfl) T.repr (by decide +kernel) (pa_cons (pv 3) pa_nil)) (pv 4) (nomark _))
  (pss_one (ps_ret pe_bl))
  pss_nil))))))))
  (pss_one (ps_ret (pe_df0 D_law_great_right (hr.mono (by first | decide | omega)))))), ?_⟩)
  · obtain ⟨a, ns, rfl, _⟩ := h
    rfl
  · obtain ⟨a, ns, rfl, hS, q⟩ := h
    walk_at "lw i0"
    walk_at "lw go"
    refine ⟨_, rfl, by decide, by decide, for_range (n := 4) (fun i σ H' => ∃ v1 v2 v3 v4 v5 v6 v7 v8 : Option V, σ = [some (.ref a), v1, v2, v3, v4, v5, v6, v7, v8] ∧ SqL K H' a (ns.map V.int))
      ⟨none, none, none, none, none, none, none, none, rfl, hS⟩ ?_ ?_⟩
    · rintro i σ H1 hi ⟨v1, v2, v3, v4, v5, v6, v7, v8, rfl, hS1⟩
      walk_at "lw go"
      refine ⟨a, ns, _, rfl, hS1, by omega, by omega, fun p o H2 hpn s12 hp hP => ?_⟩
      walk_at "lw go"
      have nN : H1 p = none := hpn
      refine ⟨p, _, o, H1, rfl, hp, hP, by decide, s12, hpn, fun l xs rs o3 H3 N3 k3 hp3 hP3 g3 hl3 hR3 fine => ?_⟩
      have nN3 : N3 p = none := (g3.same p (by rw [hp]; simp)).trans hpn
      have s13 : Sm H1 N3 := g3.up
      have s33 : Sm N3 H3 := g3.dn
      clear g3 k3 hp hP s12
      have hshow : PyData.showable (.list (rsD rs)) = true ∧ PyData.hasDict (.list (rsD rs)) = false ∧ (PyData.shown (.list (rsD rs))).length ≤ sizeLine := by
        have f1 := fine.f
        unfold faultB at f1
        exact Bs.brush_show (or_none f1).1 fine.z
      have hdep : (PyData.list (rsD rs)).depth ≤ 60 := by
        have := rsD_dep fine.ok
        have := fine.dp
        simp only [PyData.depth]
        omega
      have fz := fine.z
      have fd := fine.dp
      have fm : ∀ {G : Hp}, Sm N3 G → Dp K G (.ref l) (.list (rsD rs)) := fun s => .lst (SqL.of (s _ _ hl3)) (rrs_dp (rrs_mono s hR3))
      walk_at "lw go"
      refine ⟨l, .list (rsD rs), rfl, fm s33, hshow.1, hshow.2.1, hdep, hshow.2.2, ?_⟩
      walk_at "lw go"
      refine ⟨0, l, xs, rs, rfl, s33 _ _ hl3, rrs_mono s33 hR3, by omega, by omega, fun _ _ H4 s4 => ?_, fun _ z => absurd rfl z, fun p y z => absurd (z.symm.trans fine.f) (by simp)⟩
      have s34 := sm_trans s33 s4
      walk_at "lw go"
      refine ⟨rfl, bl_is (c := false) (by simp) (iteF ?_)⟩
      walk_at "lw go"
      refine ⟨1, l, xs, rs, rfl, s34 _ _ hl3, rrs_mono s34 hR3, by omega, by omega, fun _ z => absurd z (by decide), fun _ _ u5 H5 s5 hu5 => ?_, fun p y z => absurd (z.symm.trans fine.f) (by simp)⟩
      have s35 := sm_trans s34 s5
      walk_at "lw go"
      refine ⟨by rw [sizeLine_eq]; simp, fun t0 ht0 => ?_⟩
      have s6 := sm_up (o := .tup [.int 0, .int 0, .int 0, .int 0]) ht0
      have s36 := sm_trans s35 s6
      refine ⟨l, xs, rs, .ref t0, .non, HERE, none, rfl, s36 _ _ hl3, rrs_mono s36 hR3, fine.ok, by omega, ⟨t0, rfl, SqT.of upd_same⟩, rfl, fun p7 u1 u2 H7 s7 hp7 _ ho7 => ?_⟩
      rw [goRs_ch rs fine.ok] at ho7
      have s37 := sm_trans s36 s7
      walk_at "lw go"
      refine g_ixT (SqT.of hp7) (v := u2) (atI_nat (j := 1) (by rfl)) ?_
      refine ⟨_, _, ob_dp (OB.mono s7 (OB.mono s6 hu5)), ob_dp ho7, ob_shaped _, ob_shaped _, ?_⟩
      refine bl_is (c := false) (by rw [ob_eqv]; rfl) (iteF ?_)
      have hp73 : H7 p = some o3 := s7 _ _ (s6 _ _ (s5 _ _ (s4 _ _ hp3)))
      clear hu5 ho7 hp7 s4 s5 s6 s7 s34 s35 s36 ht0 hp3
      walk_at "lw go"
      refine ⟨_, rfl, by decide, by decide, for_range (n := 6) (fun j σ G => ∃ (v5 v6 v7 v8 : Option V) (o : HO), σ = [some (.ref a), some (.int (0 + i)), some (.ref p), some (.ref l), some (.str (PyData.list (rsD rs)).shown), v5, v6, v7, v8] ∧ G p = some o ∧ Purse (74000 + 100 * (j : Int)) o ∧ Sm N3 G)
        ⟨_, _, _, _, o3, rfl, hp73, hP3.mono (by omega), s37⟩ ?_ ?_⟩
      · rintro j σ G hj ⟨v5, v6, v7, v8, o8, rfl, hp8, hP8, s8⟩
        walk_at "lw go"
        refine ⟨p, _, o8, l, xs, rs, N3, rfl, hp8, hP8, by omega, s8, nN3, hl3, hR3, fine.ok, fine.ly, by omega, by omega, by omega, fun l9 xs9 rs9 o9 H9 N9 k9 hp9 hP9 g9 hl9 hR9 ly9 d9 z9 => ?_⟩
        have s39 : Sm N3 H9 := sm_trans g9.up g9.dn
        have hl99 := g9.dn _ _ hl9
        have hR99 := rrs_mono g9.dn hR9
        have hP10 : Purse (74000 + 100 * ((j + 1 : Nat) : Int)) o9 := hP9.mono (by omega)
        clear g9 k9 hP9 hP8 hp8 hl9 hR9 s8
        walk_at "lw go"
        refine ⟨l9, xs9, rs9, rfl, hl99, hR99, ly9, by omega, by omega, fun u10 H10 s10 hf10 => ?_⟩
        walk_at "lw go"
        refine ⟨_, rfl, by decide, by decide, for_range (n := 2) (fun m σ G => ∃ (v8 : Option V), σ = [some (.ref a), some (.int (0 + i)), some (.ref p), some (.ref l), some (.str (PyData.list (rsD rs)).shown), some (.int (0 + j)), some (.ref l9), some u10, v8] ∧ Sm H10 G)
          ⟨_, rfl, fun _ _ h => h⟩ ?_ ?_⟩
        · rintro m σ G hm ⟨v8, rfl, s11⟩
          have s1011 := sm_trans s10 s11
          walk_at "lw go"
          cases e : faultB rs9 with
          | none =>
            rw [e] at hf10
            obtain rfl : u10 = .non := hf10
            refine ⟨rfl, bl_is (c := false) (by simp) (iteF ?_)⟩
            walk_at "lw go"
            exact ⟨_, rfl, s11⟩
          | some py =>
            obtain ⟨pp, yy⟩ := py
            rw [e] at hf10
            obtain ⟨a10, t10, rfl, ha10, ht10⟩ := hf10
            refine ⟨rfl, bl_is (c := true) (by simp) (iteT ?_)⟩
            walk_at "lw go"
            refine ⟨_, l9, xs9, rs9, rfl, s1011 _ _ hl99, rrs_mono s1011 hR99, by omega, by omega, fun z => absurd (z.symm.trans e) (by simp), fun z => absurd (z.symm.trans e) (by simp), fun p y z a12 t12 H12 s12 ha12 ht12 => ?_⟩
            obtain ⟨rfl, rfl⟩ : p = pp ∧ y = yy := by
              have q9 := z.symm.trans e
              simpa using q9
            have s1112 := sm_trans s11 s12
            have hyy : PyData.strOk y = true := by
              have z9 := ok_faultB rs9
              rw [e] at z9
              exact z9
            walk_at "lw go"
            refine g_ixT (SqT.of (s1112 _ _ ha10)) (v := .ref t10) (atI_nat (j := 0) (by rfl)) ?_
            walk_at "lw go"
            refine g_ixT (SqT.of (s1112 _ _ ha10)) (v := .str y) (atI_nat (j := 1) (by rfl)) ?_
            walk_at "lw go"
            refine ⟨by rw [sizeLine_eq]; simp, fun l13 hl13 => ?_⟩
            have s13 := sm_up (o := .lst [.ref t10, .str y]) hl13
            refine ⟨.list [.tuple (p.map PyData.int), .str y], .list [.tuple (p.map PyData.int), .str y], .lst (SqL.of (s13 _ _ ha12)) (.cons (.tup (SqT.of (s13 _ _ ht12)) (dp_ints _)) (.cons (.str _) .nil)), .lst (SqL.of upd_same) (.cons (.tup (SqT.of (s13 _ _ (s1112 _ _ ht10))) (dp_ints _)) (.cons (.str _) .nil)), flt_shaped hyy, flt_shaped hyy, ?_⟩
            refine bl_is (c := false) (by rw [flt_eqv]; rfl) (iteF ?_)
            walk_at "lw go"
            exact ⟨_, rfl, sm_trans s1112 s13⟩
        · rintro σ G ⟨v8, rfl, s11⟩
          have s1011 := sm_trans s10 s11
          have s311 := sm_trans s39 s1011
          have hp11 := s1011 _ _ hp9
          walk_at "lw go"
          cases e : faultB rs9 with
          | none =>
            rw [e] at hf10
            obtain rfl : u10 = .non := hf10
            refine ⟨rfl, bl_is (c := true) (by simp) (iteT ?_)⟩
            walk_at "lw go"
            refine ⟨0, l9, xs9, rs9, rfl, s1011 _ _ hl99, rrs_mono s1011 hR99, by omega, by omega, fun _ _ H12 s12 => ?_, fun _ z => absurd rfl z, fun p y z => absurd (z.symm.trans e) (by simp)⟩
            walk_at "lw go"
            refine ⟨rfl, bl_is (c := false) (by simp) (iteF ?_)⟩
            walk_at "lw go"
            exact ⟨_, _, _, _, o9, rfl, s12 _ _ hp11, hP10, sm_trans s311 s12⟩
          | some py =>
            obtain ⟨pp, yy⟩ := py
            rw [e] at hf10
            obtain ⟨a10, t10, rfl, ha10, ht10⟩ := hf10
            refine ⟨rfl, bl_is (c := false) (by simp) (iteF ?_)⟩
            walk_at "lw go"
            exact ⟨_, _, _, _, o9, rfl, hp11, hP10, s311⟩
      · rintro σ G ⟨v5, v6, v7, v8, o8, rfl, hp8, hP8, s8⟩
        walk_at "lw go"
        refine ⟨l, .list (rsD rs), rfl, fm s8, hshow.1, hshow.2.1, hdep, hshow.2.2, ?_⟩
        walk_at "lw go"
        refine iteNS rfl ?_
        walk_at "lw go"
        exact ⟨_, _, _, _, _, _, _, _, rfl, sqL_mono (sm_trans s13 s8) hS1⟩
    · rintro σ H1 ⟨v1, v2, v3, v4, v5, v6, v7, v8, rfl, hS1⟩
      walk_at "lw go"
      refine ⟨rfl, fun H2 _ => ?_⟩
      exact q H2
end

open Hd
theorem facts {P : Program} {w : World} {K : PySem.W.Frag} {h : Heap} {mg : Str → Option Value} {f : Addr} (X : K.In h) (G0 : h.Ns mainGlobals mg) (hfa : mg ("law" : Str) = some (.ref f)) (c0 : He.SaysX fa fn tabs [] ex w h K) :
    ∃ fd : FuncData, (∀ (s : Shared) (v : Value), BindsTo s fd ⟨[v], []⟩ [("_law_script", v)]) ∧ ∀ base : Heap, K.In base → base.Ns mainGlobals mg → Gd.FnG P w K mg base CX0 60 f fd ["_law_script"] (spLaw K) := by
  have c : He.SaysD fa fn K := c0.t.d
  obtain ⟨fd_is_from, F_is_from⟩ := c.def_ 0 (d := dd_is_from) rfl
  have g_is_from := He.glo_ok X G0 (c.fact 0 (f := .glo "is_from") rfl)
  obtain ⟨fd_box_around, F_box_around⟩ := c.def_ 1 (d := dd_box_around) rfl
  have g_box_around := He.glo_ok X G0 (c.fact 1 (f := .glo "box_around") rfl)
  obtain ⟨fd_must_brush, F_must_brush⟩ := c.def_ 2 (d := dd_must_brush) rfl
  have g_must_brush := He.glo_ok X G0 (c.fact 2 (f := .glo "must_brush") rfl)
  obtain ⟨fd_rows_of, F_rows_of⟩ := c.def_ 3 (d := dd_rows_of) rfl
  have g_rows_of := He.glo_ok X G0 (c.fact 3 (f := .glo "rows_of") rfl)
  obtain ⟨fd_things_of, F_things_of⟩ := c.def_ 4 (d := dd_things_of) rfl
  have g_things_of := He.glo_ok X G0 (c.fact 4 (f := .glo "things_of") rfl)
  obtain ⟨fd_weighed, F_weighed⟩ := c.def_ 5 (d := dd_weighed) rfl
  have g_weighed := He.glo_ok X G0 (c.fact 5 (f := .glo "weighed") rfl)
  obtain ⟨fd_reach_of, F_reach_of⟩ := c.def_ 6 (d := dd_reach_of) rfl
  have g_reach_of := He.glo_ok X G0 (c.fact 6 (f := .glo "reach_of") rfl)
  obtain ⟨fd_reach_of_rows, F_reach_of_rows⟩ := c.def_ 7 (d := dd_reach_of_rows) rfl
  have g_reach_of_rows := He.glo_ok X G0 (c.fact 7 (f := .glo "reach_of_rows") rfl)
  obtain ⟨fd_reach_of_row, F_reach_of_row⟩ := c.def_ 8 (d := dd_reach_of_row) rfl
  have g_reach_of_row := He.glo_ok X G0 (c.fact 8 (f := .glo "reach_of_row") rfl)
  obtain ⟨fd_sums, F_sums⟩ := c.def_ 9 (d := dd_sums) rfl
  have g_sums := He.glo_ok X G0 (c.fact 9 (f := .glo "sums") rfl)
  obtain ⟨fd_moved_marks, F_moved_marks⟩ := c.def_ 10 (d := dd_moved_marks) rfl
  have g_moved_marks := He.glo_ok X G0 (c.fact 10 (f := .glo "moved_marks") rfl)
  obtain ⟨fd_around_marks, F_around_marks⟩ := c.def_ 11 (d := dd_around_marks) rfl
  have g_around_marks := He.glo_ok X G0 (c.fact 11 (f := .glo "around_marks") rfl)
  obtain ⟨fd_law_mixed, F_law_mixed⟩ := c.def_ 12 (d := dd_law_mixed) rfl
  have g_law_mixed := He.glo_ok X G0 (c.fact 12 (f := .glo "_law_mixed") rfl)
  obtain ⟨fd_law_purse, F_law_purse⟩ := c.def_ 13 (d := dd_law_purse) rfl
  have g_law_purse := He.glo_ok X G0 (c.fact 13 (f := .glo "_law_purse") rfl)
  obtain ⟨fd_law_draw, F_law_draw⟩ := c.def_ 14 (d := dd_law_draw) rfl
  have g_law_draw := He.glo_ok X G0 (c.fact 14 (f := .glo "_law_draw") rfl)
  obtain ⟨fd_law_rows, F_law_rows⟩ := c.def_ 15 (d := dd_law_rows) rfl
  have g_law_rows := He.glo_ok X G0 (c.fact 15 (f := .glo "_law_rows") rfl)
  obtain ⟨fd_law_brush, F_law_brush⟩ := c.def_ 16 (d := dd_law_brush) rfl
  have g_law_brush := He.glo_ok X G0 (c.fact 16 (f := .glo "_law_brush") rfl)
  obtain ⟨fd_law_counts, F_law_counts⟩ := c.def_ 17 (d := dd_law_counts) rfl
  have g_law_counts := He.glo_ok X G0 (c.fact 17 (f := .glo "_law_counts") rfl)
  obtain ⟨fd_law_hull, F_law_hull⟩ := c.def_ 18 (d := dd_law_hull) rfl
  have g_law_hull := He.glo_ok X G0 (c.fact 18 (f := .glo "_law_hull") rfl)
  obtain ⟨fd_law_reached, F_law_reached⟩ := c.def_ 19 (d := dd_law_reached) rfl
  have g_law_reached := He.glo_ok X G0 (c.fact 19 (f := .glo "_law_reached") rfl)
  obtain ⟨fd_law_is_whole, F_law_is_whole⟩ := c.def_ 20 (d := dd_law_is_whole) rfl
  have g_law_is_whole := He.glo_ok X G0 (c.fact 20 (f := .glo "_law_is_whole") rfl)
  obtain ⟨fd_law_spans, F_law_spans⟩ := c.def_ 21 (d := dd_law_spans) rfl
  have g_law_spans := He.glo_ok X G0 (c.fact 21 (f := .glo "_law_spans") rfl)
  obtain ⟨fd_law_row_fault, F_law_row_fault⟩ := c.def_ 22 (d := dd_law_row_fault) rfl
  have g_law_row_fault := He.glo_ok X G0 (c.fact 22 (f := .glo "_law_row_fault") rfl)
  obtain ⟨fd_law_fault, F_law_fault⟩ := c.def_ 23 (d := dd_law_fault) rfl
  have g_law_fault := He.glo_ok X G0 (c.fact 23 (f := .glo "_law_fault") rfl)
  obtain ⟨fd_law_first, F_law_first⟩ := c.def_ 24 (d := dd_law_first) rfl
  have g_law_first := He.glo_ok X G0 (c.fact 24 (f := .glo "_law_first") rfl)
  obtain ⟨fd_law_told, F_law_told⟩ := c.def_ 25 (d := dd_law_told) rfl
  have g_law_told := He.glo_ok X G0 (c.fact 25 (f := .glo "_law_told") rfl)
  obtain ⟨fd_law_bent_row, F_law_bent_row⟩ := c.def_ 26 (d := dd_law_bent_row) rfl
  have g_law_bent_row := He.glo_ok X G0 (c.fact 26 (f := .glo "_law_bent_row") rfl)
  obtain ⟨fd_law_bent, F_law_bent⟩ := c.def_ 27 (d := dd_law_bent) rfl
  have g_law_bent := He.glo_ok X G0 (c.fact 27 (f := .glo "_law_bent") rfl)
  obtain ⟨fd_law_great_right, F_law_great_right⟩ := c.def_ 28 (d := dd_law_great_right) rfl
  have g_law_great_right := He.glo_ok X G0 (c.fact 28 (f := .glo "_law_great_right") rfl)
  obtain ⟨fd_law, F_law⟩ := c.def_ 29 (d := dd_law) rfl
  have g_law := He.glo_ok X G0 (c.fact 29 (f := .glo "law") rfl)
  obtain ⟨fd_ini_NoBrush, F_ini_NoBrush⟩ := c.def_ 30 (d := dd_ini_NoBrush) rfl
  obtain ⟨ds_NoBrush, hd_NoBrush, hb_NoBrush⟩ := F_ini_NoBrush.binds1 (ps := ["self", "path", "why"]) 3 2 (by intro z; cases z) rfl (fun T kV doc pm an cdv ct us its hu hi => match us, its, hu, hi with | [_, _, _], [_, _], _, _ => ⟨_, rfl, rfl⟩)
  have T : Bi mg := ⟨He.free_ok X G0 (c.fact 30 (f := .free "isinstance") rfl), He.free_ok X G0 (c.fact 31 (f := .free "int") rfl), He.free_ok X G0 (c.fact 32 (f := .free "bool") rfl), He.free_ok X G0 (c.fact 33 (f := .free "min") rfl), He.free_ok X G0 (c.fact 34 (f := .free "max") rfl), He.free_ok X G0 (c.fact 35 (f := .free "list") rfl), He.free_ok X G0 (c.fact 36 (f := .free "enumerate") rfl), He.free_ok X G0 (c.fact 37 (f := .free "tuple") rfl), He.free_ok X G0 (c.fact 38 (f := .free "str") rfl), He.free_ok X G0 (c.fact 39 (f := .free "len") rfl), He.free_ok X G0 (c.fact 40 (f := .free "zip") rfl), He.free_ok X G0 (c.fact 41 (f := .free "sum") rfl), He.free_ok X G0 (c.fact 42 (f := .free "range") rfl), He.free_ok X G0 (c.fact 43 (f := .free "repr") rfl)⟩
  have hx := c0.more
  obtain ⟨hx_MARKS, hx⟩ := He.ba hx
  obtain ⟨hx_HERE, hx⟩ := He.ba hx
  obtain ⟨hx_er, hx⟩ := He.ba hx
  obtain ⟨hx_mP, hx⟩ := He.ba hx
  obtain ⟨hx_kN, hx⟩ := He.ba hx
  obtain ⟨hx_sh, hx⟩ := He.ba hx
  obtain ⟨hx_SHAPES, hx⟩ := He.ba hx
  obtain ⟨hx_NUMBERS, hx⟩ := He.ba hx
  have G : Kn w K mg := ⟨He.int_ok X G0 (c.fact 44 (f := .int "MOST_MARKS" (60)) rfl), He.int_ok X G0 (c.fact 45 (f := .int "MOST_ROWS" (2000)) rfl), He.glo_ok X G0 (c.fact 46 (f := .glo "MARKS") rfl), fun H => He.tupB_ok hx_MARKS H, He.glo_ok X G0 (c.fact 47 (f := .glo "HERE") rfl), fun H => He.tupB_ok hx_HERE H, He.glo_ok X G0 (c.fact 50 (f := .glo "SHAPES") rfl), Kt.tab_of (c0.t.tab 0) hx_SHAPES, He.glo_ok X G0 (c.fact 51 (f := .glo "NUMBERS") rfl), Kt.tab_of (c0.t.tab 1) hx_NUMBERS, He.glo_ok X G0 (c.fact 48 (f := .glo "NoBrush") rfl), He.glo_ok X G0 (c.fact 49 (f := .glo "LandError") rfl), errs_of hx_er, of_decide_eq_true hx_mP, of_decide_eq_true hx_kN, shape_ok hx_sh⟩
  have e := hfa.symm.trans g_law
  cases e
  refine ⟨fd_law, fun s v => FunD.bindsA (ps := ["_law_script"]) F_law (fun _ _ _ _ _ _ us hl => match us, hl with | [_], _ => rfl) s [v] rfl, fun base _ _ => ?_⟩
  have M_NoBrush : Mk P w K mg base "NoBrush" ["path", "why"] [] := ⟨fd_ini_NoBrush, _, ds_NoBrush, G.g_NoBrush, (G.er.init (x := "NoBrush") (fs := ["path", "why"]) (by simp [csK])), ok_ini_NoBrush F_ini_NoBrush, hb_NoBrush, hd_NoBrush⟩
  have D_is_from : Df P w K mg base "is_from" ["thing", "low", "high"] 1 spIsFrom := ⟨_, _, g_is_from, F_is_from.kp, F_is_from.bindsN fun _ _ _ _ _ _ us hl => match us, hl with | [_, _, _], _ => rfl, ok_is_from F_is_from T G ⟩
  have D_box_around : Df P w K mg base "box_around" ["one", "other"] 1 (spBoth around K) := ⟨_, _, g_box_around, F_box_around.kp, F_box_around.bindsN fun _ _ _ _ _ _ us hl => match us, hl with | [_, _], _ => rfl, ok_box_around F_box_around T G ⟩
  have D_weighed : Df P w K mg base "weighed" ["rows"] 5 (spWeighed K 4) :=
    have bb := F_weighed.bindsN (ps := ["rows"]) fun _ _ _ _ _ _ us hl => match us, hl with | [_], _ => rfl
    ⟨_, _, g_weighed, F_weighed.kp, bb, ok_weighed F_weighed T G  g_weighed F_weighed.kp bb 4⟩
  have D_rows_of : Df P w K mg base "rows_of" ["rows", "path"] 1 (spRowsOf K) := ⟨_, _, g_rows_of, F_rows_of.kp, F_rows_of.bindsN fun _ _ _ _ _ _ us hl => match us, hl with | [_, _], _ => rfl, ok_rows_of F_rows_of T G⟩
  have DX_things_of : DfX P w K mg base "things_of" ["row", "path"] 3 (spThings K) := ⟨_, _, g_things_of, F_things_of.kp, F_things_of.bindsN fun _ _ _ _ _ _ us hl => match us, hl with | [_, _], _ => rfl, ok_things_of F_things_of T G M_NoBrush⟩
  have DX_must_brush : DfX P w K mg base "must_brush" ["brush"] 9 (spMust K) := ⟨_, _, g_must_brush, F_must_brush.kp, F_must_brush.bindsN fun _ _ _ _ _ _ us hl => match us, hl with | [_], _ => rfl, ok_must_brush F_must_brush T G M_NoBrush D_is_from D_rows_of DX_things_of D_weighed⟩
  have D_sums : Df P w K mg base "sums" ["one", "other"] 1 (spBoth addB K) := ⟨_, _, g_sums, F_sums.kp, F_sums.bindsN fun _ _ _ _ _ _ us hl => match us, hl with | [_, _], _ => rfl, ok_sums F_sums T G ⟩
  have D_moved_marks : Df P w K mg base "moved_marks" ["marks", "begins"] 2 (spMoved K) := ⟨_, _, g_moved_marks, F_moved_marks.kp, F_moved_marks.bindsN fun _ _ _ _ _ _ us hl => match us, hl with | [_, _], _ => rfl, ok_moved_marks F_moved_marks T G D_sums⟩
  have D_around_marks : Df P w K mg base "around_marks" ["one", "other"] 2 (spAround K) := ⟨_, _, g_around_marks, F_around_marks.kp, F_around_marks.bindsN fun _ _ _ _ _ _ us hl => match us, hl with | [_, _], _ => rfl, ok_around_marks F_around_marks T G D_box_around⟩
  have DR := ok_reach_of_rows (P := P) (w := w) F_reach_of_rows F_reach_of_row T G g_reach_of_rows F_reach_of_rows.kp (F_reach_of_rows.bindsN (ps := ["rows"]) fun _ _ _ _ _ _ us hl => match us, hl with | [_], _ => rfl) g_reach_of_row F_reach_of_row.kp (F_reach_of_row.bindsN (ps := ["row"]) fun _ _ _ _ _ _ us hl => match us, hl with | [_], _ => rfl) D_box_around D_sums D_moved_marks D_around_marks (base := base)
  have D_reach_of_rows : Df P w K mg base "reach_of_rows" ["rows"] 16 (spRowsR K 4) := ⟨_, _, g_reach_of_rows, F_reach_of_rows.kp, F_reach_of_rows.bindsN fun _ _ _ _ _ _ us hl => match us, hl with | [_], _ => rfl, (DR 4).1⟩
  have DX_reach_of : DfX P w K mg base "reach_of" ["brush"] 22 (spReach K) := ⟨_, _, g_reach_of, F_reach_of.kp, F_reach_of.bindsN fun _ _ _ _ _ _ us hl => match us, hl with | [_], _ => rfl, ok_reach_of F_reach_of T G DX_must_brush D_reach_of_rows⟩
  have D_law_mixed : Df P w K mg base "_law_mixed" ["_law_cell", "_law_k"] 1 spMixed := ⟨_, _, g_law_mixed, F_law_mixed.kp, F_law_mixed.bindsN fun _ _ _ _ _ _ us hl => match us, hl with | [_, _], _ => rfl, ok_law_mixed F_law_mixed T G ⟩
  have D_law_purse : Df P w K mg base "_law_purse" ["_law_script", "_law_at"] 1 (spPurse2 K) := ⟨_, _, g_law_purse, F_law_purse.kp, F_law_purse.bindsN fun _ _ _ _ _ _ us hl => match us, hl with | [_, _], _ => rfl, ok_law_purse F_law_purse T G ⟩
  have D_law_draw : Df P w K mg base "_law_draw" ["_law_purse_here", "_law_out_of"] 2 spDraw := ⟨_, _, g_law_draw, F_law_draw.kp, F_law_draw.bindsN fun _ _ _ _ _ _ us hl => match us, hl with | [_, _], _ => rfl, ok_law_draw F_law_draw T G D_law_mixed⟩
  have D_law_rows : Df P w K mg base "_law_rows" ["_law_purse_here", "_law_deep"] 6 (spDrawn K 3) :=
    have bb := F_law_rows.bindsN (ps := ["_law_purse_here", "_law_deep"]) fun _ _ _ _ _ _ us hl => match us, hl with | [_, _], _ => rfl
    ⟨_, _, g_law_rows, F_law_rows.kp, bb, ok_law_rows F_law_rows T G D_law_draw g_law_rows F_law_rows.kp bb 3⟩
  have D_law_counts : Df P w K mg base "_law_counts" ["_law_rows_here"] 5 (spCounts K 4) :=
    have bb := F_law_counts.bindsN (ps := ["_law_rows_here"]) fun _ _ _ _ _ _ us hl => match us, hl with | [_], _ => rfl
    ⟨_, _, g_law_counts, F_law_counts.kp, bb, ok_law_counts F_law_counts T G  g_law_counts F_law_counts.kp bb 4⟩
  have D_law_brush : Df P w K mg base "_law_brush" ["_law_purse_here"] 7 (spBrush K) := ⟨_, _, g_law_brush, F_law_brush.kp, F_law_brush.bindsN fun _ _ _ _ _ _ us hl => match us, hl with | [_], _ => rfl, ok_law_brush F_law_brush T G D_law_rows D_law_counts⟩
  have D_law_hull : Df P w K mg base "_law_hull" ["_law_one", "_law_other"] 1 (spAround K) := ⟨_, _, g_law_hull, F_law_hull.kp, F_law_hull.bindsN fun _ _ _ _ _ _ us hl => match us, hl with | [_, _], _ => rfl, ok_law_hull F_law_hull T G ⟩
  have D_law_reached : Df P w K mg base "_law_reached" ["_law_rows_here", "_law_at", "_law_hull_here"] 6 (spReached K 4) :=
    have bb := F_law_reached.bindsN (ps := ["_law_rows_here", "_law_at", "_law_hull_here"]) fun _ _ _ _ _ _ us hl => match us, hl with | [_, _, _], _ => rfl
    ⟨_, _, g_law_reached, F_law_reached.kp, bb, ok_law_reached F_law_reached T G D_law_hull g_law_reached F_law_reached.kp bb 4⟩
  have D_law_is_whole : Df P w K mg base "_law_is_whole" ["_law_thing", "_law_low", "_law_high"] 1 spWholeA := ⟨_, _, g_law_is_whole, F_law_is_whole.kp, F_law_is_whole.bindsN fun _ _ _ _ _ _ us hl => match us, hl with | [_, _, _], _ => rfl, ok_law_is_whole F_law_is_whole T G ⟩
  have D_law_spans : Df P w K mg base "_law_spans" ["_law_row"] 1 (spSpans K) := ⟨_, _, g_law_spans, F_law_spans.kp, F_law_spans.bindsN fun _ _ _ _ _ _ us hl => match us, hl with | [_], _ => rfl, ok_law_spans F_law_spans T G ⟩
  have DFt := ok_law_fault (P := P) (w := w) F_law_fault F_law_row_fault T G g_law_fault F_law_fault.kp (F_law_fault.bindsN (ps := ["_law_rows_here", "_law_path"]) fun _ _ _ _ _ _ us hl => match us, hl with | [_, _], _ => rfl) g_law_row_fault F_law_row_fault.kp (F_law_row_fault.bindsN (ps := ["_law_row", "_law_path"]) fun _ _ _ _ _ _ us hl => match us, hl with | [_, _], _ => rfl) D_law_spans D_law_is_whole (base := base)
  have D_law_fault : Df P w K mg base "_law_fault" ["_law_rows_here", "_law_path"] 16 (spRowsF K 4) := ⟨_, _, g_law_fault, F_law_fault.kp, F_law_fault.bindsN fun _ _ _ _ _ _ us hl => match us, hl with | [_, _], _ => rfl, (DFt 4).1⟩
  have D_law_first : Df P w K mg base "_law_first" ["_law_rows_here"] 17 (spFirst K) := ⟨_, _, g_law_first, F_law_first.kp, F_law_first.bindsN fun _ _ _ _ _ _ us hl => match us, hl with | [_], _ => rfl, ok_law_first F_law_first T G D_law_fault D_law_counts⟩
  have D_law_told : Df P w K mg base "_law_told" ["_law_way", "_law_rows_here"] 24 (spTold K) := ⟨_, _, g_law_told, F_law_told.kp, F_law_told.bindsN fun _ _ _ _ _ _ us hl => match us, hl with | [_, _], _ => rfl, ok_law_told F_law_told T G DX_must_brush DX_reach_of⟩
  have D_law_bent_row : Df P w K mg base "_law_bent_row" ["_law_purse_here", "_law_row"] 3 (spBentRow K) := ⟨_, _, g_law_bent_row, F_law_bent_row.kp, F_law_bent_row.bindsN fun _ _ _ _ _ _ us hl => match us, hl with | [_, _], _ => rfl, ok_law_bent_row F_law_bent_row T G D_law_draw D_law_spans⟩
  have D_law_bent : Df P w K mg base "_law_bent" ["_law_purse_here", "_law_rows_here"] 8 (spBent K 4) :=
    have bb := F_law_bent.bindsN (ps := ["_law_purse_here", "_law_rows_here"]) fun _ _ _ _ _ _ us hl => match us, hl with | [_, _], _ => rfl
    ⟨_, _, g_law_bent, F_law_bent.kp, bb, ok_law_bent F_law_bent T G D_law_draw D_law_bent_row g_law_bent F_law_bent.kp bb 4⟩
  have D_law_great_right : Df P w K mg base "_law_great_right" [] 25 spGreat := ⟨_, _, g_law_great_right, F_law_great_right.kp, F_law_great_right.bindsN fun _ _ _ _ _ _ us hl => match us, hl with | [], _ => rfl, ok_law_great_right F_law_great_right T G D_law_told D_law_counts⟩
  exact ok_law F_law T G D_law_purse D_law_brush D_law_told D_law_reached D_law_bent D_law_first D_law_great_right
end L65
open PySem PySem.W PySem.Calls PyProof.Rows
theorem PySem.Challenge.cw_landweave_k65_brushes_looked_at_holds : PySem.Challenge.rw_landweave_k65_brushes_looked_at.Holds := by
  refine L65.Hd.pre fun w mg fa h Y G hmg => ?_
  obtain ⟨K, KX, c⟩ := Y
  obtain ⟨fd, hb, hF⟩ := L65.facts (P := (PySem.Challenge.rw_landweave_k65_brushes_looked_at).prog) (w := w) KX G hmg c
  exact ⟨K, fd, L65.spLaw K, KX, hb, fun H a ns hl _ hS => ⟨a, ns, rfl, hS, fun _ => rfl⟩, hF⟩

