import PyProof.Rows.All
import Wide.All
import OpenK.AllK
import Wide.FinOn
import HandS.ForMost
import HandS.ForExc
import HandS.Wide
import HandS.EndBits
import HandS.More
import HandS.TryMany
import HandS.ExcField
import HandS.ExcInit
import HandS.ExcIs
import HandS.IsInst
import HandS.Defaults
import HandS.MakeKw
import PyProof.StrOps2
import HandS.Small
import HandS.MakeKwOnly
import HandS.HeadHook4
import HandS.HeadEnd
import HandS.HeadWalk
import HandS.Head2
import KE.GoesEnumKw
import KE.GoesMore
import PyProof.Rows.CallKwBuiltin
import HandS.Iter
import HandS.Conv
import PySem.Challenge.RW_wendleaf_k30_knots
set_option Elab.async false
set_option linter.all false
set_option maxRecDepth 100000
/-! steps of a reading -/
namespace WD
open PySem PySem.Spec PyProof.Rows L2
def CMulX (i j : Int) : Prop := IntMulOk i j
theorem op_mulX {X : Cx} : OpR X (binaryOp .Mult) (rI CMulX fun i j => .int (i * j)) := opI fun _ _ _ _ _ _ _ hc q => mul_int q hc
theorem ne_none {H : Hp} {a b : Addr} {o : HO} (h : H b = none) (h2 : H a = some o) : a ≠ b := ne_of_none h2 h
/-- from H to H' what stands outside S stays, and nothing goes -/
structure Stay (S : List Addr) (H H' : Hp) : Prop where
  keep : ∀ b o, H b = some o → b ∉ S → H' b = some o
  old : ∀ b, H' b = none → H b = none
theorem nm0 {b : Addr} : b ∉ ([] : List Addr) := by simp
theorem nmS {b a : Addr} {S : List Addr} (h : b ≠ a) (r : b ∉ S) : b ∉ a :: S := by simp [h, r]
theorem nw_upd {H : Hp} {a : Addr} {o : HO} {G : Addr → Prop} (h : ∀ p, H p = none → p ≠ a → G p) : ∀ p, upd H a o p = none → G p := by
  intro p hp
  by_cases e : p = a
  · rw [e, upd_same] at hp; cases hp
  · rw [upd_ne e] at hp; exact h p hp e
theorem nw_fr {S : List Addr} {H H' : Hp} {G : Addr → Prop} (r : Stay S H H') (h : ∀ p, H p = none → H' p = none → G p) : ∀ p, H' p = none → G p := fun p hp => h p (r.old p hp) hp
theorem Stay.refl (S : List Addr) (H : Hp) : Stay S H H := ⟨fun _ _ h _ => h, fun _ h => h⟩
theorem Stay.upd {S : List Addr} {H H' : Hp} {a : Addr} {o : HO} (r : Stay S H H') (h : a ∈ S) : Stay S H (upd H' a o) := by
  refine ⟨fun b u e n => ?_, fun b e => ?_⟩
  · rw [upd_ne (fun z => n (by rw [z]; exact h))]; exact r.keep b u e n
  · by_cases z : b = a
    · rw [z, upd_same] at e; cases e
    · rw [upd_ne z] at e; exact r.old b e
theorem Stay.new {S : List Addr} {H H' : Hp} {a : Addr} {o : HO} (r : Stay S H H') (h : H a = none) : Stay S H (L2.upd H' a o) := by
  refine ⟨fun b u e n => ?_, fun b e => ?_⟩
  · rw [upd_ne (ne_of_none e h)]; exact r.keep b u e n
  · by_cases z : b = a
    · rw [z]; exact h
    · rw [upd_ne z] at e; exact r.old b e
theorem Stay.trans {S : List Addr} {H H1 H2 : Hp} (a : Stay S H H1) (b : Stay S H1 H2) : Stay S H H2 := ⟨fun c o h n => b.keep c o (a.keep c o h n) n, fun c h => a.old c (b.old c h)⟩
theorem Stay.weak {S S' : List Addr} {H H' : Hp} (a : Stay S H H') (h : ∀ b, b ∈ S → b ∈ S') : Stay S' H H' := ⟨fun c o e n => a.keep c o e (fun z => n (h c z)), a.old⟩
theorem Stay.same {H H' : Hp} (a : Stay [] H H') : Same H H' := fun b o h => a.keep b o h nm0
theorem ne_some {H : Hp} {a b : Addr} {o : HO} (h2 : H a = some o) (h : H b = none) : a ≠ b := ne_of_none h2 h
section
variable {σ : L2.St} {H : Hp} {Q : VK} {D : Ends} {v x y : V} {K : PySem.W.Frag} {ta tb te : TE} {t u : TS} {c c' : TT} {a p : Addr} {xs : List V} {i j : Int} {n : Nat} {QB : Bool → Hp → Prop} {QL : List V → Hp → Prop} {QS : L2.St → Hp → Prop}
-- statements
theorem x_seq (h : t { D with nx := u D } σ H) : tSeq t u D σ H := h
theorem x_next (h : D.nx σ H) : tNext D σ H := h
theorem x_ifS (h : c σ H fun b H1 => if b = true then t D σ H1 else u D σ H1) : tIfS c t u D σ H := h
theorem x_asg {g : TG} (h : te σ H fun x H1 => g x σ H1 D.nx) : tAsg te g D σ H := h
theorem x_ret (h : te σ H D.rt) : tRet te D σ H := h
theorem x_retN (h : D.rt .non H) : tRetN D σ H := h
theorem x_drop (h : te σ H fun _ H1 => D.nx σ H1) : tDrop te D σ H := h
theorem x_brk (h : D.bk σ H) : tBreak D σ H := h
theorem x_cont (h : D.ct σ H) : tCont D σ H := h
theorem x_aug {ti : TIp} (hv : σ[n]? = some (some x)) (h : te σ H fun y H1 => ti x y H1 fun z H2 => D.nx (σ.set n (some z)) H2) : tAug n te ti D σ H := ⟨x, hv, h⟩
theorem set0 {α : Type} {v x0 : α} {r : List α} : (x0 :: r).set 0 v = v :: r := rfl
theorem set1 {α : Type} {v x0 x1 : α} {r : List α} : (x0 :: x1 :: r).set 1 v = x0 :: v :: r := rfl
theorem set2 {α : Type} {v x0 x1 x2 : α} {r : List α} : (x0 :: x1 :: x2 :: r).set 2 v = x0 :: x1 :: v :: r := rfl
theorem set3 {α : Type} {v x0 x1 x2 x3 : α} {r : List α} : (x0 :: x1 :: x2 :: x3 :: r).set 3 v = x0 :: x1 :: x2 :: v :: r := rfl
theorem set4 {α : Type} {v x0 x1 x2 x3 x4 : α} {r : List α} : (x0 :: x1 :: x2 :: x3 :: x4 :: r).set 4 v = x0 :: x1 :: x2 :: x3 :: v :: r := rfl
theorem set5 {α : Type} {v x0 x1 x2 x3 x4 x5 : α} {r : List α} : (x0 :: x1 :: x2 :: x3 :: x4 :: x5 :: r).set 5 v = x0 :: x1 :: x2 :: x3 :: x4 :: v :: r := rfl
theorem set6 {α : Type} {v x0 x1 x2 x3 x4 x5 x6 : α} {r : List α} : (x0 :: x1 :: x2 :: x3 :: x4 :: x5 :: x6 :: r).set 6 v = x0 :: x1 :: x2 :: x3 :: x4 :: x5 :: v :: r := rfl
theorem set7 {α : Type} {v x0 x1 x2 x3 x4 x5 x6 x7 : α} {r : List α} : (x0 :: x1 :: x2 :: x3 :: x4 :: x5 :: x6 :: x7 :: r).set 7 v = x0 :: x1 :: x2 :: x3 :: x4 :: x5 :: x6 :: v :: r := rfl
theorem set8 {α : Type} {v x0 x1 x2 x3 x4 x5 x6 x7 x8 : α} {r : List α} : (x0 :: x1 :: x2 :: x3 :: x4 :: x5 :: x6 :: x7 :: x8 :: r).set 8 v = x0 :: x1 :: x2 :: x3 :: x4 :: x5 :: x6 :: x7 :: v :: r := rfl
theorem set9 {α : Type} {v x0 x1 x2 x3 x4 x5 x6 x7 x8 x9 : α} {r : List α} : (x0 :: x1 :: x2 :: x3 :: x4 :: x5 :: x6 :: x7 :: x8 :: x9 :: r).set 9 v = x0 :: x1 :: x2 :: x3 :: x4 :: x5 :: x6 :: x7 :: x8 :: v :: r := rfl
theorem set10 {α : Type} {v x0 x1 x2 x3 x4 x5 x6 x7 x8 x9 x10 : α} {r : List α} : (x0 :: x1 :: x2 :: x3 :: x4 :: x5 :: x6 :: x7 :: x8 :: x9 :: x10 :: r).set 10 v = x0 :: x1 :: x2 :: x3 :: x4 :: x5 :: x6 :: x7 :: x8 :: x9 :: v :: r := rfl
theorem set11 {α : Type} {v x0 x1 x2 x3 x4 x5 x6 x7 x8 x9 x10 x11 : α} {r : List α} : (x0 :: x1 :: x2 :: x3 :: x4 :: x5 :: x6 :: x7 :: x8 :: x9 :: x10 :: x11 :: r).set 11 v = x0 :: x1 :: x2 :: x3 :: x4 :: x5 :: x6 :: x7 :: x8 :: x9 :: x10 :: v :: r := rfl
theorem set12 {α : Type} {v x0 x1 x2 x3 x4 x5 x6 x7 x8 x9 x10 x11 x12 : α} {r : List α} : (x0 :: x1 :: x2 :: x3 :: x4 :: x5 :: x6 :: x7 :: x8 :: x9 :: x10 :: x11 :: x12 :: r).set 12 v = x0 :: x1 :: x2 :: x3 :: x4 :: x5 :: x6 :: x7 :: x8 :: x9 :: x10 :: x11 :: v :: r := rfl
theorem set13 {α : Type} {v x0 x1 x2 x3 x4 x5 x6 x7 x8 x9 x10 x11 x12 x13 : α} {r : List α} : (x0 :: x1 :: x2 :: x3 :: x4 :: x5 :: x6 :: x7 :: x8 :: x9 :: x10 :: x11 :: x12 :: x13 :: r).set 13 v = x0 :: x1 :: x2 :: x3 :: x4 :: x5 :: x6 :: x7 :: x8 :: x9 :: x10 :: x11 :: x12 :: v :: r := rfl
theorem set14 {α : Type} {v x0 x1 x2 x3 x4 x5 x6 x7 x8 x9 x10 x11 x12 x13 x14 : α} {r : List α} : (x0 :: x1 :: x2 :: x3 :: x4 :: x5 :: x6 :: x7 :: x8 :: x9 :: x10 :: x11 :: x12 :: x13 :: x14 :: r).set 14 v = x0 :: x1 :: x2 :: x3 :: x4 :: x5 :: x6 :: x7 :: x8 :: x9 :: x10 :: x11 :: x12 :: x13 :: v :: r := rfl
theorem set15 {α : Type} {v x0 x1 x2 x3 x4 x5 x6 x7 x8 x9 x10 x11 x12 x13 x14 x15 : α} {r : List α} : (x0 :: x1 :: x2 :: x3 :: x4 :: x5 :: x6 :: x7 :: x8 :: x9 :: x10 :: x11 :: x12 :: x13 :: x14 :: x15 :: r).set 15 v = x0 :: x1 :: x2 :: x3 :: x4 :: x5 :: x6 :: x7 :: x8 :: x9 :: x10 :: x11 :: x12 :: x13 :: x14 :: v :: r := rfl
theorem set16 {α : Type} {v x0 x1 x2 x3 x4 x5 x6 x7 x8 x9 x10 x11 x12 x13 x14 x15 x16 : α} {r : List α} : (x0 :: x1 :: x2 :: x3 :: x4 :: x5 :: x6 :: x7 :: x8 :: x9 :: x10 :: x11 :: x12 :: x13 :: x14 :: x15 :: x16 :: r).set 16 v = x0 :: x1 :: x2 :: x3 :: x4 :: x5 :: x6 :: x7 :: x8 :: x9 :: x10 :: x11 :: x12 :: x13 :: x14 :: x15 :: v :: r := rfl
theorem set17 {α : Type} {v x0 x1 x2 x3 x4 x5 x6 x7 x8 x9 x10 x11 x12 x13 x14 x15 x16 x17 : α} {r : List α} : (x0 :: x1 :: x2 :: x3 :: x4 :: x5 :: x6 :: x7 :: x8 :: x9 :: x10 :: x11 :: x12 :: x13 :: x14 :: x15 :: x16 :: x17 :: r).set 17 v = x0 :: x1 :: x2 :: x3 :: x4 :: x5 :: x6 :: x7 :: x8 :: x9 :: x10 :: x11 :: x12 :: x13 :: x14 :: x15 :: x16 :: v :: r := rfl
theorem set18 {α : Type} {v x0 x1 x2 x3 x4 x5 x6 x7 x8 x9 x10 x11 x12 x13 x14 x15 x16 x17 x18 : α} {r : List α} : (x0 :: x1 :: x2 :: x3 :: x4 :: x5 :: x6 :: x7 :: x8 :: x9 :: x10 :: x11 :: x12 :: x13 :: x14 :: x15 :: x16 :: x17 :: x18 :: r).set 18 v = x0 :: x1 :: x2 :: x3 :: x4 :: x5 :: x6 :: x7 :: x8 :: x9 :: x10 :: x11 :: x12 :: x13 :: x14 :: x15 :: x16 :: x17 :: v :: r := rfl
theorem set19 {α : Type} {v x0 x1 x2 x3 x4 x5 x6 x7 x8 x9 x10 x11 x12 x13 x14 x15 x16 x17 x18 x19 : α} {r : List α} : (x0 :: x1 :: x2 :: x3 :: x4 :: x5 :: x6 :: x7 :: x8 :: x9 :: x10 :: x11 :: x12 :: x13 :: x14 :: x15 :: x16 :: x17 :: x18 :: x19 :: r).set 19 v = x0 :: x1 :: x2 :: x3 :: x4 :: x5 :: x6 :: x7 :: x8 :: x9 :: x10 :: x11 :: x12 :: x13 :: x14 :: x15 :: x16 :: x17 :: x18 :: v :: r := rfl
theorem set20 {α : Type} {v x0 x1 x2 x3 x4 x5 x6 x7 x8 x9 x10 x11 x12 x13 x14 x15 x16 x17 x18 x19 x20 : α} {r : List α} : (x0 :: x1 :: x2 :: x3 :: x4 :: x5 :: x6 :: x7 :: x8 :: x9 :: x10 :: x11 :: x12 :: x13 :: x14 :: x15 :: x16 :: x17 :: x18 :: x19 :: x20 :: r).set 20 v = x0 :: x1 :: x2 :: x3 :: x4 :: x5 :: x6 :: x7 :: x8 :: x9 :: x10 :: x11 :: x12 :: x13 :: x14 :: x15 :: x16 :: x17 :: x18 :: x19 :: v :: r := rfl
-- targets
theorem x_gName {σ' : L2.St} (e : σ.set n (some v) = σ') (h : QS σ' H) : gName n v σ H QS := by subst e; exact h
theorem x_gSub {to ti : TE} {tt : TSet} (h : to σ H fun o H1 => ti σ H1 fun i H2 => tt o i v H2 fun H3 => QS σ H3) : gSub to ti tt v σ H QS := h
theorem x_gTup {g : TGs} (hT : SqT K H a xs) (hl : xs.length = n) (h : g xs σ H QS) : gTup K n g (.ref a) σ H QS := ⟨a, xs, rfl, hT, hl, h⟩
theorem x_gCons {t : TG} {u : TGs} {r : List V} (h : t v σ H fun σ' H' => u r σ' H' QS) : gCons t u (v :: r) σ H QS := ⟨v, r, rfl, h⟩
theorem x_gNil (h : QS σ H) : gNil [] σ H QS := ⟨rfl, h⟩
-- expressions
theorem x_var (e : σ[n]? = some (some v)) (h : Q v H) : tVar n σ H Q := ⟨v, e, h⟩
theorem x_c (h : Q v H) : tC v σ H Q := h
theorem x_op {r : R2} (h : ta σ H fun x H1 => tb σ H1 fun y H2 => r x y H2 Q) : tOp r ta tb σ H Q := h
theorem x_un {r : V → Hp → VK → Prop} (h : ta σ H fun x H1 => r x H1 Q) : tUn r ta σ H Q := h
theorem x_if (h : c σ H fun b H1 => if b = true then ta σ H1 Q else tb σ H1 Q) : tIf c ta tb σ H Q := h
theorem x_cb {r : List V → Hp → VK → Prop} {t : TA} (h : t σ H fun vs H1 => r vs H1 Q) : tCB r t σ H Q := h
theorem x_cons {tr : TA} (h : ta σ H fun x H1 => tr σ H1 fun xs H2 => QL (x :: xs) H2) : tCons ta tr σ H QL := h
theorem x_nil (h : QL [] H) : tNil σ H QL := h
theorem x_bm0 {T : String} {r : V → List V → Hp → VK → Prop} (h : ta σ H fun x H1 => tyV K T x H1 ∧ r x [] H1 Q) : tBM0 K T r ta σ H Q := h
theorem x_bm {T : String} {r : V → List V → Hp → VK → Prop} {t : TA} (h : ta σ H fun x H1 => tyV K T x H1 ∧ t σ H1 fun xs H2 => r x xs H2 Q) : tBM K T r ta t σ H Q := h
theorem x_call {sp : Sp} {dvs : List V} {E : XK} {t : TA} (h : t σ H fun vs H1 => sp (vs ++ dvs) H1 Q E) : tCall sp dvs E t σ H Q := h
theorem x_tup {t : TA} (h : t σ H fun xs H1 => xs.length ≤ sizeLine ∧ ∀ p, H1 p = none → Q (.ref p) (upd H1 p (.tup xs))) : tTup t σ H Q := h
theorem x_lst {t : TA} (h : t σ H fun xs H1 => xs.length ≤ sizeLine ∧ ∀ p, H1 p = none → Q (.ref p) (upd H1 p (.lst xs))) : tLst t σ H Q := h
theorem x_new {o : HO} {k : Nat} (e : k ≤ sizeLine) (h : ∀ p, H p = none → Q (.ref p) (upd H p o)) : k ≤ sizeLine ∧ ∀ p, H p = none → Q (.ref p) (upd H p o) := ⟨e, h⟩
theorem x_fld {f : Str} (h : ta σ H fun x H1 => ∃ a C dx fs v, x = .ref a ∧ H1 a = some (.ins C dx fs) ∧ Cls K C ∧ NoAttr K C f ∧ fs.lookup f = some v ∧ Q v H1) : tFld K ta f σ H Q := h
theorem x_test (h : ta σ H fun x H1 => ∃ k, x = .bl k ∧ QB k H1) : tTest ta σ H QB := h
theorem x_bl {b : Bool} (h : QB b H) : ∃ k, V.bl b = .bl k ∧ QB k H := ⟨b, rfl, h⟩
theorem x_tB (h : ta σ H fun x H1 => ∃ k, x = .bl k ∧ QB k H1) : tB ta σ H QB := h
theorem x_and (h : c σ H fun b H1 => if b = true then c' σ H1 QB else QB false H1) : tAnd c c' σ H QB := h
theorem x_or (h : c σ H fun b H1 => if b = true then QB true H1 else c' σ H1 QB) : tOr c c' σ H QB := h
theorem x_not (h : c σ H fun b H1 => QB (!b) H1) : tNot c σ H QB := h
theorem x_notV (h : ta σ H fun x H1 => ∃ c, x = .bl c ∧ Q (.bl (!c)) H1) : tNotV ta σ H Q := h
theorem x_andV (h : ta σ H fun x H1 => ∃ c, x = .bl c ∧ if c = true then tb σ H1 Q else Q (.bl false) H1) : tAndV ta tb σ H Q := h
theorem x_orV (h : ta σ H fun x H1 => ∃ c, x = .bl c ∧ if c = true then Q (.bl true) H1 else tb σ H1 Q) : tOrV ta tb σ H Q := h
-- rules on values
theorem x_rI {C : Int → Int → Prop} {g : Int → Int → V} (hc : C i j) (h : Q (g i j) H) : rI C g (.int i) (.int j) H Q := ⟨i, j, rfl, rfl, hc, h⟩
theorem x_rI0 {g : Int → Int → V} (h : Q (g i j) H) : rI0 g (.int i) (.int j) H Q := ⟨i, j, rfl, rfl, h⟩
theorem x_rU {g : Int → V} (h : Q (g i) H) : rU g (.int i) H Q := ⟨i, rfl, h⟩
theorem x_rEq (e : scal x y = true) (h : Q (.bl (decide (x = y))) H) : rEq x y H Q := ⟨e, h⟩
theorem x_rNe (e : scal x y = true) (h : Q (.bl (!decide (x = y))) H) : rNe x y H Q := ⟨e, h⟩
theorem x_ixL (hs : SqL K H a xs) (e : atI xs i = some v) (h : Q v H) : rIxL K (.ref a) (.int i) H Q := ⟨a, xs, i, v, rfl, rfl, hs, e, h⟩
theorem x_setL {k : Nat} {QH : Hp → Prop} (hs : H a = some (.lst xs)) (e : ixN xs.length i = some k) (h : QH (upd H a (.lst (xs.set k v)))) : rSetL (.ref a) (.int i) v H QH := ⟨a, xs, i, k, rfl, rfl, hs, e, h⟩
theorem at0 {x : V} {r : List V} : atI (x :: r) 0 = some x := by
  unfold atI ixN
  simp
theorem at1 {x y : V} {r : List V} : atI (x :: y :: r) 1 = some y := by
  unfold atI ixN
  rw [if_pos (by decide), if_pos (by simp only [List.length_cons]; omega)]
  rfl
theorem at2 {x y z : V} {r : List V} : atI (x :: y :: z :: r) 2 = some z := by
  unfold atI ixN
  rw [if_pos (by decide), if_pos (by simp only [List.length_cons]; omega)]
  rfl
theorem x_ixL0I {z : Int} {ns : List Int} (hs : SqL K H a ((z :: ns).map V.int)) (h : Q (.int z) H) : rIxL K (.ref a) (.int 0) H Q := ⟨a, _, 0, .int z, rfl, rfl, hs, at0, h⟩
theorem x_ixL0 {x : V} {r : List V} (hs : SqL K H a (x :: r)) (h : Q x H) : rIxL K (.ref a) (.int 0) H Q := ⟨a, _, 0, x, rfl, rfl, hs, at0, h⟩
theorem x_ixL1 {x y : V} {r : List V} (hs : SqL K H a (x :: y :: r)) (h : Q y H) : rIxL K (.ref a) (.int 1) H Q := ⟨a, _, 1, y, rfl, rfl, hs, at1, h⟩
theorem x_ixL2 {x y z : V} {r : List V} (hs : SqL K H a (x :: y :: z :: r)) (h : Q z H) : rIxL K (.ref a) (.int 2) H Q := ⟨a, _, 2, z, rfl, rfl, hs, at2, h⟩
theorem x_setL0 {y : V} {r : List V} {QH : Hp → Prop} (hs : H a = some (.lst (y :: r))) (h : QH (upd H a (.lst (v :: r)))) : rSetL (.ref a) (.int 0) v H QH := ⟨a, y :: r, 0, 0, rfl, rfl, hs, by simp [ixN] , h⟩
theorem x_setL1 {y z : V} {r : List V} {QH : Hp → Prop} (hs : H a = some (.lst (y :: z :: r))) (h : QH (upd H a (.lst (y :: v :: r)))) : rSetL (.ref a) (.int 1) v H QH := ⟨a, y :: z :: r, 1, 1, rfl, rfl, hs, by simp [ixN]; omega, h⟩
theorem x_setL2 {y z u : V} {r : List V} {QH : Hp → Prop} (hs : H a = some (.lst (y :: z :: u :: r))) (h : QH (upd H a (.lst (y :: z :: v :: r)))) : rSetL (.ref a) (.int 2) v H QH := ⟨a, y :: z :: u :: r, 2, 2, rfl, rfl, hs, by simp [ixN]; omega, h⟩
theorem x_neD {d e : PyData} (h1 : Dp K H x d) (h2 : Dp K H y e) (s1 : SeqAt.shaped d = true) (s2 : SeqAt.shaped e = true) (h : Q (.bl (!PyData.eqv d e)) H) : rNeD K x y H Q := ⟨d, e, h1, h2, s1, s2, h⟩
theorem x_eqD {d e : PyData} (h1 : Dp K H x d) (h2 : Dp K H y e) (s1 : SeqAt.shaped d = true) (s2 : SeqAt.shaped e = true) (h : Q (.bl (PyData.eqv d e)) H) : rEqD K x y H Q := ⟨d, e, h1, h2, s1, s2, h⟩
theorem dpInts {K : PySem.W.Frag} {H : Hp} : ∀ ns : List Int, DpAll K H (ns.map V.int) (ns.map PyData.int)
  | [] => .nil
  | n :: r => .cons (.int n) (dpInts r)
theorem canInts : ∀ ns : List Int, PyData.canLayAll0 (ns.map PyData.int) = true
  | [] => rfl
  | n :: r => by
    show (PyData.canLay0 (.int n) && PyData.canLayAll0 (r.map PyData.int)) = true
    rw [canInts r]; rfl
theorem depthInts : ∀ ns : List Int, PyData.depthAll (ns.map PyData.int) ≤ 1
  | [] => by decide
  | n :: r => by
    show Nat.max _ _ ≤ 1
    exact Nat.max_le.mpr ⟨Nat.zero_le _, depthInts r⟩
theorem eqvNil (ns : List Int) : PyData.eqv (.list (ns.map PyData.int)) (.list []) = ns.isEmpty := by cases ns <;> rfl
theorem x_neNil {ns : List Int} (h1 : SqL K H a (ns.map V.int)) (h2 : SqL K H p []) (h : Q (.bl (!ns.isEmpty)) H) : rNeD K (.ref a) (.ref p) H Q :=
  ⟨_, _, .lst h1 (dpInts ns), .lst h2 .nil, by
    unfold SeqAt.shaped
    rw [Bool.and_eq_true]
    exact ⟨canInts ns, decide_eq_true (by have := depthInts ns; show PyData.depthAll _ + 1 ≤ 64; omega)⟩, by decide, by rw [eqvNil]; exact h⟩
theorem x_pop0 {ys : List V} (hs : H a = some (.lst (y :: ys))) (h : Q y (upd H a (.lst ys))) : rPopAt (.ref a) [.int 0] H Q :=
  ⟨a, y :: ys, 0, 0, y, rfl, rfl, hs, by decide, by decide, by simp [seqIndex?], rfl, h⟩
theorem x_pop0I {z : Int} {ns : List Int} (hs : H a = some (.lst ((z :: ns).map V.int))) (h : Q (.int z) (upd H a (.lst (ns.map V.int)))) : rPopAt (.ref a) [.int 0] H Q := x_pop0 hs h
theorem x_popAt {k : Nat} (hs : H a = some (.lst xs)) (h1 : -(2 ^ 63) ≤ i) (h2 : i < 2 ^ 63) (e : seqIndex? i xs.length = some k) (e2 : xs[k]? = some y) (h : Q y (upd H a (.lst (xs.eraseIdx k)))) : rPopAt (.ref a) [.int i] H Q := ⟨a, xs, i, k, y, rfl, rfl, hs, h1, h2, e, e2, h⟩
theorem x_int1 (h : Q (.int i) H) : (∃ z, [V.int i] = [.int z] ∧ Q (.int z) H) ∨ ∃ k, [V.int i] = [.bl k] ∧ Q (.int (if k = true then 1 else 0)) H := .inl ⟨i, rfl, h⟩
theorem x_tyL (hs : SqL K H a xs) {B : Prop} (h : B) : tyV K "list" (.ref a) H ∧ B := ⟨.inl ⟨rfl, xs, hs⟩, h⟩
theorem x_dec {p : Prop} [Decidable p] {A B : Prop} (h1 : p → A) (h2 : ¬ p → B) : if decide p = true then A else B := by
  by_cases h : p
  · rw [if_pos (decide_eq_true h)]; exact h1 h
  · rw [if_neg (by simpa using h)]; exact h2 h
theorem x_decN {p : Prop} [Decidable p] {A B : Prop} (h1 : ¬ p → A) (h2 : p → B) : if (!decide p) = true then A else B := by
  by_cases h : p
  · rw [if_neg (by simpa using h)]; exact h2 h
  · rw [if_pos (by simpa using h)]; exact h1 h
theorem x_bool {b : Bool} {A B : Prop} (h1 : b = true → A) (h2 : b = false → B) : if b = true then A else B := by
  cases b with
  | true => rw [if_pos rfl]; exact h1 rfl
  | false => rw [if_neg Bool.false_ne_true]; exact h2 rfl
theorem x_boolN {b : Bool} {A B : Prop} (h1 : b = false → A) (h2 : b = true → B) : if (!b) = true then A else B := by
  cases b with
  | true => rw [if_neg (by decide)]; exact h2 rfl
  | false => rw [if_pos (show (!false) = true from rfl)]; exact h1 rfl
theorem x_T {A B : Prop} (h : A) : if true = true then A else B := by rw [if_pos rfl]; exact h
theorem x_F {A B : Prop} (h : B) : if false = true then A else B := by rw [if_neg Bool.false_ne_true]; exact h
theorem x_nT {A B : Prop} (h : B) : if (!true) = true then A else B := by rw [if_neg (by decide)]; exact h
theorem x_nF {A B : Prop} (h : A) : if (!false) = true then A else B := by rw [if_pos (show (!false) = true from rfl)]; exact h
end
end WD

set_option Elab.async false
set_option linter.all false
set_option maxRecDepth 100000
namespace WD
open PySem PySem.Spec PyProof.Rows L2
/-- one clause: its class, the slot of its name (if it has one), its suite -/
structure Cls1 where
  c : Value
  i : Option Nat
  ts : Addr → Value → Option Addr → TS
/-- leaving a suite that held the exception in a slot -/
def leave1 (D : Ends) : Option Nat → Ends
  | none => D
  | some i => ⟨fun τ G => D.nx (τ.set i none) G, D.rt, fun τ G => D.bk (τ.set i none) G, fun τ G => D.ct (τ.set i none) G⟩
def enter1 (σ : L2.St) (a : Addr) : Option Nat → L2.St
  | none => σ
  | some i => σ.set i (some (.ref a))
/-- what a row of clauses wishes of an exception -/
def wRow (K : PySem.W.Frag) (Wo : WX) (D : Ends) : List Cls1 → WX
  | [] => Wo
  | z :: r => fun cl dd τ G => ∃ yes, PySem.W.exmOne K cl z.c = some yes ∧ (yes = true → ∀ a, G a = none → z.ts a cl dd (leave1 D z.i) (enter1 τ a z.i) G) ∧ (yes = false → wRow K Wo D r cl dd τ G)
inductive Rows (X : Cx) : List ExceptHandler → List Cls1 → Prop
  | nil : Rows X [] []
  | bare {x : Str} {c : Value} {ts : Addr → Value → Option Addr → TS} {b0 : Stmt} {su : List Stmt} {p p' : Pos} {hs : List ExceptHandler} {l : List Cls1} (nm : Names X x c)
      (sc : ∀ (a : Addr) (ob : Obj) (cl : Value) (dd : Option Addr) (pn : List (Addr × Obj)), Zc cl dd ob → (∃ vs, ob.data = .fields vs) → PSs (X.suite a ((a, ob) :: pn)) (b0 :: su) (ts a cl dd)) (r : Rows X hs l) :
      Rows X (.ExceptHandler (some (.Name x p)) none (b0 :: su) p' :: hs) (⟨c, none, ts⟩ :: l)
  | named {x n : Str} {i : Nat} {c : Value} {ts : Addr → Value → Option Addr → TS} {b0 : Stmt} {su : List Stmt} {p p' : Pos} {hs : List ExceptHandler} {l : List Cls1} (nm : Names X x c) (hi : X.N[i]? = some n) (hl : X.env.kindOf n = some .local)
      (sc : ∀ (a : Addr) (ob : Obj) (cl : Value) (dd : Option Addr) (pn : List (Addr × Obj)), Zc cl dd ob → (∃ vs, ob.data = .fields vs) → PSs (X.suite a ((a, ob) :: pn)) (b0 :: su) (ts a cl dd)) (r : Rows X hs l) :
      Rows X (.ExceptHandler (some (.Name x p)) (some n) (b0 :: su) p' :: hs) (⟨c, some i, ts⟩ :: l)
section
variable {X : Cx} {bd : List Stmt} {h0 : ExceptHandler} {hs : List ExceptHandler} {l : List Cls1} {pos : Pos} {tb : WX → TS} {Wo : WX}
theorem ps_rows (st : X.stack = X.env :: X.outer) (hf : X.env.frame = some X.env.locals) (hN : X.N.Nodup) (tk : Takes X Wo)
    (hb : ∀ (V : WX) (pn : List (Addr × Obj)) (xe : Value → Shared → Prop), Takes (X.tr pn xe) V → PassesOwn (model X.prog X.w) X.A X.env xe → PSs (X.tr pn xe) bd (tb V))
    (hr : Rows X (h0 :: hs) l) : PS X (.Try bd (h0 :: hs) [] [] pos) (fun D σ H => tb (wRow X.K Wo D l) D σ H) := by
  constructor
  intro pins s σ H D I hq
  have okX := I.ok
  have frX : X.A.frames = some (X.env :: X.outer) := by rw [okX.frames, st]
  refine wpAny_Try_except ?_
  have body := (hb (wRow X.K Wo D l) (X.pn ++ pins) (fun e z1 => wpAny (model X.prog X.w) X.A (noteFrame e X.env) (fun _ z2 => wpAny (model X.prog X.w) X.A (setFlight e none)
    (fun _ z3 => wpAny (model X.prog X.w) X.A (handleBy e X.env (h0 :: hs)) (SP X pins D) X.xe z3) X.xe z2) X.xe z1) ?caught PassesOwn.looking).run [] s σ H D (I.toTry _) hq
  case caught =>
    rintro u z ⟨a, B, zI, pins', τ, G, cl, dd, rfl, J0, nb, up, sky, na, os, ag, wish⟩
    have J : Inv X pins τ G zI := J0.ofTry okX
    have sky1 : Sky B (X.env :: X.outer) a (Zc cl dd) X.env.locals z.heap := by rw [← st]; exact sky
    show wpAny (model X.prog X.w) X.A (noteFrame (.ref a) X.env) _ _ _
    refine Sky.land Zc.steady frX hf sky1 fun g3 fly3 up3 => ?_
    have J3 : Inv X pins τ G { z with heap := g3 } := J.landed nb fly3.1 (up.trans up3) os ag
    obtain ⟨ob3, v3, at3, zc3, da3⟩ := fly3.there
    have away : a ∉ frs (X.env :: X.outer) := by
      intro hm
      obtain ⟨_, ob', at', nf⟩ := fly3.2.2.1.mem hm
      rw [at3] at at'
      cases at'
      exact nf _ da3
    have aL : a ≠ X.env.locals := fun e => away (List.mem_filterMap.mpr ⟨X.env, List.mem_cons_self, by rw [hf, e]⟩)
    have aF : a ∉ X.fs := by
      intro hm
      obtain ⟨e, he, q⟩ := List.mem_filterMap.mp hm
      exact away (List.mem_filterMap.mpr ⟨e, List.mem_cons_of_mem _ he, q⟩)
    have S3 := J3.suite at3 da3 na aL aF
    have go : ∀ {ks : List ExceptHandler} {m : List Cls1}, Rows X ks m → wRow X.K Wo D m cl dd τ G →
        wpAny (model X.prog X.w) X.A (handleBy (.ref a) X.env ks) (SP X pins D) X.xe { z with heap := g3 } := by
      intro ks m rk
      have asked : ∀ {x : Str} {c : Value} {p : Pos} {Q : Value → Shared → Prop} {E : Value → Shared → Prop}, Names X x c → Q c { z with heap := g3 } →
          wpAny (model X.prog X.w) (X.A.mark (some (.ref a))) (eval (.Name x p) X.env) Q E { z with heap := g3 } := by
        rintro x c p Q E ⟨gl, db, mm | ⟨mm, bv, nn⟩⟩ q
        · exact ld_glob (X := X.suite a ((a, ob3) :: (X.pn ++ pins))) S3 gl mm q db
        · exact ld_blt (X := X.suite a ((a, ob3) :: (X.pn ++ pins))) S3 gl mm bv q nn db
      have LT : PySem.W.Looks (model X.prog X.w) g3 (typeOf (.ref a)) cl := fun _ _ _ _ kk q => wpAny_typeOf_ref (kk _ _ at3) (by rw [zc3.1]; exact q)
      induction rk with
      | nil =>
        intro w
        refine wpAny_handleBy_nil ?_
        obtain ⟨_, _, _, ob, vs, T, _, _, hat, _, hda, h1, _⟩ := id fly3
        unfold PySem.passOn
        refine wpAny_bind (wpAny_field hat hda h1 ?_)
        have nn : ¬ ((Value.ref T == Value.none) = true) := by simp
        rw [if_neg nn]
        have out : wpAny (model X.prog X.w) X.A (setFlight (.ref a) X.env.frame) (fun _ z4 => wpAny (model X.prog X.w) X.A (throw (.ref a) : Sem Flow) (SP X pins D) X.xe z4) X.xe { z with heap := g3 } := by
          rw [hf]
          refine HandSPX.setFlight_upZ fly3 fun g4 held4 up4 => wpAny_throw (tk _ _ ⟨a, B, zI, pins, τ, G, cl, dd, rfl, J, nb, ?_, ?_, na, os, ag, w⟩)
          · exact (up.trans up3).trans up4
          · exact .inr (.inr (by rw [st]; exact held4))
        first
          | exact wpAny_bind out
          | exact wpAny_bind (wpAny_pure (wpAny_bind out))
      | @bare x c ts b0 su p p' ks2 m2 nm sc r ih =>
        rintro ⟨yes, ey, hy, hn⟩
        refine wpAny_handleBy_cons (codeAny_handlers_test ?_) (by intro q; cases q)
        refine asked nm ((PySem.W.exm_one (M := model X.prog X.w) J3.kIn LT ey).here ?_)
        cases yes with
        | false => exact ih (hn rfl)
        | true =>
          refine codeAny_handlers_suite (HandSPX.lands_againZ fly3 fun g4 fly4 up4 => ?_)
          have J4 : Inv X pins τ G { z with heap := g4 } := J.landed nb fly4.1 ((up.trans up3).trans up4) os ag
          obtain ⟨ob4, v4, at4, zc4, da4⟩ := fly4.there
          have ran := (sc a ob4 cl dd (X.pn ++ pins) zc4 ⟨_, da4⟩).run [] _ _ G _ (J4.suite at4 da4 na aL aF) (hy rfl a na)
          refine wpAny_mono ran (fun fl z6 hz => ?_) (fun _ _ ff => ff.elim)
          cases fl with
          | ret u =>
            obtain ⟨_, _, _, S6, r6, q6⟩ := hz
            exact ⟨_, _, _, S6.unsuite okX, r6, q6⟩
          | next => obtain ⟨_, _, S6, q6⟩ := hz; exact ⟨_, _, S6.unsuite okX, q6⟩
          | brk => obtain ⟨_, _, S6, q6⟩ := hz; exact ⟨_, _, S6.unsuite okX, q6⟩
          | cont => obtain ⟨_, _, S6, q6⟩ := hz; exact ⟨_, _, S6.unsuite okX, q6⟩
      | @named x n i c ts b0 su p p' ks2 m2 nm hi hl sc r ih =>
        rintro ⟨yes, ey, hy, hn⟩
        refine wpAny_handleBy_cons (codeAny_handlers_test ?_) (by intro q; cases q)
        refine asked nm ((PySem.W.exm_one (M := model X.prog X.w) J3.kIn LT ey).here ?_)
        cases yes with
        | false => exact ih (hn rfl)
        | true =>
          refine codeAny_handlers_suite_as (HandSPX.lands_againZ fly3 fun g4 fly4 up4 => ?_)
          have J4 : Inv X pins τ G { z with heap := g4 } := J.landed nb fly4.1 ((up.trans up3).trans up4) os ag
          obtain ⟨ob4, v4, at4, zc4, da4⟩ := fly4.there
          have S4 := J4.suite at4 da4 na aL aF
          refine store_ok (X := X.suite a ((a, ob4) :: (X.pn ++ pins))) (v := .ref a) S4 hN hi (.inl hl) rfl (fun z5 S5 => ?_) (.inr hl)
          have ran := (sc a ob4 cl dd (X.pn ++ pins) zc4 ⟨_, da4⟩).run [] z5 _ G _ S5 (hy rfl a na)
          refine wpAny_mono ran (fun fl z6 hz => ?_) (fun _ _ ff => ff.elim)
          have gone : ∀ {τ6 : L2.St} {G6 : Hp} {R : Shared → Prop}, Inv (X.suite a ((a, ob4) :: (X.pn ++ pins))) [] τ6 G6 z6 → (∀ z7, Inv X pins (τ6.set i none) G6 z7 → R z7) →
              wpAny (model X.prog X.w) X.A (do bindName X.env n .none; unbindBehindTheSuite X.env n p') (fun _ z7 => R z7) X.xe z6 :=
            fun S6 k => gone_ok (S6.unsuite okX) hN hi hl k
          cases fl with
          | ret u =>
            obtain ⟨_, _, _, S6, r6, q6⟩ := hz
            exact gone S6 fun _ J7 => ⟨_, _, _, J7, r6, q6⟩
          | next => obtain ⟨_, _, S6, q6⟩ := hz; exact gone S6 fun _ J7 => ⟨_, _, J7, q6⟩
          | brk => obtain ⟨_, _, S6, q6⟩ := hz; exact gone S6 fun _ J7 => ⟨_, _, J7, q6⟩
          | cont => obtain ⟨_, _, S6, q6⟩ := hz; exact gone S6 fun _ J7 => ⟨_, _, J7, q6⟩
    exact go hr wish
  refine wpAny_mono body (fun fl z1 hz => ?_) (fun _ _ he => he)
  cases fl with
  | ret u =>
    obtain ⟨_, _, _, J1, r1, q⟩ := hz
    exact ⟨_, _, _, J1.ofTry okX, r1, q⟩
  | next =>
    obtain ⟨_, _, J1, q⟩ := hz
    exact wpAny_execs_nil ⟨_, _, J1.ofTry okX, q⟩
  | brk => obtain ⟨_, _, J1, q⟩ := hz; exact ⟨_, _, J1.ofTry okX, q⟩
  | cont => obtain ⟨_, _, J1, q⟩ := hz; exact ⟨_, _, J1.ofTry okX, q⟩
end
end WD

set_option Elab.async false
set_option linter.all false
set_option maxRecDepth 100000
set_option maxHeartbeats 4000000
namespace WD
open PySem PySem.Spec PyProof.Rows L2
section
open PySem.W PySem.Calls
variable {prog : Program} {w : World} {A : Around} {E : Value → Shared → Prop} {s : Shared} {K : Frag} {x D : Addr} {ox : Obj}
/-- the class of an own exception that has its dict -/
theorem cls_of_exc {od : Obj} {Q : Option Value → Shared → Prop} (C : ExcC K D) (X : K.In s.heap) (I : InstAt s.heap x ox D (some od)) (h : Q (some (.ref D)) { s with toks := s.toks + 1 }) :
    wpAny (model prog w) A (getAttr? (.ref x) "__class__") Q E s := by
  have found : findObj K D (some od) "__class__" = some (.bind (.builtin "getset_descriptor.__get__") (.builtin "object.__class__")) := by
    refine findObj_data ?_ C.ha C.hn C.ht
    obtain ⟨cd, hc, _⟩ := any_some C.hd
    rw [hc]; rfl
  obtain ⟨hp, gs, dr, tk, os⟩ := s
  have A0 := I.type (M := model prog w)
  have A1 := looks_findIn (M := model prog w) X C.hg
  have A2 := looks_findIn (M := model prog w) X C.hk
  have A3 := looks_find (M := model prog w) X I found
  have under : Looks (model prog w) hp (isInstance (.ref x) (.type "BaseException")) true := A0.andThen (looks_subIn X C.hs)
  have n0 : (Value.builtin "BaseException.__getattribute__" == Value.builtin "object.__getattribute__") = false := by decide +kernel
  have n1 : (onTheHeap (Value.ref D) && (Value.builtin "BaseException.__getattribute__" == Value.builtin "object.__getattribute__")) = false := by rw [n0]; rfl
  have n2 : (false && onTheHeap (Value.builtin "BaseException.__getattribute__")) = false := rfl
  unfold getAttr? getAttrBy? getAttrBy
  refine wpAny_bind (wpAny_mkText (wpAny_bind (wpAny_attempt (wpAny_holding ?_))))
  refine wpAny_bind (A0.at (wpAny_bind (A1.at ?_)))
  refine (show wpAny _ _ (if (onTheHeap (Value.ref D) && (Value.builtin "BaseException.__getattribute__" == Value.builtin "object.__getattribute__")) = true then _ else _) _ _ _ from ?_)
  rw [n1, if_neg Bool.false_ne_true]
  unfold getAttrByItsOwn hookBefore
  refine wpAny_bind ?_
  have onh : onTheHeap (Value.ref D) = true := rfl
  rw [if_pos onh]
  refine A2.at (wpAny_bind (wpAny_attempt (wpAny_holding ?_)))
  unfold callGetattribute
  rw [n2, if_neg Bool.false_ne_true]
  unfold boundAndCalled
  rw [PySem.F.excAttr_ValueError.ga.bind (.ref x)]
  refine wpAny_bind (wpAny_pure ?_)
  refine (show wpAny _ _ (call (.builtin "BaseException.__getattribute__") [.ref x, .str "__class__" tk]) _ _ _ from ?_)
  refine wpAny_call (codeAny_call_builtin PySem.F.excAttr_ValueError.ga.plain PySem.F.entry_bexc_ga ?_)
  refine @check_slot (model prog w) _ _ ⟨hp, gs, dr, tk + 1, os⟩ "BaseException.__getattribute__" "BaseException" "__getattribute__" (.ref x)
    [.str "__class__" tk] [] _ (by decide +kernel) (by decide +kernel) under (PySem.F.args_bexc_ga (.ref x) (.str "__class__" tk)) ?_
  unfold Builtin.«object.__getattribute__»
  refine wpAny_bind (wpAny_of_eq (a := ((Value.ref x : Value), [Value.str "__class__" tk])) (by first | rfl | (simp only [slotArgs]; rfl)) ?_)
  refine wpAny_bind (wpAny_pure ?_)
  refine wpAny_bind (A0.at (wpAny_bind (A3.at ?_)))
  refine (show wpAny _ _ (holding [Value.builtin "object.__class__"] (call (.builtin "getset_descriptor.__get__") [.builtin "object.__class__", .ref x, .ref D]) >>= ret) _ _ _ from ?_)
  refine wpAny_bind (wpAny_holding (wpAny_call ?_))
  refine class_get (s := ⟨hp, gs, dr, tk + 1, os⟩) (ox := ox) (od := some od) X I C.hm ?_
  refine wpAny_pure ?_
  refine (show wpAny _ _ (handedOut (.ref D)) _ _ _ from ?_)
  rw [handedOut_of (v := .ref D) rfl]
  first
    | exact wpAny_pure (wpAny_pure h)
    | exact wpAny_pure h
    | exact wpAny_pure (wpAny_bind (wpAny_pure (wpAny_pure h)))
theorem kit_exc (C : ExcC K D) : KitX K (.ref x) (.ref D) (fun h => ∃ od, InstAt h x ox D (some od)) where
  ty := fun _ _ _ ⟨_, I⟩ => I.type
  it := fun M h X _ => by
    obtain ⟨cd, hc, _⟩ := any_some C.hd
    unfold clsIn at hc
    split at hc
    · rename_i o2 d2 c2 s2 found
      intro A' Q' E' s' kk q
      unfold isType loadHead
      exact wpAny_bind (wpAny_loadPart (kk _ _ (X _ _ found)) (wpAny_pure q))
    · cases hc
  ne := fun h tp dd its n sl X at_ => by
    obtain ⟨cd, hc, _⟩ := any_some C.hd
    refine Bool.eq_false_iff.mpr fun q => ?_
    cases (Value.ref.inj (beq_iff_eq.mp q) : D = tp)
    unfold clsIn at hc
    split at hc
    · rename_i o2 d2 c2 s2 found
      cases (X _ _ found).symm.trans at_
    · cases hc
  ca := fun X ⟨_, I⟩ k => cls_of_exc C X I k
end
/-- isinstance(e, c), e the exception that the suite holds (at a; its class cl, its dict dd) -/
def rIsX (K : PySem.W.Frag) (a : Addr) (cl : Value) (dd : Option Addr) : List V → Hp → VK → Prop := fun xs H Q => ∃ (c : V) (cv : Value) (D d : Addr) (fs : List (Str × V)) (b : Bool),
  xs = [.ref a, c] ∧ ClsV c cv ∧ cl = .ref D ∧ dd = some d ∧ ExcC K D ∧ H d = some (.xd fs) ∧ PySem.W.kitOne K (.ref D) cv = some b ∧ Q (.bl b) H
theorem call_isX {X : Cx} {a : Addr} {cl : Value} {dd : Option Addr} {ob : Obj} {pn : List (Addr × Obj)} (hz : Zc cl dd ob) (hf : ∃ vs, ob.data = .fields vs) : CallR (X.suite a ((a, ob) :: pn)) (.builtin "isinstance") (rIsX X.K a cl dd) := by
  intro pins s σ H xs us Q I r h
  obtain ⟨c, cv, D, d, fs, b, rfl, kc, rfl, rfl, C, hd, e, q⟩ := h
  obtain ⟨u1, u2, rfl, r1, r2⟩ := vals2 r
  cases kc.eq r2
  cases (show u1 = Value.ref a from r1)
  obtain ⟨at_, _⟩ := I.pin (a, ob) (List.mem_append_left _ List.mem_cons_self)
  obtain ⟨vs, hv⟩ := hf
  obtain ⟨mA, ns, _⟩ := (show ObjOk X.prog X.w H s.heap d (.xd fs) from I.hok d _ hd)
  obtain ⟨od, ho, _⟩ := lookIn_ns ns
  have J : PySem.W.InstAt s.heap a ob D (some od) := ⟨at_, hz.1, by unfold PySem.W.notCls; rw [hv] <;> rfl, by rw [hz.2]; exact ho⟩
  exact PySem.W.kia_one (kit_exc C) I.kIn ⟨od, J⟩ e (fun z => nomatch z) fun tk => ⟨.bl b, H, I.kept (t' := tk) fun _ _ z => z, rfl, q⟩
/-- e.f, e the exception that the suite holds -/
def tXw (K : PySem.W.Frag) (a : Addr) (cl : Value) (dd : Option Addr) (f : Str) (te : TE) : TE := fun σ H Q => te σ H fun x H1 => x = .ref a ∧ ∃ (C d : Addr) (fs : List (Str × V)) (v : V), cl = .ref C ∧ XfC K C ∧ PySem.W.findIn K (.ref C) f = some none ∧
  dd = some d ∧ H1 d = some (.xd fs) ∧ fs.lookup f = some v ∧ Q v H1
theorem pe_xw {X : Cx} {a : Addr} {cl : Value} {dd : Option Addr} {ob : Obj} {pn : List (Addr × Obj)} {e : Expr} {te : TE} {pos : Pos} {n : Str} (hz : Zc cl dd ob) (hf : ∃ vs, ob.data = .fields vs)
    (he : PE (X.suite a ((a, ob) :: pn)) e te) (hb : attributeBase e n X.env (eval e X.env) = eval e X.env := by rfl) : PE (X.suite a ((a, ob) :: pn)) (.Attribute e n pos) (tXw X.K a cl dd n te) := by
  constructor
  intro pins s σ H Q I h
  refine attr_of hb (thn (he.run pins s σ H _ I h) ?_)
  rintro u s1 ⟨x, H1, I1, rx, rfl, C, d, fs, v, rfl, T, no, rfl, hd, hl, q⟩
  cases (show u = Value.ref a from rx)
  obtain ⟨at_, _⟩ := I1.pin (a, ob) (List.mem_append_left _ List.mem_cons_self)
  obtain ⟨vs, hv⟩ := hf
  obtain ⟨mA, ns, hr⟩ := (show ObjOk X.prog X.w H1 s1.heap d (.xd fs) from I1.hok d _ hd)
  obtain ⟨od, ho, hlo⟩ := lookIn_ns ns
  obtain ⟨u2, hu, ru⟩ := RelO.some_of (v := v) (o := mA n) (by rw [← hl]; exact hr n)
  have J : PySem.W.InstAt s1.heap a ob C (some od) := ⟨at_, hz.1, by unfold PySem.W.notCls; rw [hv] <;> rfl, by rw [hz.2]; exact ho⟩
  refine HandSPX.exc_get I1.kIn J T.ga T.gg T.exC (PySem.W.findObj_own T.hdC no rfl ?_) (handed_of ru) ⟨v, H1, I1.tok _, ru, q⟩
  rw [hlo, hu]
end WD

set_option Elab.async false
set_option linter.all false
set_option maxRecDepth 100000
set_option maxHeartbeats 1000000
namespace WD
open PySem PySem.Spec PyProof.Rows L2
section
variable {X : Cx} {o e : Expr} {es : List Expr} {ta : TE} {t : TA} {C f : Addr} {m x : Str} {fd : FuncData} {ps : List Str} {sp : Sp} {E : L2.St → XK} {CT : CXT} {k : Nat} {ds : List Value} {dvs : List V} {p apos pos : Pos}
/-- a def's run where what it raises is wished for at the caller's slots; ds: the values of its defaults -/
theorem run_at {pins : List (Addr × Obj)} {σ : L2.St} {H : Hp} {s : Shared} {Q : VK} {us : List Value} {vs : List V} (F : FnOk X.prog X.w X.K X.mg X.base CT k f fd ps sp) (hr : Room k X.A) (hb : Binds X.K fd ps ds) (hd : Vals dvs ds) (hx : PassesAt CT X σ (E σ))
    (I : Inv X pins σ H s) (r : Vals vs us) (h : sp (vs ++ dvs) H Q (E σ)) : wpAny (model X.prog X.w) X.A (call (.ref f) us) (EP X pins σ Q) X.xe s := by
  have rr := r.append hd
  have len : (us ++ ds).length = ps.length := rr.length.symm.trans (F.len _ _ _ _ h)
  have ran := F.run X.A X.stack s H ⟨us, []⟩ (us ++ ds) (vs ++ dvs) Q (E σ) hr I.env0 (hb s us I.kIn len) rr h
  refine wpAny_call (codeAny_mono ran ?_)
  rintro (er | fl) s' hq
  · exact hx pins H s er s' I hq
  · cases fl with
    | ret u => exact I.after hq
    | next => exact hq.elim
    | brk => exact hq.elim
    | cont => exact hq.elim
def tMethW (C : Addr) (m : Str) (sp : Sp) (dvs : List V) (E : L2.St → XK) (ta : TE) (t : TA) : TE := fun σ H Q => ta σ H fun x H1 => ∃ a dx fs, x = .ref a ∧ H1 a = some (.ins C dx fs) ∧ fs.lookup m = none ∧ t σ H1 fun vs H2 => sp (x :: (vs ++ dvs)) H2 Q (E σ)
theorem pe_methW {pl : Sem Bool} (he : PE X o ta) (c : Cls X.K C) (hm : Meth X.K C m f) (F : FnOk X.prog X.w X.K X.mg X.base CT k f fd ps sp) (hr : Room k X.A) (hb : Binds X.K fd ps ds) (hd : Vals dvs ds) (hx : ∀ σ, PassesAt CT X σ (E σ)) (ha : PA X (e :: es) t)
    (hst : starEach (e :: es) X.env = (false, eval e X.env) :: starEach es X.env := by rfl) (hpl : (backTo pos (starEach es X.env)).any (·.1) = false := by rfl)
    (ht : eval (.Call (.Attribute o m apos) (e :: es) [] pos) X.env = (do
      let val ← eval o X.env
      standAt apos.atName
      let (g, fst) ← holding [val] (getMethod val m pl)
      callWith pos g fst (backTo pos (starEach (e :: es) X.env)) (backToKw pos (keywordEach [] X.env))) := by rfl) :
    PE X (.Call (.Attribute o m apos) (e :: es) [] pos) (tMethW C m sp dvs E ta t) := by
  constructor
  intro pins s σ H Q I h
  refine PySem.W.methodCall_KW (pl := pl) (thn (he.run pins s σ H _ I h) ?_) ht
  rintro u s1 ⟨x, H1, I1, rx, a, dx, fs, rfl, ea, l, q⟩
  cases (show u = Value.ref a from rx)
  refine getmeth_ok I1 ea c hm l ?_
  refine PySem.W.callWith_K (first := [.ref a]) (h₀ := X.base) I.ok.mod.kin hm.kp (thn (ha.run pos pins s1 σ H1 _ I1 q) ?_) hst hpl
  rintro us s2 ⟨vs, H2, I2, r, q2⟩
  exact ⟨I2.kIn, run_at (us := .ref a :: us) (vs := .ref a :: vs) F hr hb hd (hx σ) I2 (.cons rfl r) q2⟩
theorem pe_methW0 {pl : Sem Bool} (he : PE X o ta) (c : Cls X.K C) (hm : Meth X.K C m f) (F : FnOk X.prog X.w X.K X.mg X.base CT k f fd ps sp) (hr : Room k X.A) (hb : Binds X.K fd ps ds) (hd : Vals dvs ds) (hx : ∀ σ, PassesAt CT X σ (E σ))
    (ht : eval (.Call (.Attribute o m apos) [] [] pos) X.env = (do
      let val ← eval o X.env
      standAt apos.atName
      let (g, fst) ← holding [val] (getMethod val m pl)
      callWith pos g fst (backTo pos (starEach [] X.env)) (backToKw pos (keywordEach [] X.env))) := by rfl) :
    PE X (.Call (.Attribute o m apos) [] [] pos) (tMethW C m sp dvs E ta tNil) := by
  constructor
  intro pins s σ H Q I h
  refine PySem.W.methodCall_KW (pl := pl) (thn (he.run pins s σ H _ I h) ?_) ht
  rintro u s1 ⟨x, H1, I1, rx, a, dx, fs, rfl, ea, l, q⟩
  cases (show u = Value.ref a from rx)
  refine getmeth_ok I1 ea c hm l ?_
  exact PySem.W.callWith_K0 (first := [.ref a]) I1.kIn hm.kp (run_at (us := [.ref a]) (vs := [.ref a]) F hr hb hd (hx σ) I1 (.cons rfl .nil) q)
def tMakeW (C : Addr) (sp : Sp) (dvs : List V) (E : L2.St → XK) (t : TA) : TE := fun σ H Q => t σ H fun vs H1 => ∀ x dx, H1 x = none → H1 dx = none → dx ≠ x →
  sp (.ref x :: (vs ++ dvs)) (upd (upd H1 dx (.own x)) x (.ins C dx [])) (fun v H2 => v = .non ∧ Q (.ref x) H2) (E σ)
theorem pe_makeW (M : Mk X.K C f) (F : FnOk X.prog X.w X.K X.mg X.base CT k f fd ps sp) (hr : Room (k + 1) X.A) (hg : Gl X x) (hm : X.mg x = some (.ref C)) (hb : Binds X.K fd ps ds) (hd : Vals dvs ds) (hx : ∀ σ, PassesAt CT X σ (E σ))
    (ha : PA X (e :: es) t) (hdb : (x == ("__debug__" : Str)) = false := by decide) (he : starEach (e :: es) X.env = (false, eval e X.env) :: starEach es X.env := by rfl) (hpl : (backTo pos (starEach es X.env)).any (·.1) = false := by rfl) :
    PE X (.Call (.Name x p) (e :: es) [] pos) (tMakeW C sp dvs E t) := by
  constructor
  intro pins s σ H Q I h
  refine wpAny_Call_Name_kw (ld_glob I hg hm ?_ hdb)
  refine PySem.W.callWith_K (h₀ := X.base) I.ok.mod.kin M.kp (thn (ha.run pos pins s σ H _ I h) ?_) he hpl
  rintro us s1 ⟨vs, H1, I1, r, q⟩
  refine ⟨I1.kIn, ?_⟩
  have fr := I1.hok.fresh (Nat.le_succ s1.heap.objs.size)
  have q0 := q _ _ fr (I1.hok.fresh (Nat.le_refl _)) (Nat.ne_of_lt (Nat.lt_succ_self _))
  have I2 := Inv.made (C := C) I1
  have rr : Vals (V.ref (s1.heap.objs.size + 1) :: (vs ++ dvs)) (Value.ref (s1.heap.objs.size + 1) :: (us ++ ds)) := .cons rfl (r.append hd)
  have len : (Value.ref (s1.heap.objs.size + 1) :: us ++ ds).length = ps.length := rr.length.symm.trans (F.len _ _ _ _ q0)
  have ran := F.run _ X.stack _ _ ⟨Value.ref (s1.heap.objs.size + 1) :: us, []⟩ (Value.ref (s1.heap.objs.size + 1) :: (us ++ ds)) _ _ (E σ) (hr.make C us []) (I2.env0.make C us []) (hb _ (Value.ref (s1.heap.objs.size + 1) :: us) I2.kIn len) rr q0
  refine wpAny_call (make_map (f := f) I1.kIn M.makes M.init (beq_iff_eq.mp M.fn) (codeAny_mono ran ?_))
  rintro (er | fl) s' hq
  · exact hx σ pins _ _ er s' I2 hq
  · cases fl with
    | ret u =>
      obtain ⟨v, H', I3, rv, rfl, q3⟩ := I2.after hq
      exact ⟨rv, ⟨V.ref (s1.heap.objs.size + 1), H', I3, rfl, q3⟩⟩
    | next => exact hq.elim
    | brk => exact hq.elim
    | cont => exact hq.elim
end
/-! an own exception whose __init__ keeps its argument in what -/
structure ExT (K : PySem.W.Frag) (mg : Str → Option Value) (nm : Str) (C fI : Addr) : Prop where
  g : mg nm = some (.ref C)
  oex : OexC K C
  init : PySem.W.findIn K (.ref C) "__init__" = some (some (.ref fI))
  xc : ExcC K C
  nw : PySem.W.findIn K (.ref C) "what" = some none
theorem ExT.xf {K : PySem.W.Frag} {mg : Str → Option Value} {nm : Str} {C fI : Addr} (T : ExT K mg nm C fI) : XfC K C := ⟨T.xc.hg, T.xc.hk, T.xc.hs, T.xc.hd⟩
/-- __init__(self, what) -/
def sp_Refused___init__ (K : PySem.W.Frag) : Sp := fun vs H Q _ => ∃ (a C : Addr) (v : V), vs = [.ref a, v] ∧ H a = some (exo a C none) ∧ OexC K C ∧ PySem.W.findIn K (.ref C) "what" = some none ∧
  ∀ dx, H dx = none → dx ≠ a → Q .non (upd (upd H dx (exd dx [(("what" : Str), v)])) a (exo a C (some dx)))
section
variable {K : PySem.W.Frag} {mg : Str → Option Value} {nm : Str} {C fI a : Addr} {v : V} {σ : L2.St} {H : Hp} {Q : XK} {ta : TA}
def RzQ (K : PySem.W.Frag) (C : Addr) (vs : List V) (H1 : Hp) (Q : XK) : Prop := vs.length ≤ 1000 ∧ ∀ a, H1 a = none → sp_Refused___init__ K (.ref a :: (vs ++ [])) (upd H1 a (exo a C none))
  (fun v H2 => v = .non ∧ ∃ (d : Addr) (fs : List (Str × V)), H2 a = some (exo a C (some d)) ∧ H2 d = some (exd d fs) ∧ H1 d = none ∧ Q (.ref C) (some d) (upd (del H2 a) d (.xd fs))) (fun _ _ _ => False)
theorem x_raise0 {ts : L2.St → Hp → XK → Prop} {W : WX} {D : Ends} (h : ts σ H fun cls d H' => W cls d σ H') : (fun (_ : Ends) σ H => ts σ H fun cls d H' => W cls d σ H') D σ H := h
theorem x_mkO (h : ta σ H fun vs H1 => RzQ K C vs H1 Q) : tMkO C (sp_Refused___init__ K) [] ta σ H Q := h
theorem x_rz (T : ExT K mg nm C fI) (h : ∀ d, H d = none → Q (.ref C) (some d) (upd H d (.xd [(("what" : Str), v)]))) : RzQ K C [v] H Q := by
  refine ⟨Nat.le_of_ble_eq_true rfl, fun a ha => ?_⟩
  refine ⟨a, C, v, rfl, upd_same, T.oex, T.nw, fun dx hx ne => ?_⟩
  rw [upd_ne ne] at hx
  have ex : (upd (upd (upd H a (exo a C none)) dx (exd dx [(("what" : Str), v)])) a (exo a C (some dx))) dx = some (exd dx [(("what" : Str), v)]) := by rw [upd_ne ne, upd_same]
  refine ⟨rfl, dx, [(("what" : Str), v)], upd_same, ex, hx, ?_⟩
  have same : upd (del (upd (upd (upd H a (exo a C none)) dx (exd dx [(("what" : Str), v)])) a (exo a C (some dx))) a) dx (.xd [(("what" : Str), v)]) = upd H dx (.xd [(("what" : Str), v)]) := by
    funext b
    by_cases hb : b = dx
    · rw [hb, upd_same, upd_same]
    · rw [upd_ne hb, upd_ne hb]
      by_cases hba : b = a
      · rw [hba, del_same, ha]
      · rw [del_ne hba, upd_ne hba, upd_ne hb, upd_ne hba]
  rw [same]
  exact h dx hx
end
end WD

set_option Elab.async false
set_option linter.all false
set_option maxRecDepth 100000
set_option maxHeartbeats 1000000
namespace WD
open PySem PySem.Spec PyProof.Rows L2
/-! kinds of values -/
def kinds7 : List String := ["NoneType", "bool", "int", "str", "list", "tuple", "dict"]
def isT (s c : String) : Bool := s == c || (s == "bool" && c == "int")
theorem isT_ok : ∀ s ∈ kinds7, ∀ c ∈ kinds7, kitB s c = some (isT s c) := by decide +kernel
structure Ty1 (K : PySem.W.Frag) (H : Hp) (v : V) (s : String) : Prop where
  ty : TyX K H v (.type s)
  ks : s ∈ kinds7
theorem Ty1.int {K : PySem.W.Frag} {H : Hp} (i : Int) : Ty1 K H (.int i) "int" := ⟨.base (.int i), by decide⟩
theorem Ty1.bl {K : PySem.W.Frag} {H : Hp} (i : Bool) : Ty1 K H (.bl i) "bool" := ⟨.base (.bl i), by decide⟩
theorem Ty1.str {K : PySem.W.Frag} {H : Hp} (i : Str) : Ty1 K H (.str i) "str" := ⟨.base (.str i), by decide⟩
theorem Ty1.non {K : PySem.W.Frag} {H : Hp} : Ty1 K H .non "NoneType" := ⟨.base .non, by decide⟩
theorem Ty1.tup {K : PySem.W.Frag} {H : Hp} {a : Addr} {xs : List V} (e : H a = some (.tup xs)) : Ty1 K H (.ref a) "tuple" := ⟨.base (.tup e), by decide⟩
theorem Ty1.lst {K : PySem.W.Frag} {H : Hp} {a : Addr} {xs : List V} (e : H a = some (.lst xs)) : Ty1 K H (.ref a) "list" := ⟨.base (.lst e), by decide⟩
theorem tyx_int {K : PySem.W.Frag} {H : Hp} {v : V} {t : Value} (h : TyX K H v t) (e : t = .type "int") : ∃ i, v = .int i := by
  cases h with
  | base h =>
    cases h with
    | int i => exact ⟨i, rfl⟩
    | _ => exact absurd e (by first | decide | (intro z; cases z))
  | _ => exact absurd e (by first | decide | (intro z; cases z))
theorem Ty1.isInt {K : PySem.W.Frag} {H : Hp} {v : V} (h : Ty1 K H v "int") : ∃ i, v = .int i := tyx_int h.ty rfl
section
variable {σ : L2.St} {H : Hp} {Q : VK} {D : Ends} {v x y : V} {K : PySem.W.Frag} {ta tb tc te : TE} {t u : TS} {c c' : TT} {a p C dx : Addr} {xs : List V} {i j : Int} {n : Nat} {QB : Bool → Hp → Prop} {QL : List V → Hp → Prop} {QS : L2.St → Hp → Prop}
  {sp : Sp} {E : XK} {tt : TA} {m f : Str} {fs : List (Str × V)} {r r' : R2} {ES : L2.St → XK}
theorem x_call0 (h : tt σ H fun vs H1 => sp vs H1 Q E) : tCall sp [] E tt σ H Q := by
  show tt σ H fun vs H1 => sp (vs ++ []) H1 Q E
  simp only [List.append_nil]; exact h
theorem x_callS (h : tt σ H fun vs H1 => sp vs H1 Q (ES σ)) : tCallS sp ES tt σ H Q := h
theorem x_meth0 (h : ta σ H fun x H1 => ∃ a dx fs, x = .ref a ∧ H1 a = some (.ins C dx fs) ∧ fs.lookup m = none ∧ tt σ H1 fun vs H2 => sp (x :: vs) H2 Q E) : tMeth C m sp [] E ta tt σ H Q := by
  show ta σ H fun x H1 => ∃ a dx fs, x = .ref a ∧ H1 a = some (.ins C dx fs) ∧ fs.lookup m = none ∧ tt σ H1 fun vs H2 => sp (x :: (vs ++ [])) H2 Q E
  simp only [List.append_nil]; exact h
theorem x_methW0 (h : ta σ H fun x H1 => ∃ a dx fs, x = .ref a ∧ H1 a = some (.ins C dx fs) ∧ fs.lookup m = none ∧ tt σ H1 fun vs H2 => sp (x :: vs) H2 Q (ES σ)) : tMethW C m sp [] ES ta tt σ H Q := by
  show ta σ H fun x H1 => ∃ a dx fs, x = .ref a ∧ H1 a = some (.ins C dx fs) ∧ fs.lookup m = none ∧ tt σ H1 fun vs H2 => sp (x :: (vs ++ [])) H2 Q (ES σ)
  simp only [List.append_nil]; exact h
theorem x_onIns {P : Prop} (hp : H p = some (.ins C dx fs)) (no : fs.lookup m = none) (h : P) : ∃ a dx fs, V.ref p = .ref a ∧ H a = some (.ins C dx fs) ∧ fs.lookup m = none ∧ P := ⟨p, dx, fs, rfl, hp, no, h⟩
theorem x_make0 (h : tt σ H fun vs H1 => ∀ x dx, H1 x = none → H1 dx = none → dx ≠ x → sp (.ref x :: vs) (upd (upd H1 dx (.own x)) x (.ins C dx [])) (fun v H2 => v = .non ∧ Q (.ref x) H2) E) : tMake C sp [] E tt σ H Q := by
  show tt σ H fun vs H1 => ∀ x dx, H1 x = none → H1 dx = none → dx ≠ x → sp (.ref x :: (vs ++ [])) (upd (upd H1 dx (.own x)) x (.ins C dx [])) (fun v H2 => v = .non ∧ Q (.ref x) H2) E
  simp only [List.append_nil]; exact h
theorem x_makeW0 (h : tt σ H fun vs H1 => ∀ x dx, H1 x = none → H1 dx = none → dx ≠ x → sp (.ref x :: vs) (upd (upd H1 dx (.own x)) x (.ins C dx [])) (fun v H2 => v = .non ∧ Q (.ref x) H2) (ES σ)) : tMakeW C sp [] ES tt σ H Q := by
  show tt σ H fun vs H1 => ∀ x dx, H1 x = none → H1 dx = none → dx ≠ x → sp (.ref x :: (vs ++ [])) (upd (upd H1 dx (.own x)) x (.ins C dx [])) (fun v H2 => v = .non ∧ Q (.ref x) H2) (ES σ)
  simp only [List.append_nil]; exact h
theorem x_fldR {P : V → Prop} (hp : H p = some (.ins C dx fs)) (c : Cls K C) (no : NoAttr K C f) (e : fs.lookup f = some v) (h : P v) : ∃ a C dx fs v, V.ref p = .ref a ∧ H a = some (.ins C dx fs) ∧ Cls K C ∧ NoAttr K C f ∧ fs.lookup f = some v ∧ P v := ⟨p, C, dx, fs, v, rfl, hp, c, no, e, h⟩
theorem x_sFld {tv : TE} (h : tv σ H fun y H1 => ta σ H1 fun x H2 => ∃ a C dx fs, x = .ref a ∧ H2 a = some (.ins C dx fs) ∧ Cls K C ∧ NoAttr K C f ∧ fs.length < 1000 ∧ D.nx σ (upd H2 a (.ins C dx (putF f y fs)))) : sFld K ta tv f D σ H := h
theorem x_sFldR {fs' : List (Str × V)} (hp : H p = some (.ins C dx fs)) (c : Cls K C) (no : NoAttr K C f) (l : fs.length < 1000) (e : putF f y fs = fs') (h : QS σ (upd H p (.ins C dx fs'))) :
    ∃ a C dx fs, V.ref p = .ref a ∧ H a = some (.ins C dx fs) ∧ Cls K C ∧ NoAttr K C f ∧ fs.length < 1000 ∧ QS σ (upd H a (.ins C dx (putF f y fs))) := ⟨p, C, dx, fs, rfl, hp, c, no, l, by rw [e]; exact h⟩
theorem x_chain (h : ta σ H fun x H1 => tb σ H1 fun y H2 => r x y H2 fun z H3 => ∃ k, z = .bl k ∧ (if k = true then tc σ H3 fun w' H4 => r' y w' H4 Q else Q (.bl false) H3)) : tChain r r' ta tb tc σ H Q := h
theorem x_isN (h : Q (.bl (decide (x = .non))) H) : (fun (x y : V) (H : Hp) (Q : VK) => y = .non ∧ Q (.bl (decide (x = .non))) H) x .non H Q := ⟨rfl, h⟩
theorem x_isi {s c : String} (hy : Ty1 K H x s) (hc : c ∈ kinds7) (h : Q (.bl (isT s c)) H) : rIsi K [x, .ty c] H Q := ⟨x, .ty c, .type s, .type c, isT s c, rfl, .ty c, hy.ty, kit_ty (isT_ok s hy.ks c hc), h⟩
theorem x_bT {b : Bool} {A B : Prop} (e : b = true) (h : A) : if b = true then A else B := by rw [if_pos e]; exact h
theorem x_bF {b : Bool} {A B : Prop} (e : b = false) (h : B) : if b = true then A else B := by rw [e, if_neg Bool.false_ne_true]; exact h
theorem x_ret2 {ts : TS} (h : ts D σ H) : ts D σ H := h
-- dicts
theorem x_dget {td ty : TE} (h : td σ H fun x H1 => ty σ H1 fun y H2 => ∃ a v, x = .ref a ∧ DGet H2 a y (some v) ∧ Q v H2) : tDGet td ty σ H Q := h
theorem x_dgetK {P : V → Prop} {kvs : List (Key × V)} (k : Key) (ek : kV k = y) (hd : H a = some (.dK kvs)) (e : valV kvs k = some v) (h : P v) : ∃ a' v, V.ref a = .ref a' ∧ DGet H a' y (some v) ∧ P v := by
  subst ek; exact ⟨a, v, rfl, by rw [← e]; exact DGet.k hd, h⟩
theorem x_dget1 {td ty : TE} (h : td σ H fun x H1 => ∃ a, x = .ref a ∧ IsD H1 a ∧ ty σ H1 fun y H2 => ∃ o, DGet H2 a y o ∧ Q (o.getD .non) H2) : tDGet1 td ty σ H Q := h
theorem x_dget2 {td ty tx : TE} (h : td σ H fun x H1 => ∃ a, x = .ref a ∧ IsD H1 a ∧ ty σ H1 fun y H2 => tx σ H2 fun z H3 => ∃ o, DGet H3 a y o ∧ Q (o.getD z) H3) : tDGet2 td ty tx σ H Q := h
theorem x_isD {kvs : List (Key × V)} {P : Prop} (hd : H a = some (.dK kvs)) (h : P) : ∃ a', V.ref a = .ref a' ∧ IsD H a' ∧ P := ⟨a, rfl, .inl ⟨kvs, .inl hd⟩, h⟩
theorem x_addS {P : Str → Str → Prop} {i j : Str} (l : i.length + j.length ≤ sizeLine) (h : P i j) : ∃ i' j', V.str i = .str i' ∧ V.str j = .str j' ∧ i'.length + j'.length ≤ sizeLine ∧ P i' j' := ⟨i, j, rfl, rfl, l, h⟩
theorem x_listOf {P : Addr → List V → Prop} (hs : SqL K H a xs ∨ SqT K H a xs) (h : P a xs) : ∃ p ys, [V.ref a] = [.ref p] ∧ (SqL K H p ys ∨ SqT K H p ys) ∧ P p ys := ⟨a, xs, rfl, hs, h⟩
theorem x_lenS {P : Str → Prop} {i : Str} (l : i.length ≤ sizeLine) (h : P i) : ∃ i', [V.str i] = [.str i'] ∧ i'.length ≤ sizeLine ∧ P i' := ⟨i, rfl, l, h⟩
theorem x_isD2 {kvs : List (Key × V)} {P : Prop} (hd : H a = some (.dK kvs)) (h : P) : IsD H a ∧ P := ⟨.inl ⟨kvs, .inl hd⟩, h⟩
theorem x_getI {P : Option V → Prop} {kvs : List (Key × V)} {n : Int} (hd : H a = some (.dK kvs)) (h : P (valV kvs (Sum.inl n))) : ∃ o, DGet H a (.int n) o ∧ P o := ⟨_, DGet.k (k := Sum.inl n) hd, h⟩
theorem x_getS {P : Option V → Prop} {kvs : List (Key × V)} {n : Str} (hd : H a = some (.dK kvs)) (h : P (valV kvs (Sum.inr n))) : ∃ o, DGet H a (.str n) o ∧ P o := ⟨_, DGet.k (k := Sum.inr n) hd, h⟩
theorem x_dgetS {P : V → Prop} {kvs : List (Key × V)} {n : Str} (hd : H a = some (.dK kvs)) (e : valV kvs (Sum.inr n) = some v) (h : P v) : ∃ a' v, V.ref a = .ref a' ∧ DGet H a' (.str n) (some v) ∧ P v := ⟨a, v, rfl, by rw [← e]; exact DGet.k (k := Sum.inr n) hd, h⟩
theorem x_getK {P : Option V → Prop} {kvs : List (Key × V)} (k : Key) (ek : kV k = y) (hd : H a = some (.dK kvs)) (h : P (valV kvs k)) : ∃ o, DGet H a y o ∧ P o := by
  subst ek; exact ⟨_, DGet.k hd, h⟩
theorem x_sDPut {td ty tv : TE} (h : tv σ H fun v H1 => td σ H1 fun x H2 => ty σ H2 fun y H3 => ∃ a H4, x = .ref a ∧ DPut H3 a y v H4 ∧ D.nx σ H4) : sDPut td ty tv D σ H := h
theorem x_putK {P : Hp → Prop} {kvs kvs' : List (Key × V)} (k : Key) (ek : kV k = y) (hd : H a = some (.dK kvs)) (l : kvs.length < sizeLine) (e : putK kvs k v = kvs') (h : P (upd H a (.dK kvs'))) : ∃ a' H4, V.ref a = .ref a' ∧ DPut H a' y v H4 ∧ P H4 := by
  subst ek; subst e; exact ⟨a, _, rfl, DPut.k hd l, h⟩
theorem x_dnew (h : ∀ p, H p = none → Q (.ref p) (upd H p (.dK []))) : tDNewK σ H Q := h
theorem x_disp {trs : List (TE × TE)} (h : ∀ p, H p = none → tPairs trs σ (upd H p (.dK [])) fun ps H2 => H2 p = some (.dK []) ∧ ∃ kvs : List (Key × V), ps = kvs.map (fun kv => (kV kv.1, kv.2)) ∧ kvs.length ≤ 15 ∧ Q (.ref p) (upd H2 p (.dK (mergeK [] kvs)))) : tDisp trs σ H Q := h
theorem x_pairs {tk tv : TE} {trs : List (TE × TE)} {QP : List (V × V) → Hp → Prop} (h : tk σ H fun x H1 => tv σ H1 fun y H2 => tPairs trs σ H2 fun ps H3 => QP ((x, y) :: ps) H3) : tPairs ((tk, tv) :: trs) σ H QP := h
theorem x_pairs0 {QP : List (V × V) → Hp → Prop} (h : QP [] H) : tPairs [] σ H QP := h
-- lists, texts
theorem x_lenL {P : Addr → List V → Prop} (hs : SqL K H a xs ∨ SqT K H a xs) (h : P a xs) : ∃ p ys, [V.ref a] = [.ref p] ∧ (SqL K H p ys ∨ SqT K H p ys) ∧ P p ys := ⟨a, xs, rfl, hs, h⟩
theorem x_ixT (hs : SqT K H a xs) (e : atI xs i = some v) (h : Q v H) : rIxT K (.ref a) (.int i) H Q := ⟨a, xs, i, v, rfl, rfl, hs, e, h⟩
-- loops
theorem x_for {wi : TI} {g : TG} {tb : TS} (h : wi σ H fun J H1 => ∃ W : Nat → Nat → L2.St → Hp → Prop, (∃ m, W 0 m σ H1) ∧ ∀ i m σ H, W i m σ H →
      (J.stop i H ∧ D.nx σ H) ∨ (J.go i H ∧ ∃ N : L2.St → Hp → Prop, (∀ σ' H', N σ' H' → ∃ m', m' < m ∧ W (i + 1) m' σ' H') ∧ ∀ x H', J.yld i H x H' → g x σ H' fun σ2 H2 => tb { D with nx := N, ct := N, bk := D.nx } σ2 H2)) : tFor wi g tb D σ H := h
end
end WD
namespace WD
open PySem PySem.Spec PyProof.Rows L2
section
variable {σ : L2.St} {H : Hp} {Q : VK} {te : TE} {K : PySem.W.Frag} {a : Addr} {xs : List V} {QO : Option Int → Hp → Prop} {tl th : TO} {i : Int}
theorem x_sl {sl : V → Option Int → Option Int → Hp → VK → Prop} (h : te σ H fun x H1 => tl σ H1 fun l H2 => th σ H2 fun u H3 => sl x l u H3 Q) : tSl sl te tl th σ H Q := h
theorem x_noPart (h : QO none H) : tNoPart σ H QO := h
theorem x_part (h : te σ H fun x H1 => ∃ i, x = .int i ∧ QO (some i) H1) : tPart te σ H QO := h
theorem x_partI (h : QO (some i) H) : ∃ j, V.int i = .int j ∧ QO (some j) H := ⟨i, rfl, h⟩
theorem x_slL {lo hi : Option Int} {ys : List V} (hs : SqL K H a xs) (e : cutV xs lo hi = ys) (h : ∀ p, H p = none → Q (.ref p) (upd H p (.lst ys))) : rSlL K (.ref a) lo hi H Q := by subst e; exact ⟨a, xs, rfl, hs, h⟩
theorem cut_tail (y : V) (r : List V) : cutV (y :: r) (some 1) none = r := by
  simp [cutV, HT.sIx]
theorem cut_tail0 : cutV [] (some 1) none = [] := rfl
end
end WD

set_option Elab.async false
set_option linter.all false
set_option maxRecDepth 100000
set_option maxHeartbeats 1000000
namespace WD
open PySem PySem.Spec PyProof.Rows L2
/-! attributes by their names, dicts by written keys -/
section
variable {f g : Str} {v x : V} {r r' : List (Str × V)} {o : Option V}
theorem lk_hd : List.lookup f ((f, v) :: r) = some v := by simp [List.lookup]
theorem lk_tl (n : (f == g) = false) (h : List.lookup f r = o) : List.lookup f ((g, x) :: r) = o := by simp only [List.lookup, n]; exact h
theorem lk_nil : List.lookup f ([] : List (Str × V)) = none := rfl
theorem pf_hd : putF f v ((f, x) :: r) = (f, v) :: r := by simp [putF]
theorem pf_tl (n : (g == f) = false) (h : putF f v r = r') : putF f v ((g, x) :: r) = (g, x) :: r' := by
  have : ¬ g = f := by simpa using n
  simp only [putF, if_neg this, h]
theorem pf_nil : putF f v [] = [(f, v)] := rfl
end
section
variable {k j : Key} {v x : V} {r r' : List (Key × V)} {o : Option V}
theorem vl_hd : valV ((k, v) :: r) k = some v := by simp [valV]
theorem vl_tl (n : decide (j = k) = false) (h : valV r k = o) : valV ((j, x) :: r) k = o := by
  have : ¬ j = k := by simpa using n
  simp only [valV, List.find?_cons, decide_eq_false this] at *
  exact h
theorem vl_nil : valV ([] : List (Key × V)) k = none := rfl
theorem pk_hd (n : (r.all fun kv => !decide (kv.1 = k)) = true) : putK ((k, x) :: r) k v = (k, v) :: r := by
  have e : r.map (fun kv => if kv.1 = k then (kv.1, v) else kv) = r := by
    have h : ∀ kv ∈ r, (if kv.1 = k then (kv.1, v) else kv) = kv := by
      intro kv hk
      have := List.all_eq_true.mp n kv hk
      simp at this
      rw [if_neg this]
    rw [List.map_congr_left h, List.map_id']
  simp [putK, e]
theorem pk_tl (n : decide (j = k) = false) (t : (r.any fun kv => decide (kv.1 = k)) = true) (h : putK r k v = r') : putK ((j, x) :: r) k v = (j, x) :: r' := by
  have nn : ¬ j = k := by simpa using n
  rw [← h]
  unfold putK
  rw [if_pos t, if_pos (by rw [List.any_cons, t, Bool.or_true]), List.map_cons, if_neg nn]
end
theorem merge_gen : ∀ (kvs acc : List (Key × V)), ((acc ++ kvs).map (·.1)).Nodup → mergeK acc kvs = acc ++ kvs
  | [], acc, _ => by simp [mergeK]
  | (k, v) :: r, acc, h => by
    have nk : (acc.any fun kv => decide (kv.1 = k)) = false := by
      rw [List.any_eq_false]
      intro kv hk
      simp only [decide_eq_true_eq]
      intro e
      rw [List.map_append, List.nodup_append] at h
      exact h.2.2 kv.1 (List.mem_map_of_mem hk) k (by simp) e
    have st : mergeK acc ((k, v) :: r) = mergeK (acc ++ [(k, v)]) r := by
      show mergeK (putK acc k v) r = _
      unfold putK
      rw [nk, if_neg Bool.false_ne_true]
    rw [st, merge_gen r (acc ++ [(k, v)]) (by simpa using h)]
    simp
theorem mergeK_nil {kvs : List (Key × V)} (h : (kvs.map (·.1)).Nodup) : mergeK [] kvs = kvs := by simpa using merge_gen kvs [] (by simpa using h)
section
variable {H : Hp} {Q : VK} {p : Addr} {kvs : List (Key × V)}
theorem x_dispEnd {ps : List (V × V)} (h0 : H p = some (.dK [])) (e : ps = kvs.map (fun kv => (kV kv.1, kv.2))) (l : kvs.length ≤ 15) (nd : (kvs.map (·.1)).Nodup) (h : Q (.ref p) (upd H p (.dK kvs))) :
    H p = some (.dK []) ∧ ∃ kvs : List (Key × V), ps = kvs.map (fun kv => (kV kv.1, kv.2)) ∧ kvs.length ≤ 15 ∧ Q (.ref p) (upd H p (.dK (mergeK [] kvs))) := ⟨h0, kvs, e, l, by rw [mergeK_nil nd]; exact h⟩
end
end WD

set_option Elab.async false
set_option linter.all false
set_option maxRecDepth 100000
set_option maxHeartbeats 1000000
namespace WD
open PySem PySem.Spec PyProof.Rows L2
/-! a text times a number -/
def rep (z : Str) (n : Nat) : Str := ⟨(List.replicate n z.cps).foldl (· ++ ·) #[]⟩
theorem foldl_sz : ∀ (n : Nat) (c acc : Array Nat), ((List.replicate n c).foldl (· ++ ·) acc).size = acc.size + n * c.size
  | 0, c, acc => by simp
  | n + 1, c, acc => by
    rw [List.replicate_succ, List.foldl_cons, foldl_sz n c, Array.size_append, Nat.succ_mul]; omega
theorem rep_len (z : Str) (n : Nat) : (rep z n).length = n * z.length := by
  show ((List.replicate n z.cps).foldl (· ++ ·) #[]).size = _
  rw [foldl_sz]; simp [Str.length]
theorem foldl_all (p : Nat → Bool) : ∀ (n : Nat) (c acc : Array Nat), c.all p = true → acc.all p = true → ((List.replicate n c).foldl (· ++ ·) acc).all p = true
  | 0, c, acc, _, h => by simpa using h
  | n + 1, c, acc, hc, h => by
    rw [List.replicate_succ, List.foldl_cons]
    exact foldl_all p n c _ hc (by rw [Array.all_append, h, hc]; rfl)
theorem strOk_rep {z : Str} {n : Nat} (h : PyData.strOk z = true) : PyData.strOk (rep z n) = true := foldl_all _ n z.cps #[] h (by simp)
theorem strOk_add {x y : Str} (h : PyData.strOk x = true) (h2 : PyData.strOk y = true) : PyData.strOk (x ++ y) = true := by
  show (x.cps ++ y.cps).all _ = true
  rw [Array.all_append]
  unfold PyData.strOk at h h2
  rw [h, h2]; rfl
theorem len_add (x y : Str) : (x ++ y).length = x.length + y.length := by
  show (x.cps ++ y.cps).size = _
  rw [Array.size_append]; rfl
section
variable {X : Cx}
theorem op_strmul : OpR X (binaryOp .Mult) (fun x y H Q => ∃ z k, x = .str z ∧ y = .int k ∧ (0 ≤ k ∧ k ≤ 1000 ∧ z.length ≤ 1000) ∧ Q (.str (rep z k.toNat)) H) := by
  intro pins s σ H x y v u Q I rx ry h
  obtain ⟨z, k, rfl, rfl, ⟨h0, h1, hl⟩, q⟩ := h
  obtain ⟨t, rfl⟩ := rx
  obtain ⟨t', rfl⟩ := ry
  have big : z.length * k.toNat ≤ sizeLine := by
    have : z.length * k.toNat ≤ 1000 * 1000 := Nat.mul_le_mul hl (by omega)
    have e := sizeLine_eq
    omega
  have lrep : (rep z k.toNat).length ≤ sizeLine := by rw [rep_len, Nat.mul_comm]; exact big
  refine PySem.P.mul_str ?_ ?_ ?_ ?_
  · rw [decide_eq_false (by omega), decide_eq_false (by omega)]; rfl
  · intro hk _
    have hpos : 0 < k := by omega
    have : (1000 : Int) * k ≤ 2 ^ 63 - 1 := by omega
    have d : (1000 : Int) ≤ (2 ^ 63 - 1) / k := (Int.le_ediv_iff_mul_le hpos).mpr this
    omega
  · intro _ _
    exact decide_eq_false (by omega)
  · by_cases c : k < 1
    · rw [if_pos c]
      have e : k.toNat = 0 := by omega
      rw [e] at q
      exact ⟨by decide, .str (rep z 0), H, I.tok _, ⟨_, rfl⟩, q⟩
    · rw [if_neg c]
      by_cases c2 : (k == 1 || z.length == 0) = true
      · rw [if_pos c2]
        have e : rep z k.toNat = z := by
          rw [Bool.or_eq_true] at c2
          rcases c2 with c2 | c2
          · have : k = 1 := by simpa using c2
            rw [this]
            show (⟨(List.replicate 1 z.cps).foldl (· ++ ·) #[]⟩ : Str) = z
            simp
          · have zl : z.cps.size = 0 := by simpa [Str.length] using c2
            have zn : z.cps = #[] := Array.eq_empty_of_size_eq_zero zl
            have r0 : (rep z k.toNat).cps.size = 0 := by
              have := rep_len z k.toNat
              simp only [Str.length] at this
              rw [this, zl]; simp
            have rn := Array.eq_empty_of_size_eq_zero r0
            cases z with
            | mk c =>
              have e1 : c = #[] := zn
              show (⟨(List.replicate k.toNat c).foldl (· ++ ·) #[]⟩ : Str) = ⟨c⟩
              have : (List.replicate k.toNat c).foldl (· ++ ·) #[] = #[] := rn
              rw [this, e1]
        rw [e] at q
        exact ⟨.str z, H, I, ⟨t, rfl⟩, q⟩
      · rw [if_neg c2]
        exact ⟨lrep, .str _, H, I.tok _, ⟨_, rfl⟩, q⟩
end
section
variable {H : Hp} {Q : VK} {a p : Addr} {K : PySem.W.Frag} {v : V} {xs : List V}
theorem x_strmul {P : Str → Int → Prop} {z : Str} {k : Int} (c : 0 ≤ k ∧ k ≤ 1000 ∧ z.length ≤ 1000) (h : P z k) : ∃ z' k', V.str z = .str z' ∧ V.int k = .int k' ∧ (0 ≤ k' ∧ k' ≤ 1000 ∧ z'.length ≤ 1000) ∧ P z' k' := ⟨z, k, rfl, rfl, c, h⟩
theorem at_mem {i : Int} {n : Int} (h0 : 0 ≤ i) (h1 : i < n) (hn : n = xs.length) : ∃ v, atI xs i = some v ∧ v ∈ xs := by
  have hl : i.toNat < xs.length := by omega
  refine ⟨xs[i.toNat], ?_, List.getElem_mem hl⟩
  unfold atI ixN
  rw [if_pos h0, if_pos (by omega)]
  simp [hl]
/-- an item of a written list at a drawn place -/
theorem x_ixMem {i n : Int} (hs : SqL K H a xs) (h0 : 0 ≤ i) (h1 : i < n) (hn : n = xs.length) (h : ∀ v, v ∈ xs → Q v H) : rIxL K (.ref a) (.int i) H Q := by
  obtain ⟨v, e, m⟩ := at_mem h0 h1 hn
  exact ⟨a, xs, i, v, rfl, rfl, hs, e, h v m⟩
theorem x_setD {QH : Hp → Prop} {kvs kvs' : List (Key × V)} {n : Str} (hd : H a = some (.dK kvs)) (l : kvs.length < sizeLine) (e : putK kvs (Sum.inr n) v = kvs') (h : QH (upd H a (.dK kvs'))) : rSetD (.ref a) (.str n) v H QH := by
  subst e; exact ⟨a, _, rfl, DPut.k (k := Sum.inr n) hd l, h⟩
theorem x_putS {P : Hp → Prop} {kvs kvs' : List (Key × V)} {n : Str} (hd : H a = some (.dK kvs)) (l : kvs.length < sizeLine) (e : putK kvs (Sum.inr n) v = kvs') (h : P (upd H a (.dK kvs'))) : ∃ a' H4, V.ref a = .ref a' ∧ DPut H a' (.str n) v H4 ∧ P H4 := by
  subst e; exact ⟨a, _, rfl, DPut.k (k := Sum.inr n) hd l, h⟩
theorem x_putI {P : Hp → Prop} {kvs : List (Key × V)} {n : Int} (hd : H a = some (.dK kvs)) (l : kvs.length < sizeLine) (h : P (upd H a (.dK (putK kvs (Sum.inl n) v)))) : ∃ a' H4, V.ref a = .ref a' ∧ DPut H a' (.int n) v H4 ∧ P H4 := ⟨a, _, rfl, DPut.k (k := Sum.inl n) hd l, h⟩
theorem x_rowN {Wo : WX} {D : Ends} {c cl : Value} {i : Nat} {ts : Addr → Value → Option Addr → TS} {r : List Cls1} {τ : L2.St} {dd : Option Addr} {G : Hp} (e : PySem.W.exmOne K cl c = some true)
    (h : ∀ a, G a = none → ts a cl dd ⟨fun τ G => D.nx (τ.set i none) G, D.rt, fun τ G => D.bk (τ.set i none) G, fun τ G => D.ct (τ.set i none) G⟩ (τ.set i (some (.ref a))) G) : WE (wRow K Wo D (⟨c, some i, ts⟩ :: r)) τ cl dd G :=
  ⟨true, e, fun _ => h, fun z => nomatch z⟩
theorem x_rowF {Wo : WX} {D : Ends} {z : Cls1} {cl : Value} {r : List Cls1} {τ : L2.St} {dd : Option Addr} {G : Hp} (e : PySem.W.exmOne K cl z.c = some false) (h : WE (wRow K Wo D r) τ cl dd G) : WE (wRow K Wo D (z :: r)) τ cl dd G :=
  ⟨false, e, (fun z => nomatch z), fun _ => h⟩
theorem x_xw {cl : Value} {dd : Option Addr} {f : Str} {te : TE} {σ : L2.St} (h : te σ H fun x H1 => x = .ref a ∧ ∃ (C d : Addr) (fs : List (Str × V)) (v : V), cl = .ref C ∧ XfC K C ∧ PySem.W.findIn K (.ref C) f = some none ∧
  dd = some d ∧ H1 d = some (.xd fs) ∧ fs.lookup f = some v ∧ Q v H1) : tXw K a cl dd f te σ H Q := h
theorem x_xwR {mg : Str → Option Value} {nm : Str} {C fI d : Addr} {P : V → Prop} (T : ExT K mg nm C fI) (hd : H d = some (.xd [(("what" : Str), v)])) (h : P v) : V.ref a = .ref a ∧ ∃ (C' d' : Addr) (fs : List (Str × V)) (v : V), Value.ref C = .ref C' ∧ XfC K C' ∧ PySem.W.findIn K (.ref C') "what" = some none ∧
  some d = some d' ∧ H d' = some (.xd fs) ∧ fs.lookup ("what" : Str) = some v ∧ P v := ⟨rfl, C, d, _, v, rfl, T.xf, T.nw, rfl, hd, lk_hd, h⟩
theorem x_isXR {c : V} {cv : Value} {C d : Addr} {b : Bool} {fs : List (Str × V)} (k : ClsV c cv) (X : ExcC K C) (hd : H d = some (.xd fs)) (e : PySem.W.kitOne K (.ref C) cv = some b) (h : Q (.bl b) H) : rIsX K a (.ref C) (some d) [.ref a, c] H Q :=
  ⟨c, cv, C, d, fs, b, rfl, k, rfl, rfl, X, hd, e, h⟩
theorem x_tupleOfL (hs : SqL K H a xs) {P : Addr → List V → Prop} {P2 : Addr → List V → Prop} (h : P a xs) : ∃ p ys, [V.ref a] = [.ref p] ∧ ((SqL K H p ys ∧ P p ys) ∨ P2 p ys) := ⟨a, xs, rfl, .inl ⟨hs, h⟩⟩
end
end WD

set_option Elab.async false
set_option linter.all false
set_option maxRecDepth 100000
set_option maxHeartbeats 1000000
namespace WD
open PySem PySem.Spec PyProof.Rows L2
/-! loops, comprehensions: how their readings open -/
section
variable {σ : L2.St} {H : Hp} {Q : VK} {D : Ends} {v x y : V} {K : PySem.W.Frag} {ta tb te tl : TE} {t u : TS} {tt : TT} {ts : TA} {a p : Addr} {xs : List V} {i j : Int} {n : Nat} {R : It → Hp → Prop} {wi : TI} {g : TG} {vs : List Nat}
theorem x_rng1 (h : ts σ H fun vs H1 => ∃ j : Int, vs = [.int j] ∧ -(2 ^ 62) ≤ j ∧ j < 2 ^ 62 ∧ R (Itr 0 j.toNat) H1) : iRng1 ts σ H R := h
theorem x_rng2 (h : ts σ H fun vs H1 => ∃ i j : Int, vs = [.int i, .int j] ∧ (-(2 ^ 62) ≤ i ∧ i < 2 ^ 62 ∧ -(2 ^ 62) ≤ j ∧ j < 2 ^ 62) ∧ R (Itr i (j - i).toNat) H1) : iRng2 ts σ H R := h
theorem x_rng1I {j : Int} {P : It → Prop} (h1 : -(2 ^ 62) ≤ j ∧ j < 2 ^ 62) (h : P (Itr 0 j.toNat)) : ∃ j' : Int, [V.int j] = [.int j'] ∧ -(2 ^ 62) ≤ j' ∧ j' < 2 ^ 62 ∧ P (Itr 0 j'.toNat) := ⟨j, rfl, h1.1, h1.2, h⟩
theorem x_rng2I {i j : Int} {P : It → Prop} (h1 : -(2 ^ 62) ≤ i ∧ i < 2 ^ 62 ∧ -(2 ^ 62) ≤ j ∧ j < 2 ^ 62) (h : P (Itr i (j - i).toNat)) : ∃ i' j' : Int, [V.int i, V.int j] = [.int i', .int j'] ∧ (-(2 ^ 62) ≤ i' ∧ i' < 2 ^ 62 ∧ -(2 ^ 62) ≤ j' ∧ j' < 2 ^ 62) ∧ P (Itr i' (j' - i').toNat) := ⟨i, j, rfl, h1, h⟩
def qList (K : PySem.W.Frag) (R : It → Hp → Prop) : VK := fun x H1 => ∃ a, x = .ref a ∧ (∃ xs, SqL K H1 a xs) ∧ R (Itl K a) H1
def qTup (K : PySem.W.Frag) (R : It → Hp → Prop) : VK := fun x H1 => ∃ a, x = .ref a ∧ (∃ xs, SqT K H1 a xs) ∧ R (Itt K a) H1
theorem x_iList (h : tl σ H (qList K R)) : iList K tl σ H R := h
theorem x_iTup (h : tl σ H (qTup K R)) : iTup K tl σ H R := h
theorem x_itL (hs : SqL K H a xs) (h : R (Itl K a) H) : qList K R (.ref a) H := ⟨a, rfl, ⟨xs, hs⟩, h⟩
theorem x_itT (hs : SqT K H a xs) (h : R (Itt K a) H) : qTup K R (.ref a) H := ⟨a, rfl, ⟨xs, hs⟩, h⟩
def rSortDI : List V → Hp → VK → Prop := fun xs H Q => ∃ (a : Addr) (kvs : List (Key × V)) (ks : List Int), xs = [.ref a] ∧ Rd H a (.dK kvs) ∧ kvs.map (·.1) = ks.map Sum.inl ∧ ks.length < 64 ∧
    ∀ (ys : List Int) (p : Addr), ys.Perm ks → ys.Pairwise (· ≤ ·) → H p = none → Q (.ref p) (upd H p (.lst (ys.map V.int)))
theorem call_sortDI {X : Cx} (h : X.calm = true) : CallR X (.builtin "sorted") rSortDI := call_sortedDI h
theorem x_sortDI {kvs : List (Key × V)} {ks : List Int} (hd : H a = some (.dK kvs)) (hk : kvs.map (·.1) = ks.map Sum.inl) (h64 : ks.length < 64) (h : ∀ ys : List Int, ys.Perm ks → ys.Pairwise (· ≤ ·) → ∀ p, H p = none → Q (.ref p) (upd H p (.lst (ys.map V.int)))) :
    rSortDI [.ref a] H Q := ⟨a, kvs, ks, rfl, .inl hd, hk, h64, fun ys p p1 p2 p3 => h ys p1 p2 p p3⟩
theorem x_par {i j : Nat} (h : ta σ H fun x H1 => tb σ H1 fun y H2 => gName i x σ H2 fun σ1 H3 => gName j y σ1 H3 D.nx) : tPar i j (tCons ta (tCons tb tNil)) D σ H := by
  show ta σ H fun x H1 => tb σ H1 fun y H2 => ∃ v w, [x, y] = [v, w] ∧ D.nx ((σ.set i (some v)).set j (some w)) H2
  have e : (fun x H1 => tb σ H1 fun y H2 => ∃ v w, [x, y] = [v, w] ∧ D.nx ((σ.set i (some v)).set j (some w)) H2) = fun x H1 => tb σ H1 fun y H2 => gName i x σ H2 fun σ1 H3 => gName j y σ1 H3 D.nx := by
    funext x H1
    congr 1
    funext y H2
    apply propext
    constructor
    · rintro ⟨v, w, e, q⟩
      cases e
      exact q
    · intro q
      exact ⟨x, y, rfl, q⟩
  rw [e]
  exact h
theorem x_lc (h : wi σ H fun J H1 => ∀ D, H1 D = none → ∃ W : Nat → Nat → Hp → Prop, (∃ m, W 0 m (upd H1 D (.lst []))) ∧ ∀ i m H, W i m H →
  (J.stop i H ∧ Q (.ref D) H) ∨ (J.go i H ∧ ∃ Nx : Hp → Prop, (∀ H', Nx H' → ∃ m', m' < m ∧ W (i + 1) m' H') ∧ ∀ x H', J.yld i H x H' → g x (wipe σ vs) H' fun σ2 H2 => wipe σ2 vs = wipe σ vs ∧ tt σ2 H2 fun b H3 =>
    if b = true then te σ2 H3 fun y H4 => ∃ acc, H4 D = some (.lst acc) ∧ acc.length < sizeLine ∧ Nx (upd H4 D (.lst (acc ++ [y]))) else Nx H3)) : tLc wi g tt te vs σ H Q := h
theorem x_cat {ys : List V} (h1 : SqL K H a xs) (h2 : SqL K H p ys) (l : xs.length + ys.length ≤ sizeLine) {P : Prop} (h : P) : SqL K H a xs ∧ SqL K H p ys ∧ xs.length + ys.length ≤ sizeLine ∧ P := ⟨h1, h2, l, h⟩
theorem x_catL {ys : List V} (h1 : H a = some (.lst xs)) (h2 : H p = some (.lst ys)) (l : xs.length + ys.length ≤ sizeLine) (h : ∀ q, H q = none → Q (.ref q) (upd H q (.lst (xs ++ ys)))) : rCat (.ref a) (.ref p) H Q := ⟨a, p, xs, ys, rfl, rfl, h1, h2, l, h⟩
theorem x_gNameS {m : Nat} {σ1 σ2 : L2.St} {QS : L2.St → Hp → Prop} (e1 : σ.set m none = σ1) (e : σ1.set n (some v) = σ2) (h : QS σ2 H) : gName n v (σ.set m none) H QS := by subst e1; subst e; exact h
theorem x_yes {QB : Bool → Hp → Prop} (h : QB true H) : tYes σ H QB := h
theorem x_neD2 {d e : PyData} (h1 : Dp K H x d) (h2 : Dp K H y e) (s1 : SeqAt.shaped d = true) (s2 : SeqAt.shaped e = true) (ne : PyData.eqv d e = true) (h : Q (.bl false) H) : rNeD K x y H Q := ⟨d, e, h1, h2, s1, s2, by rw [ne]; exact h⟩
theorem x_eqD2 {d e : PyData} (h1 : Dp K H x d) (h2 : Dp K H y e) (s1 : SeqAt.shaped d = true) (s2 : SeqAt.shaped e = true) (ne : PyData.eqv d e = true) (h : Q (.bl true) H) : rEqD K x y H Q := ⟨d, e, h1, h2, s1, s2, by rw [ne]; exact h⟩
end
section
variable {K : PySem.W.Frag} {a : Addr} {xs : List V} {g : TG} {tt : TT} {te : TE} {vs : List Nat} {σ σw : L2.St} {H1 : Hp} {D : Addr} {Qd : Hp → Prop}
theorem lc_listW (ew : wipe σ vs = σw) (Pv : Nat → Hp → Prop) (h0 : Pv 0 (upd H1 D (.lst []))) (hl : ∀ i H, i ≤ xs.length → Pv i H → SqL K H a xs)
    (hs : ∀ i x H, xs[i]? = some x → Pv i H → g x σw H fun σ2 H2 => wipe σ2 vs = σw ∧ tt σ2 H2 fun b H3 =>
      if b = true then te σ2 H3 fun y H4 => ∃ acc, H4 D = some (.lst acc) ∧ acc.length < sizeLine ∧ Pv (i + 1) (upd H4 D (.lst (acc ++ [y]))) else Pv (i + 1) H3) (hd : ∀ H, Pv xs.length H → Qd H) :
    ∃ W : Nat → Nat → Hp → Prop, (∃ m, W 0 m (upd H1 D (.lst []))) ∧ ∀ i m H, W i m H →
      ((Itl K a).stop i H ∧ Qd H) ∨ ((Itl K a).go i H ∧ ∃ Nx : Hp → Prop, (∀ H', Nx H' → ∃ m', m' < m ∧ W (i + 1) m' H') ∧ ∀ x H', (Itl K a).yld i H x H' → g x (wipe σ vs) H' fun σ2 H2 => wipe σ2 vs = wipe σ vs ∧ tt σ2 H2 fun b H3 =>
        if b = true then te σ2 H3 fun y H4 => ∃ acc, H4 D = some (.lst acc) ∧ acc.length < sizeLine ∧ Nx (upd H4 D (.lst (acc ++ [y]))) else Nx H3) := by
  subst ew; exact lc_list Pv h0 hl hs hd
theorem lc_tupW (ew : wipe σ vs = σw) (Pv : Nat → Hp → Prop) (h0 : Pv 0 (upd H1 D (.lst []))) (hl : ∀ i H, i ≤ xs.length → Pv i H → SqT K H a xs)
    (hs : ∀ i x H, xs[i]? = some x → Pv i H → g x σw H fun σ2 H2 => wipe σ2 vs = σw ∧ tt σ2 H2 fun b H3 =>
      if b = true then te σ2 H3 fun y H4 => ∃ acc, H4 D = some (.lst acc) ∧ acc.length < sizeLine ∧ Pv (i + 1) (upd H4 D (.lst (acc ++ [y]))) else Pv (i + 1) H3) (hd : ∀ H, Pv xs.length H → Qd H) :
    ∃ W : Nat → Nat → Hp → Prop, (∃ m, W 0 m (upd H1 D (.lst []))) ∧ ∀ i m H, W i m H →
      ((Itt K a).stop i H ∧ Qd H) ∨ ((Itt K a).go i H ∧ ∃ Nx : Hp → Prop, (∀ H', Nx H' → ∃ m', m' < m ∧ W (i + 1) m' H') ∧ ∀ x H', (Itt K a).yld i H x H' → g x (wipe σ vs) H' fun σ2 H2 => wipe σ2 vs = wipe σ vs ∧ tt σ2 H2 fun b H3 =>
        if b = true then te σ2 H3 fun y H4 => ∃ acc, H4 D = some (.lst acc) ∧ acc.length < sizeLine ∧ Nx (upd H4 D (.lst (acc ++ [y]))) else Nx H3) := by
  subst ew; exact lc_tup Pv h0 hl hs hd
theorem lc_rangeW {lo : Int} {n : Nat} (ew : wipe σ vs = σw) (Pv : Nat → Hp → Prop) (h0 : Pv 0 (upd H1 D (.lst [])))
    (hs : ∀ i H, i < n → Pv i H → g (.int (lo + i)) σw H fun σ2 H2 => wipe σ2 vs = σw ∧ tt σ2 H2 fun b H3 =>
      if b = true then te σ2 H3 fun y H4 => ∃ acc, H4 D = some (.lst acc) ∧ acc.length < sizeLine ∧ Pv (i + 1) (upd H4 D (.lst (acc ++ [y]))) else Pv (i + 1) H3) (hd : ∀ H, Pv n H → Qd H) :
    ∃ W : Nat → Nat → Hp → Prop, (∃ m, W 0 m (upd H1 D (.lst []))) ∧ ∀ i m H, W i m H →
      ((Itr lo n).stop i H ∧ Qd H) ∨ ((Itr lo n).go i H ∧ ∃ Nx : Hp → Prop, (∀ H', Nx H' → ∃ m', m' < m ∧ W (i + 1) m' H') ∧ ∀ x H', (Itr lo n).yld i H x H' → g x (wipe σ vs) H' fun σ2 H2 => wipe σ2 vs = wipe σ vs ∧ tt σ2 H2 fun b H3 =>
        if b = true then te σ2 H3 fun y H4 => ∃ acc, H4 D = some (.lst acc) ∧ acc.length < sizeLine ∧ Nx (upd H4 D (.lst (acc ++ [y]))) else Nx H3) := by
  subst ew; exact lc_range Pv h0 hs hd
end
theorem shapedInts (ns : List Int) : SeqAt.shaped (.tuple (ns.map PyData.int)) = true := by
  unfold SeqAt.shaped
  rw [Bool.and_eq_true]
  exact ⟨canInts ns, decide_eq_true (by have := depthInts ns; show PyData.depthAll _ + 1 ≤ 64; omega)⟩
theorem shapedIntsL (ns : List Int) : SeqAt.shaped (.list (ns.map PyData.int)) = true := by
  unfold SeqAt.shaped
  rw [Bool.and_eq_true]
  exact ⟨canInts ns, decide_eq_true (by have := depthInts ns; show PyData.depthAll _ + 1 ≤ 64; omega)⟩
theorem eqvSelf {d : PyData} (h : SeqAt.shaped d = true) : PyData.eqv d d = true := by
  unfold SeqAt.shaped at h
  rw [Bool.and_eq_true] at h
  exact SeqAt.eqv_refl d h.1
/-- two sorted lists of the same ints are one -/
theorem sorted_one {ks ys zs : List Int} (p1 : ys.Perm ks) (s1 : ys.Pairwise (· ≤ ·)) (p2 : zs.Perm ks) (s2 : zs.Pairwise (· ≤ ·)) : ys = zs := by
  have pm := p1.trans p2.symm
  clear p1 p2
  induction ys generalizing zs with
  | nil => exact (List.nil_perm.mp pm).symm
  | cons a r ih =>
    cases zs with
    | nil => exact absurd pm (by simp)
    | cons b q =>
      have ha : a ∈ b :: q := pm.subset List.mem_cons_self
      have hb : b ∈ a :: r := pm.symm.subset List.mem_cons_self
      rw [List.pairwise_cons] at s1 s2
      have h1 : a ≤ b := by
        rcases List.mem_cons.mp hb with e | m
        · omega
        · exact s1.1 b m
      have h2 : b ≤ a := by
        rcases List.mem_cons.mp ha with e | m
        · omega
        · exact s2.1 a m
      have e : a = b := by omega
      subst e
      rw [ih s1.2 s2.2 (List.Perm.cons_inv pm)]
end WD

set_option Elab.async false
set_option linter.all false
set_option maxRecDepth 100000
set_option maxHeartbeats 1000000
namespace WD
open PySem PySem.Spec PyProof.Rows L2
/-! the end: facts of the top as Bools of the written part -/
theorem fun_of {K : PySem.W.Frag} {x qual : Str} {st : Stmt} {f : Addr} {fd : FuncData} (F : FunD K x qual (defArgs st) (defBody st) (defScope st) [] [] f fd) : Fun K x qual st f fd := by
  obtain ⟨oc, od, dV, kV, doc, pm, an, cdv, ct, osl, e, lk, hcd, hD, _⟩ := F.ex
  rcases hD with ⟨_, rfl⟩ | ⟨z, _⟩
  · exact ⟨⟨oc, od, kV, doc, pm, an, cdv, ct, osl, e, lk, hcd⟩, F.kp⟩
  · exact absurd rfl z
/-- a def with defaults, all arguments written -/
theorem binds_full {K : PySem.W.Frag} {x qual : Str} {params : Arguments} {body : List Stmt} {scope : Scope} {dvs : List V} {f : Addr} {fd : FuncData} {ps : List Str} (F : FunD K x qual params body scope dvs [] f fd) (hd : dvs ≠ []) (h0 : dvs.drop dvs.length = [])
    (h : ∀ (T : Addr) (kV doc pm : Value) (an : Option Addr) (cdv ct : Value) (us its : List Value), us.length = ps.length → its.length = dvs.length →
      ∃ k, bindArgs (PySem.W.fnOf x qual params body scope (.ref T) kV doc pm an cdv ct) ⟨us, []⟩ = seqItems? (.ref T) >>= k ∧ k (some its.toArray) = pure (ps.zip (us ++ its.drop dvs.length))) : Binds K fd ps [] := by
  obtain ⟨ds, r, b⟩ := F.binds1 ps.length dvs.length hd (by omega) h
  rw [h0] at r
  cases r
  exact b
/-- an own exception class over ValueError whose instances have a dict -/
def oexB (K : PySem.W.Frag) (C : Addr) : Bool := (match K.lookup C with
  | some ⟨.type "type", _, .cls cd, sl⟩ => (match cd.mro, sl.toList with
    | .ref C' :: bm, [_, _, _, _, some (.builtin n), _] => C' == C && n == "ValueError.__new__" && !cd.hasDel && cd.hasDict && PySem.HandSPX.refsVE bm
    | _, _ => false)
  | _ => false) && (decide (PySem.W.findIn K (.ref C) "__setattr__" = some (some (.builtin "object.__setattr__"))) && (decide (PySem.W.subIn K (.ref C) (.type "BaseException") = some true) &&
    (decide (PySem.W.typeIn K (.ref C) = some (.type "type")) && PySem.W.keepIn K (.ref C))))
theorem oexB_ok {K : PySem.W.Frag} {C : Addr} (h : oexB K C = true) : OexC K C := by
  unfold oexB at h
  simp only [Bool.and_eq_true, decide_eq_true_eq] at h
  obtain ⟨q, sa, eC, tC, kC⟩ := h
  refine ⟨?_, sa, eC, tC, kC⟩
  split at q
  · rename_i dd cd sl ho
    split at q
    · rename_i C' bm k0 k1 k2 k3 n k5 hm hs
      simp only [Bool.and_eq_true, beq_iff_eq, Bool.not_eq_true'] at q
      obtain ⟨⟨⟨⟨rfl, rfl⟩, hdel⟩, hdc⟩, hr⟩ := q
      obtain ⟨nm, bs, mro, ns, qn, hd, sn, sub, ab, col, del⟩ := cd
      dsimp only at hm hdel hdc
      subst hm hdel hdc
      have hsl : sl = #[k0, k1, k2, k3, some (.builtin "ValueError.__new__"), k5] := by
        obtain ⟨l⟩ := sl
        simp only at hs
        rw [hs]
      subst hsl
      exact ⟨nm, qn, ns, bs, bm, sn, sub, ab, col, dd, k0, k1, k2, k3, k5, ho, hr⟩
    · cases q
  · cases q
/-- isinstance and .what of such an instance -/
def excB (K : PySem.W.Frag) (C : Addr) : Bool := decide (PySem.W.findIn K (.ref C) "__getattribute__" = some (some (.builtin "BaseException.__getattribute__"))) && (decide (PySem.W.findIn K (.ref C) "__getattr__" = some none) &&
  (decide (PySem.W.subIn K (.ref C) (.type "BaseException") = some true) && (PySem.W.hasDictIn K C && (decide (PySem.W.findIn K (.ref C) "__class__" = some (some (.builtin "object.__class__"))) &&
  (decide (PySem.W.specialIn K (.builtin "object.__class__") "__get__" = some (some (.builtin "getset_descriptor.__get__"))) && (decide (PySem.W.takesIn K (.builtin "object.__class__") = some true) && decide (PySem.W.mroIn K C (.type "object") = some true)))))))
theorem excB_ok {K : PySem.W.Frag} {C : Addr} (h : excB K C = true) : ExcC K C := by
  unfold excB at h
  simp only [Bool.and_eq_true, decide_eq_true_eq] at h
  obtain ⟨h1, h2, h3, h4, h5, h6, h7, h8⟩ := h
  exact ⟨h1, h2, h3, h4, h5, h6, h7, h8⟩
/-- class x with the __init__ of class y (one attribute: what) -/
def extB (K : PySem.W.Frag) (x y : Str) : Bool := oexB K (He.ga K x) && (excB K (He.ga K x) && (decide (PySem.W.findIn K (.ref (He.ga K x)) "__init__" = some (some (.ref (He.ma K (He.ga K y) "__init__")))) && decide (PySem.W.findIn K (.ref (He.ga K x)) "what" = some none)))
theorem extB_ok {K : PySem.W.Frag} {mg : Str → Option Value} {x y : Str} (g : mg x = some (.ref (He.ga K x))) (h : extB K x y = true) : ExT K mg x (He.ga K x) (He.ma K (He.ga K y) "__init__") := by
  unfold extB at h
  simp only [Bool.and_eq_true, decide_eq_true_eq] at h
  obtain ⟨h1, h2, h3, h4⟩ := h
  exact ⟨g, oexB_ok h1, h3, excB_ok h2, h4⟩
end WD

set_option Elab.async false
set_option linter.all false
set_option maxRecDepth 100000
set_option maxHeartbeats 4000000
namespace WD
open PySem PySem.Spec PyProof.Rows L2
/-! enumerate(t), enumerate(t, start=k) over a tuple -/
/-- the tuple at a, each item in a new pair with its count -/
def IteT (K : PySem.W.Frag) (a : Addr) (c0 : Int) : It :=
  ⟨fun i H => ∃ (xs : List V) (x : V), SqT K H a xs ∧ xs[i]? = some x, fun i H v H' => ∃ T x, v = .ref T ∧ H T = none ∧ H' = upd H T (.tup [.int (c0 + (i : Nat)), x]) ∧ ∀ xs, SqT K H a xs → xs[i]? = some x, fun i H => ∃ xs : List V, SqT K H a xs ∧ xs.length ≤ i⟩
theorem turn_enumT {P : Program} {w : World} {K : PySem.W.Frag} {elts : List Expr} {kk : Nat} {tpos : Pos} (a e it : Addr) (c0 : Int) :
    Turn P w K (.Tuple elts kk tpos) (IteT K a c0) [e, it] e (fun i h => (∃ old, IsEnum h e it (c0 + ((i : Nat) : Int)) old) ∧ h.IsTupleIter it a i ∧ e ≠ it ∧ a ≠ it ∧ e ≠ a) where
  mem := by simp
  obj := fun i h st b hb => by
    obtain ⟨⟨old, he⟩, ⟨o, ho, hc, hd⟩, _⟩ := st
    have e' : b = e ∨ b = it := by simpa using hb
    rcases e' with z | z
    · rw [z]; exact ⟨_, he, fun v q => nomatch q⟩
    · rw [z]; exact ⟨o, ho, fun v q => by rw [hd] at q; cases q⟩
  keep := fun i h h' st k => by
    obtain ⟨⟨old, he⟩, hi, hne⟩ := st
    exact ⟨⟨old, k e (by simp) _ he⟩, hi.at fun o q => k it (by simp) o q, hne⟩
  item := by
    intro X hP hw hK hc i pins s σ H E I hf st hg
    subst hP hw hK
    obtain ⟨⟨old, he⟩, hit, hne, hat, hea⟩ := st
    obtain ⟨xs, x, hq, hx⟩ := hg
    obtain ⟨its, rv, p, hz⟩ := I.tuple hq
    obtain ⟨u, hu, ru⟩ := rv.get hx
    have hel : e < s.heap.objs.size := Heap.lt_size he
    have hil : it < s.heap.objs.size := by obtain ⟨_, q, _⟩ := hit; exact Heap.lt_size q
    have hlt : i < its.toArray.size := by
      rcases Nat.lt_or_ge i its.length with h | h
      · simpa using h
      · rw [List.getElem?_eq_none h] at hu; cases hu
    refine wpAny_pyNext_enum_itemC (Draws.tuple (A := X.A.in1) (show X.A.in1.handled = none from I.ok.hd hc) it a hat its.toArray) he ⟨hit, (show s.heap.IsTuple a its.toArray from p)⟩ hlt hne (by simp [hne, hea]) fun x' h' tk hP ho hst' hT hsz hk => ?_
    have hxu : x' = u := by
      have h2 : its.toArray[i]? = some u := by simpa using hu
      rw [h2] at hP
      exact (Option.some.inj hP).symm
    subst hxu
    obtain ⟨hit', _⟩ := hst'
    refine ⟨_, rfl, wpAny_letOwnedTupleGo_enum (s := { s with heap := h', toks := tk + 1 }) ho fun h'' he' sb => ?_⟩
    have hT2 : h''.get? s.heap.objs.size = some { cls := .type "tuple", data := .seq #[.int (c0 + (i : Int)) tk, x'] } := (sb.2 _ (Nat.ne_of_gt hel)).trans hT
    have new : ObjOk X.prog X.w (upd H s.heap.objs.size (.tup [.int (c0 + (i : Nat)), x])) h'' s.heap.objs.size (.tup [.int (c0 + (i : Nat)), x]) :=
      ⟨by show 2 ≤ sizeLine; decide, [.int (c0 + (i : Int)) tk, x'], .cons ⟨_, rfl⟩ (.cons ru .nil), ⟨_, hT2, rfl, _, rfl⟩⟩
    have I1 : Inv X pins σ (upd H s.heap.objs.size (.tup [.int (c0 + (i : Nat)), x])) { s with heap := h'', toks := tk + 1 } :=
      I.turnedNew (ch := [e, it]) (fun b ob hb q => (sb.2 b (fun z => hb (by simp [z]))).trans (hk b ob (fun z => hb (by simp [z])) (fun z => hb (by simp [z])) q)) hf (Nat.le_refl _) new
    refine ⟨.ref s.heap.objs.size, _, I1, rfl, ⟨_, x, rfl, I.hok.fresh (Nat.le_refl _), rfl, fun ys hy => by rw [I.tuple_inj hy hq]; exact hx⟩, ⟨⟨x', ?_⟩, hit'.at fun o q => (sb.2 it (Ne.symm hne)).trans q, hne, hat, hea⟩, fun b hb => ?_⟩
    · have e1 : c0 + ((i + 1 : Nat) : Int) = c0 + (i : Int) + 1 := by omega
      rw [e1]; exact he'
    · have hb' : b < s.heap.objs.size := by
        have e' : b = e ∨ b = it := by simpa using hb
        rcases e' with z | z
        · rw [z]; exact hel
        · rw [z]; exact hil
      rw [upd_ne (Nat.ne_of_lt hb')]
      exact (hf b hb).1
  done := by
    intro X hP hw hK hc i pins s σ H E I hf st hg
    subst hP hw hK
    obtain ⟨⟨old, he⟩, hit, hne, hat, hea⟩ := st
    obtain ⟨xs, hq, hx⟩ := hg
    obtain ⟨its, rv, p, hz⟩ := I.tuple hq
    obtain ⟨f0, f1, f2, f3, f4, f5⟩ := hf it (by simp)
    have hl := rv.length
    have D : Draws X.prog X.w X.A.in1 it [it, a] i (fun _ _ => True) (fun j h => j = i ∧ h.IsTupleIter it a j ∧ h.IsTuple a its.toArray) := {
      live := fun _ _ st => let ⟨o, ho, _⟩ := st.2.1; ⟨o, ho⟩
      frame := fun _ _ _ st hk => ⟨st.1, st.2.1.at fun o e => hk it (by simp) o e, st.2.2.at fun o e => hk a (by simp) o e⟩
      item := fun j s Q E hi st hQ => absurd st.1 (Nat.ne_of_lt hi)
      done := fun s Q E st hE => wpAny_nextOf_tuple_end (show X.A.in1.handled = none from I.ok.hd hc) st.2.1 st.2.2 (by simp; omega) hE }
    exact wpAny_pyNext_enum_endD D he ⟨rfl, hit, (show s.heap.IsTuple a its.toArray from p)⟩ fun h' eb => ⟨rfl, I.turned (t' := s.toks) (fun b o hb q => eb b o hb q) f0 f1 f3 f4 f5⟩
  self := fun A i s Q E st h => let ⟨⟨_, he⟩, _⟩ := st; wpAny_pyIter_enum he h
section
variable {M : Model} {A : Around} {E : Value → Shared → Prop} {s : Shared} {env : Env}
theorem callWith_type_kwB {pos : Pos} {id : String} {first : List Value} {args : List (Bool × Sem Value)} {keywords : List (Option Str × Sem Value)} {Q : Value → Shared → Prop} (hplain : args.any (·.1) = false) (hkw : keywords.any (·.1.isNone) = false)
    (h : wpAny M A (evalArgs (.type id) true args keywords) (fun a s₁ => wpAny M A (call (.type id) (first ++ a.pos) a.kw) Q E s₁) E s) : wpAny M A (callWith pos (.type id) first args keywords) Q E s := by
  unfold callWith
  refine wpAny_bind (wpAny_holding (wpAny_mono h (fun a s₁ h₁ => wpAny_bind (wpAny_standAt ?_)) fun _ _ x => x))
  simp only [hplain, hkw, Bool.or_false]
  refine wpAny_bind (wpAny_pure ?_)
  exact wpAny_bind (wpAny_mono h₁ (fun r s₂ hr => wpAny_bind (wpAny_holding (wpAny_point (wpAny_pure hr)))) fun _ _ x => x)
end
def qEnumS (K : PySem.W.Frag) (k : Int) (R : It → Hp → Prop) : List V → Hp → Prop := fun vs H1 => ∃ a xs, vs = [.ref a] ∧ SqT K H1 a xs ∧ R (IteT K a k) H1
def iEnumS (K : PySem.W.Frag) (ta : TA) (k : Int) : TI := fun σ H R => ta σ H (qEnumS K k R)
theorem pi_enumS {X : Cx} {e : Expr} {ta : TA} {p pos tpos kp : Pos} {elts : List Expr} {kk : Nat} {k : Int} {ce : Expr} (hg : Gl X "enumerate") (hm : X.mg "enumerate" = none) (ha : PA X [e] ta) (hc : PE X ce (tC (.int k))) (hk : -(2 ^ 63) ≤ k ∧ k < 2 ^ 63)
    (hs : starEach [e] X.env = [(false, eval e X.env)] := by rfl) :
    PI X (.Tuple elts kk tpos) (.Call (.Name "enumerate" p) [e] [⟨some "start", ce, kp⟩] pos) (iEnumS X.K ta k) := by
  refine ⟨fun pins s σ H R I h => ?_⟩
  refine wpAny_Call_Name_kw (ld_blt I hg hm boot_enumerate ?_)
  refine callWith_type_kwB (by rw [hs]; rfl) (by rfl) ?_
  refine evalArgs_kw2 (by rfl) (thn (ha.run pos pins s σ H _ I h) fun us s1 hh => ?_) hs
  obtain ⟨vs, H1, I1, r1, q1⟩ := hh
  refine PyProof.Rows.kws_cons (thn (hc.run pins s1 σ H1 (fun v H2 => v = .int k ∧ H2 = H1) I1 ⟨rfl, rfl⟩) fun v s2 hh => ?_)
  obtain ⟨x, H2, I2, r2, rfl, rfl⟩ := hh
  refine PyProof.Rows.kws_nil ?_
  obtain ⟨a, xs, rfl, hq, q⟩ := q1
  obtain ⟨t, rfl⟩ := r2
  cases r1 with
  | cons r rr =>
    cases rr
    cases r
    obtain ⟨its, rv, p', hz⟩ := I2.tuple hq
    refine enum_begins_start (k := k) (t := t) (begins_tuple a its.toArray) (show s2.heap.IsTuple a its.toArray from p') hk.1 hk.2 fun h' he hit hsz hkk => wpAny_pyIter_enum he ?_
    have I3 : Inv X pins σ H2 { s2 with heap := h' } := I2.kept (t' := s2.toks) hkk
    have hal : a < s2.heap.objs.size := by obtain ⟨o, ho, _⟩ := (show s2.heap.IsTuple a its.toArray from p'); exact Heap.lt_size ho
    refine ⟨s2.heap.objs.size + 1, [s2.heap.objs.size + 1, s2.heap.objs.size], _, _, H2, rfl, I3, turn_enumT a (s2.heap.objs.size + 1) s2.heap.objs.size k, ⟨⟨.none, ?_⟩, ⟨_, hit, rfl, rfl⟩, Nat.succ_ne_self _, Nat.ne_of_lt hal, ?_⟩, fun b hb => ?_, q⟩
    · have e0 : k + ((0 : Nat) : Int) = k := by omega
      rw [e0]; exact he
    · exact Nat.ne_of_gt (Nat.lt_succ_of_lt hal)
    have e' : b = s2.heap.objs.size + 1 ∨ b = s2.heap.objs.size := by simpa using hb
    have hle : s2.heap.objs.size ≤ b := by
      rcases e' with z | z
      · rw [z]; exact Nat.le_add_right _ _
      · rw [z]; exact Nat.le_refl _
    exact I2.fpOk hle (I2.hok.fresh hle)
/-- over such an enumeration -/
theorem for_enumS {K : PySem.W.Frag} {a : Addr} {xs : List V} {c0 : Int} {g : TG} {tb : TS} {D : Ends} {σ : L2.St} {H : Hp} (Pv : Nat → L2.St → Hp → Prop) (h0 : Pv 0 σ H) (hl : ∀ i σ H, i ≤ xs.length → Pv i σ H → SqT K H a xs)
    (hs : ∀ i x σ H, xs[i]? = some x → Pv i σ H → ∀ T, H T = none → g (.ref T) σ (upd H T (.tup [.int (c0 + (i : Nat)), x])) fun σ2 H2 => tb { D with nx := Pv (i + 1), ct := Pv (i + 1), bk := D.nx } σ2 H2) (hd : ∀ σ H, Pv xs.length σ H → D.nx σ H) :
    ∃ W : Nat → Nat → L2.St → Hp → Prop, (∃ m, W 0 m σ H) ∧ ∀ i m σ H, W i m σ H →
      ((IteT K a c0).stop i H ∧ D.nx σ H) ∨ ((IteT K a c0).go i H ∧ ∃ N : L2.St → Hp → Prop, (∀ σ' H', N σ' H' → ∃ m', m' < m ∧ W (i + 1) m' σ' H') ∧ ∀ x H', (IteT K a c0).yld i H x H' → g x σ H' fun σ2 H2 => tb { D with nx := N, ct := N, bk := D.nx } σ2 H2) := by
  refine ⟨fun i m σ H => m = xs.length - i ∧ i ≤ xs.length ∧ Pv i σ H, ⟨xs.length, by simp, Nat.zero_le _, h0⟩, ?_⟩
  rintro i m σ H ⟨rfl, hi, p⟩
  have q := hl i σ H hi p
  by_cases hlt : i < xs.length
  · refine .inr ⟨⟨xs, xs[i], q, by simp [hlt]⟩, Pv (i + 1), fun σ' H' p' => ⟨xs.length - (i + 1), by omega, rfl, hlt, p'⟩, fun x H' y => ?_⟩
    obtain ⟨T, x', rfl, nT, rfl, hx⟩ := y
    exact hs i x' σ H (hx xs q) p T nT
  · have e : i = xs.length := by omega
    subst e
    exact .inl ⟨⟨xs, q, Nat.le_refl _⟩, hd σ H p⟩
end WD

set_option Elab.async false
set_option linter.all false
set_option maxRecDepth 100000
set_option maxHeartbeats 1000000
namespace WD
open PySem PySem.Spec PyProof.Rows L2
/-! readings with names; steps of lists, tuples, bits -/
def rLenQ (K : PySem.W.Frag) : List V → Hp → VK → Prop := fun xs H Q => ∃ p ys, xs = [.ref p] ∧ (SqL K H p ys ∨ SqT K H p ys) ∧ Q (.int ys.length) H
theorem call_lenQ {X : Cx} : CallR X (.builtin "len") (rLenQ X.K) := call_len_seq
def rListOf (K : PySem.W.Frag) : List V → Hp → VK → Prop := fun xs H Q => ∃ p ys, xs = [.ref p] ∧ (SqL K H p ys ∨ SqT K H p ys) ∧ ∀ l, H l = none → Q (.ref l) (upd H l (.lst ys))
theorem call_listOf {X : Cx} : CallR X (.type "list") (rListOf X.K) := call_list_of
def rTupleOf (K : PySem.W.Frag) : List V → Hp → VK → Prop := fun xs H Q => ∃ p ys, xs = [.ref p] ∧ ((SqL K H p ys ∧ ∀ l, H l = none → Q (.ref l) (upd H l (.tup ys))) ∨ (SqT K H p ys ∧ Q (.ref p) H))
theorem call_tupleOf {X : Cx} : CallR X (.type "tuple") (rTupleOf X.K) := call_tuple_of
section
variable {σ : L2.St} {H : Hp} {Q : VK} {D : Ends} {v x y : V} {K : PySem.W.Frag} {ta tb te : TE} {ts : TA} {a p : Addr} {xs : List V} {i j : Int} {n k : Nat} {R : It → Hp → Prop}
theorem x_lenQL (hs : SqL K H a xs) (h : Q (.int xs.length) H) : rLenQ K [.ref a] H Q := ⟨a, xs, rfl, .inl hs, h⟩
theorem x_lenQT (hs : SqT K H a xs) (h : Q (.int xs.length) H) : rLenQ K [.ref a] H Q := ⟨a, xs, rfl, .inr hs, h⟩
theorem x_lenT2 {x y : V} (hs : SqT K H a [x, y]) (h : Q (.int 2) H) : rLenQ K [.ref a] H Q := ⟨a, [x, y], rfl, .inr hs, h⟩
theorem x_lenT1 {x : V} (hs : SqT K H a [x]) (h : Q (.int 1) H) : rLenQ K [.ref a] H Q := ⟨a, [x], rfl, .inr hs, h⟩
theorem x_lenMT {f : Nat → V} {ns : List Nat} (hs : SqT K H a (ns.map f)) (h : Q (.int ns.length) H) : rLenQ K [.ref a] H Q := ⟨a, _, rfl, .inr hs, by rw [List.length_map]; exact h⟩
theorem x_lenML {f : Nat → V} {ns : List Nat} (hs : SqL K H a (ns.map f)) (h : Q (.int ns.length) H) : rLenQ K [.ref a] H Q := ⟨a, _, rfl, .inl hs, by rw [List.length_map]; exact h⟩
theorem x_listOfL (hs : SqL K H a xs) (h : ∀ l, H l = none → Q (.ref l) (upd H l (.lst xs))) : rListOf K [.ref a] H Q := ⟨a, xs, rfl, .inl hs, h⟩
theorem x_listOfT (hs : SqT K H a xs) (h : ∀ l, H l = none → Q (.ref l) (upd H l (.lst xs))) : rListOf K [.ref a] H Q := ⟨a, xs, rfl, .inr hs, h⟩
theorem x_tupOfL (hs : SqL K H a xs) (h : ∀ l, H l = none → Q (.ref l) (upd H l (.tup xs))) : rTupleOf K [.ref a] H Q := ⟨a, xs, rfl, .inl ⟨hs, h⟩⟩
theorem x_sum {ns : List Int} (hs : SqL K H a (ns.map V.int)) (h : Q (.int ns.sum) H) : rSum K [.ref a] H Q := ⟨a, ns, rfl, hs, h⟩
theorem x_enumS {c : Int} (h : ts σ H (qEnumS K c R)) : iEnumS K ts c σ H R := h
theorem x_qEnumS {c : Int} (hs : SqT K H a xs) (h : R (IteT K a c) H) : qEnumS K c R [.ref a] H := ⟨a, xs, rfl, hs, h⟩
theorem x_setLk {QH : Hp → Prop} (hs : H a = some (.lst xs)) (e : ixN xs.length i = some k) (h : QH (upd H a (.lst (xs.set k v)))) : rSetL (.ref a) (.int i) v H QH := ⟨a, xs, i, k, rfl, rfl, hs, e, h⟩
theorem x_in (hs : SqL K H p xs ∨ SqT K H p xs) (f1 : flatV x = true) (f2 : xs.all flatV = true) (h : Q (.bl (inV x xs)) H) : rIn K false x (.ref p) H Q := ⟨p, xs, rfl, hs, f1, f2, h⟩
theorem x_notIn (hs : SqL K H p xs ∨ SqT K H p xs) (f1 : flatV x = true) (f2 : xs.all flatV = true) (h : Q (.bl (!inV x xs)) H) : rIn K true x (.ref p) H Q := ⟨p, xs, rfl, hs, f1, f2, h⟩
theorem x_rep {c : Int} (hs : H a = some (.lst xs)) (h1 : -(2 ^ 63) ≤ c ∧ c < 2 ^ 63) (h2 : xs.length * c.toNat ≤ sizeLine) (h : ∀ p, H p = none → Q (.ref p) (upd H p (.lst (List.replicate c.toNat xs).flatten))) : rRep (.ref a) (.int c) H Q := ⟨a, c, xs, rfl, rfl, hs, h1.1, h1.2, h2, h⟩
end
/-! ### what stays: tuples -/
def Tk (H H' : Hp) : Prop := ∀ a xs, H a = some (.tup xs) → H' a = some (.tup xs)
theorem Tk.refl (H : Hp) : Tk H H := fun _ _ h => h
theorem Tk.trans {H H1 H2 : Hp} (a : Tk H H1) (b : Tk H1 H2) : Tk H H2 := fun c xs h => b c xs (a c xs h)
theorem Stay.tk0 {H H' : Hp} (s : Stay [] H H') : Tk H H' := fun a xs h => s.keep a _ h nm0
theorem Stay.tk {S : List Addr} {H H' : Hp} (s : Stay S H H') (h : ∀ b ∈ S, ∀ xs, H b ≠ some (.tup xs)) : Tk H H' := fun a xs e => s.keep a _ e fun m => h a m xs e
theorem Tk.upd {H : Hp} {a : Addr} {o : HO} (h : ∀ xs, H a ≠ some (.tup xs)) : Tk H (L2.upd H a o) := fun b xs e => by
  by_cases z : b = a
  · subst z; exact absurd e (h xs)
  · rw [upd_ne z]; exact e
/-! ### bare logs -/
abbrev Deed : Type := Nat × List Nat
abbrev nat (n : Nat) : V := .int (n : Int)
def DeedAt (H : Hp) (v : V) (d : Deed) : Prop := ∃ t r, v = .ref t ∧ H t = some (.tup [nat d.1, .ref r]) ∧ H r = some (.tup (d.2.map nat))
def DeedsAt (H : Hp) (xs : List V) (ds : List Deed) : Prop := xs.length = ds.length ∧ ∀ (i : Nat) (x : V) (d : Deed), xs[i]? = some x → ds[i]? = some d → DeedAt H x d
def LogAt (H : Hp) (a : Addr) (P : Nat) (ds : List Deed) : Prop := ∃ b xs, H a = some (.tup [nat P, .ref b]) ∧ H b = some (.tup xs) ∧ DeedsAt H xs ds
theorem DeedAt.tk {H H' : Hp} {v : V} {d : Deed} (h : DeedAt H v d) (s : Tk H H') : DeedAt H' v d := by
  obtain ⟨t, r, e, h1, h2⟩ := h
  exact ⟨t, r, e, s _ _ h1, s _ _ h2⟩
theorem DeedsAt.tk {H H' : Hp} {xs : List V} {ds : List Deed} (h : DeedsAt H xs ds) (s : Tk H H') : DeedsAt H' xs ds := ⟨h.1, fun i x d e1 e2 => (h.2 i x d e1 e2).tk s⟩
theorem LogAt.tk {H H' : Hp} {a : Addr} {P : Nat} {ds : List Deed} (h : LogAt H a P ds) (s : Tk H H') : LogAt H' a P ds := by
  obtain ⟨b, xs, h1, h2, h3⟩ := h
  exact ⟨b, xs, s _ _ h1, s _ _ h2, h3.tk s⟩
theorem DeedsAt.get {H : Hp} {xs : List V} {ds : List Deed} (h : DeedsAt H xs ds) {i : Nat} {x : V} (e : xs[i]? = some x) : ∃ d, ds[i]? = some d ∧ DeedAt H x d := by
  have hi : i < ds.length := by
    rw [← h.1]
    rcases Nat.lt_or_ge i xs.length with l | l
    · exact l
    · rw [List.getElem?_eq_none l] at e; cases e
  exact ⟨ds[i], List.getElem?_eq_getElem hi, h.2 i x _ e (List.getElem?_eq_getElem hi)⟩
theorem DeedsAt.nil {H : Hp} : DeedsAt H [] [] := ⟨rfl, fun _ _ _ e => by simp at e⟩
theorem DeedsAt.snoc {H : Hp} {xs : List V} {ds : List Deed} {x : V} {d : Deed} (h : DeedsAt H xs ds) (hx : DeedAt H x d) : DeedsAt H (xs ++ [x]) (ds ++ [d]) := by
  refine ⟨by simp [h.1], fun i y c e1 e2 => ?_⟩
  rcases Nat.lt_or_ge i xs.length with l | l
  · rw [List.getElem?_append_left l] at e1
    rw [List.getElem?_append_left (by rw [← h.1]; exact l)] at e2
    exact h.2 i y c e1 e2
  · rw [List.getElem?_append_right l] at e1
    rw [List.getElem?_append_right (by rw [← h.1]; exact l)] at e2
    rw [← h.1] at e2
    rcases Nat.eq_zero_or_pos (i - xs.length) with z | z
    · rw [z] at e1 e2
      cases e1; cases e2; exact hx
    · rw [List.getElem?_eq_none (by simp; omega)] at e1; cases e1
/-- a deed of a log with P pages -/
structure WfD (P : Nat) (d : Deed) : Prop where
  pg : d.1 < P
  rd : ∀ r ∈ d.2, r < P ∧ r ≠ d.1
  asc : d.2.Pairwise (· < ·)
structure Wf (P : Nat) (ds : List Deed) : Prop where
  p1 : 1 ≤ P
  p2 : P ≤ 32
  n : ds.length ≤ 400
  d : ∀ d ∈ ds, WfD P d
theorem WfD.upTo {P : Nat} {d : Deed} (h : WfD P d) : ∀ (i r : Nat), d.2[i]? = some r → ∀ (j s : Nat), i < j → d.2[j]? = some s → r < s := fun i r e j s l e2 => by
  have hi := (List.getElem?_eq_some_iff.mp e).1
  have hj := (List.getElem?_eq_some_iff.mp e2).1
  have := List.pairwise_iff_getElem.mp h.asc i j hi hj l
  rw [(List.getElem?_eq_some_iff.mp e).2, (List.getElem?_eq_some_iff.mp e2).2] at this
  exact this
end WD

set_option Elab.async false
set_option linter.all false
set_option maxHeartbeats 1000000
namespace WD
open PySem PySem.Spec PyProof.Rows L2
theorem Tk.updN {H : Hp} {a : Addr} {o : HO} (h : H a = none) : Tk H (L2.upd H a o) := Tk.upd fun xs z => by rw [h] at z; cases z
theorem Tk.updL {H : Hp} {a : Addr} {o : HO} {ys : List V} (h : H a = some (.lst ys)) : Tk H (L2.upd H a o) := Tk.upd fun xs z => by rw [h] at z; cases z
theorem Tk.updL' {H : Hp} {a : Addr} {o : HO} (h : ∃ ys : List V, H a = some (.lst ys)) : Tk H (L2.upd H a o) := by
  obtain ⟨ys, h⟩ := h
  exact Tk.updL h
theorem rep0 {P : Nat} : (List.replicate (P : Int).toNat [V.int 0]).flatten = (List.replicate P 0).map nat := by
  rw [Int.toNat_natCast]
  induction P with
  | zero => rfl
  | succ n ih => rw [List.replicate_succ, List.replicate_succ, List.flatten_cons, ih]; rfl
theorem bitAnd_nat (a b : Nat) : Builtin.bitAnd (a : Int) (b : Int) = ((a &&& b : Nat) : Int) := by
  unfold Builtin.bitAnd
  simp
theorem bitNot_nat (a : Nat) : Builtin.bitNot (a : Int) = -(a : Int) - 1 := by
  unfold Builtin.bitNot
  omega
theorem bitNot_toNat (a : Nat) : (Builtin.bitNot (-(a : Int) - 1)).toNat = a := by
  unfold Builtin.bitNot
  omega
theorem bitOr_nat (a b : Nat) : Builtin.bitOr (a : Int) (b : Int) = ((a ||| b : Nat) : Int) := by
  unfold Builtin.bitOr
  rw [bitNot_nat, bitNot_nat]
  unfold Builtin.bitAnd
  rw [decide_eq_false (by omega), decide_eq_false (by omega)]
  show Builtin.bitNot (Builtin.bitNot _) = _
  rw [bitNot_toNat, bitNot_toNat]
  unfold Builtin.bitNot
  omega
theorem atNat {ns : List Nat} {i : Nat} (h : i < ns.length) : atI (ns.map nat) (i : Int) = some (nat (ns.getD i 0)) := by
  unfold atI ixN
  rw [if_pos (by omega), if_pos (by simp; omega)]
  simp [List.getD_eq_getElem?_getD, h]
theorem ixNat {ns : List Nat} {i : Nat} (h : i < ns.length) : ixN (ns.map nat).length (i : Int) = some i := by
  unfold ixN
  rw [if_pos (by omega), if_pos (by simp; omega)]
  simp
/-! closures of relations of numbers -/
inductive Tg (E : Nat → Nat → Prop) : Nat → Nat → Prop
  | one {x y : Nat} : E x y → Tg E x y
  | step {x y z : Nat} : E x y → Tg E y z → Tg E x z
theorem Tg.trans {E : Nat → Nat → Prop} {x y z : Nat} (h : Tg E x y) (g : Tg E y z) : Tg E x z := by
  induction h with
  | one e => exact .step e g
  | step e _ ih => exact .step e (ih g)
def Wr (R : Nat → Nat → Prop) (k : Nat) : Nat → Nat → Prop := fun x y => R x y ∨ (R x k ∧ R k y)
def Rk (E : Nat → Nat → Prop) : Nat → Nat → Nat → Prop
  | 0 => E
  | k + 1 => Wr (Rk E k) k
theorem Rk.sound {E : Nat → Nat → Prop} : ∀ {k x y : Nat}, Rk E k x y → Tg E x y
  | 0, _, _, h => .one h
  | k + 1, _, _, h => by
    rcases h with h | ⟨h, g⟩
    · exact Rk.sound h
    · exact (Rk.sound h).trans (Rk.sound g)
theorem Rk.base {E : Nat → Nat → Prop} : ∀ {k x y : Nat}, E x y → Rk E k x y
  | 0, _, _, h => h
  | k + 1, _, _, h => .inl (Rk.base h)
theorem Rk.comp {E : Nat → Nat → Prop} : ∀ {k x y z : Nat}, z < k → Rk E k x z → Rk E k z y → Rk E k x y
  | 0, _, _, _, l, _, _ => absurd l (Nat.not_lt_zero _)
  | k + 1, x, y, z, l, h, g => by
    rcases Nat.lt_or_ge z k with lz | lz
    · rcases h with h | ⟨h1, h2⟩
      · rcases g with g | ⟨g1, g2⟩
        · exact .inl (Rk.comp lz h g)
        · exact .inr ⟨Rk.comp lz h g1, g2⟩
      · rcases g with g | ⟨g1, g2⟩
        · exact .inr ⟨h1, Rk.comp lz h2 g⟩
        · exact .inr ⟨h1, g2⟩
    · have e : z = k := by omega
      subst e
      have h' : Rk E z x z := by rcases h with h | ⟨h, _⟩ <;> exact h
      have g' : Rk E z z y := by rcases g with g | ⟨_, g⟩ <;> exact g
      exact .inr ⟨h', g'⟩
theorem Rk.all {E : Nat → Nat → Prop} {P : Nat} (hE : ∀ x y, E x y → y < P) {x y : Nat} : Rk E P x y ↔ Tg E x y := by
  refine ⟨Rk.sound, fun h => ?_⟩
  induction h with
  | one e => exact Rk.base e
  | step e _ ih => exact Rk.comp (hE _ _ e) (Rk.base e) ih
/-- the rows of ns are the bits of R -/
structure Bt (P : Nat) (ns : List Nat) (R : Nat → Nat → Prop) : Prop where
  len : ns.length = P
  bit : ∀ x, x < P → ∀ y, (ns.getD x 0).testBit y = true ↔ R x y
theorem Bt.mono {P : Nat} {ns : List Nat} {R R' : Nat → Nat → Prop} (h : Bt P ns R) (e : ∀ x, x < P → ∀ y, R x y ↔ R' x y) : Bt P ns R' := ⟨h.len, fun x hx y => (h.bit x hx y).trans (e x hx y)⟩
theorem getD_set {ns : List Nat} {p v x : Nat} (h : p < ns.length) : (ns.set p v).getD x 0 = if x = p then v else ns.getD x 0 := by
  by_cases e : x = p
  · subst e
    rw [if_pos rfl, List.getD_eq_getElem?_getD, List.getElem?_set_self h]
    rfl
  · rw [if_neg e, List.getD_eq_getElem?_getD, List.getD_eq_getElem?_getD, List.getElem?_set_ne (Ne.symm e)]
theorem testBit_one {r y : Nat} : (1 * 2 ^ r).testBit y = true ↔ y = r := by
  rw [Nat.one_mul, Nat.testBit_two_pow]
  simp [eq_comm]
/-- one read more -/
theorem Bt.read {P : Nat} {ns : List Nat} {R : Nat → Nat → Prop} {p r : Nat} (h : Bt P ns R) (hp : p < P) : Bt P (ns.set p (ns.getD p 0 ||| (1 * 2 ^ r))) (fun x y => R x y ∨ (x = p ∧ y = r)) := by
  refine ⟨by simp [h.len], fun x hx y => ?_⟩
  rw [getD_set (by rw [h.len]; exact hp)]
  by_cases e : x = p
  · subst e
    rw [if_pos rfl, Nat.testBit_or, Bool.or_eq_true, h.bit x hx y, testBit_one]
    simp
  · rw [if_neg e, h.bit x hx y]
    simp [e]
/-- the row of a page takes that of another -/
theorem Bt.row {P : Nat} {ns : List Nat} {R : Nat → Nat → Prop} {p k : Nat} (h : Bt P ns R) (hp : p < P) (hk : k < P) : Bt P (ns.set p (ns.getD p 0 ||| ns.getD k 0)) (fun x y => R x y ∨ (x = p ∧ R k y)) := by
  refine ⟨by simp [h.len], fun x hx y => ?_⟩
  rw [getD_set (by rw [h.len]; exact hp)]
  by_cases e : x = p
  · subst e
    rw [if_pos rfl, Nat.testBit_or, Bool.or_eq_true, h.bit x hx y, h.bit k hk y]
    simp
  · rw [if_neg e, h.bit x hx y]
    simp [e]
/-- the edges of a log -/
def Ed (ds : List Deed) : Nat → Nat → Prop := fun x y => ∃ d ∈ ds, d.1 = x ∧ y ∈ d.2
theorem has_bit (m y : Nat) : decide (V.int (Builtin.bitAnd ((m : Int) / 2 ^ (y : Int).toNat) 1) = V.int 1) = m.testBit y := by
  have e1 : ((m : Int) / 2 ^ (y : Int).toNat) = ((m / 2 ^ y : Nat) : Int) := by
    rw [Int.toNat_natCast]
    exact_mod_cast rfl
  rw [e1, show (1 : Int) = ((1 : Nat) : Int) from rfl, bitAnd_nat]
  rw [Nat.testBit, Nat.shiftRight_eq_div_pow, Nat.and_comm 1]
  have : (m / 2 ^ y) &&& 1 = 0 ∨ (m / 2 ^ y) &&& 1 = 1 := by
    have := Nat.and_one_is_mod (m / 2 ^ y)
    omega
  rcases this with h | h <;> rw [h] <;> decide
def kn (ns : List Nat) (x : Nat) : List Nat := (List.range ns.length).filter fun o => o == x || ((ns.getD x 0).testBit o && (ns.getD o 0).testBit x)
end WD

set_option Elab.async false
set_option linter.all false
set_option maxHeartbeats 1000000
namespace WD
open PySem PySem.Spec PyProof.Rows L2
section
variable {H : Hp} {Q : VK} {v x : V} {a : Addr} {xs : List V}
theorem x_app (hs : H a = some (.lst xs)) (l : xs.length < sizeLine) (h : Q .non (upd H a (.lst (xs ++ [v])))) : rAppend (.ref a) [v] H Q := ⟨a, xs, v, rfl, rfl, hs, l, h⟩
end
end WD
namespace WD
open PySem PySem.Spec PyProof.Rows L2
section
variable {σ : L2.St} {H : Hp} {Q : VK} {v x y : V} {a l : Addr} {xs : List V} {ta : TE}
def qRgL (x : V) (H1 : Hp) (Q : VK) : Prop := ∃ n, x = .int n ∧ RgOk 0 n ∧ ∀ q, H1 q = none → Q (.ref q) (upd H1 q (.lst (rgV 0 n)))
theorem x_listRg1 (h : ta σ H fun x H1 => qRgL x H1 Q) : tLstRg (tRg1 ta) σ H Q := h
theorem rgV_ints (n : Nat) : rgV 0 (n : Int) = ((List.range n).map fun i => ((i : Nat) : Int)).map V.int := by
  unfold rgV
  rw [List.map_map, show ((n : Int) - 0).toNat = n by omega]
  apply List.map_congr_left
  intro i _
  simp
theorem x_qRgL {n : Nat} (l : n ≤ 1000) (h : ∀ q, H q = none → Q (.ref q) (upd H q (.lst (((List.range n).map fun i => ((i : Nat) : Int)).map V.int)))) : qRgL (.int (n : Int)) H Q := ⟨n, rfl, RgOk.of_le (by omega) (by omega) (by omega) (by omega), fun q hq => by rw [rgV_ints]; exact h q hq⟩
theorem log_small {m : Nat} (h : m ≤ 1000) : (m : Int).natAbs.log2 < 9000 := by
  rw [Int.natAbs_natCast]
  exact Nat.lt_of_le_of_lt (Nat.log2_le_self m) (by omega)
theorem pop_ix {ls : List Int} {d : Int} (h0 : 0 ≤ d) (h1 : d < ls.length) : ∃ y, seqIndex? d (ls.map V.int).length = some d.toNat ∧ (ls.map V.int)[d.toNat]? = some (.int y) := by
  refine ⟨ls[d.toNat]'(by omega), ?_, ?_⟩
  · unfold seqIndex?
    rw [List.length_map]
    simp
    omega
  · rw [List.getElem?_map, List.getElem?_eq_getElem (by omega)]; rfl
end
end WD
namespace WD
open PySem PySem.Spec PyProof.Rows L2
theorem atInt {ns : List Int} {i : Nat} (h : i < ns.length) : ∃ y, atI (ns.map V.int) (i : Int) = some (.int y) := by
  refine ⟨ns[i], ?_⟩
  unfold atI ixN
  rw [if_pos (by omega), if_pos (by simp; omega)]
  simp [h]
theorem log_smallI {m : Int} (h : m.natAbs ≤ 1000) : m.natAbs.log2 < 9000 := Nat.lt_of_le_of_lt (Nat.log2_le_self _) (by omega)
end WD

set_option Elab.async false
set_option linter.all false
set_option maxHeartbeats 1000000
namespace WD
/-! reaching by sweeps -/
theorem nodup_len : ∀ (P : Nat) (l : List Nat), l.Nodup → (∀ y ∈ l, y < P) → l.length ≤ P
  | 0, l, _, h => by
    cases l with
    | nil => exact Nat.le_refl _
    | cons y r => exact absurd (h y (by simp)) (Nat.not_lt_zero _)
  | P + 1, l, n, h => by
    by_cases m : P ∈ l
    · have e := List.length_erase_of_mem m
      have := nodup_len P (l.erase P) (n.erase P) fun y hy => by
        have h1 := h y (List.mem_of_mem_erase hy)
        have h2 : y ≠ P := fun z => by
          rw [z] at hy
          exact (List.Nodup.not_mem_erase n) hy
        omega
      have : 0 < l.length := List.length_pos_of_mem m
      omega
    · have := nodup_len P l n fun y hy => by
        have h1 := h y hy
        have h2 : y ≠ P := fun z => m (z ▸ hy)
        omega
      omega
/-- within n steps -/
def Dn (E : Nat → Nat → Prop) : Nat → Nat → Nat → Prop
  | 0, x, y => x = y
  | n + 1, x, y => Dn E n x y ∨ ∃ r, E x r ∧ Dn E n r y
theorem Dn.mono {E : Nat → Nat → Prop} {n m x y : Nat} (l : n ≤ m) (h : Dn E n x y) : Dn E m x y := by
  induction l with
  | refl => exact h
  | step _ ih => exact .inl ih
theorem Dn.sound {E : Nat → Nat → Prop} : ∀ {n x y : Nat}, Dn E n x y → x = y ∨ Tg E x y
  | 0, _, _, h => .inl h
  | n + 1, _, _, h => by
    rcases h with h | ⟨r, e, h⟩
    · exact h.sound
    · rcases h.sound with z | z
      · subst z; exact .inr (.one e)
      · exact .inr (.step e z)
theorem Dn.of_tg {E : Nat → Nat → Prop} {x y : Nat} (h : Tg E x y) : ∃ n, Dn E n x y := by
  induction h with
  | one e => exact ⟨1, .inr ⟨_, e, rfl⟩⟩
  | step e _ ih =>
    obtain ⟨n, h⟩ := ih
    exact ⟨n + 1, .inr ⟨_, e, h⟩⟩
theorem filter_lt {p q : Nat → Bool} : ∀ {l : List Nat}, (∀ y, p y = true → q y = true) → (∃ y ∈ l, q y = true ∧ ¬ p y = true) → (l.filter p).length < (l.filter q).length
  | [], _, h => by obtain ⟨_, h, _⟩ := h; cases h
  | a :: r, hpq, h => by
    have le : (r.filter p).length ≤ (r.filter q).length := by
      clear h
      induction r with
      | nil => exact Nat.le_refl _
      | cons b s ih =>
        by_cases hp : p b = true
        · rw [List.filter_cons_of_pos hp, List.filter_cons_of_pos (hpq b hp), List.length_cons, List.length_cons]; omega
        · rw [List.filter_cons_of_neg hp]
          by_cases hq : q b = true
          · rw [List.filter_cons_of_pos hq, List.length_cons]; omega
          · rw [List.filter_cons_of_neg hq]; exact ih
    obtain ⟨y, hy, hq, hp⟩ := h
    rcases List.mem_cons.mp hy with e | hy
    · subst e
      rw [List.filter_cons_of_neg hp, List.filter_cons_of_pos hq, List.length_cons]; omega
    · have := filter_lt hpq ⟨y, hy, hq, hp⟩
      by_cases hp' : p a = true
      · rw [List.filter_cons_of_pos hp', List.filter_cons_of_pos (hpq a hp'), List.length_cons, List.length_cons]; omega
      · rw [List.filter_cons_of_neg hp']
        by_cases hq' : q a = true
        · rw [List.filter_cons_of_pos hq', List.length_cons]; omega
        · rw [List.filter_cons_of_neg hq']; exact this
open Classical in
noncomputable def cnt (E : Nat → Nat → Prop) (P y n : Nat) : Nat := ((List.range P).filter fun x => decide (Dn E n x y)).length
theorem cnt_le (E : Nat → Nat → Prop) (P y n : Nat) : cnt E P y n ≤ P := Nat.le_trans (List.length_filter_le _ _) (by simp)
theorem cnt_grow {E : Nat → Nat → Prop} {P y : Nat} (hy : y < P) : ∀ n, (∀ k, k < n → ∃ x, x < P ∧ Dn E (k + 1) x y ∧ ¬ Dn E k x y) → n + 1 ≤ cnt E P y n
  | 0, _ => by
    have : y ∈ (List.range P).filter fun x => @decide (Dn E 0 x y) (Classical.propDecidable _) := by
      rw [List.mem_filter]
      exact ⟨List.mem_range.mpr hy, by simp [Dn]⟩
    exact List.length_pos_of_mem this
  | n + 1, h => by
    have ih := cnt_grow hy n fun k hk => h k (by omega)
    obtain ⟨x, hx, h1, h2⟩ := h n (Nat.lt_succ_self _)
    have : cnt E P y n < cnt E P y (n + 1) := by
      unfold cnt
      refine filter_lt (fun z hz => ?_) ⟨x, List.mem_range.mpr hx, by simpa using h1, by simpa using h2⟩
      simp only [decide_eq_true_eq] at hz ⊢
      exact .inl hz
    omega
theorem Dn.stable {E : Nat → Nat → Prop} {P y : Nat} (hE : ∀ x r, E x r → r < P) (hy : y < P) : ∀ {m x : Nat}, x < P → Dn E m x y → Dn E P x y := by
  have ⟨k, hk, st⟩ : ∃ k, k < P ∧ ∀ x, x < P → Dn E (k + 1) x y → Dn E k x y := by
    refine Classical.byContradiction fun no => ?_
    have g := cnt_grow (E := E) hy P fun k hk => Classical.byContradiction fun n2 => no ⟨k, hk, fun x hx h => Classical.byContradiction fun h2 => n2 ⟨x, hx, h, h2⟩⟩
    have := cnt_le E P y P
    omega
  have all : ∀ m x, x < P → Dn E m x y → Dn E k x y := by
    intro m
    induction m with
    | zero => exact fun x hx h => Dn.mono (Nat.zero_le _) h
    | succ m ih =>
      intro x hx h
      rcases h with h | ⟨r, e, h⟩
      · exact ih x hx h
      · exact st x hx (.inr ⟨r, e, ih r (hE _ _ e) h⟩)
  exact fun {m x} hx h => Dn.mono (by omega) (all m x hx h)
/-- the lists of pages that are found -/
structure Fs (E : Nat → Nat → Prop) (P : Nat) (fs : List (List Nat)) : Prop where
  len : fs.length = P
  nd : ∀ x, x < P → (fs.getD x []).Nodup
  lt : ∀ x, x < P → ∀ y ∈ fs.getD x [], y < P
  so : ∀ x, x < P → ∀ y ∈ fs.getD x [], x = y ∨ Tg E x y
  me : ∀ x, x < P → x ∈ fs.getD x []
def add1 (fs : List (List Nat)) (p r : Nat) : List Nat := (fs.getD r []).filter fun y => !(fs.getD p []).contains y
def fstep (fs : List (List Nat)) (p r : Nat) : List (List Nat) := fs.set p (fs.getD p [] ++ add1 fs p r)
theorem getD_setL {fs : List (List Nat)} {p x : Nat} {v : List Nat} (h : p < fs.length) : (fs.set p v).getD x [] = if x = p then v else fs.getD x [] := by
  by_cases e : x = p
  · subst e
    rw [if_pos rfl, List.getD_eq_getElem?_getD, List.getElem?_set_self h]
    rfl
  · rw [if_neg e, List.getD_eq_getElem?_getD, List.getD_eq_getElem?_getD, List.getElem?_set_ne (Ne.symm e)]
theorem mem_add1 {fs : List (List Nat)} {p r y : Nat} : y ∈ add1 fs p r ↔ y ∈ fs.getD r [] ∧ y ∉ fs.getD p [] := by
  unfold add1
  rw [List.mem_filter]
  simp
theorem Fs.step {E : Nat → Nat → Prop} {P : Nat} {fs : List (List Nat)} {p r : Nat} (h : Fs E P fs) (hp : p < P) (hr : r < P) (e : E p r) : Fs E P (fstep fs p r) := by
  have hl : p < fs.length := by rw [h.len]; exact hp
  have key : ∀ x, (fstep fs p r).getD x [] = if x = p then fs.getD p [] ++ add1 fs p r else fs.getD x [] := fun x => getD_setL hl
  refine ⟨by unfold fstep; simp [h.len], fun x hx => ?_, fun x hx y hy => ?_, fun x hx y hy => ?_, fun x hx => ?_⟩
  · rw [key]
    by_cases z : x = p
    · rw [if_pos z, List.nodup_append]
      refine ⟨h.nd p hp, (h.nd r hr).filter _, fun a ha b hb ab => ?_⟩
      rw [ab] at ha
      exact (mem_add1.mp hb).2 ha
    · rw [if_neg z]; exact h.nd x hx
  · rw [key] at hy
    by_cases z : x = p
    · rw [if_pos z] at hy
      rcases List.mem_append.mp hy with hy | hy
      · exact h.lt p hp y hy
      · exact h.lt r hr y (mem_add1.mp hy).1
    · rw [if_neg z] at hy; exact h.lt x hx y hy
  · rw [key] at hy
    by_cases z : x = p
    · rw [if_pos z] at hy
      subst z
      rcases List.mem_append.mp hy with hy | hy
      · exact h.so x hp y hy
      · rcases h.so r hr y (mem_add1.mp hy).1 with q | q
        · subst q; exact .inr (.one e)
        · exact .inr (.step e q)
    · rw [if_neg z] at hy; exact h.so x hx y hy
  · rw [key]
    by_cases z : x = p
    · rw [if_pos z]; subst z; exact List.mem_append_left _ (h.me x hx)
    · rw [if_neg z]; exact h.me x hx
/-- what the sweep has done: nothing goes, and each edge's pages are taken over -/
structure Sw (P : Nat) (f0 fs : List (List Nat)) (D : Nat → Nat → Prop) : Prop where
  ext : ∀ x, x < P → ∃ e, fs.getD x [] = f0.getD x [] ++ e
  dn : ∀ p r, D p r → ∀ y ∈ f0.getD r [], y ∈ fs.getD p []
theorem Sw.step {E : Nat → Nat → Prop} {P : Nat} {f0 fs : List (List Nat)} {D : Nat → Nat → Prop} {p r : Nat} (w : Sw P f0 fs D) (h : Fs E P fs) (hp : p < P) (hr : r < P) : Sw P f0 (fstep fs p r) (fun a b => D a b ∨ (a = p ∧ b = r)) := by
  have hl : p < fs.length := by rw [h.len]; exact hp
  have key : ∀ x, (fstep fs p r).getD x [] = if x = p then fs.getD p [] ++ add1 fs p r else fs.getD x [] := fun x => getD_setL hl
  have up : ∀ x y, y ∈ fs.getD x [] → y ∈ (fstep fs p r).getD x [] := fun x y hy => by
    rw [key]
    by_cases z : x = p
    · rw [if_pos z]; subst z; exact List.mem_append_left _ hy
    · rw [if_neg z]; exact hy
  refine ⟨fun x hx => ?_, fun a b hd y hy => ?_⟩
  · obtain ⟨e, he⟩ := w.ext x hx
    rw [key]
    by_cases z : x = p
    · rw [if_pos z]; subst z; exact ⟨e ++ add1 fs x r, by rw [he, List.append_assoc]⟩
    · rw [if_neg z]; exact ⟨e, he⟩
  · rcases hd with hd | ⟨rfl, rfl⟩
    · exact up _ _ (w.dn a b hd y hy)
    · rw [key, if_pos rfl]
      obtain ⟨e, he⟩ := w.ext b hr
      have hy2 : y ∈ fs.getD b [] := by rw [he]; exact List.mem_append_left _ hy
      by_cases m : y ∈ fs.getD a []
      · exact List.mem_append_left _ m
      · exact List.mem_append_right _ (mem_add1.mpr ⟨hy2, m⟩)
def lens (fs : List (List Nat)) : List Int := fs.map fun l => (l.length : Int)
theorem sum_same : ∀ {f0 fs : List (List Nat)}, f0.length = fs.length → (∀ x, x < fs.length → ∃ e, fs.getD x [] = f0.getD x [] ++ e) → (lens f0).sum ≤ (lens fs).sum ∧ ((lens fs).sum = (lens f0).sum → fs = f0)
  | [], [], _, _ => ⟨by simp [lens], fun _ => rfl⟩
  | a :: r, b :: s, hl, h => by
    obtain ⟨e, he⟩ := h 0 (by simp)
    have he : b = a ++ e := by simpa using he
    have ⟨i1, i2⟩ := sum_same (f0 := r) (fs := s) (by simpa using hl) fun x hx => by
      obtain ⟨e, he⟩ := h (x + 1) (by simp; omega)
      exact ⟨e, by simpa using he⟩
    unfold lens at *
    simp only [List.map_cons, List.sum_cons]
    subst he
    rw [List.length_append]
    refine ⟨by omega, fun q => ?_⟩
    have z : e.length = 0 := by omega
    have e0 : e = [] := List.eq_nil_of_length_eq_zero z
    subst e0
    rw [i2 (by simp at q; omega), List.append_nil]
  | [], _ :: _, hl, _ => by simp at hl
  | _ :: _, [], hl, _ => by simp at hl
theorem closed_all {E : Nat → Nat → Prop} {P : Nat} {fs : List (List Nat)} (h : Fs E P fs) (hE : ∀ x r, E x r → x < P ∧ r < P) (c : ∀ p r, E p r → ∀ y ∈ fs.getD r [], y ∈ fs.getD p []) {x y : Nat} (hx : x < P) (g : x = y ∨ Tg E x y) : y ∈ fs.getD x [] := by
  rcases g with z | g
  · subst z; exact h.me x hx
  · induction g with
    | one e => exact c _ _ e _ (h.me _ (hE _ _ e).2)
    | step e _ ih => exact c _ _ e _ (ih (hE _ _ e).2)
end WD
namespace WD
open PySem PySem.Spec PyProof.Rows L2
/-- what stands stays, but for f -/
def Kf (f : Addr) (H H' : Hp) : Prop := ∀ b o, b ≠ f → H b = some o → H' b = some o
theorem Kf.refl (f : Addr) (H : Hp) : Kf f H H := fun _ _ _ h => h
theorem Kf.trans {f : Addr} {H H1 H2 : Hp} (a : Kf f H H1) (b : Kf f H1 H2) : Kf f H H2 := fun c o n h => b c o n (a c o n h)
theorem Stay.kf {f : Addr} {H H' : Hp} (s : Stay [] H H') : Kf f H H' := fun b o _ h => s.keep b o h nm0
theorem Kf.updF {f : Addr} {H : Hp} {o : HO} : Kf f H (L2.upd H f o) := fun b u n h => by rw [upd_ne n]; exact h
theorem Kf.updN {f a : Addr} {H : Hp} {o : HO} (h : H a = none) : Kf f H (L2.upd H a o) := fun b u n e => by
  rw [upd_ne (fun z => by rw [z, h] at e; cases e)]; exact e
def FAt (H : Hp) (f : Addr) (vs : List V) (fs : List (List Nat)) : Prop := vs.length = fs.length ∧ ∀ (i : Nat) (x : V) (l : List Nat), vs[i]? = some x → fs[i]? = some l → ∃ b, x = .ref b ∧ b ≠ f ∧ H b = some (.lst (l.map nat))
theorem FAt.kf {H H' : Hp} {f : Addr} {vs : List V} {fs : List (List Nat)} (h : FAt H f vs fs) (s : Kf f H H') : FAt H' f vs fs := ⟨h.1, fun i x l e1 e2 => by
  obtain ⟨b, e, n, g⟩ := h.2 i x l e1 e2
  exact ⟨b, e, n, s _ _ n g⟩⟩
theorem FAt.nil {H : Hp} {f : Addr} : FAt H f [] [] := ⟨rfl, fun _ _ _ e => by simp at e⟩
theorem FAt.snoc {H : Hp} {f b : Addr} {vs : List V} {fs : List (List Nat)} {l : List Nat} (h : FAt H f vs fs) (n : b ≠ f) (g : H b = some (.lst (l.map nat))) : FAt H f (vs ++ [.ref b]) (fs ++ [l]) := by
  refine ⟨by simp [h.1], fun i y c e1 e2 => ?_⟩
  rcases Nat.lt_or_ge i vs.length with q | q
  · rw [List.getElem?_append_left q] at e1
    rw [List.getElem?_append_left (by rw [← h.1]; exact q)] at e2
    exact h.2 i y c e1 e2
  · rw [List.getElem?_append_right q] at e1
    rw [List.getElem?_append_right (by rw [← h.1]; exact q)] at e2
    rw [← h.1] at e2
    rcases Nat.eq_zero_or_pos (i - vs.length) with z | z
    · rw [z] at e1 e2
      cases e1; cases e2; exact ⟨b, rfl, n, g⟩
    · rw [List.getElem?_eq_none (by simp; omega)] at e1; cases e1
theorem FAt.set {H : Hp} {f b : Addr} {vs : List V} {fs : List (List Nat)} {l : List Nat} {p : Nat} (h : FAt H f vs fs) (n : b ≠ f) (g : H b = some (.lst (l.map nat))) : FAt H f (vs.set p (.ref b)) (fs.set p l) := by
  refine ⟨by simp [h.1], fun i y c e1 e2 => ?_⟩
  rw [List.getElem?_set] at e1 e2
  by_cases z : p = i
  · rw [if_pos z] at e1 e2
    split at e1
    · split at e2
      · cases e1; cases e2; exact ⟨b, rfl, n, g⟩
      · cases e2
    · cases e1
  · rw [if_neg z] at e1 e2
    exact h.2 i y c e1 e2
theorem FAt.at {H : Hp} {f : Addr} {vs : List V} {fs : List (List Nat)} {p : Nat} (h : FAt H f vs fs) (hp : p < fs.length) : ∃ b, atI vs (p : Int) = some (.ref b) ∧ b ≠ f ∧ H b = some (.lst ((fs.getD p []).map nat)) := by
  have hv : p < vs.length := by rw [h.1]; exact hp
  obtain ⟨b, e, n, g⟩ := h.2 p vs[p] fs[p] (by simp [hv]) (by simp [hp])
  refine ⟨b, ?_, n, ?_⟩
  · unfold atI ixN
    rw [if_pos (by omega), if_pos (by omega)]
    simp [hv, e]
  · rw [List.getD_eq_getElem?_getD, List.getElem?_eq_getElem hp]; exact g
theorem ixV {vs : List V} {p : Nat} (h : p < vs.length) : ixN vs.length (p : Int) = some p := by
  unfold ixN
  rw [if_pos (by omega), if_pos (by omega)]
  simp
theorem inV_nat (y : Nat) : ∀ l : List Nat, inV (nat y) (l.map nat) = l.contains y
  | [] => rfl
  | z :: r => by
    have ih := inV_nat y r
    unfold inV at *
    rw [List.map_cons, List.any_cons, ih, List.contains_cons]
    congr 1
    show ((z : Int) == (y : Int)) = (y == z)
    by_cases e : y = z
    · subst e; rw [beq_self_eq_true, beq_self_eq_true]
    · have e2 : (z : Int) ≠ (y : Int) := by omega
      rw [beq_eq_false_iff_ne.mpr e2, beq_eq_false_iff_ne.mpr e]
theorem flat_nat (l : List Nat) : (l.map nat).all flatV = true := by
  rw [List.all_eq_true]
  intro x hx
  obtain ⟨n, _, rfl⟩ := List.mem_map.mp hx
  rfl
end WD
namespace WD
theorem Sw.mono {P : Nat} {f0 fs : List (List Nat)} {D D' : Nat → Nat → Prop} (w : Sw P f0 fs D) (h : ∀ p r, D' p r → D p r) : Sw P f0 fs D' := ⟨w.ext, fun p r d => w.dn p r (h p r d)⟩
end WD

set_option maxHeartbeats 8000000

namespace WD
open PySem PySem.Spec PyProof.Rows L2
-- p ≠ q of two addresses
local macro_rules | `(tactic| walk_at "ne") => `(tactic| first
  | with_reducible assumption
  | with_reducible exact Ne.symm (by assumption)
  | exact ne_some (by with_reducible assumption) (by with_reducible assumption)
  | exact Ne.symm (ne_some (by with_reducible assumption) (by with_reducible assumption)))
local macro_rules | `(tactic| walk_at "nm") => `(tactic| first | with_reducible assumption | with_reducible exact nm0 | ((with_reducible refine' nmS ?a ?b); (case a => walk_at "ne"); (case b => walk_at "nm")))
-- H p = some ?o
local macro_rules | `(tactic| walk_at "hp") => `(tactic| first
  | with_reducible exact upd_same
  | with_reducible assumption
  | ((with_reducible refine' Eq.trans (upd_ne ?a) ?b); (case a => walk_at "ne"); (case b => walk_at "hp"))
  | exact Stay.keep (by with_reducible assumption) _ _ (by walk_at "hp") (by walk_at "nm"))
local macro_rules | `(tactic| walk_at "hpd") => `(tactic| ((refine' Eq.trans ?h ?e); (case h => walk_at "hp"); (case e => exact rfl)))
-- a new address
local macro_rules | `(tactic| walk_at "nw") => `(tactic| ((repeat first | (with_reducible refine' nw_upd ?_) | refine' nw_fr (by with_reducible assumption) ?_); intro p_; intros))
local macro_rules | `(tactic| walk_at "mem") => `(tactic| first | exact List.mem_cons_self | (refine' List.mem_cons_of_mem _ ?_; walk_at "mem"))
-- what stands stays
local macro_rules | `(tactic| walk_at "fr") => `(tactic| first
  | with_reducible assumption
  | exact Stay.refl _ _
  | ((with_reducible refine' Stay.upd ?a ?b); (case a => walk_at "fr"); (case b => walk_at "mem"))
  | ((with_reducible refine' Stay.new ?a ?b); (case b => with_reducible assumption); (case a => walk_at "fr"))
  | (refine' Stay.trans ?_ (by with_reducible assumption); walk_at "fr"))
local macro_rules | `(tactic| walk_at "sq") => `(tactic| first | with_reducible assumption | exact SqL.of (by walk_at "hp"))
local macro_rules | `(tactic| walk_at "sqt") => `(tactic| first | with_reducible assumption | exact SqT.of (by walk_at "hp"))
-- side goals
local macro_rules | `(tactic| walk_at "sd") => `(tactic| first
  | with_reducible assumption | with_reducible rfl | (show _ ≤ sizeLine; decide) | (refine Nat.le_trans (Nat.le_of_ble_eq_true (m := 1000) rfl) (by decide)) | decide | omega
  | exact IntMulOk.of_right (intBits_le_64 (by omega) (by omega)) | exact IntMulOk.of_left (intBits_le_64 (by omega) (by omega))
  | (refine' Or.inl ⟨?_, ?_⟩ <;> omega) | (refine' Or.inr ⟨?_, ?_⟩ <;> omega)
  | (refine' ⟨?_, ?_⟩ <;> walk_at "sd") | (refine' ⟨?_, ?_, ?_⟩ <;> walk_at "sd"))
local macro_rules | `(tactic| walk_at "set") => `(tactic| first | with_reducible exact set0 | with_reducible exact set1 | with_reducible exact set2 | with_reducible exact set3 | with_reducible exact set4 | with_reducible exact set5 | with_reducible exact set6 | with_reducible exact set7 | with_reducible exact set8 | with_reducible exact set9 | with_reducible exact set10 | with_reducible exact set11 | with_reducible exact set12 | with_reducible exact set13 | with_reducible exact set14 | with_reducible exact set15 | with_reducible exact set16 | with_reducible exact set17 | with_reducible exact set18 | with_reducible exact set19 | with_reducible exact set20)
-- one step
local macro_rules | `(tactic| walk_at "st0") => `(tactic| first
  | with_reducible refine' x_seq ?_
  | with_reducible refine' x_next ?_
  | with_reducible refine' x_ifS ?_
  | with_reducible refine' x_asg ?_
  | with_reducible refine' x_ret ?_
  | with_reducible refine' x_retN ?_
  | with_reducible refine' x_drop ?_
  | with_reducible refine' x_brk ?_
  | with_reducible refine' x_cont ?_
  | ((with_reducible refine' x_gName ?e ?_); (case e => walk_at "set"))
  | with_reducible refine' x_gSub ?_
  | with_reducible refine' x_gCons ?_
  | with_reducible refine' x_gNil ?_
  | with_reducible refine' x_c ?_
  | ((with_reducible refine' x_var ?e ?_); (case e => exact rfl))
  | with_reducible refine' x_op ?_
  | with_reducible refine' x_un ?_
  | with_reducible refine' x_if ?_
  | with_reducible refine' x_cb ?_
  | with_reducible refine' x_cons ?_
  | with_reducible refine' x_nil ?_
  | with_reducible refine' x_bm0 ?_
  | with_reducible refine' x_bm ?_
  | with_reducible refine' x_tup ?_
  | with_reducible refine' x_lst ?_
  | ((with_reducible refine' And.intro (a := _ ≤ sizeLine) ?e ?_); (case e => walk_at "sd"); walk_at "nw")
  | with_reducible refine' x_fld ?_
  | with_reducible refine' x_test ?_
  | with_reducible refine' x_tB ?_
  | with_reducible refine' x_and ?_
  | with_reducible refine' x_or ?_
  | with_reducible refine' x_not ?_
  | with_reducible refine' x_notV ?_
  | with_reducible refine' x_andV ?_
  | with_reducible refine' x_orV ?_
  | with_reducible refine' x_rI0 ?_
  | ((with_reducible refine' x_rI ?e ?_); (case e => walk_at "sd"))
  | with_reducible refine' x_rU ?_
  | ((with_reducible refine' x_rEq ?e ?_); (case e => exact rfl))
  | ((with_reducible refine' x_rNe ?e ?_); (case e => exact rfl))
  | ((with_reducible refine' x_ixL0 ?h ?_); (case h => walk_at "sq"))
  | ((with_reducible refine' x_ixL1 ?h ?_); (case h => walk_at "sq"))
  | ((with_reducible refine' x_ixL2 ?h ?_); (case h => walk_at "sq"))
  | ((with_reducible refine' x_ixL0I ?h ?_); (case h => walk_at "sq"))
  | ((with_reducible refine' x_ixL ?h ?e ?_); (case h => walk_at "sq"); (case e => exact rfl))
  | ((with_reducible refine' x_neNil ?h ?h2 ?_); (case h => walk_at "sq"); (case h2 => walk_at "sq"))
  | ((with_reducible refine' x_pop0I ?h ?_); (case h => walk_at "hp"))
  | ((with_reducible refine' x_pop0 ?h ?_); (case h => walk_at "hp"))
  | ((with_reducible refine' x_setL0 ?h ?_); (case h => walk_at "hp"))
  | ((with_reducible refine' x_setL1 ?h ?_); (case h => walk_at "hp"))
  | ((with_reducible refine' x_setL2 ?h ?_); (case h => walk_at "hp"))
  | ((with_reducible refine' x_setL ?h ?e ?_); (case h => walk_at "hp"); (case e => exact rfl))
  | with_reducible refine' .inl ⟨_, rfl, ?_⟩
  | ((with_reducible refine' x_tyL ?h ?_); (case h => walk_at "sq"))
  | with_reducible refine' ⟨_, rfl, ?_⟩)
-- a split
local macro_rules | `(tactic| walk_at "if") => `(tactic| (
  first
  | (with_reducible refine' x_dec (fun h_ => ?_) (fun h_ => ?_))
  | (with_reducible refine' x_decN (fun h_ => ?_) (fun h_ => ?_))
  | (with_reducible refine' x_boolN (fun h_ => ?_) (fun h_ => ?_))
  | (with_reducible refine' x_bool (fun h_ => ?_) (fun h_ => ?_))))
local macro_rules | `(tactic| walk_at "ifs") => `(tactic| (walk_at "if" <;> first
  | (exfalso; first | omega | contradiction)
  | (rename_i h_; (try simp only [BEq.rfl, List.length_map, List.length_cons, List.length_nil, Int.natCast_zero, Int.ofNat_zero, gt_iff_lt, Int.lt_irrefl, Bool.true_eq_false, Bool.false_eq_true, List.isEmpty_nil, List.isEmpty_cons, V.int.injEq, V.str.injEq, V.bl.injEq, reduceCtorEq, not_false_eq_true, not_true_eq_false] at h_); (try (exfalso; omega)))))
local macro_rules | `(tactic| walk_at "ite1") => `(tactic| first
  | with_reducible refine' x_T ?_
  | with_reducible refine' x_F ?_
  | with_reducible refine' x_nT ?_
  | with_reducible refine' x_nF ?_
  | ((with_reducible refine' x_bT ?e ?_); (case e => first | decide | decide +kernel))
  | ((with_reducible refine' x_bF ?e ?_); (case e => first | decide | decide +kernel)))
local macro_rules | `(tactic| walk_at "st") => `(tactic| ((fail_if_success (with_reducible (show (if _ then _ else _)))); walk_at "st0"))
local macro_rules | `(tactic| walk_at "go") => `(tactic| repeat first | walk_at "ite1" | walk_at "st")
local macro_rules | `(tactic| walk_at "gs") => `(tactic| repeat' first | walk_at "ite1" | walk_at "st" | walk_at "ifs")
local macro_rules | `(tactic| walk_at "sz") => `(tactic| first | with_reducible assumption | (refine Nat.le_trans (by assumption) (by decide : 100000 ≤ sizeLine)) | (refine Nat.le_trans (m := 100000) ?_ (by decide); (try simp only [len_add, rep_len]); (try rw [show (Str.ofString "z").length = 1 from rfl]); omega))
local macro_rules | `(tactic| walk_at "hn") => `(tactic| first | with_reducible assumption)
local macro_rules | `(tactic| walk_at "sqo") => `(tactic| first | exact Or.inl (by walk_at "sq") | exact Or.inr (by walk_at "sqt"))
local macro_rules | `(tactic| walk_at "ty1") => `(tactic| first | with_reducible assumption | exact Ty1.int _ | exact Ty1.str _ | exact Ty1.bl _ | exact Ty1.non | exact Ty1.tup (by walk_at "hp") | exact Ty1.lst (by walk_at "hp"))
local macro_rules | `(tactic| walk_at "st2") => `(tactic| first
  | with_reducible refine' And.intro (a := V.non = V.non) rfl ?_
  | with_reducible refine' x_call0 ?_
  | with_reducible refine' x_callS ?_
  | with_reducible refine' x_meth0 ?_
  | with_reducible refine' x_methW0 ?_
  | with_reducible refine' x_make0 ?_
  | with_reducible refine' x_makeW0 ?_
  | with_reducible refine' x_sFld ?_
  | with_reducible refine' x_mkO ?_
  | with_reducible refine' x_chain ?_
  | with_reducible refine' x_dget ?_
  | with_reducible refine' x_dget1 ?_
  | with_reducible refine' x_dget2 ?_
  | with_reducible refine' x_sDPut ?_
  | with_reducible refine' x_pairs ?_
  | with_reducible refine' x_pairs0 ?_
  | with_reducible refine' x_sl ?_
  | with_reducible refine' x_noPart ?_
  | with_reducible refine' x_part ?_
  | ((with_reducible refine' x_disp ?_); walk_at "nw")
  | ((with_reducible refine' x_dnew ?_); walk_at "nw")
  | ((with_reducible refine' x_rz ?h ?_); (case h => walk_at "cf"); walk_at "nw")
  | ((with_reducible refine' x_isi ?h ?e ?_); (case h => walk_at "ty1"); (case e => decide))
  | ((with_reducible refine' x_fldR ?h ?c ?n ?e ?_); (case h => walk_at "hp"); (case c => walk_at "cf"); (case n => walk_at "cf"); (case e => walk_at "fl"))
  | ((with_reducible refine' x_onIns ?h ?n ?_); (case h => walk_at "hp"); (case n => walk_at "fl"))
  | ((with_reducible refine' x_addS ?l ?_); (case l => walk_at "sz"))
  | ((with_reducible refine' x_lenS ?l ?_); (case l => walk_at "sz"))
  | ((with_reducible refine' x_lenL ?h ?_); (case h => walk_at "sqo"))
  | ((with_reducible refine' x_slL ?h rfl ?_); (case h => walk_at "sq"); walk_at "nw")
  | ((with_reducible refine' x_listOf ?h ?_); (case h => walk_at "sqo"); walk_at "nw")
  | ((with_reducible refine' x_strmul ?c ?_); (case c => (refine' ⟨?_, ?_, ?_⟩ <;> first | omega | decide +kernel)))
  | ((with_reducible refine' x_isD2 ?h ?_); (case h => walk_at "hp"))
  | ((with_reducible refine' x_getI ?h ?_); (case h => walk_at "hp"))
  | ((with_reducible refine' x_getS ?h ?_); (case h => walk_at "hp"))
  | ((with_reducible refine' x_dgetS ?h ?e ?_); (case h => walk_at "hp"); (case e => walk_at "fl"))
  | ((with_reducible refine' x_ixT ?h ?e ?_); (case h => walk_at "sqt"); (case e => exact rfl))
  | ((with_reducible refine' x_gTup ?h ?e ?_); (case h => walk_at "sqt"); (case e => exact rfl)))
local macro_rules | `(tactic| walk_at "st0") => `(tactic| walk_at "st2")
local macro_rules | `(tactic| walk_at "fl") => `(tactic| first
  | with_reducible exact lk_hd
  | ((with_reducible refine' lk_tl ?n ?h); (case n => walk_at "nq"); (case h => walk_at "fl"))
  | with_reducible exact lk_nil
  | with_reducible exact pf_hd
  | ((with_reducible refine' pf_tl ?n ?h); (case n => walk_at "nq"); (case h => walk_at "fl"))
  | with_reducible exact pf_nil
  | with_reducible exact vl_hd
  | ((with_reducible refine' vl_tl ?n ?h); (case n => walk_at "nr"); (case h => walk_at "fl"))
  | with_reducible exact vl_nil
  | ((with_reducible refine' pk_hd ?n); (case n => rfl))
  | ((with_reducible refine' pk_tl ?n ?t ?h); (case n => walk_at "nr"); (case t => rfl); (case h => walk_at "fl")))
local macro_rules | `(tactic| walk_at "cf") => `(tactic| with_reducible assumption)
local macro_rules | `(tactic| walk_at "st0") => `(tactic| first
  | ((with_reducible refine' x_sFldR ?h ?c ?n ?l ?e ?_); (case h => walk_at "hp"); (case c => walk_at "cf"); (case n => walk_at "cf"); (case l => exact Nat.le_of_ble_eq_true rfl); (case e => walk_at "fl")))
local macro_rules | `(tactic| walk_at "pool") => `(tactic| first
  | with_reducible assumption
  | exact Pool.ne (by walk_at "pool") (by walk_at "ne") (by walk_at "ne")
  | exact Pool.stay (by walk_at "pool") (by with_reducible assumption) (by walk_at "nm") (by walk_at "nm"))
local macro_rules | `(tactic| walk_at "szl") => `(tactic| first | exact Nat.lt_of_le_of_lt (Nat.le_of_ble_eq_true (m := 1000) rfl) (by decide) | exact Nat.lt_of_le_of_lt (by with_reducible assumption) (by decide : 1000 < sizeLine))
local macro_rules | `(tactic| walk_at "st0") => `(tactic| first
  | ((with_reducible refine' x_putS ?h ?l ?e ?_); (case h => walk_at "hp"); (case l => walk_at "szl"); (case e => walk_at "fl"))
  | ((with_reducible refine' x_setD ?h ?l ?e ?_); (case h => walk_at "hp"); (case l => walk_at "szl"); (case e => walk_at "fl"))
  | ((with_reducible refine' x_putI ?h ?l ?_); (case h => walk_at "hp"); (case l => walk_at "szl")))
local macro_rules | `(tactic| walk_at "st0") => `(tactic| first
  | ((with_reducible refine' x_rowN ?e ?_); (case e => walk_at "cf"); walk_at "nw"; (try dsimp only [List.set]))
  | ((with_reducible refine' x_rowF ?e ?_); (case e => walk_at "cf"))
  | with_reducible refine' x_xw ?_
  | ((with_reducible refine' x_xwR ?t ?h ?_); (case t => walk_at "cf"); (case h => walk_at "hp")))
local macro_rules | `(tactic| walk_at "st0") => `(tactic| first
  | ((with_reducible refine' x_isXR ?k ?x ?h ?e ?_); (case k => exact ClsV.own _); (case x => exact ExT.xc (by with_reducible assumption)); (case h => walk_at "hp"); (case e => walk_at "cf")))
def top (i : Nat) : Stmt := PySem.Challenge.pw_wendleaf_k30_knots.main.body.getD i (.Pass ⟨0, 0, 0, 0⟩)
abbrev s_Refused___init__ : Stmt := inClass (top 1) 0
abbrev s__law_pool : Stmt := top 20
abbrev s__law_draw : Stmt := top 21
abbrev s_is_number : Stmt := top 6
abbrev s_is_within : Stmt := top 7
abbrev s__is_bare_deed : Stmt := top 11
abbrev s_made_log : Stmt := top 10
abbrev s_needs_of : Stmt := top 13
abbrev s_has_page : Stmt := top 14
abbrev s__reached : Stmt := top 17
abbrev s__knot_of : Stmt := top 18
abbrev s_knots : Stmt := top 16
abbrev s__law_turned : Stmt := top 22
abbrev s__law_log : Stmt := top 23
abbrev s__law_is_row : Stmt := top 24
abbrev s__law_reach : Stmt := top 25
abbrev s_law : Stmt := top 26
structure G (K : PySem.W.Frag) (mg : Str → Option Value) where
  n_bool : mg "bool" = none
  n_enumerate : mg "enumerate" = none
  n_int : mg "int" = none
  n_isinstance : mg "isinstance" = none
  n_len : mg "len" = none
  n_list : mg "list" = none
  n_range : mg "range" = none
  n_sum : mg "sum" = none
  n_tuple : mg "tuple" = none
  v_MOST_DEEDS : Value
  g_MOST_DEEDS : RelV (.int 400) v_MOST_DEEDS ∧ mg "MOST_DEEDS" = some v_MOST_DEEDS
  v_PAGES : Value
  g_PAGES : RelV (.int 32) v_PAGES ∧ mg "PAGES" = some v_PAGES
  f_Refused___init__ : Addr
  d_Refused___init__ : FuncData
  F_Refused___init__ : Fun K "__init__" "Refused.__init__" s_Refused___init__ f_Refused___init__ d_Refused___init__
  b_Refused___init__ : Binds K d_Refused___init__ ["self", "what"] []
  f__law_pool : Addr
  d__law_pool : FuncData
  F__law_pool : Fun K "_law_pool" "_law_pool" s__law_pool f__law_pool d__law_pool
  g__law_pool : mg "_law_pool" = some (.ref f__law_pool)
  b__law_pool : Binds K d__law_pool ["script"] []
  f__law_draw : Addr
  d__law_draw : FuncData
  F__law_draw : Fun K "_law_draw" "_law_draw" s__law_draw f__law_draw d__law_draw
  g__law_draw : mg "_law_draw" = some (.ref f__law_draw)
  b__law_draw : Binds K d__law_draw ["pool", "many"] []
  f_is_number : Addr
  d_is_number : FuncData
  F_is_number : Fun K "is_number" "is_number" s_is_number f_is_number d_is_number
  g_is_number : mg "is_number" = some (.ref f_is_number)
  b_is_number : Binds K d_is_number ["thing"] []
  f_is_within : Addr
  d_is_within : FuncData
  F_is_within : Fun K "is_within" "is_within" s_is_within f_is_within d_is_within
  g_is_within : mg "is_within" = some (.ref f_is_within)
  b_is_within : Binds K d_is_within ["thing", "low", "high"] []
  f__is_bare_deed : Addr
  d__is_bare_deed : FuncData
  F__is_bare_deed : Fun K "_is_bare_deed" "_is_bare_deed" s__is_bare_deed f__is_bare_deed d__is_bare_deed
  g__is_bare_deed : mg "_is_bare_deed" = some (.ref f__is_bare_deed)
  b__is_bare_deed : Binds K d__is_bare_deed ["thing", "many"] []
  f_made_log : Addr
  d_made_log : FuncData
  F_made_log : Fun K "made_log" "made_log" s_made_log f_made_log d_made_log
  g_made_log : mg "made_log" = some (.ref f_made_log)
  b_made_log : Binds K d_made_log ["thing"] []
  f_needs_of : Addr
  d_needs_of : FuncData
  F_needs_of : Fun K "needs_of" "needs_of" s_needs_of f_needs_of d_needs_of
  g_needs_of : mg "needs_of" = some (.ref f_needs_of)
  b_needs_of : Binds K d_needs_of ["log"] []
  f_has_page : Addr
  d_has_page : FuncData
  F_has_page : Fun K "has_page" "has_page" s_has_page f_has_page d_has_page
  g_has_page : mg "has_page" = some (.ref f_has_page)
  b_has_page : Binds K d_has_page ["pages", "page"] []
  f__reached : Addr
  d__reached : FuncData
  F__reached : Fun K "_reached" "_reached" s__reached f__reached d__reached
  g__reached : mg "_reached" = some (.ref f__reached)
  b__reached : Binds K d__reached ["needs"] []
  f__knot_of : Addr
  d__knot_of : FuncData
  F__knot_of : Fun K "_knot_of" "_knot_of" s__knot_of f__knot_of d__knot_of
  g__knot_of : mg "_knot_of" = some (.ref f__knot_of)
  b__knot_of : Binds K d__knot_of ["reached", "page"] []
  f_knots : Addr
  d_knots : FuncData
  F_knots : Fun K "knots" "knots" s_knots f_knots d_knots
  g_knots : mg "knots" = some (.ref f_knots)
  b_knots : Binds K d_knots ["log"] []
  f__law_turned : Addr
  d__law_turned : FuncData
  F__law_turned : Fun K "_law_turned" "_law_turned" s__law_turned f__law_turned d__law_turned
  g__law_turned : mg "_law_turned" = some (.ref f__law_turned)
  b__law_turned : Binds K d__law_turned ["pool", "many"] []
  f__law_log : Addr
  d__law_log : FuncData
  F__law_log : Fun K "_law_log" "_law_log" s__law_log f__law_log d__law_log
  g__law_log : mg "_law_log" = some (.ref f__law_log)
  b__law_log : Binds K d__law_log ["pool", "pages", "deeds", "is_ringless"] []
  f__law_is_row : Addr
  d__law_is_row : FuncData
  F__law_is_row : Fun K "_law_is_row" "_law_is_row" s__law_is_row f__law_is_row d__law_is_row
  g__law_is_row : mg "_law_is_row" = some (.ref f__law_is_row)
  b__law_is_row : Binds K d__law_is_row ["thing", "many"] []
  f__law_reach : Addr
  d__law_reach : FuncData
  F__law_reach : Fun K "_law_reach" "_law_reach" s__law_reach f__law_reach d__law_reach
  g__law_reach : mg "_law_reach" = some (.ref f__law_reach)
  b__law_reach : Binds K d__law_reach ["log"] []
  f_law : Addr
  d_law : FuncData
  F_law : Fun K "law" "law" s_law f_law d_law
  g_law : mg "law" = some (.ref f_law)
  b_law : Binds K d_law ["script"] []
  C_Refused : Addr
  x_Refused : ExT K mg "Refused" C_Refused f_Refused___init__
  C_TooMany : Addr
  x_TooMany : ExT K mg "TooMany" C_TooMany f_Refused___init__
  C_BadLog : Addr
  x_BadLog : ExT K mg "BadLog" C_BadLog f_Refused___init__
  t_init : PySem.W.typeIn K (.ref f_Refused___init__) = some (.type "function")
local macro_rules | `(tactic| walk_at "nq") => `(tactic| decide +kernel)
local macro_rules | `(tactic| walk_at "nr") => `(tactic| decide +kernel)

section
variable {P : Program} {w : World} {K : PySem.W.Frag} {mg : Str → Option Value} {base : Heap}

theorem sc_Refused___init__ : FnScope ["self", "what"] ["self", "what"] (defScope s_Refused___init__) := ⟨rfl, rfl, rfl, by decide +kernel, rfl, by decide +kernel, by decide +kernel⟩
theorem ok_Refused___init__ (T : G K mg) : FnOk P w K mg base CX0 1 T.f_Refused___init__ T.d_Refused___init__ ["self", "what"] (sp_Refused___init__ K) := by
  refine T.F_Refused___init__.ok sc_Refused___init__ (fun vs H Q E h => ?_) (fun cdv A outer s H vs Q E hr h => ?_)
  · obtain ⟨a, C, v, rfl, h1, hC, hw, k⟩ := h
    rfl
  · obtain ⟨a, C, v, rfl, h1, hC, hw, k⟩ := h
    have hu := hu_of hr
    have nd := sc_Refused___init__.nd
    refine ⟨_, (pss_one (ps_ost (pv 0) (pv 1))), ?_⟩
    try dsimp only [L2.cxOf, L2.Cx.nox, L2.Cx.wish]
    rw [show L2.start ["self", "what"] [V.ref a, v] = [some (V.ref a), some (v)] from rfl]
    refine ⟨v, rfl, _, rfl, a, C, rfl, hC, hw, .inl ⟨h1, fun dx hx ne => ?_⟩⟩
    exact k dx hx ne
def Pool (H : Hp) (a l : Addr) : Prop := ∃ (p0 p1 : Int) (ns : List Int), H a = some (.lst [.int p0, .int p1, .ref l]) ∧ H l = some (.lst (ns.map V.int)) ∧ a ≠ l ∧ 0 ≤ p0 ∧ 0 ≤ p1 ∧ p1 < 4294967296
theorem Pool.ex {H : Hp} {a l : Addr} (h : Pool H a l) : ∃ o u, H a = some o ∧ H l = some u ∧ a ≠ l := by
  obtain ⟨_, _, _, h1, h2, h3, _⟩ := h
  exact ⟨_, _, h1, h2, h3⟩
theorem Pool.ne {H : Hp} {a l p : Addr} {o : HO} (h : Pool H a l) (h1 : a ≠ p) (h2 : l ≠ p) : Pool (upd H p o) a l := by
  obtain ⟨p0, p1, ns, e1, e2, r⟩ := h
  exact ⟨p0, p1, ns, by rw [upd_ne h1]; exact e1, by rw [upd_ne h2]; exact e2, r⟩
theorem Pool.stay {S : List Addr} {H H' : Hp} {a l : Addr} (h : Pool H a l) (s : Stay S H H') (h1 : a ∉ S) (h2 : l ∉ S) : Pool H' a l := by
  obtain ⟨p0, p1, ns, e1, e2, r⟩ := h
  exact ⟨p0, p1, ns, s.keep _ _ e1 h1, s.keep _ _ e2 h2, r⟩
theorem mk_pool {H : Hp} {q l : Addr} {p0 p1 : Int} {xs : List V} (c : H q = some (.lst [.int p0, .int p1, .ref l])) (d : H l = some (.lst xs)) (e : ∃ ns : List Int, xs = ns.map V.int) (f : q ≠ l) (h0 : 0 ≤ p0) (h1 : 0 ≤ p1) (h2 : p1 < 4294967296) : Pool H q l := by
  obtain ⟨ns, rfl⟩ := e
  exact ⟨p0, p1, ns, c, d, f, h0, h1, h2⟩
def sp_pool (K : PySem.W.Frag) : Sp := fun vs H Q _ => ∃ (a : Addr) (ns : List Int), vs = [.ref a] ∧ SqL K H a (ns.map V.int) ∧ ∀ q l H', H q = none → H l = none → Pool H' q l → Stay [] H H' → Q (.ref q) H'
theorem c_pool {K : PySem.W.Frag} {a : Addr} {ns : List Int} {H : Hp} {Q : VK} {E : XK} (h : SqL K H a (ns.map V.int)) (q : ∀ q l H', H q = none → H l = none → Pool H' q l → Stay [] H H' → Q (.ref q) H') : sp_pool K [.ref a] H Q E := ⟨a, ns, rfl, h, q⟩
theorem sc__law_pool : FnScope ["script", "first", "size"] ["script"] (defScope s__law_pool) := ⟨rfl, rfl, rfl, by decide +kernel, rfl, by decide +kernel, by decide +kernel⟩
theorem ok__law_pool (T : G K mg) : FnOk P w K mg base CX0 1 T.f__law_pool T.d__law_pool ["script"] (sp_pool K) := by
  refine T.F__law_pool.ok sc__law_pool (fun vs H Q E h => ?_) (fun cdv A outer s H vs Q E hr h => ?_)
  · obtain ⟨a, ns, rfl, hS, k⟩ := h
    rfl
  · obtain ⟨a, ns, rfl, hS, k⟩ := h
    have hu := hu_of hr
    have nd := sc__law_pool.nd
    refine ⟨_, (pss_cons (ps_set (i := 1) nd rfl (Or.inl rfl) (pe_ifExp (pt_cmpR op_gt (pe_callB call_len_seq (by rfl) T.n_len PySem.boot_len (pa_cons (pv 0) pa_nil)) pe_int (nomark _)) (pe_callTy call_int1 (by rfl) T.n_int (by decide +kernel) (pa_cons (pe_ix ix_list (pv 0) pe_int (fun _ _ => rfl)) pa_nil)) pe_int))
        (pss_cons (ps_set (i := 2) nd rfl (Or.inl rfl) (pe_ifExp (pt_cmpR op_ge (pv 1) pe_int (nomark _)) (pe_op op_mulX pe_int (pv 1)) (pe_op op_sub (pe_un un_neg pe_int) (pe_op op_mulX pe_int (pv 1)))))
        (pss_one (ps_ret (pe_lst (pa_cons (pe_ifExp (pt_cmpR op_ge (pv 2) (pe_op op_pow pe_int pe_int) (nomark _)) (pv 2) pe_int) (pa_cons (pe_op op_add (pe_op op_mod (pe_callTy call_int1 (by rfl) T.n_int (by decide +kernel) (pa_cons (pe_op op_add (pe_op op_mulX (pv 2) pe_int) pe_int) pa_nil)) pe_int) pe_int) (pa_cons (pe_callTy call_list_of (by rfl) T.n_list (by decide +kernel) (pa_cons (pe_slice sl_list (pv 0) (po_some pe_int) po_none) pa_nil)) pa_nil)))))))), ?_⟩
    try dsimp only [L2.cxOf, L2.Cx.nox, L2.Cx.wish]
    rw [show L2.start ["script", "first", "size"] [V.ref a] = [some (V.ref a), none, none] from rfl]
    rcases ns with _ | ⟨z, ns⟩
    all_goals walk_at "gs"
    all_goals try walk_at "nw"
    all_goals walk_at "gs"
    all_goals (refine k _ _ _ (by assumption) ?_ (mk_pool (by walk_at "hp") (by walk_at "hp") ?_ (by walk_at "ne") ?_ ?_ ?_) (by walk_at "fr"))
    all_goals first | assumption | omega | exact ⟨ns, by rw [List.map_cons, cut_tail]⟩ | exact ⟨[], rfl⟩
def sp_draw : Sp := fun vs H Q _ => ∃ (a l : Addr) (m : Int), vs = [.ref a, .int m] ∧ Pool H a l ∧ (0 < m ∧ m.natAbs.log2 < 9000) ∧ ∀ d H', 0 ≤ d → d < m → Pool H' a l → Stay [a, l] H H' → Q (.int d) H'
theorem c_draw {a l : Addr} {m : Int} {H : Hp} {Q : VK} {E : XK} (h : Pool H a l) (hm : 0 < m ∧ m.natAbs.log2 < 9000) (q : ∀ d H', 0 ≤ d → d < m → Pool H' a l → Stay [a, l] H H' → Q (.int d) H') : sp_draw [.ref a, .int m] H Q E := ⟨a, l, m, rfl, h, hm, q⟩
theorem sc__law_draw : FnScope ["pool", "many", "cell", "size", "found"] ["pool", "many"] (defScope s__law_draw) := ⟨rfl, rfl, rfl, by decide +kernel, rfl, by decide +kernel, by decide +kernel⟩
theorem ok__law_draw (T : G K mg) : FnOk P w K mg base CX0 1 T.f__law_draw T.d__law_draw ["pool", "many"] sp_draw := by
  refine T.F__law_draw.ok sc__law_draw (fun vs H Q E h => ?_) (fun cdv A outer s H vs Q E hr h => ?_)
  · obtain ⟨a, l, m, rfl, hp, ⟨hm, hm9⟩, k⟩ := h
    rfl
  · obtain ⟨a, l, m, rfl, hp, ⟨hm, hm9⟩, k⟩ := h
    have hu := hu_of hr
    have nd := sc__law_draw.nd
    refine ⟨_, (pss_cons (ps_if (PW.pt (pw_and (pt_cmpR op_eq (pe_ix ix_list (pv 0) pe_int (fun _ _ => rfl)) pe_int (nomark _)) (pw_and1 (pt_cmpR (op_neD hr.units) (pe_ix ix_list (pv 0) pe_int (fun _ _ => rfl)) (pe_lst pa_nil) (nomark _))))) (pss_cons (ps_set (i := 2) nd rfl (Or.inl rfl) (pe_callTy call_int1 (by rfl) T.n_int (by decide +kernel) (pa_cons (pe_bm PySem.F.plainAttrs_list PySem.F.slot_list_pop PySem.F.type_list_pop mt_popAt (pe_ix ix_list (pv 0) pe_int (fun _ _ => rfl)) (pa_cons pe_int pa_nil)) pa_nil)))
        (pss_cons (ps_set (i := 3) nd rfl (Or.inl rfl) (pe_ifExp (pt_cmpR op_ge (pv 2) pe_int (nomark _)) (pe_op op_mulX pe_int (pv 2)) (pe_op op_sub (pe_un un_neg pe_int) (pe_op op_mulX pe_int (pv 2)))))
        (pss_cons (ps_asg (pe_ifExp (pt_cmpR op_ge (pv 3) (pe_op op_pow pe_int pe_int) (nomark _)) (pv 3) pe_int) (pg_sub (pv 0) pe_int set_list))
        (pss_one (ps_asg (pe_op op_add (pe_op op_mod (pe_callTy call_int1 (by rfl) T.n_int (by decide +kernel) (pa_cons (pe_op op_add (pe_ix ix_list (pv 0) pe_int (fun _ _ => rfl)) (pe_op op_mulX (pv 3) pe_int)) pa_nil)) pe_int) pe_int) (pg_sub (pv 0) pe_int set_list)))))) pss_nil)
        (pss_cons (ps_if (pt_cmpR op_gt (pe_ix ix_list (pv 0) pe_int (fun _ _ => rfl)) pe_int (nomark _)) (pss_cons (ps_set (i := 4) nd rfl (Or.inl rfl) (pe_op op_modN (pe_callTy call_int1 (by rfl) T.n_int (by decide +kernel) (pa_cons (pe_ix ix_list (pv 0) pe_int (fun _ _ => rfl)) pa_nil)) (pv 1)))
        (pss_cons (ps_asg (pe_op op_fdivW (pe_ix ix_list (pv 0) pe_int (fun _ _ => rfl)) (pv 1)) (pg_sub (pv 0) pe_int set_list))
        (pss_one (ps_ret (pv 4))))) pss_nil)
        (pss_cons (ps_asg (pe_op op_mod (pe_callTy call_int1 (by rfl) T.n_int (by decide +kernel) (pa_cons (pe_op op_add (pe_op op_mulX (pe_ix ix_list (pv 0) pe_int (fun _ _ => rfl)) pe_int) pe_int) pa_nil)) pe_int) (pg_sub (pv 0) pe_int set_list))
        (pss_one (ps_ret (pe_op op_modN (pe_op op_fdiv (pe_op op_mod (pe_callTy call_int1 (by rfl) T.n_int (by decide +kernel) (pa_cons (pe_op op_mulX (pe_ix ix_list (pv 0) pe_int (fun _ _ => rfl)) (pe_ix ix_list (pv 0) pe_int (fun _ _ => rfl))) pa_nil)) pe_int) pe_int) (pv 1))))))), ?_⟩
    try dsimp only [L2.cxOf, L2.Cx.nox, L2.Cx.wish]
    rw [show L2.start ["pool", "many", "cell", "size", "found"] [V.ref a, V.int m] = [some (V.ref a), some (V.int m), none, none, none] from rfl]
    obtain ⟨p0, p1, ns, h1, h2, hal, h3, h4, h5⟩ := hp
    rcases ns with _ | ⟨z, ns⟩
    all_goals walk_at "gs"
    all_goals (refine k _ _ ?_ ?_ ⟨_, _, _, by walk_at "hp", by walk_at "hp", hal, ?_, ?_, ?_⟩ (by walk_at "fr"))
    all_goals first | omega | exact Int.fmod_nonneg_of_pos _ hm | exact Int.fmod_lt_of_pos _ hm | exact Int.ediv_nonneg (by omega) (by omega)
local macro_rules | `(tactic| walk_at "st0") => `(tactic| ((with_reducible refine' c_draw ?h ?m (fun d_ H_ lo_ hi_ pl_ st_ => ?_)); (case h => walk_at "pool"); (case m => first | with_reducible assumption | (refine' ⟨?_, ?_⟩ <;> first | decide | omega))))
end
end WD

namespace WD
open PySem PySem.Spec PyProof.Rows L2
-- p ≠ q of two addresses
local macro_rules | `(tactic| walk_at "ne") => `(tactic| first
  | with_reducible assumption
  | with_reducible exact Ne.symm (by assumption)
  | exact ne_some (by with_reducible assumption) (by with_reducible assumption)
  | exact Ne.symm (ne_some (by with_reducible assumption) (by with_reducible assumption)))
local macro_rules | `(tactic| walk_at "nm") => `(tactic| first | with_reducible assumption | with_reducible exact nm0 | ((with_reducible refine' nmS ?a ?b); (case a => walk_at "ne"); (case b => walk_at "nm")))
-- H p = some ?o
local macro_rules | `(tactic| walk_at "hp") => `(tactic| first
  | with_reducible exact upd_same
  | with_reducible assumption
  | ((with_reducible refine' Eq.trans (upd_ne ?a) ?b); (case a => walk_at "ne"); (case b => walk_at "hp"))
  | exact Stay.keep (by with_reducible assumption) _ _ (by walk_at "hp") (by walk_at "nm"))
local macro_rules | `(tactic| walk_at "hpd") => `(tactic| ((refine' Eq.trans ?h ?e); (case h => walk_at "hp"); (case e => exact rfl)))
-- a new address
local macro_rules | `(tactic| walk_at "nw") => `(tactic| ((repeat first | (with_reducible refine' nw_upd ?_) | refine' nw_fr (by with_reducible assumption) ?_); intro p_; intros))
local macro_rules | `(tactic| walk_at "mem") => `(tactic| first | exact List.mem_cons_self | (refine' List.mem_cons_of_mem _ ?_; walk_at "mem"))
-- what stands stays
local macro_rules | `(tactic| walk_at "fr") => `(tactic| first
  | with_reducible assumption
  | exact Stay.refl _ _
  | ((with_reducible refine' Stay.upd ?a ?b); (case a => walk_at "fr"); (case b => walk_at "mem"))
  | ((with_reducible refine' Stay.new ?a ?b); (case b => with_reducible assumption); (case a => walk_at "fr"))
  | (refine' Stay.trans ?_ (by with_reducible assumption); walk_at "fr"))
local macro_rules | `(tactic| walk_at "sq") => `(tactic| first | with_reducible assumption | exact SqL.of (by walk_at "hp"))
local macro_rules | `(tactic| walk_at "sqt") => `(tactic| first | with_reducible assumption | exact SqT.of (by walk_at "hp"))
-- side goals
local macro_rules | `(tactic| walk_at "sd") => `(tactic| first
  | with_reducible assumption | with_reducible rfl | (show _ ≤ sizeLine; decide) | (refine Nat.le_trans (Nat.le_of_ble_eq_true (m := 1000) rfl) (by decide)) | decide | omega
  | exact IntMulOk.of_right (intBits_le_64 (by omega) (by omega)) | exact IntMulOk.of_left (intBits_le_64 (by omega) (by omega))
  | (refine' Or.inl ⟨?_, ?_⟩ <;> omega) | (refine' Or.inr ⟨?_, ?_⟩ <;> omega)
  | (refine' ⟨?_, ?_⟩ <;> walk_at "sd") | (refine' ⟨?_, ?_, ?_⟩ <;> walk_at "sd"))
local macro_rules | `(tactic| walk_at "set") => `(tactic| first | with_reducible exact set0 | with_reducible exact set1 | with_reducible exact set2 | with_reducible exact set3 | with_reducible exact set4 | with_reducible exact set5 | with_reducible exact set6 | with_reducible exact set7 | with_reducible exact set8 | with_reducible exact set9 | with_reducible exact set10 | with_reducible exact set11 | with_reducible exact set12 | with_reducible exact set13 | with_reducible exact set14 | with_reducible exact set15 | with_reducible exact set16 | with_reducible exact set17 | with_reducible exact set18 | with_reducible exact set19 | with_reducible exact set20)
-- one step
local macro_rules | `(tactic| walk_at "st0") => `(tactic| first
  | with_reducible refine' x_seq ?_
  | with_reducible refine' x_next ?_
  | with_reducible refine' x_ifS ?_
  | with_reducible refine' x_asg ?_
  | with_reducible refine' x_ret ?_
  | with_reducible refine' x_retN ?_
  | with_reducible refine' x_drop ?_
  | with_reducible refine' x_brk ?_
  | with_reducible refine' x_cont ?_
  | ((with_reducible refine' x_gName ?e ?_); (case e => walk_at "set"))
  | with_reducible refine' x_gSub ?_
  | with_reducible refine' x_gCons ?_
  | with_reducible refine' x_gNil ?_
  | with_reducible refine' x_c ?_
  | ((with_reducible refine' x_var ?e ?_); (case e => exact rfl))
  | with_reducible refine' x_op ?_
  | with_reducible refine' x_un ?_
  | with_reducible refine' x_if ?_
  | with_reducible refine' x_cb ?_
  | with_reducible refine' x_cons ?_
  | with_reducible refine' x_nil ?_
  | with_reducible refine' x_bm0 ?_
  | with_reducible refine' x_bm ?_
  | with_reducible refine' x_tup ?_
  | with_reducible refine' x_lst ?_
  | ((with_reducible refine' And.intro (a := _ ≤ sizeLine) ?e ?_); (case e => walk_at "sd"); walk_at "nw")
  | with_reducible refine' x_fld ?_
  | with_reducible refine' x_test ?_
  | with_reducible refine' x_tB ?_
  | with_reducible refine' x_and ?_
  | with_reducible refine' x_or ?_
  | with_reducible refine' x_not ?_
  | with_reducible refine' x_notV ?_
  | with_reducible refine' x_andV ?_
  | with_reducible refine' x_orV ?_
  | with_reducible refine' x_rI0 ?_
  | ((with_reducible refine' x_rI ?e ?_); (case e => walk_at "sd"))
  | with_reducible refine' x_rU ?_
  | ((with_reducible refine' x_rEq ?e ?_); (case e => exact rfl))
  | ((with_reducible refine' x_rNe ?e ?_); (case e => exact rfl))
  | ((with_reducible refine' x_ixL0 ?h ?_); (case h => walk_at "sq"))
  | ((with_reducible refine' x_ixL1 ?h ?_); (case h => walk_at "sq"))
  | ((with_reducible refine' x_ixL2 ?h ?_); (case h => walk_at "sq"))
  | ((with_reducible refine' x_ixL0I ?h ?_); (case h => walk_at "sq"))
  | ((with_reducible refine' x_ixL ?h ?e ?_); (case h => walk_at "sq"); (case e => exact rfl))
  | ((with_reducible refine' x_neNil ?h ?h2 ?_); (case h => walk_at "sq"); (case h2 => walk_at "sq"))
  | ((with_reducible refine' x_pop0I ?h ?_); (case h => walk_at "hp"))
  | ((with_reducible refine' x_pop0 ?h ?_); (case h => walk_at "hp"))
  | ((with_reducible refine' x_setL0 ?h ?_); (case h => walk_at "hp"))
  | ((with_reducible refine' x_setL1 ?h ?_); (case h => walk_at "hp"))
  | ((with_reducible refine' x_setL2 ?h ?_); (case h => walk_at "hp"))
  | ((with_reducible refine' x_setL ?h ?e ?_); (case h => walk_at "hp"); (case e => exact rfl))
  | with_reducible refine' .inl ⟨_, rfl, ?_⟩
  | ((with_reducible refine' x_tyL ?h ?_); (case h => walk_at "sq"))
  | with_reducible refine' ⟨_, rfl, ?_⟩)
-- a split
local macro_rules | `(tactic| walk_at "if") => `(tactic| (
  first
  | (with_reducible refine' x_dec (fun h_ => ?_) (fun h_ => ?_))
  | (with_reducible refine' x_decN (fun h_ => ?_) (fun h_ => ?_))
  | (with_reducible refine' x_boolN (fun h_ => ?_) (fun h_ => ?_))
  | (with_reducible refine' x_bool (fun h_ => ?_) (fun h_ => ?_))))
local macro_rules | `(tactic| walk_at "ifs") => `(tactic| (walk_at "if" <;> first
  | (exfalso; first | omega | contradiction)
  | (rename_i h_; (try simp only [BEq.rfl, List.length_map, List.length_cons, List.length_nil, Int.natCast_zero, Int.ofNat_zero, gt_iff_lt, Int.lt_irrefl, Bool.true_eq_false, Bool.false_eq_true, List.isEmpty_nil, List.isEmpty_cons, V.int.injEq, V.str.injEq, V.bl.injEq, reduceCtorEq, not_false_eq_true, not_true_eq_false] at h_); (try (exfalso; omega)))))
local macro_rules | `(tactic| walk_at "ite1") => `(tactic| first
  | with_reducible refine' x_T ?_
  | with_reducible refine' x_F ?_
  | with_reducible refine' x_nT ?_
  | with_reducible refine' x_nF ?_
  | ((with_reducible refine' x_bT ?e ?_); (case e => first | decide | decide +kernel))
  | ((with_reducible refine' x_bF ?e ?_); (case e => first | decide | decide +kernel)))
local macro_rules | `(tactic| walk_at "st") => `(tactic| ((fail_if_success (with_reducible (show (if _ then _ else _)))); walk_at "st0"))
local macro_rules | `(tactic| walk_at "go") => `(tactic| repeat first | walk_at "ite1" | walk_at "st")
local macro_rules | `(tactic| walk_at "gs") => `(tactic| repeat' first | walk_at "ite1" | walk_at "st" | walk_at "ifs")
local macro_rules | `(tactic| walk_at "sz") => `(tactic| first | with_reducible assumption | (refine Nat.le_trans (by assumption) (by decide : 100000 ≤ sizeLine)) | (refine Nat.le_trans (m := 100000) ?_ (by decide); (try simp only [len_add, rep_len]); (try rw [show (Str.ofString "z").length = 1 from rfl]); omega))
local macro_rules | `(tactic| walk_at "hn") => `(tactic| first | with_reducible assumption)
local macro_rules | `(tactic| walk_at "sqo") => `(tactic| first | exact Or.inl (by walk_at "sq") | exact Or.inr (by walk_at "sqt"))
local macro_rules | `(tactic| walk_at "ty1") => `(tactic| first | with_reducible assumption | exact Ty1.int _ | exact Ty1.str _ | exact Ty1.bl _ | exact Ty1.non | exact Ty1.tup (by walk_at "hp") | exact Ty1.lst (by walk_at "hp"))
local macro_rules | `(tactic| walk_at "st2") => `(tactic| first
  | with_reducible refine' And.intro (a := V.non = V.non) rfl ?_
  | with_reducible refine' x_call0 ?_
  | with_reducible refine' x_callS ?_
  | with_reducible refine' x_meth0 ?_
  | with_reducible refine' x_methW0 ?_
  | with_reducible refine' x_make0 ?_
  | with_reducible refine' x_makeW0 ?_
  | with_reducible refine' x_sFld ?_
  | with_reducible refine' x_mkO ?_
  | with_reducible refine' x_chain ?_
  | with_reducible refine' x_dget ?_
  | with_reducible refine' x_dget1 ?_
  | with_reducible refine' x_dget2 ?_
  | with_reducible refine' x_sDPut ?_
  | with_reducible refine' x_pairs ?_
  | with_reducible refine' x_pairs0 ?_
  | with_reducible refine' x_sl ?_
  | with_reducible refine' x_noPart ?_
  | with_reducible refine' x_part ?_
  | ((with_reducible refine' x_disp ?_); walk_at "nw")
  | ((with_reducible refine' x_dnew ?_); walk_at "nw")
  | ((with_reducible refine' x_rz ?h ?_); (case h => walk_at "cf"); walk_at "nw")
  | ((with_reducible refine' x_isi ?h ?e ?_); (case h => walk_at "ty1"); (case e => decide))
  | ((with_reducible refine' x_fldR ?h ?c ?n ?e ?_); (case h => walk_at "hp"); (case c => walk_at "cf"); (case n => walk_at "cf"); (case e => walk_at "fl"))
  | ((with_reducible refine' x_onIns ?h ?n ?_); (case h => walk_at "hp"); (case n => walk_at "fl"))
  | ((with_reducible refine' x_addS ?l ?_); (case l => walk_at "sz"))
  | ((with_reducible refine' x_lenS ?l ?_); (case l => walk_at "sz"))
  | ((with_reducible refine' x_lenL ?h ?_); (case h => walk_at "sqo"))
  | ((with_reducible refine' x_slL ?h rfl ?_); (case h => walk_at "sq"); walk_at "nw")
  | ((with_reducible refine' x_listOf ?h ?_); (case h => walk_at "sqo"); walk_at "nw")
  | ((with_reducible refine' x_strmul ?c ?_); (case c => (refine' ⟨?_, ?_, ?_⟩ <;> first | omega | decide +kernel)))
  | ((with_reducible refine' x_isD2 ?h ?_); (case h => walk_at "hp"))
  | ((with_reducible refine' x_getI ?h ?_); (case h => walk_at "hp"))
  | ((with_reducible refine' x_getS ?h ?_); (case h => walk_at "hp"))
  | ((with_reducible refine' x_dgetS ?h ?e ?_); (case h => walk_at "hp"); (case e => walk_at "fl"))
  | ((with_reducible refine' x_ixT ?h ?e ?_); (case h => walk_at "sqt"); (case e => exact rfl))
  | ((with_reducible refine' x_gTup ?h ?e ?_); (case h => walk_at "sqt"); (case e => exact rfl)))
local macro_rules | `(tactic| walk_at "st0") => `(tactic| walk_at "st2")
local macro_rules | `(tactic| walk_at "fl") => `(tactic| first
  | with_reducible exact lk_hd
  | ((with_reducible refine' lk_tl ?n ?h); (case n => walk_at "nq"); (case h => walk_at "fl"))
  | with_reducible exact lk_nil
  | with_reducible exact pf_hd
  | ((with_reducible refine' pf_tl ?n ?h); (case n => walk_at "nq"); (case h => walk_at "fl"))
  | with_reducible exact pf_nil
  | with_reducible exact vl_hd
  | ((with_reducible refine' vl_tl ?n ?h); (case n => walk_at "nr"); (case h => walk_at "fl"))
  | with_reducible exact vl_nil
  | ((with_reducible refine' pk_hd ?n); (case n => rfl))
  | ((with_reducible refine' pk_tl ?n ?t ?h); (case n => walk_at "nr"); (case t => rfl); (case h => walk_at "fl")))
local macro_rules | `(tactic| walk_at "cf") => `(tactic| with_reducible assumption)
local macro_rules | `(tactic| walk_at "st0") => `(tactic| first
  | ((with_reducible refine' x_sFldR ?h ?c ?n ?l ?e ?_); (case h => walk_at "hp"); (case c => walk_at "cf"); (case n => walk_at "cf"); (case l => exact Nat.le_of_ble_eq_true rfl); (case e => walk_at "fl")))
local macro_rules | `(tactic| walk_at "pool") => `(tactic| first
  | with_reducible assumption
  | exact Pool.ne (by walk_at "pool") (by walk_at "ne") (by walk_at "ne")
  | exact Pool.stay (by walk_at "pool") (by with_reducible assumption) (by walk_at "nm") (by walk_at "nm"))
local macro_rules | `(tactic| walk_at "szl") => `(tactic| first | exact Nat.lt_of_le_of_lt (Nat.le_of_ble_eq_true (m := 1000) rfl) (by decide) | exact Nat.lt_of_le_of_lt (by with_reducible assumption) (by decide : 1000 < sizeLine))
local macro_rules | `(tactic| walk_at "st0") => `(tactic| first
  | ((with_reducible refine' x_putS ?h ?l ?e ?_); (case h => walk_at "hp"); (case l => walk_at "szl"); (case e => walk_at "fl"))
  | ((with_reducible refine' x_setD ?h ?l ?e ?_); (case h => walk_at "hp"); (case l => walk_at "szl"); (case e => walk_at "fl"))
  | ((with_reducible refine' x_putI ?h ?l ?_); (case h => walk_at "hp"); (case l => walk_at "szl")))
local macro_rules | `(tactic| walk_at "st0") => `(tactic| first
  | ((with_reducible refine' x_rowN ?e ?_); (case e => walk_at "cf"); walk_at "nw"; (try dsimp only [List.set]))
  | ((with_reducible refine' x_rowF ?e ?_); (case e => walk_at "cf"))
  | with_reducible refine' x_xw ?_
  | ((with_reducible refine' x_xwR ?t ?h ?_); (case t => walk_at "cf"); (case h => walk_at "hp")))
local macro_rules | `(tactic| walk_at "st0") => `(tactic| first
  | ((with_reducible refine' x_isXR ?k ?x ?h ?e ?_); (case k => exact ClsV.own _); (case x => exact ExT.xc (by with_reducible assumption)); (case h => walk_at "hp"); (case e => walk_at "cf")))
local macro_rules | `(tactic| walk_at "st0") => `(tactic| first
  | with_reducible refine' x_for ?_
  | with_reducible refine' x_rng1 ?_
  | with_reducible refine' x_rng2 ?_
  | with_reducible refine' x_iList ?_
  | with_reducible refine' x_iTup ?_
  | with_reducible refine' x_par ?_
  | with_reducible refine' x_yes ?_
  | with_reducible refine' x_lc ?_
  | ((with_reducible refine' x_itL ?h ?_); (case h => walk_at "sq"))
  | ((with_reducible refine' x_itT ?h ?_); (case h => walk_at "sqt"))
  | ((with_reducible refine' x_catL ?h ?h2 ?l ?_); (case h => walk_at "hp"); (case h2 => walk_at "hp"); (case l => walk_at "sd"); walk_at "nw")
  | ((with_reducible refine' And.intro (a := List.set _ _ none = _) ?e ?_); (case e => exact rfl))
  | ((with_reducible refine' x_gNameS ?e1 ?e ?_); (case e1 => walk_at "set"); (case e => walk_at "set")))
local macro_rules | `(tactic| walk_at "st0") => `(tactic| first
  | ((with_reducible refine' x_lenQL ?h ?_); (case h => walk_at "sq"))
  | ((with_reducible refine' x_lenQT ?h ?_); (case h => walk_at "sqt"))
  | ((with_reducible refine' x_listOfL ?h ?_); (case h => walk_at "sq"); walk_at "nw")
  | ((with_reducible refine' x_listOfT ?h ?_); (case h => walk_at "sqt"); walk_at "nw")
  | ((with_reducible refine' x_tupOfL ?h ?_); (case h => walk_at "sq"); walk_at "nw")
  | ((with_reducible refine' x_sum ?h ?_); (case h => walk_at "sq"))
  | with_reducible refine' x_enumS ?_
  | ((with_reducible refine' x_qEnumS ?h ?_); (case h => walk_at "sqt"))
  | ((with_reducible refine' x_ixL ?h ?e ?_); (case h => walk_at "sq"); (case e => with_reducible assumption))
  | ((with_reducible refine' x_ixT ?h ?e ?_); (case h => walk_at "sqt"); (case e => with_reducible assumption)))
local macro_rules | `(tactic| walk_at "st0") => `(tactic| first
  | ((with_reducible refine' x_lenMT ?h ?_); (case h => walk_at "sqt"))
  | ((with_reducible refine' x_lenML ?h ?_); (case h => walk_at "sq")))
local macro_rules | `(tactic| walk_at "st0") => `(tactic| first
  | ((with_reducible refine' x_lenT2 ?h ?_); (case h => walk_at "sqt"))
  | ((with_reducible refine' x_lenT1 ?h ?_); (case h => walk_at "sqt")))
local macro_rules | `(tactic| walk_at "nq") => `(tactic| decide +kernel)
local macro_rules | `(tactic| walk_at "nr") => `(tactic| decide +kernel)
local macro_rules | `(tactic| walk_at "st0") => `(tactic| ((with_reducible refine' c_draw ?h ?m (fun d_ H_ lo_ hi_ pl_ st_ => ?_)); (case h => walk_at "pool"); (case m => first | with_reducible assumption | (refine' ⟨?_, ?_⟩ <;> first | decide | omega))))
section
variable {P : Program} {w : World} {K : PySem.W.Frag} {mg : Str → Option Value} {base : Heap}
def sp_is_number (K : PySem.W.Frag) : Sp := fun vs H Q _ => ∃ (v : V) (s : String), vs = [v] ∧ Ty1 K H v s ∧ Q (.bl (s == "int")) H
theorem c_is_number {K : PySem.W.Frag} {v : V} {s : String} {H : Hp} {Q : VK} {E : XK} (h : Ty1 K H v s) (q : Q (.bl (s == "int")) H) : sp_is_number K [v] H Q E := ⟨v, s, rfl, h, q⟩
theorem sc_is_number : FnScope ["thing"] ["thing"] (defScope s_is_number) := ⟨rfl, rfl, rfl, by decide +kernel, rfl, by decide +kernel, by decide +kernel⟩
theorem ok_is_number (T : G K mg) : FnOk P w K mg base CX0 1 T.f_is_number T.d_is_number ["thing"] (sp_is_number K) := by
  refine T.F_is_number.ok sc_is_number (fun vs H Q E h => ?_) (fun cdv A outer s H vs Q E hr h => ?_)
  · obtain ⟨v, s, rfl, ⟨ty, hs⟩, k⟩ := h
    rfl
  · obtain ⟨v, s, rfl, ⟨ty, hs⟩, k⟩ := h
    have hu := hu_of hr
    have nd := sc_is_number.nd
    refine ⟨_, (pss_one (ps_ret (pe_and (pe_callB call_isi (by rfl) T.n_isinstance (by decide +kernel) (pa_cons (pv 0) (pa_cons (pe_bltn (v := .ty "int") (by rfl) T.n_int (by decide +kernel) rfl) pa_nil))) (pe_one (pe_not (pe_callB call_isi (by rfl) T.n_isinstance (by decide +kernel) (pa_cons (pv 0) (pa_cons (pe_bltn (v := .ty "bool") (by rfl) T.n_bool (by decide +kernel) rfl) pa_nil)))))))), ?_⟩
    try dsimp only [L2.cxOf, L2.Cx.nox, L2.Cx.wish]
    rw [show L2.start ["thing"] [v] = [some (v)] from rfl]
    simp only [kinds7, List.mem_cons, List.not_mem_nil, or_false] at hs
    rcases hs with rfl | rfl | rfl | rfl | rfl | rfl | rfl
    all_goals (have t1 : Ty1 K H v _ := ⟨ty, by decide⟩)
    all_goals walk_at "go"
    all_goals exact k
local macro_rules | `(tactic| walk_at "st0") => `(tactic| ((with_reducible refine' c_is_number ?h ?_); (case h => walk_at "ty1")))
def within (v : V) (lo hi : Int) : Bool := match v with | .int i => decide (lo ≤ i) && decide (i ≤ hi) | _ => false
def sp_is_within (K : PySem.W.Frag) : Sp := fun vs H Q _ => ∃ (v : V) (s : String) (lo hi : Int), vs = [v, .int lo, .int hi] ∧ Ty1 K H v s ∧ Q (.bl (within v lo hi)) H
theorem c_is_within {K : PySem.W.Frag} {v : V} {s : String} {lo hi : Int} {H : Hp} {Q : VK} {E : XK} (h : Ty1 K H v s) (q : Q (.bl (within v lo hi)) H) : sp_is_within K [v, .int lo, .int hi] H Q E := ⟨v, s, lo, hi, rfl, h, q⟩
theorem within_not {K : PySem.W.Frag} {H : Hp} {v : V} {s : String} {lo hi : Int} (h : Ty1 K H v s) (n : (s == "int") = false) : within v lo hi = false := by
  cases v with
  | int i =>
    have : s = "int" := by
      obtain ⟨ty, _⟩ := h
      cases ty with
      | base b => cases b; rfl
    rw [this] at n
    exact absurd n (by decide)
  | _ => rfl
theorem sc_is_within : FnScope ["thing", "low", "high"] ["thing", "low", "high"] (defScope s_is_within) := ⟨rfl, rfl, rfl, by decide +kernel, rfl, by decide +kernel, by decide +kernel⟩
theorem ok_is_within (T : G K mg) : FnOk P w K mg base CX0 2 T.f_is_within T.d_is_within ["thing", "low", "high"] (sp_is_within K) := by
  refine T.F_is_within.ok sc_is_within (fun vs H Q E h => ?_) (fun cdv A outer s H vs Q E hr h => ?_)
  · obtain ⟨v, s, lo, hi, rfl, t1, k⟩ := h
    rfl
  · obtain ⟨v, s, lo, hi, rfl, t1, k⟩ := h
    have hu := hu_of hr
    have nd := sc_is_within.nd
    refine ⟨_, (pss_one (ps_ret (pe_and (pe_call (ok_is_number T) (hr.mono (by decide)) rfl T.g_is_number T.F_is_number.kp T.b_is_number .nil pass0 (pa_cons (pv 0) pa_nil)) (pe_one (pe_chain op_le op_le (pv 1) (pv 0) (pv 2)))))), ?_⟩
    try dsimp only [L2.cxOf, L2.Cx.nox, L2.Cx.wish]
    rw [show L2.start ["thing", "low", "high"] [v, V.int lo, V.int hi] = [some (v), some (V.int lo), some (V.int hi)] from rfl]
    walk_at "go"
    refine x_bool (fun e => ?_) (fun e => ?_)
    · obtain rfl : s = "int" := by simpa using e
      obtain ⟨i, rfl⟩ := t1.isInt
      walk_at "go"
      refine x_dec (fun z => ?_) (fun z => ?_)
      · walk_at "go"
        have : within (.int i) lo hi = decide (i ≤ hi) := by
          show (decide (lo ≤ i) && decide (i ≤ hi)) = _
          rw [decide_eq_true z]; rfl
        rw [this] at k
        exact k
      · have : within (.int i) lo hi = false := by
          show (decide (lo ≤ i) && decide (i ≤ hi)) = _
          rw [decide_eq_false z]; rfl
        rw [this] at k
        exact k
    · rw [within_not t1 e] at k
      exact k
local macro_rules | `(tactic| walk_at "st0") => `(tactic| ((with_reducible refine' c_is_within ?h ?_); (case h => walk_at "ty1")))
end
end WD

namespace WD
open PySem PySem.Spec PyProof.Rows L2
-- p ≠ q of two addresses
local macro_rules | `(tactic| walk_at "ne") => `(tactic| first
  | with_reducible assumption
  | with_reducible exact Ne.symm (by assumption)
  | exact ne_some (by with_reducible assumption) (by with_reducible assumption)
  | exact Ne.symm (ne_some (by with_reducible assumption) (by with_reducible assumption)))
local macro_rules | `(tactic| walk_at "nm") => `(tactic| first | with_reducible assumption | with_reducible exact nm0 | ((with_reducible refine' nmS ?a ?b); (case a => walk_at "ne"); (case b => walk_at "nm")))
-- H p = some ?o
local macro_rules | `(tactic| walk_at "hp") => `(tactic| first
  | with_reducible exact upd_same
  | with_reducible assumption
  | ((with_reducible refine' Eq.trans (upd_ne ?a) ?b); (case a => walk_at "ne"); (case b => walk_at "hp"))
  | exact Stay.keep (by with_reducible assumption) _ _ (by walk_at "hp") (by walk_at "nm"))
local macro_rules | `(tactic| walk_at "hpd") => `(tactic| ((refine' Eq.trans ?h ?e); (case h => walk_at "hp"); (case e => exact rfl)))
-- a new address
local macro_rules | `(tactic| walk_at "nw") => `(tactic| ((repeat first | (with_reducible refine' nw_upd ?_) | refine' nw_fr (by with_reducible assumption) ?_); intro p_; intros))
local macro_rules | `(tactic| walk_at "mem") => `(tactic| first | exact List.mem_cons_self | (refine' List.mem_cons_of_mem _ ?_; walk_at "mem"))
-- what stands stays
local macro_rules | `(tactic| walk_at "fr") => `(tactic| first
  | with_reducible assumption
  | exact Stay.refl _ _
  | ((with_reducible refine' Stay.upd ?a ?b); (case a => walk_at "fr"); (case b => walk_at "mem"))
  | ((with_reducible refine' Stay.new ?a ?b); (case b => with_reducible assumption); (case a => walk_at "fr"))
  | (refine' Stay.trans ?_ (by with_reducible assumption); walk_at "fr"))
local macro_rules | `(tactic| walk_at "sq") => `(tactic| first | with_reducible assumption | exact SqL.of (by walk_at "hp"))
local macro_rules | `(tactic| walk_at "sqt") => `(tactic| first | with_reducible assumption | exact SqT.of (by walk_at "hp"))
-- side goals
local macro_rules | `(tactic| walk_at "sd") => `(tactic| first
  | with_reducible assumption | with_reducible rfl | (show _ ≤ sizeLine; decide) | (refine Nat.le_trans (Nat.le_of_ble_eq_true (m := 1000) rfl) (by decide)) | decide | omega
  | exact IntMulOk.of_right (intBits_le_64 (by omega) (by omega)) | exact IntMulOk.of_left (intBits_le_64 (by omega) (by omega))
  | (refine' Or.inl ⟨?_, ?_⟩ <;> omega) | (refine' Or.inr ⟨?_, ?_⟩ <;> omega)
  | (refine' ⟨?_, ?_⟩ <;> walk_at "sd") | (refine' ⟨?_, ?_, ?_⟩ <;> walk_at "sd"))
local macro_rules | `(tactic| walk_at "set") => `(tactic| first | with_reducible exact set0 | with_reducible exact set1 | with_reducible exact set2 | with_reducible exact set3 | with_reducible exact set4 | with_reducible exact set5 | with_reducible exact set6 | with_reducible exact set7 | with_reducible exact set8 | with_reducible exact set9 | with_reducible exact set10 | with_reducible exact set11 | with_reducible exact set12 | with_reducible exact set13 | with_reducible exact set14 | with_reducible exact set15 | with_reducible exact set16 | with_reducible exact set17 | with_reducible exact set18 | with_reducible exact set19 | with_reducible exact set20)
-- one step
local macro_rules | `(tactic| walk_at "st0") => `(tactic| first
  | with_reducible refine' x_seq ?_
  | with_reducible refine' x_next ?_
  | with_reducible refine' x_ifS ?_
  | with_reducible refine' x_asg ?_
  | with_reducible refine' x_ret ?_
  | with_reducible refine' x_retN ?_
  | with_reducible refine' x_drop ?_
  | with_reducible refine' x_brk ?_
  | with_reducible refine' x_cont ?_
  | ((with_reducible refine' x_gName ?e ?_); (case e => walk_at "set"))
  | with_reducible refine' x_gSub ?_
  | with_reducible refine' x_gCons ?_
  | with_reducible refine' x_gNil ?_
  | with_reducible refine' x_c ?_
  | ((with_reducible refine' x_var ?e ?_); (case e => exact rfl))
  | with_reducible refine' x_op ?_
  | with_reducible refine' x_un ?_
  | with_reducible refine' x_if ?_
  | with_reducible refine' x_cb ?_
  | with_reducible refine' x_cons ?_
  | with_reducible refine' x_nil ?_
  | with_reducible refine' x_bm0 ?_
  | with_reducible refine' x_bm ?_
  | with_reducible refine' x_tup ?_
  | with_reducible refine' x_lst ?_
  | ((with_reducible refine' And.intro (a := _ ≤ sizeLine) ?e ?_); (case e => walk_at "sd"); walk_at "nw")
  | with_reducible refine' x_fld ?_
  | with_reducible refine' x_test ?_
  | with_reducible refine' x_tB ?_
  | with_reducible refine' x_and ?_
  | with_reducible refine' x_or ?_
  | with_reducible refine' x_not ?_
  | with_reducible refine' x_notV ?_
  | with_reducible refine' x_andV ?_
  | with_reducible refine' x_orV ?_
  | with_reducible refine' x_rI0 ?_
  | ((with_reducible refine' x_rI ?e ?_); (case e => walk_at "sd"))
  | with_reducible refine' x_rU ?_
  | ((with_reducible refine' x_rEq ?e ?_); (case e => exact rfl))
  | ((with_reducible refine' x_rNe ?e ?_); (case e => exact rfl))
  | ((with_reducible refine' x_ixL0 ?h ?_); (case h => walk_at "sq"))
  | ((with_reducible refine' x_ixL1 ?h ?_); (case h => walk_at "sq"))
  | ((with_reducible refine' x_ixL2 ?h ?_); (case h => walk_at "sq"))
  | ((with_reducible refine' x_ixL0I ?h ?_); (case h => walk_at "sq"))
  | ((with_reducible refine' x_ixL ?h ?e ?_); (case h => walk_at "sq"); (case e => exact rfl))
  | ((with_reducible refine' x_neNil ?h ?h2 ?_); (case h => walk_at "sq"); (case h2 => walk_at "sq"))
  | ((with_reducible refine' x_pop0I ?h ?_); (case h => walk_at "hp"))
  | ((with_reducible refine' x_pop0 ?h ?_); (case h => walk_at "hp"))
  | ((with_reducible refine' x_setL0 ?h ?_); (case h => walk_at "hp"))
  | ((with_reducible refine' x_setL1 ?h ?_); (case h => walk_at "hp"))
  | ((with_reducible refine' x_setL2 ?h ?_); (case h => walk_at "hp"))
  | ((with_reducible refine' x_setL ?h ?e ?_); (case h => walk_at "hp"); (case e => exact rfl))
  | with_reducible refine' .inl ⟨_, rfl, ?_⟩
  | ((with_reducible refine' x_tyL ?h ?_); (case h => walk_at "sq"))
  | with_reducible refine' ⟨_, rfl, ?_⟩)
-- a split
local macro_rules | `(tactic| walk_at "if") => `(tactic| (
  first
  | (with_reducible refine' x_dec (fun h_ => ?_) (fun h_ => ?_))
  | (with_reducible refine' x_decN (fun h_ => ?_) (fun h_ => ?_))
  | (with_reducible refine' x_boolN (fun h_ => ?_) (fun h_ => ?_))
  | (with_reducible refine' x_bool (fun h_ => ?_) (fun h_ => ?_))))
local macro_rules | `(tactic| walk_at "ifs") => `(tactic| (walk_at "if" <;> first
  | (exfalso; first | omega | contradiction)
  | (rename_i h_; (try simp only [BEq.rfl, List.length_map, List.length_cons, List.length_nil, Int.natCast_zero, Int.ofNat_zero, gt_iff_lt, Int.lt_irrefl, Bool.true_eq_false, Bool.false_eq_true, List.isEmpty_nil, List.isEmpty_cons, V.int.injEq, V.str.injEq, V.bl.injEq, reduceCtorEq, not_false_eq_true, not_true_eq_false] at h_); (try (exfalso; omega)))))
local macro_rules | `(tactic| walk_at "ite1") => `(tactic| first
  | with_reducible refine' x_T ?_
  | with_reducible refine' x_F ?_
  | with_reducible refine' x_nT ?_
  | with_reducible refine' x_nF ?_
  | ((with_reducible refine' x_bT ?e ?_); (case e => first | decide | decide +kernel))
  | ((with_reducible refine' x_bF ?e ?_); (case e => first | decide | decide +kernel)))
local macro_rules | `(tactic| walk_at "st") => `(tactic| ((fail_if_success (with_reducible (show (if _ then _ else _)))); walk_at "st0"))
local macro_rules | `(tactic| walk_at "go") => `(tactic| repeat first | walk_at "ite1" | walk_at "st")
local macro_rules | `(tactic| walk_at "gs") => `(tactic| repeat' first | walk_at "ite1" | walk_at "st" | walk_at "ifs")
local macro_rules | `(tactic| walk_at "sz") => `(tactic| first | with_reducible assumption | (refine Nat.le_trans (by assumption) (by decide : 100000 ≤ sizeLine)) | (refine Nat.le_trans (m := 100000) ?_ (by decide); (try simp only [len_add, rep_len]); (try rw [show (Str.ofString "z").length = 1 from rfl]); omega))
local macro_rules | `(tactic| walk_at "hn") => `(tactic| first | with_reducible assumption)
local macro_rules | `(tactic| walk_at "sqo") => `(tactic| first | exact Or.inl (by walk_at "sq") | exact Or.inr (by walk_at "sqt"))
local macro_rules | `(tactic| walk_at "ty1") => `(tactic| first | with_reducible assumption | exact Ty1.int _ | exact Ty1.str _ | exact Ty1.bl _ | exact Ty1.non | exact Ty1.tup (by walk_at "hp") | exact Ty1.lst (by walk_at "hp"))
local macro_rules | `(tactic| walk_at "st2") => `(tactic| first
  | with_reducible refine' And.intro (a := V.non = V.non) rfl ?_
  | with_reducible refine' x_call0 ?_
  | with_reducible refine' x_callS ?_
  | with_reducible refine' x_meth0 ?_
  | with_reducible refine' x_methW0 ?_
  | with_reducible refine' x_make0 ?_
  | with_reducible refine' x_makeW0 ?_
  | with_reducible refine' x_sFld ?_
  | with_reducible refine' x_mkO ?_
  | with_reducible refine' x_chain ?_
  | with_reducible refine' x_dget ?_
  | with_reducible refine' x_dget1 ?_
  | with_reducible refine' x_dget2 ?_
  | with_reducible refine' x_sDPut ?_
  | with_reducible refine' x_pairs ?_
  | with_reducible refine' x_pairs0 ?_
  | with_reducible refine' x_sl ?_
  | with_reducible refine' x_noPart ?_
  | with_reducible refine' x_part ?_
  | ((with_reducible refine' x_disp ?_); walk_at "nw")
  | ((with_reducible refine' x_dnew ?_); walk_at "nw")
  | ((with_reducible refine' x_rz ?h ?_); (case h => walk_at "cf"); walk_at "nw")
  | ((with_reducible refine' x_isi ?h ?e ?_); (case h => walk_at "ty1"); (case e => decide))
  | ((with_reducible refine' x_fldR ?h ?c ?n ?e ?_); (case h => walk_at "hp"); (case c => walk_at "cf"); (case n => walk_at "cf"); (case e => walk_at "fl"))
  | ((with_reducible refine' x_onIns ?h ?n ?_); (case h => walk_at "hp"); (case n => walk_at "fl"))
  | ((with_reducible refine' x_addS ?l ?_); (case l => walk_at "sz"))
  | ((with_reducible refine' x_lenS ?l ?_); (case l => walk_at "sz"))
  | ((with_reducible refine' x_lenL ?h ?_); (case h => walk_at "sqo"))
  | ((with_reducible refine' x_slL ?h rfl ?_); (case h => walk_at "sq"); walk_at "nw")
  | ((with_reducible refine' x_listOf ?h ?_); (case h => walk_at "sqo"); walk_at "nw")
  | ((with_reducible refine' x_strmul ?c ?_); (case c => (refine' ⟨?_, ?_, ?_⟩ <;> first | omega | decide +kernel)))
  | ((with_reducible refine' x_isD2 ?h ?_); (case h => walk_at "hp"))
  | ((with_reducible refine' x_getI ?h ?_); (case h => walk_at "hp"))
  | ((with_reducible refine' x_getS ?h ?_); (case h => walk_at "hp"))
  | ((with_reducible refine' x_dgetS ?h ?e ?_); (case h => walk_at "hp"); (case e => walk_at "fl"))
  | ((with_reducible refine' x_ixT ?h ?e ?_); (case h => walk_at "sqt"); (case e => exact rfl))
  | ((with_reducible refine' x_gTup ?h ?e ?_); (case h => walk_at "sqt"); (case e => exact rfl)))
local macro_rules | `(tactic| walk_at "st0") => `(tactic| walk_at "st2")
local macro_rules | `(tactic| walk_at "fl") => `(tactic| first
  | with_reducible exact lk_hd
  | ((with_reducible refine' lk_tl ?n ?h); (case n => walk_at "nq"); (case h => walk_at "fl"))
  | with_reducible exact lk_nil
  | with_reducible exact pf_hd
  | ((with_reducible refine' pf_tl ?n ?h); (case n => walk_at "nq"); (case h => walk_at "fl"))
  | with_reducible exact pf_nil
  | with_reducible exact vl_hd
  | ((with_reducible refine' vl_tl ?n ?h); (case n => walk_at "nr"); (case h => walk_at "fl"))
  | with_reducible exact vl_nil
  | ((with_reducible refine' pk_hd ?n); (case n => rfl))
  | ((with_reducible refine' pk_tl ?n ?t ?h); (case n => walk_at "nr"); (case t => rfl); (case h => walk_at "fl")))
local macro_rules | `(tactic| walk_at "cf") => `(tactic| with_reducible assumption)
local macro_rules | `(tactic| walk_at "st0") => `(tactic| first
  | ((with_reducible refine' x_sFldR ?h ?c ?n ?l ?e ?_); (case h => walk_at "hp"); (case c => walk_at "cf"); (case n => walk_at "cf"); (case l => exact Nat.le_of_ble_eq_true rfl); (case e => walk_at "fl")))
local macro_rules | `(tactic| walk_at "pool") => `(tactic| first
  | with_reducible assumption
  | exact Pool.ne (by walk_at "pool") (by walk_at "ne") (by walk_at "ne")
  | exact Pool.stay (by walk_at "pool") (by with_reducible assumption) (by walk_at "nm") (by walk_at "nm"))
local macro_rules | `(tactic| walk_at "szl") => `(tactic| first | exact Nat.lt_of_le_of_lt (Nat.le_of_ble_eq_true (m := 1000) rfl) (by decide) | exact Nat.lt_of_le_of_lt (by with_reducible assumption) (by decide : 1000 < sizeLine))
local macro_rules | `(tactic| walk_at "st0") => `(tactic| first
  | ((with_reducible refine' x_putS ?h ?l ?e ?_); (case h => walk_at "hp"); (case l => walk_at "szl"); (case e => walk_at "fl"))
  | ((with_reducible refine' x_setD ?h ?l ?e ?_); (case h => walk_at "hp"); (case l => walk_at "szl"); (case e => walk_at "fl"))
  | ((with_reducible refine' x_putI ?h ?l ?_); (case h => walk_at "hp"); (case l => walk_at "szl")))
local macro_rules | `(tactic| walk_at "st0") => `(tactic| first
  | ((with_reducible refine' x_rowN ?e ?_); (case e => walk_at "cf"); walk_at "nw"; (try dsimp only [List.set]))
  | ((with_reducible refine' x_rowF ?e ?_); (case e => walk_at "cf"))
  | with_reducible refine' x_xw ?_
  | ((with_reducible refine' x_xwR ?t ?h ?_); (case t => walk_at "cf"); (case h => walk_at "hp")))
local macro_rules | `(tactic| walk_at "st0") => `(tactic| first
  | ((with_reducible refine' x_isXR ?k ?x ?h ?e ?_); (case k => exact ClsV.own _); (case x => exact ExT.xc (by with_reducible assumption)); (case h => walk_at "hp"); (case e => walk_at "cf")))
local macro_rules | `(tactic| walk_at "st0") => `(tactic| first
  | with_reducible refine' x_for ?_
  | with_reducible refine' x_rng1 ?_
  | with_reducible refine' x_rng2 ?_
  | with_reducible refine' x_iList ?_
  | with_reducible refine' x_iTup ?_
  | with_reducible refine' x_par ?_
  | with_reducible refine' x_yes ?_
  | with_reducible refine' x_lc ?_
  | ((with_reducible refine' x_itL ?h ?_); (case h => walk_at "sq"))
  | ((with_reducible refine' x_itT ?h ?_); (case h => walk_at "sqt"))
  | ((with_reducible refine' x_catL ?h ?h2 ?l ?_); (case h => walk_at "hp"); (case h2 => walk_at "hp"); (case l => walk_at "sd"); walk_at "nw")
  | ((with_reducible refine' And.intro (a := List.set _ _ none = _) ?e ?_); (case e => exact rfl))
  | ((with_reducible refine' x_gNameS ?e1 ?e ?_); (case e1 => walk_at "set"); (case e => walk_at "set")))
local macro_rules | `(tactic| walk_at "st0") => `(tactic| first
  | ((with_reducible refine' x_lenQL ?h ?_); (case h => walk_at "sq"))
  | ((with_reducible refine' x_lenQT ?h ?_); (case h => walk_at "sqt"))
  | ((with_reducible refine' x_listOfL ?h ?_); (case h => walk_at "sq"); walk_at "nw")
  | ((with_reducible refine' x_listOfT ?h ?_); (case h => walk_at "sqt"); walk_at "nw")
  | ((with_reducible refine' x_tupOfL ?h ?_); (case h => walk_at "sq"); walk_at "nw")
  | ((with_reducible refine' x_sum ?h ?_); (case h => walk_at "sq"))
  | with_reducible refine' x_enumS ?_
  | ((with_reducible refine' x_qEnumS ?h ?_); (case h => walk_at "sqt"))
  | ((with_reducible refine' x_ixL ?h ?e ?_); (case h => walk_at "sq"); (case e => with_reducible assumption))
  | ((with_reducible refine' x_ixT ?h ?e ?_); (case h => walk_at "sqt"); (case e => with_reducible assumption)))
local macro_rules | `(tactic| walk_at "st0") => `(tactic| first
  | ((with_reducible refine' x_lenMT ?h ?_); (case h => walk_at "sqt"))
  | ((with_reducible refine' x_lenML ?h ?_); (case h => walk_at "sq")))
local macro_rules | `(tactic| walk_at "st0") => `(tactic| first
  | ((with_reducible refine' x_lenT2 ?h ?_); (case h => walk_at "sqt"))
  | ((with_reducible refine' x_lenT1 ?h ?_); (case h => walk_at "sqt")))
local macro_rules | `(tactic| walk_at "nq") => `(tactic| decide +kernel)
local macro_rules | `(tactic| walk_at "nr") => `(tactic| decide +kernel)
local macro_rules | `(tactic| walk_at "st0") => `(tactic| ((with_reducible refine' c_draw ?h ?m (fun d_ H_ lo_ hi_ pl_ st_ => ?_)); (case h => walk_at "pool"); (case m => first | with_reducible assumption | (refine' ⟨?_, ?_⟩ <;> first | decide | omega))))
local macro_rules | `(tactic| walk_at "st0") => `(tactic| ((with_reducible refine' c_is_number ?h ?_); (case h => walk_at "ty1")))
local macro_rules | `(tactic| walk_at "st0") => `(tactic| ((with_reducible refine' c_is_within ?h ?_); (case h => walk_at "ty1")))
section
variable {P : Program} {w : World} {K : PySem.W.Frag} {mg : Str → Option Value} {base : Heap}
theorem within_nat {p P : Nat} (h : p < P) : within (nat p) 0 ((P : Int) - 1) = true := by
  show (decide ((0 : Int) ≤ (p : Int)) && decide ((p : Int) ≤ (P : Int) - 1)) = true
  rw [decide_eq_true (by omega), decide_eq_true (by omega)]; rfl
theorem within_nat2 {p l P : Nat} (h : p < P) (h2 : l ≤ p) : within (nat p) (l : Int) ((P : Int) - 1) = true := by
  show (decide ((l : Int) ≤ (p : Int)) && decide ((p : Int) ≤ (P : Int) - 1)) = true
  rw [decide_eq_true (by omega), decide_eq_true (by omega)]; rfl
def sp_bare (K : PySem.W.Frag) : Sp := fun vs H Q _ => ∃ v P d, vs = [v, nat P] ∧ DeedAt H v d ∧ WfD P d ∧ P ≤ 1000 ∧ Q (.bl true) H
theorem c_bare {K : PySem.W.Frag} {v : V} {P : Nat} {d : Deed} {H : Hp} {Q : VK} {E : XK} (h : DeedAt H v d) (w : WfD P d) (l : P ≤ 1000) (q : Q (.bl true) H) : sp_bare K [v, nat P] H Q E := ⟨v, P, d, rfl, h, w, l, q⟩
theorem sc__is_bare_deed : FnScope ["thing", "many", "page", "reads", "least", "read"] ["thing", "many"] (defScope s__is_bare_deed) := ⟨rfl, rfl, rfl, by decide +kernel, rfl, by decide +kernel, by decide +kernel⟩
theorem ok__is_bare_deed (T : G K mg) : FnOk P w K mg base CX0 3 T.f__is_bare_deed T.d__is_bare_deed ["thing", "many"] (sp_bare K) := by
  refine T.F__is_bare_deed.ok sc__is_bare_deed (fun vs H Q E h => ?_) (fun cdv A outer s H vs Q E hr h => ?_)
  · obtain ⟨v, P, d, rfl, hd, hw, hP, k⟩ := h
    rfl
  · obtain ⟨v, P, d, rfl, hd, hw, hP, k⟩ := h
    have hu := hu_of hr
    have nd := sc__is_bare_deed.nd
    refine ⟨_, (pss_cons (ps_if (PW.pt (pw_or (pt_not (pt_val (pe_callB call_isi (by rfl) T.n_isinstance (by decide +kernel) (pa_cons (pv 0) (pa_cons (pe_bltn (v := .ty "tuple") (by rfl) T.n_tuple (by decide +kernel) rfl) pa_nil))))) (pw_or1 (pt_cmpR op_ne (pe_callB (r := rLenQ K) call_lenQ (by rfl) T.n_len PySem.boot_len (pa_cons (pv 0) pa_nil)) pe_int (nomark _))))) (pss_one (ps_ret pe_bl)) pss_nil)
        (pss_cons (ps_asg (pv 0) (pg_tup rfl (pgs_cons (pg_name (i := 2) nd rfl (Or.inl rfl)) (pgs_cons (pg_name (i := 3) nd rfl (Or.inl rfl)) pgs_nil))))
        (pss_cons (ps_if (PW.pt (pw_or (pt_not (pt_val (pe_call (ok_is_within T) (hr.mono (by decide)) rfl T.g_is_within T.F_is_within.kp T.b_is_within .nil pass0 (pa_cons (pv 2) (pa_cons pe_int (pa_cons (pe_op op_sub (pv 1) pe_int) pa_nil)))))) (pw_or1 (pt_not (pt_val (pe_callB call_isi (by rfl) T.n_isinstance (by decide +kernel) (pa_cons (pv 3) (pa_cons (pe_bltn (v := .ty "tuple") (by rfl) T.n_tuple (by decide +kernel) rfl) pa_nil)))))))) (pss_one (ps_ret pe_bl)) pss_nil)
        (pss_cons (ps_set (i := 4) nd rfl (Or.inl rfl) pe_int)
        (pss_cons (ps_for PassesOwn.never rfl (pi_tup (pv 3)) (pg_name (i := 5) nd rfl (Or.inl rfl)) (pss_cons (ps_if (PW.pt (pw_or (pt_not (pt_val (pe_call (ok_is_within T) (hr.mono (by decide)) rfl T.g_is_within T.F_is_within.kp T.b_is_within .nil pass0 (pa_cons (pv 5) (pa_cons (pv 4) (pa_cons (pe_op op_sub (pv 1) pe_int) pa_nil)))))) (pw_or1 (pt_cmpR op_eq (pv 5) (pv 2) (nomark _))))) (pss_one (ps_ret pe_bl)) pss_nil)
        (pss_one (ps_set (i := 4) nd rfl (Or.inl rfl) (pe_op op_add (pv 5) pe_int)))))
        (pss_one (ps_ret pe_bl))))))), ?_⟩
    try dsimp only [L2.cxOf, L2.Cx.nox, L2.Cx.wish]
    rw [show L2.start ["thing", "many", "page", "reads", "least", "read"] [v, nat P] = [some (v), some (nat P), none, none, none, none] from rfl]
    obtain ⟨t, r, rfl, h1, h2⟩ := hd
    walk_at "go"
    rw [within_nat hw.pg]
    walk_at "go"
    refine for_tup (xs := d.2.map nat) (fun i σ G => G = H ∧ ∃ (l : Nat) (v : Option V), σ = [some (V.ref t), some (nat P), some (nat d.1), some (V.ref r), some (nat l), v] ∧ ∀ j s, i ≤ j → d.2[j]? = some s → l ≤ s) ⟨rfl, 0, none, rfl, fun _ _ _ _ => Nat.zero_le _⟩ ?_ ?_ ?_
    · rintro i σ G _ ⟨rfl, _⟩
      walk_at "sqt"
    · rintro i x σ G e ⟨rfl, l, v, rfl, hl⟩
      obtain ⟨s, es, rfl⟩ : ∃ s, d.2[i]? = some s ∧ nat s = x := by simpa using e
      have hm := List.mem_of_getElem? es
      obtain ⟨r1, r2⟩ := hw.rd s hm
      have l1 := hl i s (Nat.le_refl _) es
      walk_at "go"
      rw [within_nat2 r1 l1]
      walk_at "go"
      refine x_dec (fun z => absurd (by have := V.int.inj z; omega) r2) (fun _ => ?_)
      walk_at "go"
      exact ⟨rfl, s + 1, _, rfl, fun j u hj eu => hw.upTo i s es j u hj eu⟩
    · rintro σ G ⟨rfl, l, v, rfl, _⟩
      walk_at "go"
      exact k
end
end WD

namespace WD
open PySem PySem.Spec PyProof.Rows L2
-- p ≠ q of two addresses
local macro_rules | `(tactic| walk_at "ne") => `(tactic| first
  | with_reducible assumption
  | with_reducible exact Ne.symm (by assumption)
  | exact ne_some (by with_reducible assumption) (by with_reducible assumption)
  | exact Ne.symm (ne_some (by with_reducible assumption) (by with_reducible assumption)))
local macro_rules | `(tactic| walk_at "nm") => `(tactic| first | with_reducible assumption | with_reducible exact nm0 | ((with_reducible refine' nmS ?a ?b); (case a => walk_at "ne"); (case b => walk_at "nm")))
-- H p = some ?o
local macro_rules | `(tactic| walk_at "hp") => `(tactic| first
  | with_reducible exact upd_same
  | with_reducible assumption
  | ((with_reducible refine' Eq.trans (upd_ne ?a) ?b); (case a => walk_at "ne"); (case b => walk_at "hp"))
  | exact Stay.keep (by with_reducible assumption) _ _ (by walk_at "hp") (by walk_at "nm"))
local macro_rules | `(tactic| walk_at "hpd") => `(tactic| ((refine' Eq.trans ?h ?e); (case h => walk_at "hp"); (case e => exact rfl)))
-- a new address
local macro_rules | `(tactic| walk_at "nw") => `(tactic| ((repeat first | (with_reducible refine' nw_upd ?_) | refine' nw_fr (by with_reducible assumption) ?_); intro p_; intros))
local macro_rules | `(tactic| walk_at "mem") => `(tactic| first | exact List.mem_cons_self | (refine' List.mem_cons_of_mem _ ?_; walk_at "mem"))
-- what stands stays
local macro_rules | `(tactic| walk_at "fr") => `(tactic| first
  | with_reducible assumption
  | exact Stay.refl _ _
  | ((with_reducible refine' Stay.upd ?a ?b); (case a => walk_at "fr"); (case b => walk_at "mem"))
  | ((with_reducible refine' Stay.new ?a ?b); (case b => with_reducible assumption); (case a => walk_at "fr"))
  | (refine' Stay.trans ?_ (by with_reducible assumption); walk_at "fr"))
local macro_rules | `(tactic| walk_at "sq") => `(tactic| first | with_reducible assumption | exact SqL.of (by walk_at "hp"))
local macro_rules | `(tactic| walk_at "sqt") => `(tactic| first | with_reducible assumption | exact SqT.of (by walk_at "hp"))
-- side goals
local macro_rules | `(tactic| walk_at "sd") => `(tactic| first
  | with_reducible assumption | with_reducible rfl | (show _ ≤ sizeLine; decide) | (refine Nat.le_trans (Nat.le_of_ble_eq_true (m := 1000) rfl) (by decide)) | decide | omega
  | exact IntMulOk.of_right (intBits_le_64 (by omega) (by omega)) | exact IntMulOk.of_left (intBits_le_64 (by omega) (by omega))
  | (refine' Or.inl ⟨?_, ?_⟩ <;> omega) | (refine' Or.inr ⟨?_, ?_⟩ <;> omega)
  | (refine' ⟨?_, ?_⟩ <;> walk_at "sd") | (refine' ⟨?_, ?_, ?_⟩ <;> walk_at "sd"))
local macro_rules | `(tactic| walk_at "set") => `(tactic| first | with_reducible exact set0 | with_reducible exact set1 | with_reducible exact set2 | with_reducible exact set3 | with_reducible exact set4 | with_reducible exact set5 | with_reducible exact set6 | with_reducible exact set7 | with_reducible exact set8 | with_reducible exact set9 | with_reducible exact set10 | with_reducible exact set11 | with_reducible exact set12 | with_reducible exact set13 | with_reducible exact set14 | with_reducible exact set15 | with_reducible exact set16 | with_reducible exact set17 | with_reducible exact set18 | with_reducible exact set19 | with_reducible exact set20)
-- one step
local macro_rules | `(tactic| walk_at "st0") => `(tactic| first
  | with_reducible refine' x_seq ?_
  | with_reducible refine' x_next ?_
  | with_reducible refine' x_ifS ?_
  | with_reducible refine' x_asg ?_
  | with_reducible refine' x_ret ?_
  | with_reducible refine' x_retN ?_
  | with_reducible refine' x_drop ?_
  | with_reducible refine' x_brk ?_
  | with_reducible refine' x_cont ?_
  | ((with_reducible refine' x_gName ?e ?_); (case e => walk_at "set"))
  | with_reducible refine' x_gSub ?_
  | with_reducible refine' x_gCons ?_
  | with_reducible refine' x_gNil ?_
  | with_reducible refine' x_c ?_
  | ((with_reducible refine' x_var ?e ?_); (case e => exact rfl))
  | with_reducible refine' x_op ?_
  | with_reducible refine' x_un ?_
  | with_reducible refine' x_if ?_
  | with_reducible refine' x_cb ?_
  | with_reducible refine' x_cons ?_
  | with_reducible refine' x_nil ?_
  | with_reducible refine' x_bm0 ?_
  | with_reducible refine' x_bm ?_
  | with_reducible refine' x_tup ?_
  | with_reducible refine' x_lst ?_
  | ((with_reducible refine' And.intro (a := _ ≤ sizeLine) ?e ?_); (case e => walk_at "sd"); walk_at "nw")
  | with_reducible refine' x_fld ?_
  | with_reducible refine' x_test ?_
  | with_reducible refine' x_tB ?_
  | with_reducible refine' x_and ?_
  | with_reducible refine' x_or ?_
  | with_reducible refine' x_not ?_
  | with_reducible refine' x_notV ?_
  | with_reducible refine' x_andV ?_
  | with_reducible refine' x_orV ?_
  | with_reducible refine' x_rI0 ?_
  | ((with_reducible refine' x_rI ?e ?_); (case e => walk_at "sd"))
  | with_reducible refine' x_rU ?_
  | ((with_reducible refine' x_rEq ?e ?_); (case e => exact rfl))
  | ((with_reducible refine' x_rNe ?e ?_); (case e => exact rfl))
  | ((with_reducible refine' x_ixL0 ?h ?_); (case h => walk_at "sq"))
  | ((with_reducible refine' x_ixL1 ?h ?_); (case h => walk_at "sq"))
  | ((with_reducible refine' x_ixL2 ?h ?_); (case h => walk_at "sq"))
  | ((with_reducible refine' x_ixL0I ?h ?_); (case h => walk_at "sq"))
  | ((with_reducible refine' x_ixL ?h ?e ?_); (case h => walk_at "sq"); (case e => exact rfl))
  | ((with_reducible refine' x_neNil ?h ?h2 ?_); (case h => walk_at "sq"); (case h2 => walk_at "sq"))
  | ((with_reducible refine' x_pop0I ?h ?_); (case h => walk_at "hp"))
  | ((with_reducible refine' x_pop0 ?h ?_); (case h => walk_at "hp"))
  | ((with_reducible refine' x_setL0 ?h ?_); (case h => walk_at "hp"))
  | ((with_reducible refine' x_setL1 ?h ?_); (case h => walk_at "hp"))
  | ((with_reducible refine' x_setL2 ?h ?_); (case h => walk_at "hp"))
  | ((with_reducible refine' x_setL ?h ?e ?_); (case h => walk_at "hp"); (case e => exact rfl))
  | with_reducible refine' .inl ⟨_, rfl, ?_⟩
  | ((with_reducible refine' x_tyL ?h ?_); (case h => walk_at "sq"))
  | with_reducible refine' ⟨_, rfl, ?_⟩)
-- a split
local macro_rules | `(tactic| walk_at "if") => `(tactic| (
  first
  | (with_reducible refine' x_dec (fun h_ => ?_) (fun h_ => ?_))
  | (with_reducible refine' x_decN (fun h_ => ?_) (fun h_ => ?_))
  | (with_reducible refine' x_boolN (fun h_ => ?_) (fun h_ => ?_))
  | (with_reducible refine' x_bool (fun h_ => ?_) (fun h_ => ?_))))
local macro_rules | `(tactic| walk_at "ifs") => `(tactic| (walk_at "if" <;> first
  | (exfalso; first | omega | contradiction)
  | (rename_i h_; (try simp only [BEq.rfl, List.length_map, List.length_cons, List.length_nil, Int.natCast_zero, Int.ofNat_zero, gt_iff_lt, Int.lt_irrefl, Bool.true_eq_false, Bool.false_eq_true, List.isEmpty_nil, List.isEmpty_cons, V.int.injEq, V.str.injEq, V.bl.injEq, reduceCtorEq, not_false_eq_true, not_true_eq_false] at h_); (try (exfalso; omega)))))
local macro_rules | `(tactic| walk_at "ite1") => `(tactic| first
  | with_reducible refine' x_T ?_
  | with_reducible refine' x_F ?_
  | with_reducible refine' x_nT ?_
  | with_reducible refine' x_nF ?_
  | ((with_reducible refine' x_bT ?e ?_); (case e => first | decide | decide +kernel))
  | ((with_reducible refine' x_bF ?e ?_); (case e => first | decide | decide +kernel)))
local macro_rules | `(tactic| walk_at "st") => `(tactic| ((fail_if_success (with_reducible (show (if _ then _ else _)))); walk_at "st0"))
local macro_rules | `(tactic| walk_at "go") => `(tactic| repeat first | walk_at "ite1" | walk_at "st")
local macro_rules | `(tactic| walk_at "gs") => `(tactic| repeat' first | walk_at "ite1" | walk_at "st" | walk_at "ifs")
local macro_rules | `(tactic| walk_at "sz") => `(tactic| first | with_reducible assumption | (refine Nat.le_trans (by assumption) (by decide : 100000 ≤ sizeLine)) | (refine Nat.le_trans (m := 100000) ?_ (by decide); (try simp only [len_add, rep_len]); (try rw [show (Str.ofString "z").length = 1 from rfl]); omega))
local macro_rules | `(tactic| walk_at "hn") => `(tactic| first | with_reducible assumption)
local macro_rules | `(tactic| walk_at "sqo") => `(tactic| first | exact Or.inl (by walk_at "sq") | exact Or.inr (by walk_at "sqt"))
local macro_rules | `(tactic| walk_at "ty1") => `(tactic| first | with_reducible assumption | exact Ty1.int _ | exact Ty1.str _ | exact Ty1.bl _ | exact Ty1.non | exact Ty1.tup (by walk_at "hp") | exact Ty1.lst (by walk_at "hp"))
local macro_rules | `(tactic| walk_at "st2") => `(tactic| first
  | with_reducible refine' And.intro (a := V.non = V.non) rfl ?_
  | with_reducible refine' x_call0 ?_
  | with_reducible refine' x_callS ?_
  | with_reducible refine' x_meth0 ?_
  | with_reducible refine' x_methW0 ?_
  | with_reducible refine' x_make0 ?_
  | with_reducible refine' x_makeW0 ?_
  | with_reducible refine' x_sFld ?_
  | with_reducible refine' x_mkO ?_
  | with_reducible refine' x_chain ?_
  | with_reducible refine' x_dget ?_
  | with_reducible refine' x_dget1 ?_
  | with_reducible refine' x_dget2 ?_
  | with_reducible refine' x_sDPut ?_
  | with_reducible refine' x_pairs ?_
  | with_reducible refine' x_pairs0 ?_
  | with_reducible refine' x_sl ?_
  | with_reducible refine' x_noPart ?_
  | with_reducible refine' x_part ?_
  | ((with_reducible refine' x_disp ?_); walk_at "nw")
  | ((with_reducible refine' x_dnew ?_); walk_at "nw")
  | ((with_reducible refine' x_rz ?h ?_); (case h => walk_at "cf"); walk_at "nw")
  | ((with_reducible refine' x_isi ?h ?e ?_); (case h => walk_at "ty1"); (case e => decide))
  | ((with_reducible refine' x_fldR ?h ?c ?n ?e ?_); (case h => walk_at "hp"); (case c => walk_at "cf"); (case n => walk_at "cf"); (case e => walk_at "fl"))
  | ((with_reducible refine' x_onIns ?h ?n ?_); (case h => walk_at "hp"); (case n => walk_at "fl"))
  | ((with_reducible refine' x_addS ?l ?_); (case l => walk_at "sz"))
  | ((with_reducible refine' x_lenS ?l ?_); (case l => walk_at "sz"))
  | ((with_reducible refine' x_lenL ?h ?_); (case h => walk_at "sqo"))
  | ((with_reducible refine' x_slL ?h rfl ?_); (case h => walk_at "sq"); walk_at "nw")
  | ((with_reducible refine' x_listOf ?h ?_); (case h => walk_at "sqo"); walk_at "nw")
  | ((with_reducible refine' x_strmul ?c ?_); (case c => (refine' ⟨?_, ?_, ?_⟩ <;> first | omega | decide +kernel)))
  | ((with_reducible refine' x_isD2 ?h ?_); (case h => walk_at "hp"))
  | ((with_reducible refine' x_getI ?h ?_); (case h => walk_at "hp"))
  | ((with_reducible refine' x_getS ?h ?_); (case h => walk_at "hp"))
  | ((with_reducible refine' x_dgetS ?h ?e ?_); (case h => walk_at "hp"); (case e => walk_at "fl"))
  | ((with_reducible refine' x_ixT ?h ?e ?_); (case h => walk_at "sqt"); (case e => exact rfl))
  | ((with_reducible refine' x_gTup ?h ?e ?_); (case h => walk_at "sqt"); (case e => exact rfl)))
local macro_rules | `(tactic| walk_at "st0") => `(tactic| walk_at "st2")
local macro_rules | `(tactic| walk_at "fl") => `(tactic| first
  | with_reducible exact lk_hd
  | ((with_reducible refine' lk_tl ?n ?h); (case n => walk_at "nq"); (case h => walk_at "fl"))
  | with_reducible exact lk_nil
  | with_reducible exact pf_hd
  | ((with_reducible refine' pf_tl ?n ?h); (case n => walk_at "nq"); (case h => walk_at "fl"))
  | with_reducible exact pf_nil
  | with_reducible exact vl_hd
  | ((with_reducible refine' vl_tl ?n ?h); (case n => walk_at "nr"); (case h => walk_at "fl"))
  | with_reducible exact vl_nil
  | ((with_reducible refine' pk_hd ?n); (case n => rfl))
  | ((with_reducible refine' pk_tl ?n ?t ?h); (case n => walk_at "nr"); (case t => rfl); (case h => walk_at "fl")))
local macro_rules | `(tactic| walk_at "cf") => `(tactic| with_reducible assumption)
local macro_rules | `(tactic| walk_at "st0") => `(tactic| first
  | ((with_reducible refine' x_sFldR ?h ?c ?n ?l ?e ?_); (case h => walk_at "hp"); (case c => walk_at "cf"); (case n => walk_at "cf"); (case l => exact Nat.le_of_ble_eq_true rfl); (case e => walk_at "fl")))
local macro_rules | `(tactic| walk_at "pool") => `(tactic| first
  | with_reducible assumption
  | exact Pool.ne (by walk_at "pool") (by walk_at "ne") (by walk_at "ne")
  | exact Pool.stay (by walk_at "pool") (by with_reducible assumption) (by walk_at "nm") (by walk_at "nm"))
local macro_rules | `(tactic| walk_at "szl") => `(tactic| first | exact Nat.lt_of_le_of_lt (Nat.le_of_ble_eq_true (m := 1000) rfl) (by decide) | exact Nat.lt_of_le_of_lt (by with_reducible assumption) (by decide : 1000 < sizeLine))
local macro_rules | `(tactic| walk_at "st0") => `(tactic| first
  | ((with_reducible refine' x_putS ?h ?l ?e ?_); (case h => walk_at "hp"); (case l => walk_at "szl"); (case e => walk_at "fl"))
  | ((with_reducible refine' x_setD ?h ?l ?e ?_); (case h => walk_at "hp"); (case l => walk_at "szl"); (case e => walk_at "fl"))
  | ((with_reducible refine' x_putI ?h ?l ?_); (case h => walk_at "hp"); (case l => walk_at "szl")))
local macro_rules | `(tactic| walk_at "st0") => `(tactic| first
  | ((with_reducible refine' x_rowN ?e ?_); (case e => walk_at "cf"); walk_at "nw"; (try dsimp only [List.set]))
  | ((with_reducible refine' x_rowF ?e ?_); (case e => walk_at "cf"))
  | with_reducible refine' x_xw ?_
  | ((with_reducible refine' x_xwR ?t ?h ?_); (case t => walk_at "cf"); (case h => walk_at "hp")))
local macro_rules | `(tactic| walk_at "st0") => `(tactic| first
  | ((with_reducible refine' x_isXR ?k ?x ?h ?e ?_); (case k => exact ClsV.own _); (case x => exact ExT.xc (by with_reducible assumption)); (case h => walk_at "hp"); (case e => walk_at "cf")))
local macro_rules | `(tactic| walk_at "st0") => `(tactic| first
  | with_reducible refine' x_for ?_
  | with_reducible refine' x_rng1 ?_
  | with_reducible refine' x_rng2 ?_
  | with_reducible refine' x_iList ?_
  | with_reducible refine' x_iTup ?_
  | with_reducible refine' x_par ?_
  | with_reducible refine' x_yes ?_
  | with_reducible refine' x_lc ?_
  | ((with_reducible refine' x_itL ?h ?_); (case h => walk_at "sq"))
  | ((with_reducible refine' x_itT ?h ?_); (case h => walk_at "sqt"))
  | ((with_reducible refine' x_catL ?h ?h2 ?l ?_); (case h => walk_at "hp"); (case h2 => walk_at "hp"); (case l => walk_at "sd"); walk_at "nw")
  | ((with_reducible refine' And.intro (a := List.set _ _ none = _) ?e ?_); (case e => exact rfl))
  | ((with_reducible refine' x_gNameS ?e1 ?e ?_); (case e1 => walk_at "set"); (case e => walk_at "set")))
local macro_rules | `(tactic| walk_at "st0") => `(tactic| first
  | ((with_reducible refine' x_lenQL ?h ?_); (case h => walk_at "sq"))
  | ((with_reducible refine' x_lenQT ?h ?_); (case h => walk_at "sqt"))
  | ((with_reducible refine' x_listOfL ?h ?_); (case h => walk_at "sq"); walk_at "nw")
  | ((with_reducible refine' x_listOfT ?h ?_); (case h => walk_at "sqt"); walk_at "nw")
  | ((with_reducible refine' x_tupOfL ?h ?_); (case h => walk_at "sq"); walk_at "nw")
  | ((with_reducible refine' x_sum ?h ?_); (case h => walk_at "sq"))
  | with_reducible refine' x_enumS ?_
  | ((with_reducible refine' x_qEnumS ?h ?_); (case h => walk_at "sqt"))
  | ((with_reducible refine' x_ixL ?h ?e ?_); (case h => walk_at "sq"); (case e => with_reducible assumption))
  | ((with_reducible refine' x_ixT ?h ?e ?_); (case h => walk_at "sqt"); (case e => with_reducible assumption)))
local macro_rules | `(tactic| walk_at "st0") => `(tactic| first
  | ((with_reducible refine' x_lenMT ?h ?_); (case h => walk_at "sqt"))
  | ((with_reducible refine' x_lenML ?h ?_); (case h => walk_at "sq")))
local macro_rules | `(tactic| walk_at "st0") => `(tactic| first
  | ((with_reducible refine' x_lenT2 ?h ?_); (case h => walk_at "sqt"))
  | ((with_reducible refine' x_lenT1 ?h ?_); (case h => walk_at "sqt")))
local macro_rules | `(tactic| walk_at "nn") => `(tactic| first | with_reducible assumption | ((with_reducible refine' Eq.trans (upd_ne ?a) ?b); (case a => walk_at "ne"); (case b => walk_at "nn")))
local macro_rules | `(tactic| walk_at "tk") => `(tactic| first
  | exact Tk.refl _
  | with_reducible assumption
  | ((with_reducible refine' Tk.trans ?a (Tk.updN ?b)); (case b => walk_at "nn"); (case a => walk_at "tk"))
  | ((with_reducible refine' Tk.trans ?a (Tk.updL' ?b)); (case b => exact ⟨_, by walk_at "hp"⟩); (case a => walk_at "tk"))
  | exact Stay.tk0 (by with_reducible assumption))
local macro_rules | `(tactic| walk_at "st0") => `(tactic| first
  | ((with_reducible refine' x_setLk ?h ?e ?_); (case h => walk_at "hp"); (case e => with_reducible assumption)))
local macro_rules | `(tactic| walk_at "wp") => `(tactic| (dsimp only [wipe, List.map]; (try simp only [set0, set1, set2, set3, set4, set5, set6, set7, set8, set9, set10, set11, set12, set13, set14, set15, set16, set17, set18, set19, set20])))
local macro_rules | `(tactic| walk_at "nq") => `(tactic| decide +kernel)
local macro_rules | `(tactic| walk_at "nr") => `(tactic| decide +kernel)
local macro_rules | `(tactic| walk_at "st0") => `(tactic| ((with_reducible refine' c_draw ?h ?m (fun d_ H_ lo_ hi_ pl_ st_ => ?_)); (case h => walk_at "pool"); (case m => first | with_reducible assumption | (refine' ⟨?_, ?_⟩ <;> first | decide | omega))))
local macro_rules | `(tactic| walk_at "st0") => `(tactic| ((with_reducible refine' c_is_number ?h ?_); (case h => walk_at "ty1")))
local macro_rules | `(tactic| walk_at "st0") => `(tactic| ((with_reducible refine' c_is_within ?h ?_); (case h => walk_at "ty1")))
section
variable {P : Program} {w : World} {K : PySem.W.Frag} {mg : Str → Option Value} {base : Heap}
def sp_mlog (K : PySem.W.Frag) : Sp := fun vs H Q _ => ∃ a P ds, vs = [.ref a] ∧ LogAt H a P ds ∧ Wf P ds ∧ ∀ r H', LogAt H' r P ds → Stay [] H H' → Q (.ref r) H'
theorem c_mlog {K : PySem.W.Frag} {a : Addr} {P : Nat} {ds : List Deed} {H : Hp} {Q : VK} {E : XK} (h : LogAt H a P ds) (w : Wf P ds) (q : ∀ r H', LogAt H' r P ds → Stay [] H H' → Q (.ref r) H') : sp_mlog K [.ref a] H Q E := ⟨a, P, ds, rfl, h, w, q⟩
theorem sc_made_log : FnScope ["thing", "many", "deeds", "number", "deed", "page", "reads"] ["thing"] (defScope s_made_log) := ⟨rfl, rfl, rfl, by decide +kernel, rfl, by decide +kernel, by decide +kernel⟩
theorem ok_made_log (T : G K mg) : FnOk P w K mg base (L2.CX P w) 4 T.f_made_log T.d_made_log ["thing"] (sp_mlog K) := by
  refine T.F_made_log.okX sc_made_log (fun vs H Q E h => ?_) (fun cdv A outer s H vs Q E hr h => ?_)
  · obtain ⟨a, P, ds, rfl, hl, wf, k⟩ := h
    rfl
  · obtain ⟨a, P, ds, rfl, hl, wf, k⟩ := h
    have hu := hu_of hr
    have nd := sc_made_log.nd
    refine ⟨_, (pss_cons (ps_if (PW.pt (pw_or (pt_not (pt_val (pe_callB call_isi (by rfl) T.n_isinstance (by decide +kernel) (pa_cons (pv 0) (pa_cons (pe_bltn (v := .ty "tuple") (by rfl) T.n_tuple (by decide +kernel) rfl) pa_nil))))) (pw_or1 (pt_cmpR op_ne (pe_callB (r := rLenQ K) call_lenQ (by rfl) T.n_len PySem.boot_len (pa_cons (pv 0) pa_nil)) pe_int (nomark _))))) (pss_one (ps_raise rfl (takes_of rfl rfl rfl rfl) (pmk_oex T.x_BadLog.oex T.x_BadLog.init T.t_init (ok_Refused___init__ T) (hr.mono (by decide)) T.b_Refused___init__ .nil pass0 rfl T.x_BadLog.g (pa_cons (pe_un un_neg pe_int) pa_nil)))) pss_nil)
        (pss_cons (ps_asg (pv 0) (pg_tup rfl (pgs_cons (pg_name (i := 1) nd rfl (Or.inl rfl)) (pgs_cons (pg_name (i := 2) nd rfl (Or.inl rfl)) pgs_nil))))
        (pss_cons (ps_if (PW.pt (pw_or (pt_not (pt_val (pe_call (ok_is_number T) (hr.mono (by decide)) rfl T.g_is_number T.F_is_number.kp T.b_is_number .nil pass0 (pa_cons (pv 1) pa_nil)))) (pw_or (pt_cmpR op_lt (pv 1) pe_int (nomark _)) (pw_or1 (pt_not (pt_val (pe_callB call_isi (by rfl) T.n_isinstance (by decide +kernel) (pa_cons (pv 2) (pa_cons (pe_bltn (v := .ty "tuple") (by rfl) T.n_tuple (by decide +kernel) rfl) pa_nil))))))))) (pss_one (ps_raise rfl (takes_of rfl rfl rfl rfl) (pmk_oex T.x_BadLog.oex T.x_BadLog.init T.t_init (ok_Refused___init__ T) (hr.mono (by decide)) T.b_Refused___init__ .nil pass0 rfl T.x_BadLog.g (pa_cons (pe_un un_neg pe_int) pa_nil)))) pss_nil)
        (pss_cons (ps_if (pt_cmpR op_gt (pv 1) (pe_glob rfl T.g_PAGES.2 T.g_PAGES.1) (nomark _)) (pss_one (ps_raise rfl (takes_of rfl rfl rfl rfl) (pmk_oex T.x_TooMany.oex T.x_TooMany.init T.t_init (ok_Refused___init__ T) (hr.mono (by decide)) T.b_Refused___init__ .nil pass0 rfl T.x_TooMany.g (pa_cons (pv 1) pa_nil)))) pss_nil)
        (pss_cons (ps_if (pt_cmpR op_gt (pe_callB (r := rLenQ K) call_lenQ (by rfl) T.n_len PySem.boot_len (pa_cons (pv 2) pa_nil)) (pe_glob rfl T.g_MOST_DEEDS.2 T.g_MOST_DEEDS.1) (nomark _)) (pss_one (ps_raise rfl (takes_of rfl rfl rfl rfl) (pmk_oex T.x_TooMany.oex T.x_TooMany.init T.t_init (ok_Refused___init__ T) (hr.mono (by decide)) T.b_Refused___init__ .nil pass0 rfl T.x_TooMany.g (pa_cons (pe_callB (r := rLenQ K) call_lenQ (by rfl) T.n_len PySem.boot_len (pa_cons (pv 2) pa_nil)) pa_nil)))) pss_nil)
        (pss_cons (ps_for (passes_of rfl) rfl (pi_enumS rfl T.n_enumerate (pa_cons (pv 2) pa_nil) pe_int (by decide)) (pg_tup rfl (pgs_cons (pg_name (i := 3) nd rfl (Or.inl rfl)) (pgs_cons (pg_name (i := 4) nd rfl (Or.inl rfl)) pgs_nil))) (pss_one (ps_if (pt_not (pt_val (pe_call (ok__is_bare_deed T) (hr.mono (by decide)) rfl T.g__is_bare_deed T.F__is_bare_deed.kp T.b__is_bare_deed .nil pass0 (pa_cons (pv 4) (pa_cons (pv 1) pa_nil))))) (pss_one (ps_raise rfl (takes_of rfl rfl rfl rfl) (pmk_oex T.x_BadLog.oex T.x_BadLog.init T.t_init (ok_Refused___init__ T) (hr.mono (by decide)) T.b_Refused___init__ .nil pass0 rfl T.x_BadLog.g (pa_cons (pv 3) pa_nil)))) pss_nil)))
        (pss_one (ps_ret (pe_tup (pa_cons (pv 1) (pa_cons (pe_callTy (r := rTupleOf K) call_tupleOf (by rfl) T.n_tuple (by decide +kernel) (pa_cons (pe_lc (own := [("page", 5), ("reads", 6)]) (g := gTup K 2 (gCons (gName 5) (gCons (gName 6) (gNil)))) rfl nd (pi_tup (pv 2)) (blkOk_by (own := [("page", 5), ("reads", 6)]) (N := ["thing", "many", "deeds", "number", "deed", "page", "reads"]) (sc := defScope s_made_log) (by decide +kernel)) (fun _ _ _ _ _ => (pg_tup rfl (pgs_cons (pg_name (i := 5) nd rfl (Or.inl rfl)) (pgs_cons (pg_name (i := 6) nd rfl (Or.inl rfl)) pgs_nil)))) (fun _ _ _ _ _ => pts_nil) (fun _ _ _ _ _ => (pe_tup (pa_cons (pv 5) (pa_cons (pv 6) pa_nil))))) pa_nil)) pa_nil))))))))))), ?_⟩
    have hf0 := T.x_BadLog
    have hf1 := T.x_TooMany
    try dsimp only [L2.cxOf, L2.Cx.nox, L2.Cx.wish]
    rw [show L2.start ["thing", "many", "deeds", "number", "deed", "page", "reads"] [V.ref a] = [some (V.ref a), none, none, none, none, none, none] from rfl]
    obtain ⟨b, xs, h1, h2, hd⟩ := hl
    have p1 := wf.p1
    have p2 := wf.p2
    have p3 := wf.n
    have hlen := hd.1
    walk_at "go"
    refine x_dec (fun z => absurd z (by omega)) (fun _ => ?_)
    walk_at "go"
    refine x_dec (fun z => absurd z (by omega)) (fun _ => ?_)
    walk_at "go"
    refine x_dec (fun z => absurd z (by omega)) (fun _ => ?_)
    walk_at "go"
    refine for_enumS (xs := xs) (c0 := 1) (fun i σ G => (∃ v1 v2 : Option V, σ = [some (V.ref a), some (nat P), some (V.ref b), v1, v2, none, none]) ∧ Stay [] H G) ⟨⟨none, none, rfl⟩, Stay.refl _ _⟩ ?_ ?_ ?_
    · rintro i σ G _ ⟨_, st⟩
      exact SqT.of (st.keep _ _ h2 nm0)
    · rintro i x σ G e ⟨⟨v1, v2, rfl⟩, st⟩ T' nT
      obtain ⟨d, ed, hdx⟩ := hd.get e
      have hx := (hdx.tk st.tk0).tk (Tk.updN (o := HO.tup [V.int (1 + (i : Nat)), x]) nT)
      walk_at "go"
      refine c_bare hx (wf.d d (List.mem_of_getElem? ed)) (by omega) ?_
      walk_at "go"
      exact ⟨⟨_, _, rfl⟩, Stay.new st (st.old T' nT)⟩
    · rintro σ G ⟨⟨v1, v2, rfl⟩, st⟩
      have g2 := st.keep _ _ h2 nm0
      walk_at "go"
      intro D nD
      have nHD := st.old D nD
      refine lc_tup (xs := xs) (fun i G' => Stay [] H G' ∧ ∃ ys, G' D = some (.lst ys) ∧ DeedsAt G' ys (ds.take i)) ⟨Stay.new st nHD, [], upd_same, DeedsAt.nil⟩ ?_ ?_ ?_
      · rintro i G' _ ⟨st', _⟩
        exact SqT.of (st'.keep _ _ h2 nm0)
      · rintro i x G' e ⟨st', ys, hD, hy⟩
        obtain ⟨d, ed, hdx⟩ := hd.get e
        have hx := hdx.tk st'.tk0
        obtain ⟨t, r, rfl, g3, g4⟩ := id hx
        have nrD : r ≠ D := ne_of g4 hD (by intro z; cases z)
        clear st
        walk_at "wp"
        walk_at "go"
        refine ⟨ys, by walk_at "hp", ?_, by walk_at "fr", ys ++ [_], upd_same, ?_⟩
        · have := hy.1
          rw [List.length_take] at this
          have := sizeLine_eq
          omega
        · rw [List.take_succ, ed]
          exact DeedsAt.snoc (hy.tk (by walk_at "tk")) ⟨_, r, rfl, by walk_at "hp", by walk_at "hp"⟩
      · rintro G' ⟨st', ys, hD, hy⟩
        rw [hlen, List.take_length] at hy
        clear st
        walk_at "go"
        exact k _ _ ⟨_, _, by walk_at "hp", by walk_at "hp", hy.tk (by walk_at "tk")⟩ (by walk_at "fr")
end
end WD

namespace WD
open PySem PySem.Spec PyProof.Rows L2
-- p ≠ q of two addresses
local macro_rules | `(tactic| walk_at "ne") => `(tactic| first
  | with_reducible assumption
  | with_reducible exact Ne.symm (by assumption)
  | exact ne_some (by with_reducible assumption) (by with_reducible assumption)
  | exact Ne.symm (ne_some (by with_reducible assumption) (by with_reducible assumption)))
local macro_rules | `(tactic| walk_at "nm") => `(tactic| first | with_reducible assumption | with_reducible exact nm0 | ((with_reducible refine' nmS ?a ?b); (case a => walk_at "ne"); (case b => walk_at "nm")))
-- H p = some ?o
local macro_rules | `(tactic| walk_at "hp") => `(tactic| first
  | with_reducible exact upd_same
  | with_reducible assumption
  | ((with_reducible refine' Eq.trans (upd_ne ?a) ?b); (case a => walk_at "ne"); (case b => walk_at "hp"))
  | exact Stay.keep (by with_reducible assumption) _ _ (by walk_at "hp") (by walk_at "nm"))
local macro_rules | `(tactic| walk_at "hpd") => `(tactic| ((refine' Eq.trans ?h ?e); (case h => walk_at "hp"); (case e => exact rfl)))
-- a new address
local macro_rules | `(tactic| walk_at "nw") => `(tactic| ((repeat first | (with_reducible refine' nw_upd ?_) | refine' nw_fr (by with_reducible assumption) ?_); intro p_; intros))
local macro_rules | `(tactic| walk_at "mem") => `(tactic| first | exact List.mem_cons_self | (refine' List.mem_cons_of_mem _ ?_; walk_at "mem"))
-- what stands stays
local macro_rules | `(tactic| walk_at "fr") => `(tactic| first
  | with_reducible assumption
  | exact Stay.refl _ _
  | ((with_reducible refine' Stay.upd ?a ?b); (case a => walk_at "fr"); (case b => walk_at "mem"))
  | ((with_reducible refine' Stay.new ?a ?b); (case b => with_reducible assumption); (case a => walk_at "fr"))
  | (refine' Stay.trans ?_ (by with_reducible assumption); walk_at "fr"))
local macro_rules | `(tactic| walk_at "sq") => `(tactic| first | with_reducible assumption | exact SqL.of (by walk_at "hp"))
local macro_rules | `(tactic| walk_at "sqt") => `(tactic| first | with_reducible assumption | exact SqT.of (by walk_at "hp"))
-- side goals
local macro_rules | `(tactic| walk_at "sd") => `(tactic| first
  | with_reducible assumption | with_reducible rfl | (show _ ≤ sizeLine; decide) | (refine Nat.le_trans (Nat.le_of_ble_eq_true (m := 1000) rfl) (by decide)) | decide | omega
  | exact IntMulOk.of_right (intBits_le_64 (by omega) (by omega)) | exact IntMulOk.of_left (intBits_le_64 (by omega) (by omega))
  | (refine' Or.inl ⟨?_, ?_⟩ <;> omega) | (refine' Or.inr ⟨?_, ?_⟩ <;> omega)
  | (refine' ⟨?_, ?_⟩ <;> walk_at "sd") | (refine' ⟨?_, ?_, ?_⟩ <;> walk_at "sd"))
local macro_rules | `(tactic| walk_at "set") => `(tactic| first | with_reducible exact set0 | with_reducible exact set1 | with_reducible exact set2 | with_reducible exact set3 | with_reducible exact set4 | with_reducible exact set5 | with_reducible exact set6 | with_reducible exact set7 | with_reducible exact set8 | with_reducible exact set9 | with_reducible exact set10 | with_reducible exact set11 | with_reducible exact set12 | with_reducible exact set13 | with_reducible exact set14 | with_reducible exact set15 | with_reducible exact set16 | with_reducible exact set17 | with_reducible exact set18 | with_reducible exact set19 | with_reducible exact set20)
-- one step
local macro_rules | `(tactic| walk_at "st0") => `(tactic| first
  | with_reducible refine' x_seq ?_
  | with_reducible refine' x_next ?_
  | with_reducible refine' x_ifS ?_
  | with_reducible refine' x_asg ?_
  | with_reducible refine' x_ret ?_
  | with_reducible refine' x_retN ?_
  | with_reducible refine' x_drop ?_
  | with_reducible refine' x_brk ?_
  | with_reducible refine' x_cont ?_
  | ((with_reducible refine' x_gName ?e ?_); (case e => walk_at "set"))
  | with_reducible refine' x_gSub ?_
  | with_reducible refine' x_gCons ?_
  | with_reducible refine' x_gNil ?_
  | with_reducible refine' x_c ?_
  | ((with_reducible refine' x_var ?e ?_); (case e => exact rfl))
  | with_reducible refine' x_op ?_
  | with_reducible refine' x_un ?_
  | with_reducible refine' x_if ?_
  | with_reducible refine' x_cb ?_
  | with_reducible refine' x_cons ?_
  | with_reducible refine' x_nil ?_
  | with_reducible refine' x_bm0 ?_
  | with_reducible refine' x_bm ?_
  | with_reducible refine' x_tup ?_
  | with_reducible refine' x_lst ?_
  | ((with_reducible refine' And.intro (a := _ ≤ sizeLine) ?e ?_); (case e => walk_at "sd"); walk_at "nw")
  | with_reducible refine' x_fld ?_
  | with_reducible refine' x_test ?_
  | with_reducible refine' x_tB ?_
  | with_reducible refine' x_and ?_
  | with_reducible refine' x_or ?_
  | with_reducible refine' x_not ?_
  | with_reducible refine' x_notV ?_
  | with_reducible refine' x_andV ?_
  | with_reducible refine' x_orV ?_
  | with_reducible refine' x_rI0 ?_
  | ((with_reducible refine' x_rI ?e ?_); (case e => walk_at "sd"))
  | with_reducible refine' x_rU ?_
  | ((with_reducible refine' x_rEq ?e ?_); (case e => exact rfl))
  | ((with_reducible refine' x_rNe ?e ?_); (case e => exact rfl))
  | ((with_reducible refine' x_ixL0 ?h ?_); (case h => walk_at "sq"))
  | ((with_reducible refine' x_ixL1 ?h ?_); (case h => walk_at "sq"))
  | ((with_reducible refine' x_ixL2 ?h ?_); (case h => walk_at "sq"))
  | ((with_reducible refine' x_ixL0I ?h ?_); (case h => walk_at "sq"))
  | ((with_reducible refine' x_ixL ?h ?e ?_); (case h => walk_at "sq"); (case e => exact rfl))
  | ((with_reducible refine' x_neNil ?h ?h2 ?_); (case h => walk_at "sq"); (case h2 => walk_at "sq"))
  | ((with_reducible refine' x_pop0I ?h ?_); (case h => walk_at "hp"))
  | ((with_reducible refine' x_pop0 ?h ?_); (case h => walk_at "hp"))
  | ((with_reducible refine' x_setL0 ?h ?_); (case h => walk_at "hp"))
  | ((with_reducible refine' x_setL1 ?h ?_); (case h => walk_at "hp"))
  | ((with_reducible refine' x_setL2 ?h ?_); (case h => walk_at "hp"))
  | ((with_reducible refine' x_setL ?h ?e ?_); (case h => walk_at "hp"); (case e => exact rfl))
  | with_reducible refine' .inl ⟨_, rfl, ?_⟩
  | ((with_reducible refine' x_tyL ?h ?_); (case h => walk_at "sq"))
  | with_reducible refine' ⟨_, rfl, ?_⟩)
-- a split
local macro_rules | `(tactic| walk_at "if") => `(tactic| (
  first
  | (with_reducible refine' x_dec (fun h_ => ?_) (fun h_ => ?_))
  | (with_reducible refine' x_decN (fun h_ => ?_) (fun h_ => ?_))
  | (with_reducible refine' x_boolN (fun h_ => ?_) (fun h_ => ?_))
  | (with_reducible refine' x_bool (fun h_ => ?_) (fun h_ => ?_))))
local macro_rules | `(tactic| walk_at "ifs") => `(tactic| (walk_at "if" <;> first
  | (exfalso; first | omega | contradiction)
  | (rename_i h_; (try simp only [BEq.rfl, List.length_map, List.length_cons, List.length_nil, Int.natCast_zero, Int.ofNat_zero, gt_iff_lt, Int.lt_irrefl, Bool.true_eq_false, Bool.false_eq_true, List.isEmpty_nil, List.isEmpty_cons, V.int.injEq, V.str.injEq, V.bl.injEq, reduceCtorEq, not_false_eq_true, not_true_eq_false] at h_); (try (exfalso; omega)))))
local macro_rules | `(tactic| walk_at "ite1") => `(tactic| first
  | with_reducible refine' x_T ?_
  | with_reducible refine' x_F ?_
  | with_reducible refine' x_nT ?_
  | with_reducible refine' x_nF ?_
  | ((with_reducible refine' x_bT ?e ?_); (case e => first | decide | decide +kernel))
  | ((with_reducible refine' x_bF ?e ?_); (case e => first | decide | decide +kernel)))
local macro_rules | `(tactic| walk_at "st") => `(tactic| ((fail_if_success (with_reducible (show (if _ then _ else _)))); walk_at "st0"))
local macro_rules | `(tactic| walk_at "go") => `(tactic| repeat first | walk_at "ite1" | walk_at "st")
local macro_rules | `(tactic| walk_at "gs") => `(tactic| repeat' first | walk_at "ite1" | walk_at "st" | walk_at "ifs")
local macro_rules | `(tactic| walk_at "sz") => `(tactic| first | with_reducible assumption | (refine Nat.le_trans (by assumption) (by decide : 100000 ≤ sizeLine)) | (refine Nat.le_trans (m := 100000) ?_ (by decide); (try simp only [len_add, rep_len]); (try rw [show (Str.ofString "z").length = 1 from rfl]); omega))
local macro_rules | `(tactic| walk_at "hn") => `(tactic| first | with_reducible assumption)
local macro_rules | `(tactic| walk_at "sqo") => `(tactic| first | exact Or.inl (by walk_at "sq") | exact Or.inr (by walk_at "sqt"))
local macro_rules | `(tactic| walk_at "ty1") => `(tactic| first | with_reducible assumption | exact Ty1.int _ | exact Ty1.str _ | exact Ty1.bl _ | exact Ty1.non | exact Ty1.tup (by walk_at "hp") | exact Ty1.lst (by walk_at "hp"))
local macro_rules | `(tactic| walk_at "st2") => `(tactic| first
  | with_reducible refine' And.intro (a := V.non = V.non) rfl ?_
  | with_reducible refine' x_call0 ?_
  | with_reducible refine' x_callS ?_
  | with_reducible refine' x_meth0 ?_
  | with_reducible refine' x_methW0 ?_
  | with_reducible refine' x_make0 ?_
  | with_reducible refine' x_makeW0 ?_
  | with_reducible refine' x_sFld ?_
  | with_reducible refine' x_mkO ?_
  | with_reducible refine' x_chain ?_
  | with_reducible refine' x_dget ?_
  | with_reducible refine' x_dget1 ?_
  | with_reducible refine' x_dget2 ?_
  | with_reducible refine' x_sDPut ?_
  | with_reducible refine' x_pairs ?_
  | with_reducible refine' x_pairs0 ?_
  | with_reducible refine' x_sl ?_
  | with_reducible refine' x_noPart ?_
  | with_reducible refine' x_part ?_
  | ((with_reducible refine' x_disp ?_); walk_at "nw")
  | ((with_reducible refine' x_dnew ?_); walk_at "nw")
  | ((with_reducible refine' x_rz ?h ?_); (case h => walk_at "cf"); walk_at "nw")
  | ((with_reducible refine' x_isi ?h ?e ?_); (case h => walk_at "ty1"); (case e => decide))
  | ((with_reducible refine' x_fldR ?h ?c ?n ?e ?_); (case h => walk_at "hp"); (case c => walk_at "cf"); (case n => walk_at "cf"); (case e => walk_at "fl"))
  | ((with_reducible refine' x_onIns ?h ?n ?_); (case h => walk_at "hp"); (case n => walk_at "fl"))
  | ((with_reducible refine' x_addS ?l ?_); (case l => walk_at "sz"))
  | ((with_reducible refine' x_lenS ?l ?_); (case l => walk_at "sz"))
  | ((with_reducible refine' x_lenL ?h ?_); (case h => walk_at "sqo"))
  | ((with_reducible refine' x_slL ?h rfl ?_); (case h => walk_at "sq"); walk_at "nw")
  | ((with_reducible refine' x_listOf ?h ?_); (case h => walk_at "sqo"); walk_at "nw")
  | ((with_reducible refine' x_strmul ?c ?_); (case c => (refine' ⟨?_, ?_, ?_⟩ <;> first | omega | decide +kernel)))
  | ((with_reducible refine' x_isD2 ?h ?_); (case h => walk_at "hp"))
  | ((with_reducible refine' x_getI ?h ?_); (case h => walk_at "hp"))
  | ((with_reducible refine' x_getS ?h ?_); (case h => walk_at "hp"))
  | ((with_reducible refine' x_dgetS ?h ?e ?_); (case h => walk_at "hp"); (case e => walk_at "fl"))
  | ((with_reducible refine' x_ixT ?h ?e ?_); (case h => walk_at "sqt"); (case e => exact rfl))
  | ((with_reducible refine' x_gTup ?h ?e ?_); (case h => walk_at "sqt"); (case e => exact rfl)))
local macro_rules | `(tactic| walk_at "st0") => `(tactic| walk_at "st2")
local macro_rules | `(tactic| walk_at "fl") => `(tactic| first
  | with_reducible exact lk_hd
  | ((with_reducible refine' lk_tl ?n ?h); (case n => walk_at "nq"); (case h => walk_at "fl"))
  | with_reducible exact lk_nil
  | with_reducible exact pf_hd
  | ((with_reducible refine' pf_tl ?n ?h); (case n => walk_at "nq"); (case h => walk_at "fl"))
  | with_reducible exact pf_nil
  | with_reducible exact vl_hd
  | ((with_reducible refine' vl_tl ?n ?h); (case n => walk_at "nr"); (case h => walk_at "fl"))
  | with_reducible exact vl_nil
  | ((with_reducible refine' pk_hd ?n); (case n => rfl))
  | ((with_reducible refine' pk_tl ?n ?t ?h); (case n => walk_at "nr"); (case t => rfl); (case h => walk_at "fl")))
local macro_rules | `(tactic| walk_at "cf") => `(tactic| with_reducible assumption)
local macro_rules | `(tactic| walk_at "st0") => `(tactic| first
  | ((with_reducible refine' x_sFldR ?h ?c ?n ?l ?e ?_); (case h => walk_at "hp"); (case c => walk_at "cf"); (case n => walk_at "cf"); (case l => exact Nat.le_of_ble_eq_true rfl); (case e => walk_at "fl")))
local macro_rules | `(tactic| walk_at "pool") => `(tactic| first
  | with_reducible assumption
  | exact Pool.ne (by walk_at "pool") (by walk_at "ne") (by walk_at "ne")
  | exact Pool.stay (by walk_at "pool") (by with_reducible assumption) (by walk_at "nm") (by walk_at "nm"))
local macro_rules | `(tactic| walk_at "szl") => `(tactic| first | exact Nat.lt_of_le_of_lt (Nat.le_of_ble_eq_true (m := 1000) rfl) (by decide) | exact Nat.lt_of_le_of_lt (by with_reducible assumption) (by decide : 1000 < sizeLine))
local macro_rules | `(tactic| walk_at "st0") => `(tactic| first
  | ((with_reducible refine' x_putS ?h ?l ?e ?_); (case h => walk_at "hp"); (case l => walk_at "szl"); (case e => walk_at "fl"))
  | ((with_reducible refine' x_setD ?h ?l ?e ?_); (case h => walk_at "hp"); (case l => walk_at "szl"); (case e => walk_at "fl"))
  | ((with_reducible refine' x_putI ?h ?l ?_); (case h => walk_at "hp"); (case l => walk_at "szl")))
local macro_rules | `(tactic| walk_at "st0") => `(tactic| first
  | ((with_reducible refine' x_rowN ?e ?_); (case e => walk_at "cf"); walk_at "nw"; (try dsimp only [List.set]))
  | ((with_reducible refine' x_rowF ?e ?_); (case e => walk_at "cf"))
  | with_reducible refine' x_xw ?_
  | ((with_reducible refine' x_xwR ?t ?h ?_); (case t => walk_at "cf"); (case h => walk_at "hp")))
local macro_rules | `(tactic| walk_at "st0") => `(tactic| first
  | ((with_reducible refine' x_isXR ?k ?x ?h ?e ?_); (case k => exact ClsV.own _); (case x => exact ExT.xc (by with_reducible assumption)); (case h => walk_at "hp"); (case e => walk_at "cf")))
local macro_rules | `(tactic| walk_at "st0") => `(tactic| first
  | with_reducible refine' x_for ?_
  | with_reducible refine' x_rng1 ?_
  | with_reducible refine' x_rng2 ?_
  | with_reducible refine' x_iList ?_
  | with_reducible refine' x_iTup ?_
  | with_reducible refine' x_par ?_
  | with_reducible refine' x_yes ?_
  | with_reducible refine' x_lc ?_
  | ((with_reducible refine' x_itL ?h ?_); (case h => walk_at "sq"))
  | ((with_reducible refine' x_itT ?h ?_); (case h => walk_at "sqt"))
  | ((with_reducible refine' x_catL ?h ?h2 ?l ?_); (case h => walk_at "hp"); (case h2 => walk_at "hp"); (case l => walk_at "sd"); walk_at "nw")
  | ((with_reducible refine' And.intro (a := List.set _ _ none = _) ?e ?_); (case e => exact rfl))
  | ((with_reducible refine' x_gNameS ?e1 ?e ?_); (case e1 => walk_at "set"); (case e => walk_at "set")))
local macro_rules | `(tactic| walk_at "st0") => `(tactic| first
  | ((with_reducible refine' x_lenQL ?h ?_); (case h => walk_at "sq"))
  | ((with_reducible refine' x_lenQT ?h ?_); (case h => walk_at "sqt"))
  | ((with_reducible refine' x_listOfL ?h ?_); (case h => walk_at "sq"); walk_at "nw")
  | ((with_reducible refine' x_listOfT ?h ?_); (case h => walk_at "sqt"); walk_at "nw")
  | ((with_reducible refine' x_tupOfL ?h ?_); (case h => walk_at "sq"); walk_at "nw")
  | ((with_reducible refine' x_sum ?h ?_); (case h => walk_at "sq"))
  | with_reducible refine' x_enumS ?_
  | ((with_reducible refine' x_qEnumS ?h ?_); (case h => walk_at "sqt"))
  | ((with_reducible refine' x_ixL ?h ?e ?_); (case h => walk_at "sq"); (case e => with_reducible assumption))
  | ((with_reducible refine' x_ixT ?h ?e ?_); (case h => walk_at "sqt"); (case e => with_reducible assumption)))
local macro_rules | `(tactic| walk_at "st0") => `(tactic| first
  | ((with_reducible refine' x_lenMT ?h ?_); (case h => walk_at "sqt"))
  | ((with_reducible refine' x_lenML ?h ?_); (case h => walk_at "sq")))
local macro_rules | `(tactic| walk_at "st0") => `(tactic| first
  | ((with_reducible refine' x_lenT2 ?h ?_); (case h => walk_at "sqt"))
  | ((with_reducible refine' x_lenT1 ?h ?_); (case h => walk_at "sqt")))
local macro_rules | `(tactic| walk_at "nn") => `(tactic| first | with_reducible assumption | ((with_reducible refine' Eq.trans (upd_ne ?a) ?b); (case a => walk_at "ne"); (case b => walk_at "nn")))
local macro_rules | `(tactic| walk_at "tk") => `(tactic| first
  | exact Tk.refl _
  | with_reducible assumption
  | ((with_reducible refine' Tk.trans ?a (Tk.updN ?b)); (case b => walk_at "nn"); (case a => walk_at "tk"))
  | ((with_reducible refine' Tk.trans ?a (Tk.updL' ?b)); (case b => exact ⟨_, by walk_at "hp"⟩); (case a => walk_at "tk"))
  | exact Stay.tk0 (by with_reducible assumption))
local macro_rules | `(tactic| walk_at "st0") => `(tactic| first
  | ((with_reducible refine' x_setLk ?h ?e ?_); (case h => walk_at "hp"); (case e => with_reducible assumption)))
local macro_rules | `(tactic| walk_at "wp") => `(tactic| (dsimp only [wipe, List.map]; (try simp only [set0, set1, set2, set3, set4, set5, set6, set7, set8, set9, set10, set11, set12, set13, set14, set15, set16, set17, set18, set19, set20])))
local macro_rules | `(tactic| walk_at "nq") => `(tactic| decide +kernel)
local macro_rules | `(tactic| walk_at "nr") => `(tactic| decide +kernel)
local macro_rules | `(tactic| walk_at "st0") => `(tactic| ((with_reducible refine' c_draw ?h ?m (fun d_ H_ lo_ hi_ pl_ st_ => ?_)); (case h => walk_at "pool"); (case m => first | with_reducible assumption | (refine' ⟨?_, ?_⟩ <;> first | decide | omega))))
local macro_rules | `(tactic| walk_at "st0") => `(tactic| ((with_reducible refine' c_is_number ?h ?_); (case h => walk_at "ty1")))
local macro_rules | `(tactic| walk_at "st0") => `(tactic| ((with_reducible refine' c_is_within ?h ?_); (case h => walk_at "ty1")))
section
variable {P : Program} {w : World} {K : PySem.W.Frag} {mg : Str → Option Value} {base : Heap}
def sp_needs (K : PySem.W.Frag) : Sp := fun vs H Q _ => ∃ a P ds, vs = [.ref a] ∧ LogAt H a P ds ∧ Wf P ds ∧ ∀ r ns H', H' r = some (.tup (ns.map nat)) → Bt P ns (Ed ds) → Stay [] H H' → Q (.ref r) H'
theorem c_needs {K : PySem.W.Frag} {a : Addr} {P : Nat} {ds : List Deed} {H : Hp} {Q : VK} {E : XK} (h : LogAt H a P ds) (w : Wf P ds) (q : ∀ r ns H', H' r = some (.tup (ns.map nat)) → Bt P ns (Ed ds) → Stay [] H H' → Q (.ref r) H') : sp_needs K [.ref a] H Q E := ⟨a, P, ds, rfl, h, w, q⟩
theorem Ed.take {ds : List Deed} {i : Nat} {d : Deed} (e : ds[i]? = some d) {x y : Nat} : Ed (ds.take (i + 1)) x y ↔ Ed (ds.take i) x y ∨ (x = d.1 ∧ y ∈ d.2) := by
  unfold Ed
  rw [List.take_succ, e]
  constructor
  · rintro ⟨c, hc, e1, e2⟩
    rcases List.mem_append.mp hc with h | h
    · exact .inl ⟨c, h, e1, e2⟩
    · have : c = d := by simpa using h
      subst this; exact .inr ⟨e1.symm, e2⟩
  · rintro (⟨c, hc, e1, e2⟩ | ⟨e1, e2⟩)
    · exact ⟨c, List.mem_append_left _ hc, e1, e2⟩
    · exact ⟨d, List.mem_append_right _ (by simp), e1.symm, e2⟩
theorem sc_needs_of : FnScope ["log", "many", "deeds", "needs", "page", "reads", "read"] ["log"] (defScope s_needs_of) := ⟨rfl, rfl, rfl, by decide +kernel, rfl, by decide +kernel, by decide +kernel⟩
theorem ok_needs_of (T : G K mg) : FnOk P w K mg base CX0 1 T.f_needs_of T.d_needs_of ["log"] (sp_needs K) := by
  refine T.F_needs_of.ok sc_needs_of (fun vs H Q E h => ?_) (fun cdv A outer s H vs Q E hr h => ?_)
  · obtain ⟨a, P, ds, rfl, hl, wf, k⟩ := h
    rfl
  · obtain ⟨a, P, ds, rfl, hl, wf, k⟩ := h
    have hu := hu_of hr
    have nd := sc_needs_of.nd
    refine ⟨_, (pss_cons (ps_asg (pv 0) (pg_tup rfl (pgs_cons (pg_name (i := 1) nd rfl (Or.inl rfl)) (pgs_cons (pg_name (i := 2) nd rfl (Or.inl rfl)) pgs_nil))))
        (pss_cons (ps_set (i := 3) nd rfl (Or.inl rfl) (pe_op op_rep (pe_lst (pa_cons pe_int pa_nil)) (pv 1)))
        (pss_cons (ps_for PassesOwn.never rfl (pi_tup (pv 2)) (pg_tup rfl (pgs_cons (pg_name (i := 4) nd rfl (Or.inl rfl)) (pgs_cons (pg_name (i := 5) nd rfl (Or.inl rfl)) pgs_nil))) (pss_one (ps_for PassesOwn.never rfl (pi_tup (pv 5)) (pg_name (i := 6) nd rfl (Or.inl rfl)) (pss_one (ps_asg (pe_op op_or (pe_ix ix_list (pv 3) (pv 4) (fun _ _ => rfl)) (pe_op op_shl pe_int (pv 6))) (pg_sub (pv 3) (pv 4) set_list))))))
        (pss_one (ps_ret (pe_callTy (r := rTupleOf K) call_tupleOf (by rfl) T.n_tuple (by decide +kernel) (pa_cons (pv 3) pa_nil))))))), ?_⟩
    try dsimp only [L2.cxOf, L2.Cx.nox, L2.Cx.wish]
    rw [show L2.start ["log", "many", "deeds", "needs", "page", "reads", "read"] [V.ref a] = [some (V.ref a), none, none, none, none, none, none] from rfl]
    obtain ⟨b, xs, h1, h2, hd⟩ := hl
    have p1 := wf.p1
    have p2 := wf.p2
    have p3 := wf.n
    have hlen := hd.1
    walk_at "go"
    refine' x_rep ?h (by omega) ?hl ?_
    case h => walk_at "hp"
    case hl => have := sizeLine_eq; simp; omega
    walk_at "nw"
    rename_i z0 nz N nHN nNz
    rw [rep0]
    walk_at "go"
    refine for_tup (xs := xs) (fun i σ G => (∃ v1 v2 v3 : Option V, σ = [some (V.ref a), some (nat P), some (V.ref b), some (V.ref N), v1, v2, v3]) ∧ Stay [] H G ∧ ∃ ns, G N = some (.lst (ns.map nat)) ∧ Bt P ns (Ed (ds.take i))) ⟨⟨_, _, _, rfl⟩, by walk_at "fr", _, upd_same, ⟨by simp, fun x hx y => ?_⟩⟩ ?_ ?_ ?_
    · have e0 : (List.replicate P 0).getD x 0 = 0 := by
        rw [List.getD_eq_getElem?_getD, List.getElem?_replicate, if_pos hx]; rfl
      rw [e0, Nat.zero_testBit]
      constructor
      · intro z; cases z
      · rintro ⟨c, hc, _⟩; simp at hc
    · rintro i σ G _ ⟨_, st, _⟩
      exact SqT.of (st.keep _ _ h2 nm0)
    · rintro i x σ G e ⟨⟨v1, v2, v3, rfl⟩, st, ns, hN, hb⟩
      obtain ⟨d, ed, hdx⟩ := hd.get e
      have hw := wf.d d (List.mem_of_getElem? ed)
      obtain ⟨t, r, rfl, g3, g4⟩ := hdx.tk st.tk0
      walk_at "go"
      refine for_tup (xs := d.2.map nat) (fun j σ G' => (∃ v : Option V, σ = [some (V.ref a), some (nat P), some (V.ref b), some (V.ref N), some (nat d.1), some (V.ref r), v]) ∧ Stay [] H G' ∧ Tk G G' ∧ ∃ ms, G' N = some (.lst (ms.map nat)) ∧ Bt P ms (fun x y => Ed (ds.take i) x y ∨ (x = d.1 ∧ y ∈ d.2.take j))) ⟨⟨_, rfl⟩, st, Tk.refl _, ns, hN, hb.mono fun x hx y => ?_⟩ ?_ ?_ ?_
      · simp
      · rintro j σ G' _ ⟨_, _, tk, _⟩
        exact SqT.of (tk _ _ g4)
      · rintro j x σ G' e2 ⟨⟨v, rfl⟩, st', tk, ms, hN', hb'⟩
        obtain ⟨s, es, rfl⟩ : ∃ s, d.2[j]? = some s ∧ nat s = x := by simpa using e2
        obtain ⟨r1, r2⟩ := hw.rd s (List.mem_of_getElem? es)
        have q1 := hw.pg
        have hml : d.1 < ms.length := by rw [hb'.len]; exact q1
        have hix := atNat hml
        have hset := ixNat hml
        clear st hN
        walk_at "go"
        refine ⟨⟨_, rfl⟩, ?_, tk.trans (by walk_at "tk"), ms.set d.1 (ms.getD d.1 0 ||| (1 * 2 ^ s)), ?_, (hb'.read (r := s) q1).mono fun x hx y => ?_⟩
        · exact Stay.new st' nHN
        · rw [upd_same, Int.toNat_natCast, show ((1 : Int) * 2 ^ s) = ((1 * 2 ^ s : Nat) : Int) by push_cast; rfl, bitOr_nat, ← List.map_set]
        · rw [List.take_succ, es]
          simp only [Option.toList_some, List.mem_append, List.mem_singleton]
          constructor
          · rintro ((h | ⟨h, g⟩) | ⟨h, g⟩)
            · exact .inl h
            · exact .inr ⟨h, .inl g⟩
            · exact .inr ⟨h, .inr g⟩
          · rintro (h | ⟨h, g | g⟩)
            · exact .inl (.inl h)
            · exact .inl (.inr ⟨h, g⟩)
            · exact .inr ⟨h, g⟩
      · rintro σ G' ⟨⟨v, rfl⟩, st', tk, ms, hN', hb'⟩
        rw [List.length_map, List.take_length] at hb'
        exact ⟨⟨_, _, _, rfl⟩, st', ms, hN', hb'.mono fun x hx y => (Ed.take ed).symm⟩
    · rintro σ G ⟨⟨v1, v2, v3, rfl⟩, st, ns, hN, hb⟩
      rw [hlen, List.take_length] at hb
      walk_at "go"
      exact k _ ns _ (by walk_at "hp") hb (by walk_at "fr")
end
end WD

namespace WD
open PySem PySem.Spec PyProof.Rows L2
-- p ≠ q of two addresses
local macro_rules | `(tactic| walk_at "ne") => `(tactic| first
  | with_reducible assumption
  | with_reducible exact Ne.symm (by assumption)
  | exact ne_some (by with_reducible assumption) (by with_reducible assumption)
  | exact Ne.symm (ne_some (by with_reducible assumption) (by with_reducible assumption)))
local macro_rules | `(tactic| walk_at "nm") => `(tactic| first | with_reducible assumption | with_reducible exact nm0 | ((with_reducible refine' nmS ?a ?b); (case a => walk_at "ne"); (case b => walk_at "nm")))
-- H p = some ?o
local macro_rules | `(tactic| walk_at "hp") => `(tactic| first
  | with_reducible exact upd_same
  | with_reducible assumption
  | ((with_reducible refine' Eq.trans (upd_ne ?a) ?b); (case a => walk_at "ne"); (case b => walk_at "hp"))
  | exact Stay.keep (by with_reducible assumption) _ _ (by walk_at "hp") (by walk_at "nm"))
local macro_rules | `(tactic| walk_at "hpd") => `(tactic| ((refine' Eq.trans ?h ?e); (case h => walk_at "hp"); (case e => exact rfl)))
-- a new address
local macro_rules | `(tactic| walk_at "nw") => `(tactic| ((repeat first | (with_reducible refine' nw_upd ?_) | refine' nw_fr (by with_reducible assumption) ?_); intro p_; intros))
local macro_rules | `(tactic| walk_at "mem") => `(tactic| first | exact List.mem_cons_self | (refine' List.mem_cons_of_mem _ ?_; walk_at "mem"))
-- what stands stays
local macro_rules | `(tactic| walk_at "fr") => `(tactic| first
  | with_reducible assumption
  | exact Stay.refl _ _
  | ((with_reducible refine' Stay.upd ?a ?b); (case a => walk_at "fr"); (case b => walk_at "mem"))
  | ((with_reducible refine' Stay.new ?a ?b); (case b => with_reducible assumption); (case a => walk_at "fr"))
  | (refine' Stay.trans ?_ (by with_reducible assumption); walk_at "fr"))
local macro_rules | `(tactic| walk_at "sq") => `(tactic| first | with_reducible assumption | exact SqL.of (by walk_at "hp"))
local macro_rules | `(tactic| walk_at "sqt") => `(tactic| first | with_reducible assumption | exact SqT.of (by walk_at "hp"))
-- side goals
local macro_rules | `(tactic| walk_at "sd") => `(tactic| first
  | with_reducible assumption | with_reducible rfl | (show _ ≤ sizeLine; decide) | (refine Nat.le_trans (Nat.le_of_ble_eq_true (m := 1000) rfl) (by decide)) | decide | omega
  | exact IntMulOk.of_right (intBits_le_64 (by omega) (by omega)) | exact IntMulOk.of_left (intBits_le_64 (by omega) (by omega))
  | (refine' Or.inl ⟨?_, ?_⟩ <;> omega) | (refine' Or.inr ⟨?_, ?_⟩ <;> omega)
  | (refine' ⟨?_, ?_⟩ <;> walk_at "sd") | (refine' ⟨?_, ?_, ?_⟩ <;> walk_at "sd"))
local macro_rules | `(tactic| walk_at "set") => `(tactic| first | with_reducible exact set0 | with_reducible exact set1 | with_reducible exact set2 | with_reducible exact set3 | with_reducible exact set4 | with_reducible exact set5 | with_reducible exact set6 | with_reducible exact set7 | with_reducible exact set8 | with_reducible exact set9 | with_reducible exact set10 | with_reducible exact set11 | with_reducible exact set12 | with_reducible exact set13 | with_reducible exact set14 | with_reducible exact set15 | with_reducible exact set16 | with_reducible exact set17 | with_reducible exact set18 | with_reducible exact set19 | with_reducible exact set20)
-- one step
local macro_rules | `(tactic| walk_at "st0") => `(tactic| first
  | with_reducible refine' x_seq ?_
  | with_reducible refine' x_next ?_
  | with_reducible refine' x_ifS ?_
  | with_reducible refine' x_asg ?_
  | with_reducible refine' x_ret ?_
  | with_reducible refine' x_retN ?_
  | with_reducible refine' x_drop ?_
  | with_reducible refine' x_brk ?_
  | with_reducible refine' x_cont ?_
  | ((with_reducible refine' x_gName ?e ?_); (case e => walk_at "set"))
  | with_reducible refine' x_gSub ?_
  | with_reducible refine' x_gCons ?_
  | with_reducible refine' x_gNil ?_
  | with_reducible refine' x_c ?_
  | ((with_reducible refine' x_var ?e ?_); (case e => exact rfl))
  | with_reducible refine' x_op ?_
  | with_reducible refine' x_un ?_
  | with_reducible refine' x_if ?_
  | with_reducible refine' x_cb ?_
  | with_reducible refine' x_cons ?_
  | with_reducible refine' x_nil ?_
  | with_reducible refine' x_bm0 ?_
  | with_reducible refine' x_bm ?_
  | with_reducible refine' x_tup ?_
  | with_reducible refine' x_lst ?_
  | ((with_reducible refine' And.intro (a := _ ≤ sizeLine) ?e ?_); (case e => walk_at "sd"); walk_at "nw")
  | with_reducible refine' x_fld ?_
  | with_reducible refine' x_test ?_
  | with_reducible refine' x_tB ?_
  | with_reducible refine' x_and ?_
  | with_reducible refine' x_or ?_
  | with_reducible refine' x_not ?_
  | with_reducible refine' x_notV ?_
  | with_reducible refine' x_andV ?_
  | with_reducible refine' x_orV ?_
  | with_reducible refine' x_rI0 ?_
  | ((with_reducible refine' x_rI ?e ?_); (case e => walk_at "sd"))
  | with_reducible refine' x_rU ?_
  | ((with_reducible refine' x_rEq ?e ?_); (case e => exact rfl))
  | ((with_reducible refine' x_rNe ?e ?_); (case e => exact rfl))
  | ((with_reducible refine' x_ixL0 ?h ?_); (case h => walk_at "sq"))
  | ((with_reducible refine' x_ixL1 ?h ?_); (case h => walk_at "sq"))
  | ((with_reducible refine' x_ixL2 ?h ?_); (case h => walk_at "sq"))
  | ((with_reducible refine' x_ixL0I ?h ?_); (case h => walk_at "sq"))
  | ((with_reducible refine' x_ixL ?h ?e ?_); (case h => walk_at "sq"); (case e => exact rfl))
  | ((with_reducible refine' x_neNil ?h ?h2 ?_); (case h => walk_at "sq"); (case h2 => walk_at "sq"))
  | ((with_reducible refine' x_pop0I ?h ?_); (case h => walk_at "hp"))
  | ((with_reducible refine' x_pop0 ?h ?_); (case h => walk_at "hp"))
  | ((with_reducible refine' x_setL0 ?h ?_); (case h => walk_at "hp"))
  | ((with_reducible refine' x_setL1 ?h ?_); (case h => walk_at "hp"))
  | ((with_reducible refine' x_setL2 ?h ?_); (case h => walk_at "hp"))
  | ((with_reducible refine' x_setL ?h ?e ?_); (case h => walk_at "hp"); (case e => exact rfl))
  | with_reducible refine' .inl ⟨_, rfl, ?_⟩
  | ((with_reducible refine' x_tyL ?h ?_); (case h => walk_at "sq"))
  | with_reducible refine' ⟨_, rfl, ?_⟩)
-- a split
local macro_rules | `(tactic| walk_at "if") => `(tactic| (
  first
  | (with_reducible refine' x_dec (fun h_ => ?_) (fun h_ => ?_))
  | (with_reducible refine' x_decN (fun h_ => ?_) (fun h_ => ?_))
  | (with_reducible refine' x_boolN (fun h_ => ?_) (fun h_ => ?_))
  | (with_reducible refine' x_bool (fun h_ => ?_) (fun h_ => ?_))))
local macro_rules | `(tactic| walk_at "ifs") => `(tactic| (walk_at "if" <;> first
  | (exfalso; first | omega | contradiction)
  | (rename_i h_; (try simp only [BEq.rfl, List.length_map, List.length_cons, List.length_nil, Int.natCast_zero, Int.ofNat_zero, gt_iff_lt, Int.lt_irrefl, Bool.true_eq_false, Bool.false_eq_true, List.isEmpty_nil, List.isEmpty_cons, V.int.injEq, V.str.injEq, V.bl.injEq, reduceCtorEq, not_false_eq_true, not_true_eq_false] at h_); (try (exfalso; omega)))))
local macro_rules | `(tactic| walk_at "ite1") => `(tactic| first
  | with_reducible refine' x_T ?_
  | with_reducible refine' x_F ?_
  | with_reducible refine' x_nT ?_
  | with_reducible refine' x_nF ?_
  | ((with_reducible refine' x_bT ?e ?_); (case e => first | decide | decide +kernel))
  | ((with_reducible refine' x_bF ?e ?_); (case e => first | decide | decide +kernel)))
local macro_rules | `(tactic| walk_at "st") => `(tactic| ((fail_if_success (with_reducible (show (if _ then _ else _)))); walk_at "st0"))
local macro_rules | `(tactic| walk_at "go") => `(tactic| repeat first | walk_at "ite1" | walk_at "st")
local macro_rules | `(tactic| walk_at "gs") => `(tactic| repeat' first | walk_at "ite1" | walk_at "st" | walk_at "ifs")
local macro_rules | `(tactic| walk_at "sz") => `(tactic| first | with_reducible assumption | (refine Nat.le_trans (by assumption) (by decide : 100000 ≤ sizeLine)) | (refine Nat.le_trans (m := 100000) ?_ (by decide); (try simp only [len_add, rep_len]); (try rw [show (Str.ofString "z").length = 1 from rfl]); omega))
local macro_rules | `(tactic| walk_at "hn") => `(tactic| first | with_reducible assumption)
local macro_rules | `(tactic| walk_at "sqo") => `(tactic| first | exact Or.inl (by walk_at "sq") | exact Or.inr (by walk_at "sqt"))
local macro_rules | `(tactic| walk_at "ty1") => `(tactic| first | with_reducible assumption | exact Ty1.int _ | exact Ty1.str _ | exact Ty1.bl _ | exact Ty1.non | exact Ty1.tup (by walk_at "hp") | exact Ty1.lst (by walk_at "hp"))
local macro_rules | `(tactic| walk_at "st2") => `(tactic| first
  | with_reducible refine' And.intro (a := V.non = V.non) rfl ?_
  | with_reducible refine' x_call0 ?_
  | with_reducible refine' x_callS ?_
  | with_reducible refine' x_meth0 ?_
  | with_reducible refine' x_methW0 ?_
  | with_reducible refine' x_make0 ?_
  | with_reducible refine' x_makeW0 ?_
  | with_reducible refine' x_sFld ?_
  | with_reducible refine' x_mkO ?_
  | with_reducible refine' x_chain ?_
  | with_reducible refine' x_dget ?_
  | with_reducible refine' x_dget1 ?_
  | with_reducible refine' x_dget2 ?_
  | with_reducible refine' x_sDPut ?_
  | with_reducible refine' x_pairs ?_
  | with_reducible refine' x_pairs0 ?_
  | with_reducible refine' x_sl ?_
  | with_reducible refine' x_noPart ?_
  | with_reducible refine' x_part ?_
  | ((with_reducible refine' x_disp ?_); walk_at "nw")
  | ((with_reducible refine' x_dnew ?_); walk_at "nw")
  | ((with_reducible refine' x_rz ?h ?_); (case h => walk_at "cf"); walk_at "nw")
  | ((with_reducible refine' x_isi ?h ?e ?_); (case h => walk_at "ty1"); (case e => decide))
  | ((with_reducible refine' x_fldR ?h ?c ?n ?e ?_); (case h => walk_at "hp"); (case c => walk_at "cf"); (case n => walk_at "cf"); (case e => walk_at "fl"))
  | ((with_reducible refine' x_onIns ?h ?n ?_); (case h => walk_at "hp"); (case n => walk_at "fl"))
  | ((with_reducible refine' x_addS ?l ?_); (case l => walk_at "sz"))
  | ((with_reducible refine' x_lenS ?l ?_); (case l => walk_at "sz"))
  | ((with_reducible refine' x_lenL ?h ?_); (case h => walk_at "sqo"))
  | ((with_reducible refine' x_slL ?h rfl ?_); (case h => walk_at "sq"); walk_at "nw")
  | ((with_reducible refine' x_listOf ?h ?_); (case h => walk_at "sqo"); walk_at "nw")
  | ((with_reducible refine' x_strmul ?c ?_); (case c => (refine' ⟨?_, ?_, ?_⟩ <;> first | omega | decide +kernel)))
  | ((with_reducible refine' x_isD2 ?h ?_); (case h => walk_at "hp"))
  | ((with_reducible refine' x_getI ?h ?_); (case h => walk_at "hp"))
  | ((with_reducible refine' x_getS ?h ?_); (case h => walk_at "hp"))
  | ((with_reducible refine' x_dgetS ?h ?e ?_); (case h => walk_at "hp"); (case e => walk_at "fl"))
  | ((with_reducible refine' x_ixT ?h ?e ?_); (case h => walk_at "sqt"); (case e => exact rfl))
  | ((with_reducible refine' x_gTup ?h ?e ?_); (case h => walk_at "sqt"); (case e => exact rfl)))
local macro_rules | `(tactic| walk_at "st0") => `(tactic| walk_at "st2")
local macro_rules | `(tactic| walk_at "fl") => `(tactic| first
  | with_reducible exact lk_hd
  | ((with_reducible refine' lk_tl ?n ?h); (case n => walk_at "nq"); (case h => walk_at "fl"))
  | with_reducible exact lk_nil
  | with_reducible exact pf_hd
  | ((with_reducible refine' pf_tl ?n ?h); (case n => walk_at "nq"); (case h => walk_at "fl"))
  | with_reducible exact pf_nil
  | with_reducible exact vl_hd
  | ((with_reducible refine' vl_tl ?n ?h); (case n => walk_at "nr"); (case h => walk_at "fl"))
  | with_reducible exact vl_nil
  | ((with_reducible refine' pk_hd ?n); (case n => rfl))
  | ((with_reducible refine' pk_tl ?n ?t ?h); (case n => walk_at "nr"); (case t => rfl); (case h => walk_at "fl")))
local macro_rules | `(tactic| walk_at "cf") => `(tactic| with_reducible assumption)
local macro_rules | `(tactic| walk_at "st0") => `(tactic| first
  | ((with_reducible refine' x_sFldR ?h ?c ?n ?l ?e ?_); (case h => walk_at "hp"); (case c => walk_at "cf"); (case n => walk_at "cf"); (case l => exact Nat.le_of_ble_eq_true rfl); (case e => walk_at "fl")))
local macro_rules | `(tactic| walk_at "pool") => `(tactic| first
  | with_reducible assumption
  | exact Pool.ne (by walk_at "pool") (by walk_at "ne") (by walk_at "ne")
  | exact Pool.stay (by walk_at "pool") (by with_reducible assumption) (by walk_at "nm") (by walk_at "nm"))
local macro_rules | `(tactic| walk_at "szl") => `(tactic| first | exact Nat.lt_of_le_of_lt (Nat.le_of_ble_eq_true (m := 1000) rfl) (by decide) | exact Nat.lt_of_le_of_lt (by with_reducible assumption) (by decide : 1000 < sizeLine))
local macro_rules | `(tactic| walk_at "st0") => `(tactic| first
  | ((with_reducible refine' x_putS ?h ?l ?e ?_); (case h => walk_at "hp"); (case l => walk_at "szl"); (case e => walk_at "fl"))
  | ((with_reducible refine' x_setD ?h ?l ?e ?_); (case h => walk_at "hp"); (case l => walk_at "szl"); (case e => walk_at "fl"))
  | ((with_reducible refine' x_putI ?h ?l ?_); (case h => walk_at "hp"); (case l => walk_at "szl")))
local macro_rules | `(tactic| walk_at "st0") => `(tactic| first
  | ((with_reducible refine' x_rowN ?e ?_); (case e => walk_at "cf"); walk_at "nw"; (try dsimp only [List.set]))
  | ((with_reducible refine' x_rowF ?e ?_); (case e => walk_at "cf"))
  | with_reducible refine' x_xw ?_
  | ((with_reducible refine' x_xwR ?t ?h ?_); (case t => walk_at "cf"); (case h => walk_at "hp")))
local macro_rules | `(tactic| walk_at "st0") => `(tactic| first
  | ((with_reducible refine' x_isXR ?k ?x ?h ?e ?_); (case k => exact ClsV.own _); (case x => exact ExT.xc (by with_reducible assumption)); (case h => walk_at "hp"); (case e => walk_at "cf")))
local macro_rules | `(tactic| walk_at "st0") => `(tactic| first
  | with_reducible refine' x_for ?_
  | with_reducible refine' x_rng1 ?_
  | with_reducible refine' x_rng2 ?_
  | with_reducible refine' x_iList ?_
  | with_reducible refine' x_iTup ?_
  | with_reducible refine' x_par ?_
  | with_reducible refine' x_yes ?_
  | with_reducible refine' x_lc ?_
  | ((with_reducible refine' x_itL ?h ?_); (case h => walk_at "sq"))
  | ((with_reducible refine' x_itT ?h ?_); (case h => walk_at "sqt"))
  | ((with_reducible refine' x_catL ?h ?h2 ?l ?_); (case h => walk_at "hp"); (case h2 => walk_at "hp"); (case l => walk_at "sd"); walk_at "nw")
  | ((with_reducible refine' And.intro (a := List.set _ _ none = _) ?e ?_); (case e => exact rfl))
  | ((with_reducible refine' x_gNameS ?e1 ?e ?_); (case e1 => walk_at "set"); (case e => walk_at "set")))
local macro_rules | `(tactic| walk_at "st0") => `(tactic| first
  | ((with_reducible refine' x_lenQL ?h ?_); (case h => walk_at "sq"))
  | ((with_reducible refine' x_lenQT ?h ?_); (case h => walk_at "sqt"))
  | ((with_reducible refine' x_listOfL ?h ?_); (case h => walk_at "sq"); walk_at "nw")
  | ((with_reducible refine' x_listOfT ?h ?_); (case h => walk_at "sqt"); walk_at "nw")
  | ((with_reducible refine' x_tupOfL ?h ?_); (case h => walk_at "sq"); walk_at "nw")
  | ((with_reducible refine' x_sum ?h ?_); (case h => walk_at "sq"))
  | with_reducible refine' x_enumS ?_
  | ((with_reducible refine' x_qEnumS ?h ?_); (case h => walk_at "sqt"))
  | ((with_reducible refine' x_ixL ?h ?e ?_); (case h => walk_at "sq"); (case e => with_reducible assumption))
  | ((with_reducible refine' x_ixT ?h ?e ?_); (case h => walk_at "sqt"); (case e => with_reducible assumption)))
local macro_rules | `(tactic| walk_at "st0") => `(tactic| first
  | ((with_reducible refine' x_lenMT ?h ?_); (case h => walk_at "sqt"))
  | ((with_reducible refine' x_lenML ?h ?_); (case h => walk_at "sq")))
local macro_rules | `(tactic| walk_at "st0") => `(tactic| first
  | ((with_reducible refine' x_lenT2 ?h ?_); (case h => walk_at "sqt"))
  | ((with_reducible refine' x_lenT1 ?h ?_); (case h => walk_at "sqt")))
local macro_rules | `(tactic| walk_at "nn") => `(tactic| first | with_reducible assumption | ((with_reducible refine' Eq.trans (upd_ne ?a) ?b); (case a => walk_at "ne"); (case b => walk_at "nn")))
local macro_rules | `(tactic| walk_at "tk") => `(tactic| first
  | exact Tk.refl _
  | with_reducible assumption
  | ((with_reducible refine' Tk.trans ?a (Tk.updN ?b)); (case b => walk_at "nn"); (case a => walk_at "tk"))
  | ((with_reducible refine' Tk.trans ?a (Tk.updL' ?b)); (case b => exact ⟨_, by walk_at "hp"⟩); (case a => walk_at "tk"))
  | exact Stay.tk0 (by with_reducible assumption))
local macro_rules | `(tactic| walk_at "st0") => `(tactic| first
  | ((with_reducible refine' x_setLk ?h ?e ?_); (case h => walk_at "hp"); (case e => with_reducible assumption)))
local macro_rules | `(tactic| walk_at "wp") => `(tactic| (dsimp only [wipe, List.map]; (try simp only [set0, set1, set2, set3, set4, set5, set6, set7, set8, set9, set10, set11, set12, set13, set14, set15, set16, set17, set18, set19, set20])))
local macro_rules | `(tactic| walk_at "nq") => `(tactic| decide +kernel)
local macro_rules | `(tactic| walk_at "nr") => `(tactic| decide +kernel)
local macro_rules | `(tactic| walk_at "st0") => `(tactic| ((with_reducible refine' c_draw ?h ?m (fun d_ H_ lo_ hi_ pl_ st_ => ?_)); (case h => walk_at "pool"); (case m => first | with_reducible assumption | (refine' ⟨?_, ?_⟩ <;> first | decide | omega))))
local macro_rules | `(tactic| walk_at "st0") => `(tactic| ((with_reducible refine' c_is_number ?h ?_); (case h => walk_at "ty1")))
local macro_rules | `(tactic| walk_at "st0") => `(tactic| ((with_reducible refine' c_is_within ?h ?_); (case h => walk_at "ty1")))
section
variable {P : Program} {w : World} {K : PySem.W.Frag} {mg : Str → Option Value} {base : Heap}
def sp_hasp (K : PySem.W.Frag) : Sp := fun vs H Q _ => ∃ m y : Nat, vs = [nat m, nat y] ∧ Q (.bl (m.testBit y)) H
theorem c_hasp {K : PySem.W.Frag} {m y : Nat} {H : Hp} {Q : VK} {E : XK} (q : Q (.bl (m.testBit y)) H) : sp_hasp K [nat m, nat y] H Q E := ⟨m, y, rfl, q⟩
theorem sc_has_page : FnScope ["pages", "page"] ["pages", "page"] (defScope s_has_page) := ⟨rfl, rfl, rfl, by decide +kernel, rfl, by decide +kernel, by decide +kernel⟩
theorem ok_has_page (T : G K mg) : FnOk P w K mg base CX0 1 T.f_has_page T.d_has_page ["pages", "page"] (sp_hasp K) := by
  refine T.F_has_page.ok sc_has_page (fun vs H Q E h => ?_) (fun cdv A outer s H vs Q E hr h => ?_)
  · obtain ⟨m, y, rfl, k⟩ := h
    rfl
  · obtain ⟨m, y, rfl, k⟩ := h
    have hu := hu_of hr
    have nd := sc_has_page.nd
    refine ⟨_, (pss_one (ps_ret (pe_cmpR op_eq (pe_op op_and (pe_op op_shr (pv 0) (pv 1)) pe_int) pe_int (nomark _)))), ?_⟩
    try dsimp only [L2.cxOf, L2.Cx.nox, L2.Cx.wish]
    rw [show L2.start ["pages", "page"] [nat m, nat y] = [some (nat m), some (nat y)] from rfl]
    walk_at "go"
    rw [has_bit]
    exact k
end
end WD

namespace WD
open PySem PySem.Spec PyProof.Rows L2
-- p ≠ q of two addresses
local macro_rules | `(tactic| walk_at "ne") => `(tactic| first
  | with_reducible assumption
  | with_reducible exact Ne.symm (by assumption)
  | exact ne_some (by with_reducible assumption) (by with_reducible assumption)
  | exact Ne.symm (ne_some (by with_reducible assumption) (by with_reducible assumption)))
local macro_rules | `(tactic| walk_at "nm") => `(tactic| first | with_reducible assumption | with_reducible exact nm0 | ((with_reducible refine' nmS ?a ?b); (case a => walk_at "ne"); (case b => walk_at "nm")))
-- H p = some ?o
local macro_rules | `(tactic| walk_at "hp") => `(tactic| first
  | with_reducible exact upd_same
  | with_reducible assumption
  | ((with_reducible refine' Eq.trans (upd_ne ?a) ?b); (case a => walk_at "ne"); (case b => walk_at "hp"))
  | exact Stay.keep (by with_reducible assumption) _ _ (by walk_at "hp") (by walk_at "nm"))
local macro_rules | `(tactic| walk_at "hpd") => `(tactic| ((refine' Eq.trans ?h ?e); (case h => walk_at "hp"); (case e => exact rfl)))
-- a new address
local macro_rules | `(tactic| walk_at "nw") => `(tactic| ((repeat first | (with_reducible refine' nw_upd ?_) | refine' nw_fr (by with_reducible assumption) ?_); intro p_; intros))
local macro_rules | `(tactic| walk_at "mem") => `(tactic| first | exact List.mem_cons_self | (refine' List.mem_cons_of_mem _ ?_; walk_at "mem"))
-- what stands stays
local macro_rules | `(tactic| walk_at "fr") => `(tactic| first
  | with_reducible assumption
  | exact Stay.refl _ _
  | ((with_reducible refine' Stay.upd ?a ?b); (case a => walk_at "fr"); (case b => walk_at "mem"))
  | ((with_reducible refine' Stay.new ?a ?b); (case b => with_reducible assumption); (case a => walk_at "fr"))
  | (refine' Stay.trans ?_ (by with_reducible assumption); walk_at "fr"))
local macro_rules | `(tactic| walk_at "sq") => `(tactic| first | with_reducible assumption | exact SqL.of (by walk_at "hp"))
local macro_rules | `(tactic| walk_at "sqt") => `(tactic| first | with_reducible assumption | exact SqT.of (by walk_at "hp"))
-- side goals
local macro_rules | `(tactic| walk_at "sd") => `(tactic| first
  | with_reducible assumption | with_reducible rfl | (show _ ≤ sizeLine; decide) | (refine Nat.le_trans (Nat.le_of_ble_eq_true (m := 1000) rfl) (by decide)) | decide | omega
  | exact IntMulOk.of_right (intBits_le_64 (by omega) (by omega)) | exact IntMulOk.of_left (intBits_le_64 (by omega) (by omega))
  | (refine' Or.inl ⟨?_, ?_⟩ <;> omega) | (refine' Or.inr ⟨?_, ?_⟩ <;> omega)
  | (refine' ⟨?_, ?_⟩ <;> walk_at "sd") | (refine' ⟨?_, ?_, ?_⟩ <;> walk_at "sd"))
local macro_rules | `(tactic| walk_at "set") => `(tactic| first | with_reducible exact set0 | with_reducible exact set1 | with_reducible exact set2 | with_reducible exact set3 | with_reducible exact set4 | with_reducible exact set5 | with_reducible exact set6 | with_reducible exact set7 | with_reducible exact set8 | with_reducible exact set9 | with_reducible exact set10 | with_reducible exact set11 | with_reducible exact set12 | with_reducible exact set13 | with_reducible exact set14 | with_reducible exact set15 | with_reducible exact set16 | with_reducible exact set17 | with_reducible exact set18 | with_reducible exact set19 | with_reducible exact set20)
-- one step
local macro_rules | `(tactic| walk_at "st0") => `(tactic| first
  | with_reducible refine' x_seq ?_
  | with_reducible refine' x_next ?_
  | with_reducible refine' x_ifS ?_
  | with_reducible refine' x_asg ?_
  | with_reducible refine' x_ret ?_
  | with_reducible refine' x_retN ?_
  | with_reducible refine' x_drop ?_
  | with_reducible refine' x_brk ?_
  | with_reducible refine' x_cont ?_
  | ((with_reducible refine' x_gName ?e ?_); (case e => walk_at "set"))
  | with_reducible refine' x_gSub ?_
  | with_reducible refine' x_gCons ?_
  | with_reducible refine' x_gNil ?_
  | with_reducible refine' x_c ?_
  | ((with_reducible refine' x_var ?e ?_); (case e => exact rfl))
  | with_reducible refine' x_op ?_
  | with_reducible refine' x_un ?_
  | with_reducible refine' x_if ?_
  | with_reducible refine' x_cb ?_
  | with_reducible refine' x_cons ?_
  | with_reducible refine' x_nil ?_
  | with_reducible refine' x_bm0 ?_
  | with_reducible refine' x_bm ?_
  | with_reducible refine' x_tup ?_
  | with_reducible refine' x_lst ?_
  | ((with_reducible refine' And.intro (a := _ ≤ sizeLine) ?e ?_); (case e => walk_at "sd"); walk_at "nw")
  | with_reducible refine' x_fld ?_
  | with_reducible refine' x_test ?_
  | with_reducible refine' x_tB ?_
  | with_reducible refine' x_and ?_
  | with_reducible refine' x_or ?_
  | with_reducible refine' x_not ?_
  | with_reducible refine' x_notV ?_
  | with_reducible refine' x_andV ?_
  | with_reducible refine' x_orV ?_
  | with_reducible refine' x_rI0 ?_
  | ((with_reducible refine' x_rI ?e ?_); (case e => walk_at "sd"))
  | with_reducible refine' x_rU ?_
  | ((with_reducible refine' x_rEq ?e ?_); (case e => exact rfl))
  | ((with_reducible refine' x_rNe ?e ?_); (case e => exact rfl))
  | ((with_reducible refine' x_ixL0 ?h ?_); (case h => walk_at "sq"))
  | ((with_reducible refine' x_ixL1 ?h ?_); (case h => walk_at "sq"))
  | ((with_reducible refine' x_ixL2 ?h ?_); (case h => walk_at "sq"))
  | ((with_reducible refine' x_ixL0I ?h ?_); (case h => walk_at "sq"))
  | ((with_reducible refine' x_ixL ?h ?e ?_); (case h => walk_at "sq"); (case e => exact rfl))
  | ((with_reducible refine' x_neNil ?h ?h2 ?_); (case h => walk_at "sq"); (case h2 => walk_at "sq"))
  | ((with_reducible refine' x_pop0I ?h ?_); (case h => walk_at "hp"))
  | ((with_reducible refine' x_pop0 ?h ?_); (case h => walk_at "hp"))
  | ((with_reducible refine' x_setL0 ?h ?_); (case h => walk_at "hp"))
  | ((with_reducible refine' x_setL1 ?h ?_); (case h => walk_at "hp"))
  | ((with_reducible refine' x_setL2 ?h ?_); (case h => walk_at "hp"))
  | ((with_reducible refine' x_setL ?h ?e ?_); (case h => walk_at "hp"); (case e => exact rfl))
  | with_reducible refine' .inl ⟨_, rfl, ?_⟩
  | ((with_reducible refine' x_tyL ?h ?_); (case h => walk_at "sq"))
  | with_reducible refine' ⟨_, rfl, ?_⟩)
-- a split
local macro_rules | `(tactic| walk_at "if") => `(tactic| (
  first
  | (with_reducible refine' x_dec (fun h_ => ?_) (fun h_ => ?_))
  | (with_reducible refine' x_decN (fun h_ => ?_) (fun h_ => ?_))
  | (with_reducible refine' x_boolN (fun h_ => ?_) (fun h_ => ?_))
  | (with_reducible refine' x_bool (fun h_ => ?_) (fun h_ => ?_))))
local macro_rules | `(tactic| walk_at "ifs") => `(tactic| (walk_at "if" <;> first
  | (exfalso; first | omega | contradiction)
  | (rename_i h_; (try simp only [BEq.rfl, List.length_map, List.length_cons, List.length_nil, Int.natCast_zero, Int.ofNat_zero, gt_iff_lt, Int.lt_irrefl, Bool.true_eq_false, Bool.false_eq_true, List.isEmpty_nil, List.isEmpty_cons, V.int.injEq, V.str.injEq, V.bl.injEq, reduceCtorEq, not_false_eq_true, not_true_eq_false] at h_); (try (exfalso; omega)))))
local macro_rules | `(tactic| walk_at "ite1") => `(tactic| first
  | with_reducible refine' x_T ?_
  | with_reducible refine' x_F ?_
  | with_reducible refine' x_nT ?_
  | with_reducible refine' x_nF ?_
  | ((with_reducible refine' x_bT ?e ?_); (case e => first | decide | decide +kernel))
  | ((with_reducible refine' x_bF ?e ?_); (case e => first | decide | decide +kernel)))
local macro_rules | `(tactic| walk_at "st") => `(tactic| ((fail_if_success (with_reducible (show (if _ then _ else _)))); walk_at "st0"))
local macro_rules | `(tactic| walk_at "go") => `(tactic| repeat first | walk_at "ite1" | walk_at "st")
local macro_rules | `(tactic| walk_at "gs") => `(tactic| repeat' first | walk_at "ite1" | walk_at "st" | walk_at "ifs")
local macro_rules | `(tactic| walk_at "sz") => `(tactic| first | with_reducible assumption | (refine Nat.le_trans (by assumption) (by decide : 100000 ≤ sizeLine)) | (refine Nat.le_trans (m := 100000) ?_ (by decide); (try simp only [len_add, rep_len]); (try rw [show (Str.ofString "z").length = 1 from rfl]); omega))
local macro_rules | `(tactic| walk_at "hn") => `(tactic| first | with_reducible assumption)
local macro_rules | `(tactic| walk_at "sqo") => `(tactic| first | exact Or.inl (by walk_at "sq") | exact Or.inr (by walk_at "sqt"))
local macro_rules | `(tactic| walk_at "ty1") => `(tactic| first | with_reducible assumption | exact Ty1.int _ | exact Ty1.str _ | exact Ty1.bl _ | exact Ty1.non | exact Ty1.tup (by walk_at "hp") | exact Ty1.lst (by walk_at "hp"))
local macro_rules | `(tactic| walk_at "st2") => `(tactic| first
  | with_reducible refine' And.intro (a := V.non = V.non) rfl ?_
  | with_reducible refine' x_call0 ?_
  | with_reducible refine' x_callS ?_
  | with_reducible refine' x_meth0 ?_
  | with_reducible refine' x_methW0 ?_
  | with_reducible refine' x_make0 ?_
  | with_reducible refine' x_makeW0 ?_
  | with_reducible refine' x_sFld ?_
  | with_reducible refine' x_mkO ?_
  | with_reducible refine' x_chain ?_
  | with_reducible refine' x_dget ?_
  | with_reducible refine' x_dget1 ?_
  | with_reducible refine' x_dget2 ?_
  | with_reducible refine' x_sDPut ?_
  | with_reducible refine' x_pairs ?_
  | with_reducible refine' x_pairs0 ?_
  | with_reducible refine' x_sl ?_
  | with_reducible refine' x_noPart ?_
  | with_reducible refine' x_part ?_
  | ((with_reducible refine' x_disp ?_); walk_at "nw")
  | ((with_reducible refine' x_dnew ?_); walk_at "nw")
  | ((with_reducible refine' x_rz ?h ?_); (case h => walk_at "cf"); walk_at "nw")
  | ((with_reducible refine' x_isi ?h ?e ?_); (case h => walk_at "ty1"); (case e => decide))
  | ((with_reducible refine' x_fldR ?h ?c ?n ?e ?_); (case h => walk_at "hp"); (case c => walk_at "cf"); (case n => walk_at "cf"); (case e => walk_at "fl"))
  | ((with_reducible refine' x_onIns ?h ?n ?_); (case h => walk_at "hp"); (case n => walk_at "fl"))
  | ((with_reducible refine' x_addS ?l ?_); (case l => walk_at "sz"))
  | ((with_reducible refine' x_lenS ?l ?_); (case l => walk_at "sz"))
  | ((with_reducible refine' x_lenL ?h ?_); (case h => walk_at "sqo"))
  | ((with_reducible refine' x_slL ?h rfl ?_); (case h => walk_at "sq"); walk_at "nw")
  | ((with_reducible refine' x_listOf ?h ?_); (case h => walk_at "sqo"); walk_at "nw")
  | ((with_reducible refine' x_strmul ?c ?_); (case c => (refine' ⟨?_, ?_, ?_⟩ <;> first | omega | decide +kernel)))
  | ((with_reducible refine' x_isD2 ?h ?_); (case h => walk_at "hp"))
  | ((with_reducible refine' x_getI ?h ?_); (case h => walk_at "hp"))
  | ((with_reducible refine' x_getS ?h ?_); (case h => walk_at "hp"))
  | ((with_reducible refine' x_dgetS ?h ?e ?_); (case h => walk_at "hp"); (case e => walk_at "fl"))
  | ((with_reducible refine' x_ixT ?h ?e ?_); (case h => walk_at "sqt"); (case e => exact rfl))
  | ((with_reducible refine' x_gTup ?h ?e ?_); (case h => walk_at "sqt"); (case e => exact rfl)))
local macro_rules | `(tactic| walk_at "st0") => `(tactic| walk_at "st2")
local macro_rules | `(tactic| walk_at "fl") => `(tactic| first
  | with_reducible exact lk_hd
  | ((with_reducible refine' lk_tl ?n ?h); (case n => walk_at "nq"); (case h => walk_at "fl"))
  | with_reducible exact lk_nil
  | with_reducible exact pf_hd
  | ((with_reducible refine' pf_tl ?n ?h); (case n => walk_at "nq"); (case h => walk_at "fl"))
  | with_reducible exact pf_nil
  | with_reducible exact vl_hd
  | ((with_reducible refine' vl_tl ?n ?h); (case n => walk_at "nr"); (case h => walk_at "fl"))
  | with_reducible exact vl_nil
  | ((with_reducible refine' pk_hd ?n); (case n => rfl))
  | ((with_reducible refine' pk_tl ?n ?t ?h); (case n => walk_at "nr"); (case t => rfl); (case h => walk_at "fl")))
local macro_rules | `(tactic| walk_at "cf") => `(tactic| with_reducible assumption)
local macro_rules | `(tactic| walk_at "st0") => `(tactic| first
  | ((with_reducible refine' x_sFldR ?h ?c ?n ?l ?e ?_); (case h => walk_at "hp"); (case c => walk_at "cf"); (case n => walk_at "cf"); (case l => exact Nat.le_of_ble_eq_true rfl); (case e => walk_at "fl")))
local macro_rules | `(tactic| walk_at "pool") => `(tactic| first
  | with_reducible assumption
  | exact Pool.ne (by walk_at "pool") (by walk_at "ne") (by walk_at "ne")
  | exact Pool.stay (by walk_at "pool") (by with_reducible assumption) (by walk_at "nm") (by walk_at "nm"))
local macro_rules | `(tactic| walk_at "szl") => `(tactic| first | exact Nat.lt_of_le_of_lt (Nat.le_of_ble_eq_true (m := 1000) rfl) (by decide) | exact Nat.lt_of_le_of_lt (by with_reducible assumption) (by decide : 1000 < sizeLine))
local macro_rules | `(tactic| walk_at "st0") => `(tactic| first
  | ((with_reducible refine' x_putS ?h ?l ?e ?_); (case h => walk_at "hp"); (case l => walk_at "szl"); (case e => walk_at "fl"))
  | ((with_reducible refine' x_setD ?h ?l ?e ?_); (case h => walk_at "hp"); (case l => walk_at "szl"); (case e => walk_at "fl"))
  | ((with_reducible refine' x_putI ?h ?l ?_); (case h => walk_at "hp"); (case l => walk_at "szl")))
local macro_rules | `(tactic| walk_at "st0") => `(tactic| first
  | ((with_reducible refine' x_rowN ?e ?_); (case e => walk_at "cf"); walk_at "nw"; (try dsimp only [List.set]))
  | ((with_reducible refine' x_rowF ?e ?_); (case e => walk_at "cf"))
  | with_reducible refine' x_xw ?_
  | ((with_reducible refine' x_xwR ?t ?h ?_); (case t => walk_at "cf"); (case h => walk_at "hp")))
local macro_rules | `(tactic| walk_at "st0") => `(tactic| first
  | ((with_reducible refine' x_isXR ?k ?x ?h ?e ?_); (case k => exact ClsV.own _); (case x => exact ExT.xc (by with_reducible assumption)); (case h => walk_at "hp"); (case e => walk_at "cf")))
local macro_rules | `(tactic| walk_at "st0") => `(tactic| first
  | with_reducible refine' x_for ?_
  | with_reducible refine' x_rng1 ?_
  | with_reducible refine' x_rng2 ?_
  | with_reducible refine' x_iList ?_
  | with_reducible refine' x_iTup ?_
  | with_reducible refine' x_par ?_
  | with_reducible refine' x_yes ?_
  | with_reducible refine' x_lc ?_
  | ((with_reducible refine' x_itL ?h ?_); (case h => walk_at "sq"))
  | ((with_reducible refine' x_itT ?h ?_); (case h => walk_at "sqt"))
  | ((with_reducible refine' x_catL ?h ?h2 ?l ?_); (case h => walk_at "hp"); (case h2 => walk_at "hp"); (case l => walk_at "sd"); walk_at "nw")
  | ((with_reducible refine' And.intro (a := List.set _ _ none = _) ?e ?_); (case e => exact rfl))
  | ((with_reducible refine' x_gNameS ?e1 ?e ?_); (case e1 => walk_at "set"); (case e => walk_at "set")))
local macro_rules | `(tactic| walk_at "st0") => `(tactic| first
  | ((with_reducible refine' x_lenQL ?h ?_); (case h => walk_at "sq"))
  | ((with_reducible refine' x_lenQT ?h ?_); (case h => walk_at "sqt"))
  | ((with_reducible refine' x_listOfL ?h ?_); (case h => walk_at "sq"); walk_at "nw")
  | ((with_reducible refine' x_listOfT ?h ?_); (case h => walk_at "sqt"); walk_at "nw")
  | ((with_reducible refine' x_tupOfL ?h ?_); (case h => walk_at "sq"); walk_at "nw")
  | ((with_reducible refine' x_sum ?h ?_); (case h => walk_at "sq"))
  | with_reducible refine' x_enumS ?_
  | ((with_reducible refine' x_qEnumS ?h ?_); (case h => walk_at "sqt"))
  | ((with_reducible refine' x_ixL ?h ?e ?_); (case h => walk_at "sq"); (case e => with_reducible assumption))
  | ((with_reducible refine' x_ixT ?h ?e ?_); (case h => walk_at "sqt"); (case e => with_reducible assumption)))
local macro_rules | `(tactic| walk_at "st0") => `(tactic| first
  | ((with_reducible refine' x_lenMT ?h ?_); (case h => walk_at "sqt"))
  | ((with_reducible refine' x_lenML ?h ?_); (case h => walk_at "sq")))
local macro_rules | `(tactic| walk_at "st0") => `(tactic| first
  | ((with_reducible refine' x_lenT2 ?h ?_); (case h => walk_at "sqt"))
  | ((with_reducible refine' x_lenT1 ?h ?_); (case h => walk_at "sqt")))
local macro_rules | `(tactic| walk_at "nn") => `(tactic| first | with_reducible assumption | ((with_reducible refine' Eq.trans (upd_ne ?a) ?b); (case a => walk_at "ne"); (case b => walk_at "nn")))
local macro_rules | `(tactic| walk_at "tk") => `(tactic| first
  | exact Tk.refl _
  | with_reducible assumption
  | ((with_reducible refine' Tk.trans ?a (Tk.updN ?b)); (case b => walk_at "nn"); (case a => walk_at "tk"))
  | ((with_reducible refine' Tk.trans ?a (Tk.updL' ?b)); (case b => exact ⟨_, by walk_at "hp"⟩); (case a => walk_at "tk"))
  | exact Stay.tk0 (by with_reducible assumption))
local macro_rules | `(tactic| walk_at "st0") => `(tactic| first
  | ((with_reducible refine' x_setLk ?h ?e ?_); (case h => walk_at "hp"); (case e => with_reducible assumption)))
local macro_rules | `(tactic| walk_at "wp") => `(tactic| (dsimp only [wipe, List.map]; (try simp only [set0, set1, set2, set3, set4, set5, set6, set7, set8, set9, set10, set11, set12, set13, set14, set15, set16, set17, set18, set19, set20])))
local macro_rules | `(tactic| walk_at "nq") => `(tactic| decide +kernel)
local macro_rules | `(tactic| walk_at "nr") => `(tactic| decide +kernel)
local macro_rules | `(tactic| walk_at "st0") => `(tactic| ((with_reducible refine' c_draw ?h ?m (fun d_ H_ lo_ hi_ pl_ st_ => ?_)); (case h => walk_at "pool"); (case m => first | with_reducible assumption | (refine' ⟨?_, ?_⟩ <;> first | decide | omega))))
local macro_rules | `(tactic| walk_at "st0") => `(tactic| ((with_reducible refine' c_is_number ?h ?_); (case h => walk_at "ty1")))
local macro_rules | `(tactic| walk_at "st0") => `(tactic| ((with_reducible refine' c_is_within ?h ?_); (case h => walk_at "ty1")))
section
variable {P : Program} {w : World} {K : PySem.W.Frag} {mg : Str → Option Value} {base : Heap}
def sp_reached (K : PySem.W.Frag) : Sp := fun vs H Q _ => ∃ a P ns E, vs = [.ref a] ∧ H a = some (.tup (ns.map nat)) ∧ Bt P ns E ∧ P ≤ 32 ∧ ∀ r ms H', H r = none → H' r = some (.lst (ms.map nat)) → Bt P ms (Rk E P) → Stay [] H H' → Q (.ref r) H'
theorem c_reached {K : PySem.W.Frag} {a : Addr} {P : Nat} {ns : List Nat} {E0 : Nat → Nat → Prop} {H : Hp} {Q : VK} {E : XK} (h : H a = some (.tup (ns.map nat))) (b : Bt P ns E0) (l : P ≤ 32) (q : ∀ r ms H', H r = none → H' r = some (.lst (ms.map nat)) → Bt P ms (Rk E0 P) → Stay [] H H' → Q (.ref r) H') : sp_reached K [.ref a] H Q E := ⟨a, P, ns, E0, rfl, h, b, l, q⟩
theorem sc__reached : FnScope ["needs", "reached", "through", "page"] ["needs"] (defScope s__reached) := ⟨rfl, rfl, rfl, by decide +kernel, rfl, by decide +kernel, by decide +kernel⟩
theorem ok__reached (T : G K mg) : FnOk P w K mg base CX0 2 T.f__reached T.d__reached ["needs"] (sp_reached K) := by
  refine T.F__reached.ok sc__reached (fun vs H Q E h => ?_) (fun cdv A outer s H vs Q E hr h => ?_)
  · obtain ⟨a, P, ns, E0, rfl, h, hb, hP, k⟩ := h
    rfl
  · obtain ⟨a, P, ns, E0, rfl, h, hb, hP, k⟩ := h
    have hu := hu_of hr
    have nd := sc__reached.nd
    refine ⟨_, (pss_cons (ps_set (i := 1) nd rfl (Or.inl rfl) (pe_callTy (r := rListOf K) call_listOf (by rfl) T.n_list (by decide +kernel) (pa_cons (pv 0) pa_nil)))
        (pss_cons (ps_for PassesOwn.never rfl (pi_range1 rfl T.n_range (pa_cons (pe_callB (r := rLenQ K) call_lenQ (by rfl) T.n_len PySem.boot_len (pa_cons (pv 1) pa_nil)) pa_nil)) (pg_name (i := 2) nd rfl (Or.inl rfl)) (pss_one (ps_for PassesOwn.never rfl (pi_range1 rfl T.n_range (pa_cons (pe_callB (r := rLenQ K) call_lenQ (by rfl) T.n_len PySem.boot_len (pa_cons (pv 1) pa_nil)) pa_nil)) (pg_name (i := 3) nd rfl (Or.inl rfl)) (pss_one (ps_if (pt_val (pe_call (ok_has_page T) (hr.mono (by decide)) rfl T.g_has_page T.F_has_page.kp T.b_has_page .nil pass0 (pa_cons (pe_ix ix_list (pv 1) (pv 3) (fun _ _ => rfl)) (pa_cons (pv 2) pa_nil)))) (pss_one (ps_asg (pe_op op_or (pe_ix ix_list (pv 1) (pv 3) (fun _ _ => rfl)) (pe_ix ix_list (pv 1) (pv 2) (fun _ _ => rfl))) (pg_sub (pv 1) (pv 3) set_list))) pss_nil)))))
        (pss_one (ps_ret (pv 1))))), ?_⟩
    try dsimp only [L2.cxOf, L2.Cx.nox, L2.Cx.wish]
    rw [show L2.start ["needs", "reached", "through", "page"] [V.ref a] = [some (V.ref a), none, none, none] from rfl]
    have hl := hb.len
    walk_at "go"
    rename_i R nR
    refine ⟨by omega, by omega, ?_⟩
    refine for_range (n := (↑ns.length : Int).toNat) (fun k σ G => (∃ v1 v2 : Option V, σ = [some (V.ref a), some (V.ref R), v1, v2]) ∧ Stay [] H G ∧ ∃ ms, G R = some (.lst (ms.map nat)) ∧ Bt P ms (Rk E0 k)) ⟨⟨_, _, rfl⟩, by walk_at "fr", ns, upd_same, hb⟩ ?_ ?_
    · rintro k σ G hk ⟨⟨v1, v2, rfl⟩, st, ms, hR, hm⟩
      have hml := hm.len
      have hkP : k < P := by rw [Int.toNat_natCast] at hk; omega
      rw [Int.zero_add]
      walk_at "go"
      refine ⟨by omega, by omega, ?_⟩
      refine for_range (n := (↑ms.length : Int).toNat) (fun i σ G' => (∃ v2 : Option V, σ = [some (V.ref a), some (V.ref R), some (nat k), v2]) ∧ Stay [] H G' ∧ ∃ ms', G' R = some (.lst (ms'.map nat)) ∧ Bt P ms' (fun x y => if x < i then Wr (Rk E0 k) k x y else Rk E0 k x y)) ⟨⟨_, rfl⟩, st, ms, hR, hm.mono fun x hx y => by simp⟩ ?_ ?_
      · have hml0 := hml
        clear hR hm hml
        rintro i σ G' hi ⟨⟨v2, rfl⟩, st', ms', hR', hm'⟩
        have hml := hm'.len
        have hiP : i < P := by rw [Int.toNat_natCast] at hi; omega
        rw [Int.zero_add]
        have i1 := atNat (ns := ms') (i := i) (by omega)
        have i2 := atNat (ns := ms') (i := k) (by omega)
        have i3 := ixNat (ns := ms') (i := i) (by omega)
        have hbit := hm'.bit i hiP k
        rw [if_neg (Nat.lt_irrefl i)] at hbit
        clear st
        walk_at "go"
        refine c_hasp ?_
        walk_at "go"
        refine x_bool (fun hb1 => ?_) (fun hb0 => ?_)
        · have hik := hbit.mp hb1
          walk_at "go"
          refine ⟨⟨_, rfl⟩, Stay.new st' nR, ms'.set i (ms'.getD i 0 ||| ms'.getD k 0), by rw [upd_same, bitOr_nat, ← List.map_set], (hm'.row hiP hkP).mono fun x hx y => ?_⟩
          have hkk : (if k < i then Wr (Rk E0 k) k k y else Rk E0 k k y) ↔ Rk E0 k k y := by
            split
            · constructor
              · rintro (h | ⟨_, h⟩) <;> exact h
              · exact fun h => .inl h
            · rfl
          simp only [hkk]
          by_cases e : x = i
          · subst e
            rw [if_neg (Nat.lt_irrefl x), if_pos (Nat.lt_succ_self x)]
            constructor
            · rintro (h | ⟨_, h⟩)
              · exact .inl h
              · exact .inr ⟨hik, h⟩
            · rintro (h | ⟨_, h⟩)
              · exact .inl h
              · exact .inr ⟨rfl, h⟩
          · simp only [e, false_and, or_false]
            by_cases l : x < i
            · rw [if_pos l, if_pos (by omega)]
            · rw [if_neg l, if_neg (by omega)]
        · have hik : ¬ Rk E0 k i k := fun h => by rw [hbit.mpr h] at hb0; cases hb0
          walk_at "go"
          refine ⟨⟨_, rfl⟩, st', ms', hR', hm'.mono fun x hx y => ?_⟩
          by_cases e : x = i
          · subst e
            rw [if_neg (Nat.lt_irrefl x), if_pos (Nat.lt_succ_self x)]
            constructor
            · exact fun h => .inl h
            · rintro (h | ⟨h, _⟩)
              · exact h
              · exact absurd h hik
          · by_cases l : x < i
            · rw [if_pos l, if_pos (by omega)]
            · rw [if_neg l, if_neg (by omega)]
      · rintro σ G' ⟨⟨v2, rfl⟩, st', ms', hR', hm'⟩
        refine ⟨⟨_, _, rfl⟩, st', ms', hR', hm'.mono fun x hx y => ?_⟩
        rw [Int.toNat_natCast, if_pos (by omega)]
        rfl
    · rintro σ G ⟨⟨v1, v2, rfl⟩, st, ms, hR, hm⟩
      rw [Int.toNat_natCast, hl] at hm
      walk_at "go"
      exact k _ ms _ nR hR hm st
end
end WD

namespace WD
open PySem PySem.Spec PyProof.Rows L2
-- p ≠ q of two addresses
local macro_rules | `(tactic| walk_at "ne") => `(tactic| first
  | with_reducible assumption
  | with_reducible exact Ne.symm (by assumption)
  | exact ne_some (by with_reducible assumption) (by with_reducible assumption)
  | exact Ne.symm (ne_some (by with_reducible assumption) (by with_reducible assumption)))
local macro_rules | `(tactic| walk_at "nm") => `(tactic| first | with_reducible assumption | with_reducible exact nm0 | ((with_reducible refine' nmS ?a ?b); (case a => walk_at "ne"); (case b => walk_at "nm")))
-- H p = some ?o
local macro_rules | `(tactic| walk_at "hp") => `(tactic| first
  | with_reducible exact upd_same
  | with_reducible assumption
  | ((with_reducible refine' Eq.trans (upd_ne ?a) ?b); (case a => walk_at "ne"); (case b => walk_at "hp"))
  | exact Stay.keep (by with_reducible assumption) _ _ (by walk_at "hp") (by walk_at "nm"))
local macro_rules | `(tactic| walk_at "hpd") => `(tactic| ((refine' Eq.trans ?h ?e); (case h => walk_at "hp"); (case e => exact rfl)))
-- a new address
local macro_rules | `(tactic| walk_at "nw") => `(tactic| ((repeat first | (with_reducible refine' nw_upd ?_) | refine' nw_fr (by with_reducible assumption) ?_); intro p_; intros))
local macro_rules | `(tactic| walk_at "mem") => `(tactic| first | exact List.mem_cons_self | (refine' List.mem_cons_of_mem _ ?_; walk_at "mem"))
-- what stands stays
local macro_rules | `(tactic| walk_at "fr") => `(tactic| first
  | with_reducible assumption
  | exact Stay.refl _ _
  | ((with_reducible refine' Stay.upd ?a ?b); (case a => walk_at "fr"); (case b => walk_at "mem"))
  | ((with_reducible refine' Stay.new ?a ?b); (case b => with_reducible assumption); (case a => walk_at "fr"))
  | (refine' Stay.trans ?_ (by with_reducible assumption); walk_at "fr"))
local macro_rules | `(tactic| walk_at "sq") => `(tactic| first | with_reducible assumption | exact SqL.of (by walk_at "hp"))
local macro_rules | `(tactic| walk_at "sqt") => `(tactic| first | with_reducible assumption | exact SqT.of (by walk_at "hp"))
-- side goals
local macro_rules | `(tactic| walk_at "sd") => `(tactic| first
  | with_reducible assumption | with_reducible rfl | (show _ ≤ sizeLine; decide) | (refine Nat.le_trans (Nat.le_of_ble_eq_true (m := 1000) rfl) (by decide)) | decide | omega
  | exact IntMulOk.of_right (intBits_le_64 (by omega) (by omega)) | exact IntMulOk.of_left (intBits_le_64 (by omega) (by omega))
  | (refine' Or.inl ⟨?_, ?_⟩ <;> omega) | (refine' Or.inr ⟨?_, ?_⟩ <;> omega)
  | (refine' ⟨?_, ?_⟩ <;> walk_at "sd") | (refine' ⟨?_, ?_, ?_⟩ <;> walk_at "sd"))
local macro_rules | `(tactic| walk_at "set") => `(tactic| first | with_reducible exact set0 | with_reducible exact set1 | with_reducible exact set2 | with_reducible exact set3 | with_reducible exact set4 | with_reducible exact set5 | with_reducible exact set6 | with_reducible exact set7 | with_reducible exact set8 | with_reducible exact set9 | with_reducible exact set10 | with_reducible exact set11 | with_reducible exact set12 | with_reducible exact set13 | with_reducible exact set14 | with_reducible exact set15 | with_reducible exact set16 | with_reducible exact set17 | with_reducible exact set18 | with_reducible exact set19 | with_reducible exact set20)
-- one step
local macro_rules | `(tactic| walk_at "st0") => `(tactic| first
  | with_reducible refine' x_seq ?_
  | with_reducible refine' x_next ?_
  | with_reducible refine' x_ifS ?_
  | with_reducible refine' x_asg ?_
  | with_reducible refine' x_ret ?_
  | with_reducible refine' x_retN ?_
  | with_reducible refine' x_drop ?_
  | with_reducible refine' x_brk ?_
  | with_reducible refine' x_cont ?_
  | ((with_reducible refine' x_gName ?e ?_); (case e => walk_at "set"))
  | with_reducible refine' x_gSub ?_
  | with_reducible refine' x_gCons ?_
  | with_reducible refine' x_gNil ?_
  | with_reducible refine' x_c ?_
  | ((with_reducible refine' x_var ?e ?_); (case e => exact rfl))
  | with_reducible refine' x_op ?_
  | with_reducible refine' x_un ?_
  | with_reducible refine' x_if ?_
  | with_reducible refine' x_cb ?_
  | with_reducible refine' x_cons ?_
  | with_reducible refine' x_nil ?_
  | with_reducible refine' x_bm0 ?_
  | with_reducible refine' x_bm ?_
  | with_reducible refine' x_tup ?_
  | with_reducible refine' x_lst ?_
  | ((with_reducible refine' And.intro (a := _ ≤ sizeLine) ?e ?_); (case e => walk_at "sd"); walk_at "nw")
  | with_reducible refine' x_fld ?_
  | with_reducible refine' x_test ?_
  | with_reducible refine' x_tB ?_
  | with_reducible refine' x_and ?_
  | with_reducible refine' x_or ?_
  | with_reducible refine' x_not ?_
  | with_reducible refine' x_notV ?_
  | with_reducible refine' x_andV ?_
  | with_reducible refine' x_orV ?_
  | with_reducible refine' x_rI0 ?_
  | ((with_reducible refine' x_rI ?e ?_); (case e => walk_at "sd"))
  | with_reducible refine' x_rU ?_
  | ((with_reducible refine' x_rEq ?e ?_); (case e => exact rfl))
  | ((with_reducible refine' x_rNe ?e ?_); (case e => exact rfl))
  | ((with_reducible refine' x_ixL0 ?h ?_); (case h => walk_at "sq"))
  | ((with_reducible refine' x_ixL1 ?h ?_); (case h => walk_at "sq"))
  | ((with_reducible refine' x_ixL2 ?h ?_); (case h => walk_at "sq"))
  | ((with_reducible refine' x_ixL0I ?h ?_); (case h => walk_at "sq"))
  | ((with_reducible refine' x_ixL ?h ?e ?_); (case h => walk_at "sq"); (case e => exact rfl))
  | ((with_reducible refine' x_neNil ?h ?h2 ?_); (case h => walk_at "sq"); (case h2 => walk_at "sq"))
  | ((with_reducible refine' x_pop0I ?h ?_); (case h => walk_at "hp"))
  | ((with_reducible refine' x_pop0 ?h ?_); (case h => walk_at "hp"))
  | ((with_reducible refine' x_setL0 ?h ?_); (case h => walk_at "hp"))
  | ((with_reducible refine' x_setL1 ?h ?_); (case h => walk_at "hp"))
  | ((with_reducible refine' x_setL2 ?h ?_); (case h => walk_at "hp"))
  | ((with_reducible refine' x_setL ?h ?e ?_); (case h => walk_at "hp"); (case e => exact rfl))
  | with_reducible refine' .inl ⟨_, rfl, ?_⟩
  | ((with_reducible refine' x_tyL ?h ?_); (case h => walk_at "sq"))
  | with_reducible refine' ⟨_, rfl, ?_⟩)
-- a split
local macro_rules | `(tactic| walk_at "if") => `(tactic| (
  first
  | (with_reducible refine' x_dec (fun h_ => ?_) (fun h_ => ?_))
  | (with_reducible refine' x_decN (fun h_ => ?_) (fun h_ => ?_))
  | (with_reducible refine' x_boolN (fun h_ => ?_) (fun h_ => ?_))
  | (with_reducible refine' x_bool (fun h_ => ?_) (fun h_ => ?_))))
local macro_rules | `(tactic| walk_at "ifs") => `(tactic| (walk_at "if" <;> first
  | (exfalso; first | omega | contradiction)
  | (rename_i h_; (try simp only [BEq.rfl, List.length_map, List.length_cons, List.length_nil, Int.natCast_zero, Int.ofNat_zero, gt_iff_lt, Int.lt_irrefl, Bool.true_eq_false, Bool.false_eq_true, List.isEmpty_nil, List.isEmpty_cons, V.int.injEq, V.str.injEq, V.bl.injEq, reduceCtorEq, not_false_eq_true, not_true_eq_false] at h_); (try (exfalso; omega)))))
local macro_rules | `(tactic| walk_at "ite1") => `(tactic| first
  | with_reducible refine' x_T ?_
  | with_reducible refine' x_F ?_
  | with_reducible refine' x_nT ?_
  | with_reducible refine' x_nF ?_
  | ((with_reducible refine' x_bT ?e ?_); (case e => first | decide | decide +kernel))
  | ((with_reducible refine' x_bF ?e ?_); (case e => first | decide | decide +kernel)))
local macro_rules | `(tactic| walk_at "st") => `(tactic| ((fail_if_success (with_reducible (show (if _ then _ else _)))); walk_at "st0"))
local macro_rules | `(tactic| walk_at "go") => `(tactic| repeat first | walk_at "ite1" | walk_at "st")
local macro_rules | `(tactic| walk_at "gs") => `(tactic| repeat' first | walk_at "ite1" | walk_at "st" | walk_at "ifs")
local macro_rules | `(tactic| walk_at "sz") => `(tactic| first | with_reducible assumption | (refine Nat.le_trans (by assumption) (by decide : 100000 ≤ sizeLine)) | (refine Nat.le_trans (m := 100000) ?_ (by decide); (try simp only [len_add, rep_len]); (try rw [show (Str.ofString "z").length = 1 from rfl]); omega))
local macro_rules | `(tactic| walk_at "hn") => `(tactic| first | with_reducible assumption)
local macro_rules | `(tactic| walk_at "sqo") => `(tactic| first | exact Or.inl (by walk_at "sq") | exact Or.inr (by walk_at "sqt"))
local macro_rules | `(tactic| walk_at "ty1") => `(tactic| first | with_reducible assumption | exact Ty1.int _ | exact Ty1.str _ | exact Ty1.bl _ | exact Ty1.non | exact Ty1.tup (by walk_at "hp") | exact Ty1.lst (by walk_at "hp"))
local macro_rules | `(tactic| walk_at "st2") => `(tactic| first
  | with_reducible refine' And.intro (a := V.non = V.non) rfl ?_
  | with_reducible refine' x_call0 ?_
  | with_reducible refine' x_callS ?_
  | with_reducible refine' x_meth0 ?_
  | with_reducible refine' x_methW0 ?_
  | with_reducible refine' x_make0 ?_
  | with_reducible refine' x_makeW0 ?_
  | with_reducible refine' x_sFld ?_
  | with_reducible refine' x_mkO ?_
  | with_reducible refine' x_chain ?_
  | with_reducible refine' x_dget ?_
  | with_reducible refine' x_dget1 ?_
  | with_reducible refine' x_dget2 ?_
  | with_reducible refine' x_sDPut ?_
  | with_reducible refine' x_pairs ?_
  | with_reducible refine' x_pairs0 ?_
  | with_reducible refine' x_sl ?_
  | with_reducible refine' x_noPart ?_
  | with_reducible refine' x_part ?_
  | ((with_reducible refine' x_disp ?_); walk_at "nw")
  | ((with_reducible refine' x_dnew ?_); walk_at "nw")
  | ((with_reducible refine' x_rz ?h ?_); (case h => walk_at "cf"); walk_at "nw")
  | ((with_reducible refine' x_isi ?h ?e ?_); (case h => walk_at "ty1"); (case e => decide))
  | ((with_reducible refine' x_fldR ?h ?c ?n ?e ?_); (case h => walk_at "hp"); (case c => walk_at "cf"); (case n => walk_at "cf"); (case e => walk_at "fl"))
  | ((with_reducible refine' x_onIns ?h ?n ?_); (case h => walk_at "hp"); (case n => walk_at "fl"))
  | ((with_reducible refine' x_addS ?l ?_); (case l => walk_at "sz"))
  | ((with_reducible refine' x_lenS ?l ?_); (case l => walk_at "sz"))
  | ((with_reducible refine' x_lenL ?h ?_); (case h => walk_at "sqo"))
  | ((with_reducible refine' x_slL ?h rfl ?_); (case h => walk_at "sq"); walk_at "nw")
  | ((with_reducible refine' x_listOf ?h ?_); (case h => walk_at "sqo"); walk_at "nw")
  | ((with_reducible refine' x_strmul ?c ?_); (case c => (refine' ⟨?_, ?_, ?_⟩ <;> first | omega | decide +kernel)))
  | ((with_reducible refine' x_isD2 ?h ?_); (case h => walk_at "hp"))
  | ((with_reducible refine' x_getI ?h ?_); (case h => walk_at "hp"))
  | ((with_reducible refine' x_getS ?h ?_); (case h => walk_at "hp"))
  | ((with_reducible refine' x_dgetS ?h ?e ?_); (case h => walk_at "hp"); (case e => walk_at "fl"))
  | ((with_reducible refine' x_ixT ?h ?e ?_); (case h => walk_at "sqt"); (case e => exact rfl))
  | ((with_reducible refine' x_gTup ?h ?e ?_); (case h => walk_at "sqt"); (case e => exact rfl)))
local macro_rules | `(tactic| walk_at "st0") => `(tactic| walk_at "st2")
local macro_rules | `(tactic| walk_at "fl") => `(tactic| first
  | with_reducible exact lk_hd
  | ((with_reducible refine' lk_tl ?n ?h); (case n => walk_at "nq"); (case h => walk_at "fl"))
  | with_reducible exact lk_nil
  | with_reducible exact pf_hd
  | ((with_reducible refine' pf_tl ?n ?h); (case n => walk_at "nq"); (case h => walk_at "fl"))
  | with_reducible exact pf_nil
  | with_reducible exact vl_hd
  | ((with_reducible refine' vl_tl ?n ?h); (case n => walk_at "nr"); (case h => walk_at "fl"))
  | with_reducible exact vl_nil
  | ((with_reducible refine' pk_hd ?n); (case n => rfl))
  | ((with_reducible refine' pk_tl ?n ?t ?h); (case n => walk_at "nr"); (case t => rfl); (case h => walk_at "fl")))
local macro_rules | `(tactic| walk_at "cf") => `(tactic| with_reducible assumption)
local macro_rules | `(tactic| walk_at "st0") => `(tactic| first
  | ((with_reducible refine' x_sFldR ?h ?c ?n ?l ?e ?_); (case h => walk_at "hp"); (case c => walk_at "cf"); (case n => walk_at "cf"); (case l => exact Nat.le_of_ble_eq_true rfl); (case e => walk_at "fl")))
local macro_rules | `(tactic| walk_at "pool") => `(tactic| first
  | with_reducible assumption
  | exact Pool.ne (by walk_at "pool") (by walk_at "ne") (by walk_at "ne")
  | exact Pool.stay (by walk_at "pool") (by with_reducible assumption) (by walk_at "nm") (by walk_at "nm"))
local macro_rules | `(tactic| walk_at "szl") => `(tactic| first | exact Nat.lt_of_le_of_lt (Nat.le_of_ble_eq_true (m := 1000) rfl) (by decide) | exact Nat.lt_of_le_of_lt (by with_reducible assumption) (by decide : 1000 < sizeLine))
local macro_rules | `(tactic| walk_at "st0") => `(tactic| first
  | ((with_reducible refine' x_putS ?h ?l ?e ?_); (case h => walk_at "hp"); (case l => walk_at "szl"); (case e => walk_at "fl"))
  | ((with_reducible refine' x_setD ?h ?l ?e ?_); (case h => walk_at "hp"); (case l => walk_at "szl"); (case e => walk_at "fl"))
  | ((with_reducible refine' x_putI ?h ?l ?_); (case h => walk_at "hp"); (case l => walk_at "szl")))
local macro_rules | `(tactic| walk_at "st0") => `(tactic| first
  | ((with_reducible refine' x_rowN ?e ?_); (case e => walk_at "cf"); walk_at "nw"; (try dsimp only [List.set]))
  | ((with_reducible refine' x_rowF ?e ?_); (case e => walk_at "cf"))
  | with_reducible refine' x_xw ?_
  | ((with_reducible refine' x_xwR ?t ?h ?_); (case t => walk_at "cf"); (case h => walk_at "hp")))
local macro_rules | `(tactic| walk_at "st0") => `(tactic| first
  | ((with_reducible refine' x_isXR ?k ?x ?h ?e ?_); (case k => exact ClsV.own _); (case x => exact ExT.xc (by with_reducible assumption)); (case h => walk_at "hp"); (case e => walk_at "cf")))
local macro_rules | `(tactic| walk_at "st0") => `(tactic| first
  | with_reducible refine' x_for ?_
  | with_reducible refine' x_rng1 ?_
  | with_reducible refine' x_rng2 ?_
  | with_reducible refine' x_iList ?_
  | with_reducible refine' x_iTup ?_
  | with_reducible refine' x_par ?_
  | with_reducible refine' x_yes ?_
  | with_reducible refine' x_lc ?_
  | ((with_reducible refine' x_itL ?h ?_); (case h => walk_at "sq"))
  | ((with_reducible refine' x_itT ?h ?_); (case h => walk_at "sqt"))
  | ((with_reducible refine' x_catL ?h ?h2 ?l ?_); (case h => walk_at "hp"); (case h2 => walk_at "hp"); (case l => walk_at "sd"); walk_at "nw")
  | ((with_reducible refine' And.intro (a := List.set _ _ none = _) ?e ?_); (case e => exact rfl))
  | ((with_reducible refine' x_gNameS ?e1 ?e ?_); (case e1 => walk_at "set"); (case e => walk_at "set")))
local macro_rules | `(tactic| walk_at "st0") => `(tactic| first
  | ((with_reducible refine' x_lenQL ?h ?_); (case h => walk_at "sq"))
  | ((with_reducible refine' x_lenQT ?h ?_); (case h => walk_at "sqt"))
  | ((with_reducible refine' x_listOfL ?h ?_); (case h => walk_at "sq"); walk_at "nw")
  | ((with_reducible refine' x_listOfT ?h ?_); (case h => walk_at "sqt"); walk_at "nw")
  | ((with_reducible refine' x_tupOfL ?h ?_); (case h => walk_at "sq"); walk_at "nw")
  | ((with_reducible refine' x_sum ?h ?_); (case h => walk_at "sq"))
  | with_reducible refine' x_enumS ?_
  | ((with_reducible refine' x_qEnumS ?h ?_); (case h => walk_at "sqt"))
  | ((with_reducible refine' x_ixL ?h ?e ?_); (case h => walk_at "sq"); (case e => with_reducible assumption))
  | ((with_reducible refine' x_ixT ?h ?e ?_); (case h => walk_at "sqt"); (case e => with_reducible assumption)))
local macro_rules | `(tactic| walk_at "st0") => `(tactic| first
  | ((with_reducible refine' x_lenMT ?h ?_); (case h => walk_at "sqt"))
  | ((with_reducible refine' x_lenML ?h ?_); (case h => walk_at "sq")))
local macro_rules | `(tactic| walk_at "st0") => `(tactic| first
  | ((with_reducible refine' x_lenT2 ?h ?_); (case h => walk_at "sqt"))
  | ((with_reducible refine' x_lenT1 ?h ?_); (case h => walk_at "sqt")))
local macro_rules | `(tactic| walk_at "nn") => `(tactic| first | with_reducible assumption | ((with_reducible refine' Eq.trans (upd_ne ?a) ?b); (case a => walk_at "ne"); (case b => walk_at "nn")))
local macro_rules | `(tactic| walk_at "tk") => `(tactic| first
  | exact Tk.refl _
  | with_reducible assumption
  | ((with_reducible refine' Tk.trans ?a (Tk.updN ?b)); (case b => walk_at "nn"); (case a => walk_at "tk"))
  | ((with_reducible refine' Tk.trans ?a (Tk.updL' ?b)); (case b => exact ⟨_, by walk_at "hp"⟩); (case a => walk_at "tk"))
  | exact Stay.tk0 (by with_reducible assumption))
local macro_rules | `(tactic| walk_at "st0") => `(tactic| first
  | ((with_reducible refine' x_setLk ?h ?e ?_); (case h => walk_at "hp"); (case e => with_reducible assumption)))
local macro_rules | `(tactic| walk_at "wp") => `(tactic| (dsimp only [wipe, List.map]; (try simp only [set0, set1, set2, set3, set4, set5, set6, set7, set8, set9, set10, set11, set12, set13, set14, set15, set16, set17, set18, set19, set20])))
local macro_rules | `(tactic| walk_at "szl2") => `(tactic| first | with_reducible assumption | ((try simp only [List.length_map, List.length_append, List.length_cons, List.length_nil, List.length_take]); have := sizeLine_eq; omega))
local macro_rules | `(tactic| walk_at "st0") => `(tactic| first
  | ((with_reducible refine' x_app ?h ?l ?_); (case h => walk_at "hp"); (case l => walk_at "szl2")))
local macro_rules | `(tactic| walk_at "st0") => `(tactic| first
  | with_reducible refine' x_listRg1 ?_
  | ((with_reducible refine' x_qRgL ?l ?_); (case l => omega); walk_at "nw"))
local macro_rules | `(tactic| walk_at "nq") => `(tactic| decide +kernel)
local macro_rules | `(tactic| walk_at "nr") => `(tactic| decide +kernel)
local macro_rules | `(tactic| walk_at "st0") => `(tactic| ((with_reducible refine' c_draw ?h ?m (fun d_ H_ lo_ hi_ pl_ st_ => ?_)); (case h => walk_at "pool"); (case m => first | with_reducible assumption | (refine' ⟨?_, ?_⟩ <;> first | decide | omega))))
local macro_rules | `(tactic| walk_at "st0") => `(tactic| ((with_reducible refine' c_is_number ?h ?_); (case h => walk_at "ty1")))
local macro_rules | `(tactic| walk_at "st0") => `(tactic| ((with_reducible refine' c_is_within ?h ?_); (case h => walk_at "ty1")))
section
variable {P : Program} {w : World} {K : PySem.W.Frag} {mg : Str → Option Value} {base : Heap}
def sp_knot (K : PySem.W.Frag) : Sp := fun vs H Q _ => ∃ (a : Addr) (ns : List Nat) (x : Nat), vs = [.ref a, nat x] ∧ H a = some (.lst (ns.map nat)) ∧ x < ns.length ∧ ns.length ≤ 32 ∧ ∀ r H', H r = none → H' r = some (.tup ((kn ns x).map nat)) → Stay [] H H' → Q (.ref r) H'
theorem c_knot {K : PySem.W.Frag} {a : Addr} {ns : List Nat} {x : Nat} {H : Hp} {Q : VK} {E : XK} (h : H a = some (.lst (ns.map nat))) (l : x < ns.length) (l2 : ns.length ≤ 32) (q : ∀ r H', H r = none → H' r = some (.tup ((kn ns x).map nat)) → Stay [] H H' → Q (.ref r) H') : sp_knot K [.ref a, nat x] H Q E := ⟨a, ns, x, rfl, h, l, l2, q⟩
def knB (ns : List Nat) (x o : Nat) : Bool := o == x || ((ns.getD x 0).testBit o && (ns.getD o 0).testBit x)
theorem kn_len (ns : List Nat) (x i : Nat) : ((List.range i).filter (knB ns x)).length ≤ i := Nat.le_trans (List.length_filter_le _ _) (by simp)
theorem kn_succ (ns : List Nat) (x i : Nat) : (List.range (i + 1)).filter (knB ns x) = (List.range i).filter (knB ns x) ++ (if knB ns x i = true then [i] else []) := by
  rw [List.range_succ, List.filter_append]
  congr 1
  by_cases h : knB ns x i = true
  · rw [if_pos h]; simp [h]
  · rw [if_neg h]; simp [h]
theorem sc__knot_of : FnScope ["reached", "page", "pages", "other"] ["reached", "page"] (defScope s__knot_of) := ⟨rfl, rfl, rfl, by decide +kernel, rfl, by decide +kernel, by decide +kernel⟩
theorem ok__knot_of (T : G K mg) : FnOk P w K mg base CX0 2 T.f__knot_of T.d__knot_of ["reached", "page"] (sp_knot K) := by
  refine T.F__knot_of.ok sc__knot_of (fun vs H Q E h => ?_) (fun cdv A outer s H vs Q E hr h => ?_)
  · obtain ⟨a, ns, x, rfl, h, hx, hn, k⟩ := h
    rfl
  · obtain ⟨a, ns, x, rfl, h, hx, hn, k⟩ := h
    have hu := hu_of hr
    have nd := sc__knot_of.nd
    refine ⟨_, (pss_cons (ps_set (i := 2) nd rfl (Or.inl rfl) (pe_lst pa_nil))
        (pss_cons (ps_for PassesOwn.never rfl (pi_range1 rfl T.n_range (pa_cons (pe_callB (r := rLenQ K) call_lenQ (by rfl) T.n_len PySem.boot_len (pa_cons (pv 0) pa_nil)) pa_nil)) (pg_name (i := 3) nd rfl (Or.inl rfl)) (pss_one (ps_if (PW.pt (pw_or (pt_cmpR op_eq (pv 3) (pv 1) (nomark _)) (pw_or1 (PW.pt (pw_and (pt_val (pe_call (ok_has_page T) (hr.mono (by decide)) rfl T.g_has_page T.F_has_page.kp T.b_has_page .nil pass0 (pa_cons (pe_ix ix_list (pv 0) (pv 1) (fun _ _ => rfl)) (pa_cons (pv 3) pa_nil)))) (pw_and1 (pt_val (pe_call (ok_has_page T) (hr.mono (by decide)) rfl T.g_has_page T.F_has_page.kp T.b_has_page .nil pass0 (pa_cons (pe_ix ix_list (pv 0) (pv 3) (fun _ _ => rfl)) (pa_cons (pv 1) pa_nil)))))))))) (pss_one (ps_expr (pe_bm PySem.F.plainAttrs_list PySem.F.slot_list_append PySem.F.type_list_append mt_append (pv 2) (pa_cons (pv 3) pa_nil)))) pss_nil)))
        (pss_one (ps_ret (pe_callTy (r := rTupleOf K) call_tupleOf (by rfl) T.n_tuple (by decide +kernel) (pa_cons (pv 2) pa_nil)))))), ?_⟩
    try dsimp only [L2.cxOf, L2.Cx.nox, L2.Cx.wish]
    rw [show L2.start ["reached", "page", "pages", "other"] [V.ref a, nat x] = [some (V.ref a), some (nat x), none, none] from rfl]
    walk_at "go"
    rename_i L nL
    refine ⟨by omega, by omega, ?_⟩
    have naL : a ≠ L := ne_some h nL
    refine for_range (n := (↑ns.length : Int).toNat) (fun i σ G => (∃ v : Option V, σ = [some (V.ref a), some (nat x), some (V.ref L), v]) ∧ Stay [] H G ∧ G L = some (.lst (((List.range i).filter (knB ns x)).map nat))) ⟨⟨_, rfl⟩, by walk_at "fr", by rw [upd_same]; rfl⟩ ?_ ?_
    · rintro i σ G hi ⟨⟨v, rfl⟩, st, hL⟩
      have hiP : i < ns.length := by rw [Int.toNat_natCast] at hi; exact hi
      rw [Int.zero_add]
      have ha := st.keep _ _ h nm0
      have i1 := atNat (ns := ns) (i := i) hiP
      have i2 := atNat (ns := ns) (i := x) hx
      have hlen := kn_len ns x i
      have step := kn_succ ns x i
      have add : ∀ {E : Prop}, knB ns x i = true → (upd G L (.lst (((List.range i).filter (knB ns x)).map nat ++ [nat i])) L = some (.lst (((List.range (i + 1)).filter (knB ns x)).map nat))) := fun hk => by
        rw [upd_same, step, if_pos hk, List.map_append]; rfl
      walk_at "go"
      refine x_dec (fun z => ?_) (fun z => ?_)
      · have e : i = x := by have := V.int.inj z; omega
        have hk : knB ns x i = true := by unfold knB; rw [e]; simp
        walk_at "go"
        exact ⟨⟨_, rfl⟩, Stay.new st nL, add (E := True) hk⟩
      · have e : (i == x) = false := by simpa using fun q : i = x => z (by rw [q])
        walk_at "go"
        refine c_hasp ?_
        walk_at "go"
        refine x_bool (fun h1 => ?_) (fun h1 => ?_)
        · walk_at "go"
          refine c_hasp ?_
          walk_at "go"
          refine x_bool (fun h2 => ?_) (fun h2 => ?_)
          · have hk : knB ns x i = true := by unfold knB; rw [e, h1, h2]; rfl
            walk_at "go"
            exact ⟨⟨_, rfl⟩, Stay.new st nL, add (E := True) hk⟩
          · have hk : ¬ knB ns x i = true := by unfold knB; rw [e, h1, h2]; decide
            walk_at "go"
            exact ⟨⟨_, rfl⟩, st, by rw [step, if_neg hk, List.append_nil]; exact hL⟩
        · have hk : ¬ knB ns x i = true := by unfold knB; rw [e, h1]; simp
          walk_at "go"
          exact ⟨⟨_, rfl⟩, st, by rw [step, if_neg hk, List.append_nil]; exact hL⟩
    · rintro σ G ⟨⟨v, rfl⟩, st, hL⟩
      rw [Int.toNat_natCast] at hL
      walk_at "go"
      exact k _ _ (by assumption) (by walk_at "hpd") (by walk_at "fr")
end
end WD

namespace WD
open PySem PySem.Spec PyProof.Rows L2
-- p ≠ q of two addresses
local macro_rules | `(tactic| walk_at "ne") => `(tactic| first
  | with_reducible assumption
  | with_reducible exact Ne.symm (by assumption)
  | exact ne_some (by with_reducible assumption) (by with_reducible assumption)
  | exact Ne.symm (ne_some (by with_reducible assumption) (by with_reducible assumption)))
local macro_rules | `(tactic| walk_at "nm") => `(tactic| first | with_reducible assumption | with_reducible exact nm0 | ((with_reducible refine' nmS ?a ?b); (case a => walk_at "ne"); (case b => walk_at "nm")))
-- H p = some ?o
local macro_rules | `(tactic| walk_at "hp") => `(tactic| first
  | with_reducible exact upd_same
  | with_reducible assumption
  | ((with_reducible refine' Eq.trans (upd_ne ?a) ?b); (case a => walk_at "ne"); (case b => walk_at "hp"))
  | exact Stay.keep (by with_reducible assumption) _ _ (by walk_at "hp") (by walk_at "nm"))
local macro_rules | `(tactic| walk_at "hpd") => `(tactic| ((refine' Eq.trans ?h ?e); (case h => walk_at "hp"); (case e => exact rfl)))
-- a new address
local macro_rules | `(tactic| walk_at "nw") => `(tactic| ((repeat first | (with_reducible refine' nw_upd ?_) | refine' nw_fr (by with_reducible assumption) ?_); intro p_; intros))
local macro_rules | `(tactic| walk_at "mem") => `(tactic| first | exact List.mem_cons_self | (refine' List.mem_cons_of_mem _ ?_; walk_at "mem"))
-- what stands stays
local macro_rules | `(tactic| walk_at "fr") => `(tactic| first
  | with_reducible assumption
  | exact Stay.refl _ _
  | ((with_reducible refine' Stay.upd ?a ?b); (case a => walk_at "fr"); (case b => walk_at "mem"))
  | ((with_reducible refine' Stay.new ?a ?b); (case b => with_reducible assumption); (case a => walk_at "fr"))
  | (refine' Stay.trans ?_ (by with_reducible assumption); walk_at "fr"))
local macro_rules | `(tactic| walk_at "sq") => `(tactic| first | with_reducible assumption | exact SqL.of (by walk_at "hp"))
local macro_rules | `(tactic| walk_at "sqt") => `(tactic| first | with_reducible assumption | exact SqT.of (by walk_at "hp"))
-- side goals
local macro_rules | `(tactic| walk_at "sd") => `(tactic| first
  | with_reducible assumption | with_reducible rfl | (show _ ≤ sizeLine; decide) | (refine Nat.le_trans (Nat.le_of_ble_eq_true (m := 1000) rfl) (by decide)) | decide | omega
  | exact IntMulOk.of_right (intBits_le_64 (by omega) (by omega)) | exact IntMulOk.of_left (intBits_le_64 (by omega) (by omega))
  | (refine' Or.inl ⟨?_, ?_⟩ <;> omega) | (refine' Or.inr ⟨?_, ?_⟩ <;> omega)
  | (refine' ⟨?_, ?_⟩ <;> walk_at "sd") | (refine' ⟨?_, ?_, ?_⟩ <;> walk_at "sd"))
local macro_rules | `(tactic| walk_at "set") => `(tactic| first | with_reducible exact set0 | with_reducible exact set1 | with_reducible exact set2 | with_reducible exact set3 | with_reducible exact set4 | with_reducible exact set5 | with_reducible exact set6 | with_reducible exact set7 | with_reducible exact set8 | with_reducible exact set9 | with_reducible exact set10 | with_reducible exact set11 | with_reducible exact set12 | with_reducible exact set13 | with_reducible exact set14 | with_reducible exact set15 | with_reducible exact set16 | with_reducible exact set17 | with_reducible exact set18 | with_reducible exact set19 | with_reducible exact set20)
-- one step
local macro_rules | `(tactic| walk_at "st0") => `(tactic| first
  | with_reducible refine' x_seq ?_
  | with_reducible refine' x_next ?_
  | with_reducible refine' x_ifS ?_
  | with_reducible refine' x_asg ?_
  | with_reducible refine' x_ret ?_
  | with_reducible refine' x_retN ?_
  | with_reducible refine' x_drop ?_
  | with_reducible refine' x_brk ?_
  | with_reducible refine' x_cont ?_
  | ((with_reducible refine' x_gName ?e ?_); (case e => walk_at "set"))
  | with_reducible refine' x_gSub ?_
  | with_reducible refine' x_gCons ?_
  | with_reducible refine' x_gNil ?_
  | with_reducible refine' x_c ?_
  | ((with_reducible refine' x_var ?e ?_); (case e => exact rfl))
  | with_reducible refine' x_op ?_
  | with_reducible refine' x_un ?_
  | with_reducible refine' x_if ?_
  | with_reducible refine' x_cb ?_
  | with_reducible refine' x_cons ?_
  | with_reducible refine' x_nil ?_
  | with_reducible refine' x_bm0 ?_
  | with_reducible refine' x_bm ?_
  | with_reducible refine' x_tup ?_
  | with_reducible refine' x_lst ?_
  | ((with_reducible refine' And.intro (a := _ ≤ sizeLine) ?e ?_); (case e => walk_at "sd"); walk_at "nw")
  | with_reducible refine' x_fld ?_
  | with_reducible refine' x_test ?_
  | with_reducible refine' x_tB ?_
  | with_reducible refine' x_and ?_
  | with_reducible refine' x_or ?_
  | with_reducible refine' x_not ?_
  | with_reducible refine' x_notV ?_
  | with_reducible refine' x_andV ?_
  | with_reducible refine' x_orV ?_
  | with_reducible refine' x_rI0 ?_
  | ((with_reducible refine' x_rI ?e ?_); (case e => walk_at "sd"))
  | with_reducible refine' x_rU ?_
  | ((with_reducible refine' x_rEq ?e ?_); (case e => exact rfl))
  | ((with_reducible refine' x_rNe ?e ?_); (case e => exact rfl))
  | ((with_reducible refine' x_ixL0 ?h ?_); (case h => walk_at "sq"))
  | ((with_reducible refine' x_ixL1 ?h ?_); (case h => walk_at "sq"))
  | ((with_reducible refine' x_ixL2 ?h ?_); (case h => walk_at "sq"))
  | ((with_reducible refine' x_ixL0I ?h ?_); (case h => walk_at "sq"))
  | ((with_reducible refine' x_ixL ?h ?e ?_); (case h => walk_at "sq"); (case e => exact rfl))
  | ((with_reducible refine' x_neNil ?h ?h2 ?_); (case h => walk_at "sq"); (case h2 => walk_at "sq"))
  | ((with_reducible refine' x_pop0I ?h ?_); (case h => walk_at "hp"))
  | ((with_reducible refine' x_pop0 ?h ?_); (case h => walk_at "hp"))
  | ((with_reducible refine' x_setL0 ?h ?_); (case h => walk_at "hp"))
  | ((with_reducible refine' x_setL1 ?h ?_); (case h => walk_at "hp"))
  | ((with_reducible refine' x_setL2 ?h ?_); (case h => walk_at "hp"))
  | ((with_reducible refine' x_setL ?h ?e ?_); (case h => walk_at "hp"); (case e => exact rfl))
  | with_reducible refine' .inl ⟨_, rfl, ?_⟩
  | ((with_reducible refine' x_tyL ?h ?_); (case h => walk_at "sq"))
  | with_reducible refine' ⟨_, rfl, ?_⟩)
-- a split
local macro_rules | `(tactic| walk_at "if") => `(tactic| (
  first
  | (with_reducible refine' x_dec (fun h_ => ?_) (fun h_ => ?_))
  | (with_reducible refine' x_decN (fun h_ => ?_) (fun h_ => ?_))
  | (with_reducible refine' x_boolN (fun h_ => ?_) (fun h_ => ?_))
  | (with_reducible refine' x_bool (fun h_ => ?_) (fun h_ => ?_))))
local macro_rules | `(tactic| walk_at "ifs") => `(tactic| (walk_at "if" <;> first
  | (exfalso; first | omega | contradiction)
  | (rename_i h_; (try simp only [BEq.rfl, List.length_map, List.length_cons, List.length_nil, Int.natCast_zero, Int.ofNat_zero, gt_iff_lt, Int.lt_irrefl, Bool.true_eq_false, Bool.false_eq_true, List.isEmpty_nil, List.isEmpty_cons, V.int.injEq, V.str.injEq, V.bl.injEq, reduceCtorEq, not_false_eq_true, not_true_eq_false] at h_); (try (exfalso; omega)))))
local macro_rules | `(tactic| walk_at "ite1") => `(tactic| first
  | with_reducible refine' x_T ?_
  | with_reducible refine' x_F ?_
  | with_reducible refine' x_nT ?_
  | with_reducible refine' x_nF ?_
  | ((with_reducible refine' x_bT ?e ?_); (case e => first | decide | decide +kernel))
  | ((with_reducible refine' x_bF ?e ?_); (case e => first | decide | decide +kernel)))
local macro_rules | `(tactic| walk_at "st") => `(tactic| ((fail_if_success (with_reducible (show (if _ then _ else _)))); walk_at "st0"))
local macro_rules | `(tactic| walk_at "go") => `(tactic| repeat first | walk_at "ite1" | walk_at "st")
local macro_rules | `(tactic| walk_at "gs") => `(tactic| repeat' first | walk_at "ite1" | walk_at "st" | walk_at "ifs")
local macro_rules | `(tactic| walk_at "sz") => `(tactic| first | with_reducible assumption | (refine Nat.le_trans (by assumption) (by decide : 100000 ≤ sizeLine)) | (refine Nat.le_trans (m := 100000) ?_ (by decide); (try simp only [len_add, rep_len]); (try rw [show (Str.ofString "z").length = 1 from rfl]); omega))
local macro_rules | `(tactic| walk_at "hn") => `(tactic| first | with_reducible assumption)
local macro_rules | `(tactic| walk_at "sqo") => `(tactic| first | exact Or.inl (by walk_at "sq") | exact Or.inr (by walk_at "sqt"))
local macro_rules | `(tactic| walk_at "ty1") => `(tactic| first | with_reducible assumption | exact Ty1.int _ | exact Ty1.str _ | exact Ty1.bl _ | exact Ty1.non | exact Ty1.tup (by walk_at "hp") | exact Ty1.lst (by walk_at "hp"))
local macro_rules | `(tactic| walk_at "st2") => `(tactic| first
  | with_reducible refine' And.intro (a := V.non = V.non) rfl ?_
  | with_reducible refine' x_call0 ?_
  | with_reducible refine' x_callS ?_
  | with_reducible refine' x_meth0 ?_
  | with_reducible refine' x_methW0 ?_
  | with_reducible refine' x_make0 ?_
  | with_reducible refine' x_makeW0 ?_
  | with_reducible refine' x_sFld ?_
  | with_reducible refine' x_mkO ?_
  | with_reducible refine' x_chain ?_
  | with_reducible refine' x_dget ?_
  | with_reducible refine' x_dget1 ?_
  | with_reducible refine' x_dget2 ?_
  | with_reducible refine' x_sDPut ?_
  | with_reducible refine' x_pairs ?_
  | with_reducible refine' x_pairs0 ?_
  | with_reducible refine' x_sl ?_
  | with_reducible refine' x_noPart ?_
  | with_reducible refine' x_part ?_
  | ((with_reducible refine' x_disp ?_); walk_at "nw")
  | ((with_reducible refine' x_dnew ?_); walk_at "nw")
  | ((with_reducible refine' x_rz ?h ?_); (case h => walk_at "cf"); walk_at "nw")
  | ((with_reducible refine' x_isi ?h ?e ?_); (case h => walk_at "ty1"); (case e => decide))
  | ((with_reducible refine' x_fldR ?h ?c ?n ?e ?_); (case h => walk_at "hp"); (case c => walk_at "cf"); (case n => walk_at "cf"); (case e => walk_at "fl"))
  | ((with_reducible refine' x_onIns ?h ?n ?_); (case h => walk_at "hp"); (case n => walk_at "fl"))
  | ((with_reducible refine' x_addS ?l ?_); (case l => walk_at "sz"))
  | ((with_reducible refine' x_lenS ?l ?_); (case l => walk_at "sz"))
  | ((with_reducible refine' x_lenL ?h ?_); (case h => walk_at "sqo"))
  | ((with_reducible refine' x_slL ?h rfl ?_); (case h => walk_at "sq"); walk_at "nw")
  | ((with_reducible refine' x_listOf ?h ?_); (case h => walk_at "sqo"); walk_at "nw")
  | ((with_reducible refine' x_strmul ?c ?_); (case c => (refine' ⟨?_, ?_, ?_⟩ <;> first | omega | decide +kernel)))
  | ((with_reducible refine' x_isD2 ?h ?_); (case h => walk_at "hp"))
  | ((with_reducible refine' x_getI ?h ?_); (case h => walk_at "hp"))
  | ((with_reducible refine' x_getS ?h ?_); (case h => walk_at "hp"))
  | ((with_reducible refine' x_dgetS ?h ?e ?_); (case h => walk_at "hp"); (case e => walk_at "fl"))
  | ((with_reducible refine' x_ixT ?h ?e ?_); (case h => walk_at "sqt"); (case e => exact rfl))
  | ((with_reducible refine' x_gTup ?h ?e ?_); (case h => walk_at "sqt"); (case e => exact rfl)))
local macro_rules | `(tactic| walk_at "st0") => `(tactic| walk_at "st2")
local macro_rules | `(tactic| walk_at "fl") => `(tactic| first
  | with_reducible exact lk_hd
  | ((with_reducible refine' lk_tl ?n ?h); (case n => walk_at "nq"); (case h => walk_at "fl"))
  | with_reducible exact lk_nil
  | with_reducible exact pf_hd
  | ((with_reducible refine' pf_tl ?n ?h); (case n => walk_at "nq"); (case h => walk_at "fl"))
  | with_reducible exact pf_nil
  | with_reducible exact vl_hd
  | ((with_reducible refine' vl_tl ?n ?h); (case n => walk_at "nr"); (case h => walk_at "fl"))
  | with_reducible exact vl_nil
  | ((with_reducible refine' pk_hd ?n); (case n => rfl))
  | ((with_reducible refine' pk_tl ?n ?t ?h); (case n => walk_at "nr"); (case t => rfl); (case h => walk_at "fl")))
local macro_rules | `(tactic| walk_at "cf") => `(tactic| with_reducible assumption)
local macro_rules | `(tactic| walk_at "st0") => `(tactic| first
  | ((with_reducible refine' x_sFldR ?h ?c ?n ?l ?e ?_); (case h => walk_at "hp"); (case c => walk_at "cf"); (case n => walk_at "cf"); (case l => exact Nat.le_of_ble_eq_true rfl); (case e => walk_at "fl")))
local macro_rules | `(tactic| walk_at "pool") => `(tactic| first
  | with_reducible assumption
  | exact Pool.ne (by walk_at "pool") (by walk_at "ne") (by walk_at "ne")
  | exact Pool.stay (by walk_at "pool") (by with_reducible assumption) (by walk_at "nm") (by walk_at "nm"))
local macro_rules | `(tactic| walk_at "szl") => `(tactic| first | exact Nat.lt_of_le_of_lt (Nat.le_of_ble_eq_true (m := 1000) rfl) (by decide) | exact Nat.lt_of_le_of_lt (by with_reducible assumption) (by decide : 1000 < sizeLine))
local macro_rules | `(tactic| walk_at "st0") => `(tactic| first
  | ((with_reducible refine' x_putS ?h ?l ?e ?_); (case h => walk_at "hp"); (case l => walk_at "szl"); (case e => walk_at "fl"))
  | ((with_reducible refine' x_setD ?h ?l ?e ?_); (case h => walk_at "hp"); (case l => walk_at "szl"); (case e => walk_at "fl"))
  | ((with_reducible refine' x_putI ?h ?l ?_); (case h => walk_at "hp"); (case l => walk_at "szl")))
local macro_rules | `(tactic| walk_at "st0") => `(tactic| first
  | ((with_reducible refine' x_rowN ?e ?_); (case e => walk_at "cf"); walk_at "nw"; (try dsimp only [List.set]))
  | ((with_reducible refine' x_rowF ?e ?_); (case e => walk_at "cf"))
  | with_reducible refine' x_xw ?_
  | ((with_reducible refine' x_xwR ?t ?h ?_); (case t => walk_at "cf"); (case h => walk_at "hp")))
local macro_rules | `(tactic| walk_at "st0") => `(tactic| first
  | ((with_reducible refine' x_isXR ?k ?x ?h ?e ?_); (case k => exact ClsV.own _); (case x => exact ExT.xc (by with_reducible assumption)); (case h => walk_at "hp"); (case e => walk_at "cf")))
local macro_rules | `(tactic| walk_at "st0") => `(tactic| first
  | with_reducible refine' x_for ?_
  | with_reducible refine' x_rng1 ?_
  | with_reducible refine' x_rng2 ?_
  | with_reducible refine' x_iList ?_
  | with_reducible refine' x_iTup ?_
  | with_reducible refine' x_par ?_
  | with_reducible refine' x_yes ?_
  | with_reducible refine' x_lc ?_
  | ((with_reducible refine' x_itL ?h ?_); (case h => walk_at "sq"))
  | ((with_reducible refine' x_itT ?h ?_); (case h => walk_at "sqt"))
  | ((with_reducible refine' x_catL ?h ?h2 ?l ?_); (case h => walk_at "hp"); (case h2 => walk_at "hp"); (case l => walk_at "sd"); walk_at "nw")
  | ((with_reducible refine' And.intro (a := List.set _ _ none = _) ?e ?_); (case e => exact rfl))
  | ((with_reducible refine' x_gNameS ?e1 ?e ?_); (case e1 => walk_at "set"); (case e => walk_at "set")))
local macro_rules | `(tactic| walk_at "st0") => `(tactic| first
  | ((with_reducible refine' x_lenQL ?h ?_); (case h => walk_at "sq"))
  | ((with_reducible refine' x_lenQT ?h ?_); (case h => walk_at "sqt"))
  | ((with_reducible refine' x_listOfL ?h ?_); (case h => walk_at "sq"); walk_at "nw")
  | ((with_reducible refine' x_listOfT ?h ?_); (case h => walk_at "sqt"); walk_at "nw")
  | ((with_reducible refine' x_tupOfL ?h ?_); (case h => walk_at "sq"); walk_at "nw")
  | ((with_reducible refine' x_sum ?h ?_); (case h => walk_at "sq"))
  | with_reducible refine' x_enumS ?_
  | ((with_reducible refine' x_qEnumS ?h ?_); (case h => walk_at "sqt"))
  | ((with_reducible refine' x_ixL ?h ?e ?_); (case h => walk_at "sq"); (case e => with_reducible assumption))
  | ((with_reducible refine' x_ixT ?h ?e ?_); (case h => walk_at "sqt"); (case e => with_reducible assumption)))
local macro_rules | `(tactic| walk_at "st0") => `(tactic| first
  | ((with_reducible refine' x_lenMT ?h ?_); (case h => walk_at "sqt"))
  | ((with_reducible refine' x_lenML ?h ?_); (case h => walk_at "sq")))
local macro_rules | `(tactic| walk_at "st0") => `(tactic| first
  | ((with_reducible refine' x_lenT2 ?h ?_); (case h => walk_at "sqt"))
  | ((with_reducible refine' x_lenT1 ?h ?_); (case h => walk_at "sqt")))
local macro_rules | `(tactic| walk_at "nn") => `(tactic| first | with_reducible assumption | ((with_reducible refine' Eq.trans (upd_ne ?a) ?b); (case a => walk_at "ne"); (case b => walk_at "nn")))
local macro_rules | `(tactic| walk_at "tk") => `(tactic| first
  | exact Tk.refl _
  | with_reducible assumption
  | ((with_reducible refine' Tk.trans ?a (Tk.updN ?b)); (case b => walk_at "nn"); (case a => walk_at "tk"))
  | ((with_reducible refine' Tk.trans ?a (Tk.updL' ?b)); (case b => exact ⟨_, by walk_at "hp"⟩); (case a => walk_at "tk"))
  | exact Stay.tk0 (by with_reducible assumption))
local macro_rules | `(tactic| walk_at "st0") => `(tactic| first
  | ((with_reducible refine' x_setLk ?h ?e ?_); (case h => walk_at "hp"); (case e => with_reducible assumption)))
local macro_rules | `(tactic| walk_at "wp") => `(tactic| (dsimp only [wipe, List.map]; (try simp only [set0, set1, set2, set3, set4, set5, set6, set7, set8, set9, set10, set11, set12, set13, set14, set15, set16, set17, set18, set19, set20])))
local macro_rules | `(tactic| walk_at "szl2") => `(tactic| first | with_reducible assumption | ((try simp only [List.length_map, List.length_append, List.length_cons, List.length_nil, List.length_take]); have := sizeLine_eq; omega))
local macro_rules | `(tactic| walk_at "st0") => `(tactic| first
  | ((with_reducible refine' x_app ?h ?l ?_); (case h => walk_at "hp"); (case l => walk_at "szl2")))
local macro_rules | `(tactic| walk_at "st0") => `(tactic| first
  | with_reducible refine' x_listRg1 ?_
  | ((with_reducible refine' x_qRgL ?l ?_); (case l => omega); walk_at "nw"))
local macro_rules | `(tactic| walk_at "nq") => `(tactic| decide +kernel)
local macro_rules | `(tactic| walk_at "nr") => `(tactic| decide +kernel)
local macro_rules | `(tactic| walk_at "st0") => `(tactic| ((with_reducible refine' c_draw ?h ?m (fun d_ H_ lo_ hi_ pl_ st_ => ?_)); (case h => walk_at "pool"); (case m => first | with_reducible assumption | (refine' ⟨?_, ?_⟩ <;> first | decide | omega))))
local macro_rules | `(tactic| walk_at "st0") => `(tactic| ((with_reducible refine' c_is_number ?h ?_); (case h => walk_at "ty1")))
local macro_rules | `(tactic| walk_at "st0") => `(tactic| ((with_reducible refine' c_is_within ?h ?_); (case h => walk_at "ty1")))
section
variable {P : Program} {w : World} {K : PySem.W.Frag} {mg : Str → Option Value} {base : Heap}
def RowsAt (H : Hp) (xs : List V) (kss : List (List Nat)) : Prop := xs.length = kss.length ∧ ∀ (i : Nat) (x : V) (ks : List Nat), xs[i]? = some x → kss[i]? = some ks → ∃ t, x = .ref t ∧ H t = some (.tup (ks.map nat))
theorem RowsAt.tk {H H' : Hp} {xs : List V} {kss : List (List Nat)} (h : RowsAt H xs kss) (s : Tk H H') : RowsAt H' xs kss := ⟨h.1, fun i x ks e1 e2 => by
  obtain ⟨t, e, g⟩ := h.2 i x ks e1 e2
  exact ⟨t, e, s _ _ g⟩⟩
theorem RowsAt.nil {H : Hp} : RowsAt H [] [] := ⟨rfl, fun _ _ _ e => by simp at e⟩
theorem RowsAt.snoc {H : Hp} {xs : List V} {kss : List (List Nat)} {t : Addr} {ks : List Nat} (h : RowsAt H xs kss) (g : H t = some (.tup (ks.map nat))) : RowsAt H (xs ++ [.ref t]) (kss ++ [ks]) := by
  refine ⟨by simp [h.1], fun i y c e1 e2 => ?_⟩
  rcases Nat.lt_or_ge i xs.length with l | l
  · rw [List.getElem?_append_left l] at e1
    rw [List.getElem?_append_left (by rw [← h.1]; exact l)] at e2
    exact h.2 i y c e1 e2
  · rw [List.getElem?_append_right l] at e1
    rw [List.getElem?_append_right (by rw [← h.1]; exact l)] at e2
    rw [← h.1] at e2
    rcases Nat.eq_zero_or_pos (i - xs.length) with z | z
    · rw [z] at e1 e2
      cases e1; cases e2; exact ⟨t, rfl, g⟩
    · rw [List.getElem?_eq_none (by simp; omega)] at e1; cases e1
def kh (ns : List Nat) (x : Nat) : Bool := (kn ns x).head? == some x
def kns (ns : List Nat) (i : Nat) : List (List Nat) := ((List.range i).filter (kh ns)).map (kn ns)
theorem kns_succ (ns : List Nat) (i : Nat) : kns ns (i + 1) = kns ns i ++ (if kh ns i = true then [kn ns i] else []) := by
  unfold kns
  rw [List.range_succ, List.filter_append, List.map_append]
  congr 1
  by_cases h : kh ns i = true
  · rw [if_pos h]; simp [h]
  · rw [if_neg h]; simp [h]
theorem kns_len (ns : List Nat) (i : Nat) : (kns ns i).length ≤ i := by
  unfold kns
  rw [List.length_map]
  exact Nat.le_trans (List.length_filter_le _ _) (by simp)
theorem kn_cons {ns : List Nat} {x : Nat} (h : x < ns.length) : ∃ y r, kn ns x = y :: r := by
  have m : x ∈ kn ns x := by unfold kn; rw [List.mem_filter]; exact ⟨List.mem_range.mpr h, by simp⟩
  cases e : kn ns x with
  | nil => rw [e] at m; cases m
  | cons y r => exact ⟨y, r, rfl⟩
theorem x_ixT0 {K : PySem.W.Frag} {H : Hp} {Q : VK} {a : Addr} {x : V} {r : List V} (hs : SqT K H a (x :: r)) (h : Q x H) : rIxT K (.ref a) (.int 0) H Q := ⟨a, _, 0, x, rfl, rfl, hs, at0, h⟩
theorem Wf.ed {P : Nat} {ds : List Deed} (w : Wf P ds) : ∀ x y, Ed ds x y → y < P := by
  rintro x y ⟨d, hd, _, hy⟩
  exact ((w.d d hd).rd y hy).1
def sp_knots (K : PySem.W.Frag) : Sp := fun vs H Q _ => ∃ a P ds, vs = [.ref a] ∧ LogAt H a P ds ∧ Wf P ds ∧ ∀ r xs ms H', H' r = some (.tup xs) → Bt P ms (Tg (Ed ds)) → RowsAt H' xs (kns ms P) → Stay [] H H' → Q (.ref r) H'
theorem c_knots {K : PySem.W.Frag} {a : Addr} {P : Nat} {ds : List Deed} {H : Hp} {Q : VK} {E : XK} (h : LogAt H a P ds) (w : Wf P ds) (q : ∀ r xs ms H', H' r = some (.tup xs) → Bt P ms (Tg (Ed ds)) → RowsAt H' xs (kns ms P) → Stay [] H H' → Q (.ref r) H') : sp_knots K [.ref a] H Q E := ⟨a, P, ds, rfl, h, w, q⟩
theorem sc_knots : FnScope ["log", "reached", "found", "page", "knot"] ["log"] (defScope s_knots) := ⟨rfl, rfl, rfl, by decide +kernel, rfl, by decide +kernel, by decide +kernel⟩
theorem ok_knots (T : G K mg) : FnOk P w K mg base CX0 5 T.f_knots T.d_knots ["log"] (sp_knots K) := by
  refine T.F_knots.ok sc_knots (fun vs H Q E h => ?_) (fun cdv A outer s H vs Q E hr h => ?_)
  · obtain ⟨a, P, ds, rfl, hl, wf, k⟩ := h
    rfl
  · obtain ⟨a, P, ds, rfl, hl, wf, k⟩ := h
    have hu := hu_of hr
    have nd := sc_knots.nd
    refine ⟨_, (pss_cons (ps_set (i := 1) nd rfl (Or.inl rfl) (pe_call (ok__reached T) (hr.mono (by decide)) rfl T.g__reached T.F__reached.kp T.b__reached .nil pass0 (pa_cons (pe_call (ok_needs_of T) (hr.mono (by decide)) rfl T.g_needs_of T.F_needs_of.kp T.b_needs_of .nil pass0 (pa_cons (pe_call (ok_made_log T) (hr.mono (by decide)) rfl T.g_made_log T.F_made_log.kp T.b_made_log .nil passL (pa_cons (pv 0) pa_nil)) pa_nil)) pa_nil)))
        (pss_cons (ps_set (i := 2) nd rfl (Or.inl rfl) (pe_lst pa_nil))
        (pss_cons (ps_for PassesOwn.never rfl (pi_range1 rfl T.n_range (pa_cons (pe_callB (r := rLenQ K) call_lenQ (by rfl) T.n_len PySem.boot_len (pa_cons (pv 1) pa_nil)) pa_nil)) (pg_name (i := 3) nd rfl (Or.inl rfl)) (pss_cons (ps_set (i := 4) nd rfl (Or.inl rfl) (pe_call (ok__knot_of T) (hr.mono (by decide)) rfl T.g__knot_of T.F__knot_of.kp T.b__knot_of .nil pass0 (pa_cons (pv 1) (pa_cons (pv 3) pa_nil))))
        (pss_one (ps_if (pt_cmpR op_eq (pe_ix ix_tup (pv 4) pe_int (fun _ _ => rfl)) (pv 3) (nomark _)) (pss_one (ps_expr (pe_bm PySem.F.plainAttrs_list PySem.F.slot_list_append PySem.F.type_list_append mt_append (pv 2) (pa_cons (pv 4) pa_nil)))) pss_nil))))
        (pss_one (ps_ret (pe_callTy (r := rTupleOf K) call_tupleOf (by rfl) T.n_tuple (by decide +kernel) (pa_cons (pv 2) pa_nil))))))), ?_⟩
    try dsimp only [L2.cxOf, L2.Cx.nox, L2.Cx.wish]
    rw [show L2.start ["log", "reached", "found", "page", "knot"] [V.ref a] = [some (V.ref a), none, none, none, none] from rfl]
    have p2 := wf.p2
    walk_at "go"
    refine c_mlog hl wf (fun r H1 hl1 st1 => ?_)
    walk_at "go"
    refine c_needs hl1 wf (fun r2 ns H2 g2 b2 st2 => ?_)
    walk_at "go"
    refine c_reached g2 b2 p2 (fun R ms H3 nR g3 b3 st3 => ?_)
    have st := (st1.trans st2).trans st3
    have nHR : H R = none := st1.old _ (st2.old _ nR)
    have hms := b3.len
    have b4 := b3.mono fun x hx y => Rk.all (E := Ed ds) (P := P) wf.ed
    clear st1 st2 st3 hl hl1 g2 b2 b3
    walk_at "go"
    rename_i L nHL nL
    have nLR : L ≠ R := (ne_some g3 nL).symm
    refine ⟨by omega, by omega, ?_⟩
    refine for_range (n := (↑ms.length : Int).toNat) (fun i σ G => (∃ v1 v2 : Option V, σ = [some (V.ref a), some (V.ref R), some (V.ref L), v1, v2]) ∧ Stay [] H G ∧ G R = some (.lst (ms.map nat)) ∧ ∃ xs, G L = some (.lst xs) ∧ RowsAt G xs (kns ms i)) ⟨⟨_, _, rfl⟩, by walk_at "fr", by walk_at "hp", [], upd_same, RowsAt.nil⟩ ?_ ?_
    · rintro i σ G hi ⟨⟨v1, v2, rfl⟩, st', hR, xs, hL, hx⟩
      have hiP : i < ms.length := by rw [Int.toNat_natCast] at hi; exact hi
      rw [Int.zero_add]
      clear st
      walk_at "go"
      refine c_knot hR hiP (by omega) (fun t G2 nt gt st2 => ?_)
      have st3 := st'.trans st2
      replace hR := st2.keep _ _ hR nm0
      replace hL := st2.keep _ _ hL nm0
      replace hx := hx.tk st2.tk0
      have step := kns_succ ms i
      have hxl := hx.1
      have hkl := kns_len ms i
      obtain ⟨y, rr, ey⟩ := kn_cons hiP
      have gt2 := gt
      rw [ey, List.map_cons] at gt2
      clear st' st2
      walk_at "go"
      refine x_ixT0 (SqT.of gt2) ?_
      walk_at "go"
      refine x_dec (fun z => ?_) (fun z => ?_)
      · have e : y = i := by have := V.int.inj z; omega
        have hk : kh ms i = true := by unfold kh; rw [ey, e]; simp
        have ntL : t ≠ L := ne_of gt hL (by intro z; cases z)
        walk_at "go"
        refine ⟨⟨_, _, rfl⟩, Stay.new st3 nHL, by rw [upd_ne nLR.symm]; exact hR, _, upd_same, ?_⟩
        rw [step, if_pos hk]
        exact (hx.tk (Tk.updL hL)).snoc (by rw [upd_ne ntL]; exact gt)
      · have hk : ¬ kh ms i = true := by
          unfold kh; rw [ey]; simp
          exact fun q => z (by rw [q])
        walk_at "go"
        exact ⟨⟨_, _, rfl⟩, st3, hR, xs, hL, by rw [step, if_neg hk, List.append_nil]; exact hx⟩
    · rintro σ G ⟨⟨v1, v2, rfl⟩, st', hR, xs, hL, hx⟩
      rw [Int.toNat_natCast, hms] at hx
      clear st
      walk_at "go"
      exact k _ xs ms _ (by walk_at "hp") b4 (hx.tk (by walk_at "tk")) (by walk_at "fr")
end
end WD

namespace WD
open PySem PySem.Spec PyProof.Rows L2
-- p ≠ q of two addresses
local macro_rules | `(tactic| walk_at "ne") => `(tactic| first
  | with_reducible assumption
  | with_reducible exact Ne.symm (by assumption)
  | exact ne_some (by with_reducible assumption) (by with_reducible assumption)
  | exact Ne.symm (ne_some (by with_reducible assumption) (by with_reducible assumption)))
local macro_rules | `(tactic| walk_at "nm") => `(tactic| first | with_reducible assumption | with_reducible exact nm0 | ((with_reducible refine' nmS ?a ?b); (case a => walk_at "ne"); (case b => walk_at "nm")))
-- H p = some ?o
local macro_rules | `(tactic| walk_at "hp") => `(tactic| first
  | with_reducible exact upd_same
  | with_reducible assumption
  | ((with_reducible refine' Eq.trans (upd_ne ?a) ?b); (case a => walk_at "ne"); (case b => walk_at "hp"))
  | exact Stay.keep (by with_reducible assumption) _ _ (by walk_at "hp") (by walk_at "nm"))
local macro_rules | `(tactic| walk_at "hpd") => `(tactic| ((refine' Eq.trans ?h ?e); (case h => walk_at "hp"); (case e => exact rfl)))
-- a new address
local macro_rules | `(tactic| walk_at "nw") => `(tactic| ((repeat first | (with_reducible refine' nw_upd ?_) | refine' nw_fr (by with_reducible assumption) ?_); intro p_; intros))
local macro_rules | `(tactic| walk_at "mem") => `(tactic| first | exact List.mem_cons_self | (refine' List.mem_cons_of_mem _ ?_; walk_at "mem"))
-- what stands stays
local macro_rules | `(tactic| walk_at "fr") => `(tactic| first
  | with_reducible assumption
  | exact Stay.refl _ _
  | ((with_reducible refine' Stay.upd ?a ?b); (case a => walk_at "fr"); (case b => walk_at "mem"))
  | ((with_reducible refine' Stay.new ?a ?b); (case b => with_reducible assumption); (case a => walk_at "fr"))
  | (refine' Stay.trans ?_ (by with_reducible assumption); walk_at "fr"))
local macro_rules | `(tactic| walk_at "sq") => `(tactic| first | with_reducible assumption | exact SqL.of (by walk_at "hp"))
local macro_rules | `(tactic| walk_at "sqt") => `(tactic| first | with_reducible assumption | exact SqT.of (by walk_at "hp"))
-- side goals
local macro_rules | `(tactic| walk_at "sd") => `(tactic| first
  | with_reducible assumption | with_reducible rfl | (show _ ≤ sizeLine; decide) | (refine Nat.le_trans (Nat.le_of_ble_eq_true (m := 1000) rfl) (by decide)) | decide | omega
  | exact IntMulOk.of_right (intBits_le_64 (by omega) (by omega)) | exact IntMulOk.of_left (intBits_le_64 (by omega) (by omega))
  | (refine' Or.inl ⟨?_, ?_⟩ <;> omega) | (refine' Or.inr ⟨?_, ?_⟩ <;> omega)
  | (refine' ⟨?_, ?_⟩ <;> walk_at "sd") | (refine' ⟨?_, ?_, ?_⟩ <;> walk_at "sd"))
local macro_rules | `(tactic| walk_at "set") => `(tactic| first | with_reducible exact set0 | with_reducible exact set1 | with_reducible exact set2 | with_reducible exact set3 | with_reducible exact set4 | with_reducible exact set5 | with_reducible exact set6 | with_reducible exact set7 | with_reducible exact set8 | with_reducible exact set9 | with_reducible exact set10 | with_reducible exact set11 | with_reducible exact set12 | with_reducible exact set13 | with_reducible exact set14 | with_reducible exact set15 | with_reducible exact set16 | with_reducible exact set17 | with_reducible exact set18 | with_reducible exact set19 | with_reducible exact set20)
-- one step
local macro_rules | `(tactic| walk_at "st0") => `(tactic| first
  | with_reducible refine' x_seq ?_
  | with_reducible refine' x_next ?_
  | with_reducible refine' x_ifS ?_
  | with_reducible refine' x_asg ?_
  | with_reducible refine' x_ret ?_
  | with_reducible refine' x_retN ?_
  | with_reducible refine' x_drop ?_
  | with_reducible refine' x_brk ?_
  | with_reducible refine' x_cont ?_
  | ((with_reducible refine' x_gName ?e ?_); (case e => walk_at "set"))
  | with_reducible refine' x_gSub ?_
  | with_reducible refine' x_gCons ?_
  | with_reducible refine' x_gNil ?_
  | with_reducible refine' x_c ?_
  | ((with_reducible refine' x_var ?e ?_); (case e => exact rfl))
  | with_reducible refine' x_op ?_
  | with_reducible refine' x_un ?_
  | with_reducible refine' x_if ?_
  | with_reducible refine' x_cb ?_
  | with_reducible refine' x_cons ?_
  | with_reducible refine' x_nil ?_
  | with_reducible refine' x_bm0 ?_
  | with_reducible refine' x_bm ?_
  | with_reducible refine' x_tup ?_
  | with_reducible refine' x_lst ?_
  | ((with_reducible refine' And.intro (a := _ ≤ sizeLine) ?e ?_); (case e => walk_at "sd"); walk_at "nw")
  | with_reducible refine' x_fld ?_
  | with_reducible refine' x_test ?_
  | with_reducible refine' x_tB ?_
  | with_reducible refine' x_and ?_
  | with_reducible refine' x_or ?_
  | with_reducible refine' x_not ?_
  | with_reducible refine' x_notV ?_
  | with_reducible refine' x_andV ?_
  | with_reducible refine' x_orV ?_
  | with_reducible refine' x_rI0 ?_
  | ((with_reducible refine' x_rI ?e ?_); (case e => walk_at "sd"))
  | with_reducible refine' x_rU ?_
  | ((with_reducible refine' x_rEq ?e ?_); (case e => exact rfl))
  | ((with_reducible refine' x_rNe ?e ?_); (case e => exact rfl))
  | ((with_reducible refine' x_ixL0 ?h ?_); (case h => walk_at "sq"))
  | ((with_reducible refine' x_ixL1 ?h ?_); (case h => walk_at "sq"))
  | ((with_reducible refine' x_ixL2 ?h ?_); (case h => walk_at "sq"))
  | ((with_reducible refine' x_ixL0I ?h ?_); (case h => walk_at "sq"))
  | ((with_reducible refine' x_ixL ?h ?e ?_); (case h => walk_at "sq"); (case e => exact rfl))
  | ((with_reducible refine' x_neNil ?h ?h2 ?_); (case h => walk_at "sq"); (case h2 => walk_at "sq"))
  | ((with_reducible refine' x_pop0I ?h ?_); (case h => walk_at "hp"))
  | ((with_reducible refine' x_pop0 ?h ?_); (case h => walk_at "hp"))
  | ((with_reducible refine' x_setL0 ?h ?_); (case h => walk_at "hp"))
  | ((with_reducible refine' x_setL1 ?h ?_); (case h => walk_at "hp"))
  | ((with_reducible refine' x_setL2 ?h ?_); (case h => walk_at "hp"))
  | ((with_reducible refine' x_setL ?h ?e ?_); (case h => walk_at "hp"); (case e => exact rfl))
  | with_reducible refine' .inl ⟨_, rfl, ?_⟩
  | ((with_reducible refine' x_tyL ?h ?_); (case h => walk_at "sq"))
  | with_reducible refine' ⟨_, rfl, ?_⟩)
-- a split
local macro_rules | `(tactic| walk_at "if") => `(tactic| (
  first
  | (with_reducible refine' x_dec (fun h_ => ?_) (fun h_ => ?_))
  | (with_reducible refine' x_decN (fun h_ => ?_) (fun h_ => ?_))
  | (with_reducible refine' x_boolN (fun h_ => ?_) (fun h_ => ?_))
  | (with_reducible refine' x_bool (fun h_ => ?_) (fun h_ => ?_))))
local macro_rules | `(tactic| walk_at "ifs") => `(tactic| (walk_at "if" <;> first
  | (exfalso; first | omega | contradiction)
  | (rename_i h_; (try simp only [BEq.rfl, List.length_map, List.length_cons, List.length_nil, Int.natCast_zero, Int.ofNat_zero, gt_iff_lt, Int.lt_irrefl, Bool.true_eq_false, Bool.false_eq_true, List.isEmpty_nil, List.isEmpty_cons, V.int.injEq, V.str.injEq, V.bl.injEq, reduceCtorEq, not_false_eq_true, not_true_eq_false] at h_); (try (exfalso; omega)))))
local macro_rules | `(tactic| walk_at "ite1") => `(tactic| first
  | with_reducible refine' x_T ?_
  | with_reducible refine' x_F ?_
  | with_reducible refine' x_nT ?_
  | with_reducible refine' x_nF ?_
  | ((with_reducible refine' x_bT ?e ?_); (case e => first | decide | decide +kernel))
  | ((with_reducible refine' x_bF ?e ?_); (case e => first | decide | decide +kernel)))
local macro_rules | `(tactic| walk_at "st") => `(tactic| ((fail_if_success (with_reducible (show (if _ then _ else _)))); walk_at "st0"))
local macro_rules | `(tactic| walk_at "go") => `(tactic| repeat first | walk_at "ite1" | walk_at "st")
local macro_rules | `(tactic| walk_at "gs") => `(tactic| repeat' first | walk_at "ite1" | walk_at "st" | walk_at "ifs")
local macro_rules | `(tactic| walk_at "sz") => `(tactic| first | with_reducible assumption | (refine Nat.le_trans (by assumption) (by decide : 100000 ≤ sizeLine)) | (refine Nat.le_trans (m := 100000) ?_ (by decide); (try simp only [len_add, rep_len]); (try rw [show (Str.ofString "z").length = 1 from rfl]); omega))
local macro_rules | `(tactic| walk_at "hn") => `(tactic| first | with_reducible assumption)
local macro_rules | `(tactic| walk_at "sqo") => `(tactic| first | exact Or.inl (by walk_at "sq") | exact Or.inr (by walk_at "sqt"))
local macro_rules | `(tactic| walk_at "ty1") => `(tactic| first | with_reducible assumption | exact Ty1.int _ | exact Ty1.str _ | exact Ty1.bl _ | exact Ty1.non | exact Ty1.tup (by walk_at "hp") | exact Ty1.lst (by walk_at "hp"))
local macro_rules | `(tactic| walk_at "st2") => `(tactic| first
  | with_reducible refine' And.intro (a := V.non = V.non) rfl ?_
  | with_reducible refine' x_call0 ?_
  | with_reducible refine' x_callS ?_
  | with_reducible refine' x_meth0 ?_
  | with_reducible refine' x_methW0 ?_
  | with_reducible refine' x_make0 ?_
  | with_reducible refine' x_makeW0 ?_
  | with_reducible refine' x_sFld ?_
  | with_reducible refine' x_mkO ?_
  | with_reducible refine' x_chain ?_
  | with_reducible refine' x_dget ?_
  | with_reducible refine' x_dget1 ?_
  | with_reducible refine' x_dget2 ?_
  | with_reducible refine' x_sDPut ?_
  | with_reducible refine' x_pairs ?_
  | with_reducible refine' x_pairs0 ?_
  | with_reducible refine' x_sl ?_
  | with_reducible refine' x_noPart ?_
  | with_reducible refine' x_part ?_
  | ((with_reducible refine' x_disp ?_); walk_at "nw")
  | ((with_reducible refine' x_dnew ?_); walk_at "nw")
  | ((with_reducible refine' x_rz ?h ?_); (case h => walk_at "cf"); walk_at "nw")
  | ((with_reducible refine' x_isi ?h ?e ?_); (case h => walk_at "ty1"); (case e => decide))
  | ((with_reducible refine' x_fldR ?h ?c ?n ?e ?_); (case h => walk_at "hp"); (case c => walk_at "cf"); (case n => walk_at "cf"); (case e => walk_at "fl"))
  | ((with_reducible refine' x_onIns ?h ?n ?_); (case h => walk_at "hp"); (case n => walk_at "fl"))
  | ((with_reducible refine' x_addS ?l ?_); (case l => walk_at "sz"))
  | ((with_reducible refine' x_lenS ?l ?_); (case l => walk_at "sz"))
  | ((with_reducible refine' x_lenL ?h ?_); (case h => walk_at "sqo"))
  | ((with_reducible refine' x_slL ?h rfl ?_); (case h => walk_at "sq"); walk_at "nw")
  | ((with_reducible refine' x_listOf ?h ?_); (case h => walk_at "sqo"); walk_at "nw")
  | ((with_reducible refine' x_strmul ?c ?_); (case c => (refine' ⟨?_, ?_, ?_⟩ <;> first | omega | decide +kernel)))
  | ((with_reducible refine' x_isD2 ?h ?_); (case h => walk_at "hp"))
  | ((with_reducible refine' x_getI ?h ?_); (case h => walk_at "hp"))
  | ((with_reducible refine' x_getS ?h ?_); (case h => walk_at "hp"))
  | ((with_reducible refine' x_dgetS ?h ?e ?_); (case h => walk_at "hp"); (case e => walk_at "fl"))
  | ((with_reducible refine' x_ixT ?h ?e ?_); (case h => walk_at "sqt"); (case e => exact rfl))
  | ((with_reducible refine' x_gTup ?h ?e ?_); (case h => walk_at "sqt"); (case e => exact rfl)))
local macro_rules | `(tactic| walk_at "st0") => `(tactic| walk_at "st2")
local macro_rules | `(tactic| walk_at "fl") => `(tactic| first
  | with_reducible exact lk_hd
  | ((with_reducible refine' lk_tl ?n ?h); (case n => walk_at "nq"); (case h => walk_at "fl"))
  | with_reducible exact lk_nil
  | with_reducible exact pf_hd
  | ((with_reducible refine' pf_tl ?n ?h); (case n => walk_at "nq"); (case h => walk_at "fl"))
  | with_reducible exact pf_nil
  | with_reducible exact vl_hd
  | ((with_reducible refine' vl_tl ?n ?h); (case n => walk_at "nr"); (case h => walk_at "fl"))
  | with_reducible exact vl_nil
  | ((with_reducible refine' pk_hd ?n); (case n => rfl))
  | ((with_reducible refine' pk_tl ?n ?t ?h); (case n => walk_at "nr"); (case t => rfl); (case h => walk_at "fl")))
local macro_rules | `(tactic| walk_at "cf") => `(tactic| with_reducible assumption)
local macro_rules | `(tactic| walk_at "st0") => `(tactic| first
  | ((with_reducible refine' x_sFldR ?h ?c ?n ?l ?e ?_); (case h => walk_at "hp"); (case c => walk_at "cf"); (case n => walk_at "cf"); (case l => exact Nat.le_of_ble_eq_true rfl); (case e => walk_at "fl")))
local macro_rules | `(tactic| walk_at "pool") => `(tactic| first
  | with_reducible assumption
  | exact Pool.ne (by walk_at "pool") (by walk_at "ne") (by walk_at "ne")
  | exact Pool.stay (by walk_at "pool") (by with_reducible assumption) (by walk_at "nm") (by walk_at "nm"))
local macro_rules | `(tactic| walk_at "szl") => `(tactic| first | exact Nat.lt_of_le_of_lt (Nat.le_of_ble_eq_true (m := 1000) rfl) (by decide) | exact Nat.lt_of_le_of_lt (by with_reducible assumption) (by decide : 1000 < sizeLine))
local macro_rules | `(tactic| walk_at "st0") => `(tactic| first
  | ((with_reducible refine' x_putS ?h ?l ?e ?_); (case h => walk_at "hp"); (case l => walk_at "szl"); (case e => walk_at "fl"))
  | ((with_reducible refine' x_setD ?h ?l ?e ?_); (case h => walk_at "hp"); (case l => walk_at "szl"); (case e => walk_at "fl"))
  | ((with_reducible refine' x_putI ?h ?l ?_); (case h => walk_at "hp"); (case l => walk_at "szl")))
local macro_rules | `(tactic| walk_at "st0") => `(tactic| first
  | ((with_reducible refine' x_rowN ?e ?_); (case e => walk_at "cf"); walk_at "nw"; (try dsimp only [List.set]))
  | ((with_reducible refine' x_rowF ?e ?_); (case e => walk_at "cf"))
  | with_reducible refine' x_xw ?_
  | ((with_reducible refine' x_xwR ?t ?h ?_); (case t => walk_at "cf"); (case h => walk_at "hp")))
local macro_rules | `(tactic| walk_at "st0") => `(tactic| first
  | ((with_reducible refine' x_isXR ?k ?x ?h ?e ?_); (case k => exact ClsV.own _); (case x => exact ExT.xc (by with_reducible assumption)); (case h => walk_at "hp"); (case e => walk_at "cf")))
local macro_rules | `(tactic| walk_at "st0") => `(tactic| first
  | with_reducible refine' x_for ?_
  | with_reducible refine' x_rng1 ?_
  | with_reducible refine' x_rng2 ?_
  | with_reducible refine' x_iList ?_
  | with_reducible refine' x_iTup ?_
  | with_reducible refine' x_par ?_
  | with_reducible refine' x_yes ?_
  | with_reducible refine' x_lc ?_
  | ((with_reducible refine' x_itL ?h ?_); (case h => walk_at "sq"))
  | ((with_reducible refine' x_itT ?h ?_); (case h => walk_at "sqt"))
  | ((with_reducible refine' x_catL ?h ?h2 ?l ?_); (case h => walk_at "hp"); (case h2 => walk_at "hp"); (case l => walk_at "sd"); walk_at "nw")
  | ((with_reducible refine' And.intro (a := List.set _ _ none = _) ?e ?_); (case e => exact rfl))
  | ((with_reducible refine' x_gNameS ?e1 ?e ?_); (case e1 => walk_at "set"); (case e => walk_at "set")))
local macro_rules | `(tactic| walk_at "st0") => `(tactic| first
  | ((with_reducible refine' x_lenQL ?h ?_); (case h => walk_at "sq"))
  | ((with_reducible refine' x_lenQT ?h ?_); (case h => walk_at "sqt"))
  | ((with_reducible refine' x_listOfL ?h ?_); (case h => walk_at "sq"); walk_at "nw")
  | ((with_reducible refine' x_listOfT ?h ?_); (case h => walk_at "sqt"); walk_at "nw")
  | ((with_reducible refine' x_tupOfL ?h ?_); (case h => walk_at "sq"); walk_at "nw")
  | ((with_reducible refine' x_sum ?h ?_); (case h => walk_at "sq"))
  | with_reducible refine' x_enumS ?_
  | ((with_reducible refine' x_qEnumS ?h ?_); (case h => walk_at "sqt"))
  | ((with_reducible refine' x_ixL ?h ?e ?_); (case h => walk_at "sq"); (case e => with_reducible assumption))
  | ((with_reducible refine' x_ixT ?h ?e ?_); (case h => walk_at "sqt"); (case e => with_reducible assumption)))
local macro_rules | `(tactic| walk_at "st0") => `(tactic| first
  | ((with_reducible refine' x_lenMT ?h ?_); (case h => walk_at "sqt"))
  | ((with_reducible refine' x_lenML ?h ?_); (case h => walk_at "sq")))
local macro_rules | `(tactic| walk_at "st0") => `(tactic| first
  | ((with_reducible refine' x_lenT2 ?h ?_); (case h => walk_at "sqt"))
  | ((with_reducible refine' x_lenT1 ?h ?_); (case h => walk_at "sqt")))
local macro_rules | `(tactic| walk_at "nn") => `(tactic| first | with_reducible assumption | ((with_reducible refine' Eq.trans (upd_ne ?a) ?b); (case a => walk_at "ne"); (case b => walk_at "nn")))
local macro_rules | `(tactic| walk_at "tk") => `(tactic| first
  | exact Tk.refl _
  | with_reducible assumption
  | ((with_reducible refine' Tk.trans ?a (Tk.updN ?b)); (case b => walk_at "nn"); (case a => walk_at "tk"))
  | ((with_reducible refine' Tk.trans ?a (Tk.updL' ?b)); (case b => exact ⟨_, by walk_at "hp"⟩); (case a => walk_at "tk"))
  | exact Stay.tk0 (by with_reducible assumption))
local macro_rules | `(tactic| walk_at "st0") => `(tactic| first
  | ((with_reducible refine' x_setLk ?h ?e ?_); (case h => walk_at "hp"); (case e => with_reducible assumption)))
local macro_rules | `(tactic| walk_at "wp") => `(tactic| (dsimp only [wipe, List.map]; (try simp only [set0, set1, set2, set3, set4, set5, set6, set7, set8, set9, set10, set11, set12, set13, set14, set15, set16, set17, set18, set19, set20])))
local macro_rules | `(tactic| walk_at "szl2") => `(tactic| first | with_reducible assumption | ((try simp only [List.length_map, List.length_append, List.length_cons, List.length_nil, List.length_take]); have := sizeLine_eq; omega))
local macro_rules | `(tactic| walk_at "st0") => `(tactic| first
  | ((with_reducible refine' x_app ?h ?l ?_); (case h => walk_at "hp"); (case l => walk_at "szl2")))
local macro_rules | `(tactic| walk_at "st0") => `(tactic| first
  | with_reducible refine' x_listRg1 ?_
  | ((with_reducible refine' x_qRgL ?l ?_); (case l => omega); walk_at "nw"))
local macro_rules | `(tactic| walk_at "nq") => `(tactic| decide +kernel)
local macro_rules | `(tactic| walk_at "nr") => `(tactic| decide +kernel)
local macro_rules | `(tactic| walk_at "st0") => `(tactic| ((with_reducible refine' c_draw ?h ?m (fun d_ H_ lo_ hi_ pl_ st_ => ?_)); (case h => walk_at "pool"); (case m => first | with_reducible assumption | (refine' ⟨?_, ?_⟩ <;> first | decide | omega))))
local macro_rules | `(tactic| walk_at "st0") => `(tactic| ((with_reducible refine' c_is_number ?h ?_); (case h => walk_at "ty1")))
local macro_rules | `(tactic| walk_at "st0") => `(tactic| ((with_reducible refine' c_is_within ?h ?_); (case h => walk_at "ty1")))
section
variable {P : Program} {w : World} {K : PySem.W.Frag} {mg : Str → Option Value} {base : Heap}
theorem map_erase (ls : List Int) (i : Nat) : (ls.map V.int).eraseIdx i = (ls.eraseIdx i).map V.int := by
  rw [List.eraseIdx_eq_take_drop_succ, List.eraseIdx_eq_take_drop_succ, List.map_append, List.map_take, List.map_drop]
theorem Pool.tk {H H' : Hp} {a l : Addr} (p : Pool H a l) (s : Stay [a, l] H H') : Tk H H' := s.tk fun b hb xs z => by
  obtain ⟨_, _, _, h1, h2, _⟩ := p
  simp only [List.mem_cons, List.not_mem_nil, or_false] at hb
  rcases hb with rfl | rfl
  · rw [h1] at z; cases z
  · rw [h2] at z; cases z
def sp_turned : Sp := fun vs H Q _ => ∃ (a l : Addr) (n : Nat), vs = [.ref a, nat n] ∧ Pool H a l ∧ n ≤ 32 ∧ ∀ r (ns : List Int) H', H r = none → ns.length = n → H' r = some (.lst (ns.map V.int)) → Pool H' a l → Stay [a, l] H H' → Q (.ref r) H'
theorem c_turned {a l : Addr} {n : Nat} {H : Hp} {Q : VK} {E : XK} (h : Pool H a l) (w : n ≤ 32) (q : ∀ r (ns : List Int) H', H r = none → ns.length = n → H' r = some (.lst (ns.map V.int)) → Pool H' a l → Stay [a, l] H H' → Q (.ref r) H') : sp_turned [.ref a, nat n] H Q E := ⟨a, l, n, rfl, h, w, q⟩
theorem sc__law_turned : FnScope ["pool", "many", "left", "found", "turn"] ["pool", "many"] (defScope s__law_turned) := ⟨rfl, rfl, rfl, by decide +kernel, rfl, by decide +kernel, by decide +kernel⟩
theorem ok__law_turned (T : G K mg) : FnOk P w K mg base CX0 2 T.f__law_turned T.d__law_turned ["pool", "many"] sp_turned := by
  refine T.F__law_turned.ok sc__law_turned (fun vs H Q E h => ?_) (fun cdv A outer s H vs Q E hr h => ?_)
  · obtain ⟨a, l, n, rfl, pl, hn, k⟩ := h
    rfl
  · obtain ⟨a, l, n, rfl, pl, hn, k⟩ := h
    have hu := hu_of hr
    have nd := sc__law_turned.nd
    refine ⟨_, (pss_cons (ps_par (i := 2) (j := 3) (by rfl) nd rfl rfl (by decide) rfl rfl (pa_cons (pe_listRg rfl rfl T.n_list (prg_1 rfl T.n_range (pv 1))) (pa_cons (pe_lst pa_nil) pa_nil)) (by rfl))
        (pss_cons (ps_for PassesOwn.never rfl (pi_range1 rfl T.n_range (pa_cons (pv 1) pa_nil)) (pg_name (i := 4) nd rfl (Or.inl rfl)) (pss_one (ps_expr (pe_bm PySem.F.plainAttrs_list PySem.F.slot_list_append PySem.F.type_list_append mt_append (pv 3) (pa_cons (pe_bm PySem.F.plainAttrs_list PySem.F.slot_list_pop PySem.F.type_list_pop mt_popAt (pv 2) (pa_cons (pe_call (ok__law_draw T) (hr.mono (by decide)) rfl T.g__law_draw T.F__law_draw.kp T.b__law_draw .nil pass0 (pa_cons (pv 0) (pa_cons (pe_callB (r := rLenQ K) call_lenQ (by rfl) T.n_len PySem.boot_len (pa_cons (pv 2) pa_nil)) pa_nil))) pa_nil)) pa_nil)))))
        (pss_one (ps_ret (pv 3))))), ?_⟩
    try dsimp only [L2.cxOf, L2.Cx.nox, L2.Cx.wish]
    rw [show L2.start ["pool", "many", "left", "found", "turn"] [V.ref a, nat n] = [some (V.ref a), some (nat n), none, none, none] from rfl]
    obtain ⟨oa, ol, ea, el, nal⟩ := pl.ex
    walk_at "go"
    rename_i L nL F nF nFL
    refine ⟨by omega, by omega, ?_⟩
    have naL := ne_some ea nL
    have nlL := ne_some el nL
    have naF := ne_some ea nF
    have nlF := ne_some el nF
    refine for_range (n := (↑n : Int).toNat) (fun i σ G => (∃ v : Option V, σ = [some (V.ref a), some (nat n), some (V.ref L), some (V.ref F), v]) ∧ Pool G a l ∧ Stay [a, l] H G ∧ ∃ ls fs : List Int, ls.length = n - i ∧ fs.length = i ∧ G L = some (.lst (ls.map V.int)) ∧ G F = some (.lst (fs.map V.int))) ⟨⟨_, rfl⟩, (pl.ne naL nlL).ne naF nlF, by walk_at "fr", (List.range n).map (fun i => ((i : Nat) : Int)), [], by simp, rfl, by walk_at "hp", upd_same⟩ ?_ ?_
    · clear ea el
      rintro i σ G hi ⟨⟨v, rfl⟩, pl', st, ls, fs, l1, l2, hL, hF⟩
      rw [Int.toNat_natCast] at hi
      obtain ⟨oa, ol, ea, el, _⟩ := pl'.ex
      rw [Int.zero_add]
      clear pl
      walk_at "go"
      refine c_draw pl' ⟨?_, ?_⟩ (fun d G2 d0 d1 pl2 st2 => ?_)
      · rw [List.length_map]; omega
      · rw [List.length_map]; exact log_small (by omega)
      rw [List.length_map] at d1
      have hL2 := st2.keep _ _ hL (nmS naL.symm (nmS nlL.symm nm0))
      have hF2 := st2.keep _ _ hF (nmS naF.symm (nmS nlF.symm nm0))
      obtain ⟨y, e1, e2⟩ := pop_ix d0 d1
      clear hL hF ea el
      walk_at "go"
      refine x_popAt hL2 (by omega) (by omega) e1 e2 ?_
      walk_at "go"
      refine ⟨⟨_, rfl⟩, (pl2.ne naL nlL).ne naF nlF, ?_, (ls.eraseIdx d.toNat), fs ++ [y], ?_, by simp [l2], ?_, ?_⟩
      · exact Stay.new (Stay.new (st.trans st2) nL) nF
      · rw [List.length_eraseIdx_of_lt (by omega)]; omega
      · rw [upd_ne (nFL.symm), upd_same, map_erase]
      · rw [upd_same, List.map_append]; rfl
    · rintro σ G ⟨⟨v, rfl⟩, pl', st, ls, fs, l1, l2, hL, hF⟩
      rw [Int.toNat_natCast] at l2
      walk_at "go"
      exact k _ fs _ nF l2 hF pl' st
end
end WD

namespace WD
open PySem PySem.Spec PyProof.Rows L2
-- p ≠ q of two addresses
local macro_rules | `(tactic| walk_at "ne") => `(tactic| first
  | with_reducible assumption
  | with_reducible exact Ne.symm (by assumption)
  | exact ne_some (by with_reducible assumption) (by with_reducible assumption)
  | exact Ne.symm (ne_some (by with_reducible assumption) (by with_reducible assumption)))
local macro_rules | `(tactic| walk_at "nm") => `(tactic| first | with_reducible assumption | with_reducible exact nm0 | ((with_reducible refine' nmS ?a ?b); (case a => walk_at "ne"); (case b => walk_at "nm")))
-- H p = some ?o
local macro_rules | `(tactic| walk_at "hp") => `(tactic| first
  | with_reducible exact upd_same
  | with_reducible assumption
  | ((with_reducible refine' Eq.trans (upd_ne ?a) ?b); (case a => walk_at "ne"); (case b => walk_at "hp"))
  | exact Stay.keep (by with_reducible assumption) _ _ (by walk_at "hp") (by walk_at "nm"))
local macro_rules | `(tactic| walk_at "hpd") => `(tactic| ((refine' Eq.trans ?h ?e); (case h => walk_at "hp"); (case e => exact rfl)))
-- a new address
local macro_rules | `(tactic| walk_at "nw") => `(tactic| ((repeat first | (with_reducible refine' nw_upd ?_) | refine' nw_fr (by with_reducible assumption) ?_); intro p_; intros))
local macro_rules | `(tactic| walk_at "mem") => `(tactic| first | exact List.mem_cons_self | (refine' List.mem_cons_of_mem _ ?_; walk_at "mem"))
-- what stands stays
local macro_rules | `(tactic| walk_at "fr") => `(tactic| first
  | with_reducible assumption
  | exact Stay.refl _ _
  | ((with_reducible refine' Stay.upd ?a ?b); (case a => walk_at "fr"); (case b => walk_at "mem"))
  | ((with_reducible refine' Stay.new ?a ?b); (case b => with_reducible assumption); (case a => walk_at "fr"))
  | (refine' Stay.trans ?_ (by with_reducible assumption); walk_at "fr"))
local macro_rules | `(tactic| walk_at "sq") => `(tactic| first | with_reducible assumption | exact SqL.of (by walk_at "hp"))
local macro_rules | `(tactic| walk_at "sqt") => `(tactic| first | with_reducible assumption | exact SqT.of (by walk_at "hp"))
-- side goals
local macro_rules | `(tactic| walk_at "sd") => `(tactic| first
  | with_reducible assumption | with_reducible rfl | (show _ ≤ sizeLine; decide) | (refine Nat.le_trans (Nat.le_of_ble_eq_true (m := 1000) rfl) (by decide)) | decide | omega
  | exact IntMulOk.of_right (intBits_le_64 (by omega) (by omega)) | exact IntMulOk.of_left (intBits_le_64 (by omega) (by omega))
  | (refine' Or.inl ⟨?_, ?_⟩ <;> omega) | (refine' Or.inr ⟨?_, ?_⟩ <;> omega)
  | (refine' ⟨?_, ?_⟩ <;> walk_at "sd") | (refine' ⟨?_, ?_, ?_⟩ <;> walk_at "sd"))
local macro_rules | `(tactic| walk_at "set") => `(tactic| first | with_reducible exact set0 | with_reducible exact set1 | with_reducible exact set2 | with_reducible exact set3 | with_reducible exact set4 | with_reducible exact set5 | with_reducible exact set6 | with_reducible exact set7 | with_reducible exact set8 | with_reducible exact set9 | with_reducible exact set10 | with_reducible exact set11 | with_reducible exact set12 | with_reducible exact set13 | with_reducible exact set14 | with_reducible exact set15 | with_reducible exact set16 | with_reducible exact set17 | with_reducible exact set18 | with_reducible exact set19 | with_reducible exact set20)
-- one step
local macro_rules | `(tactic| walk_at "st0") => `(tactic| first
  | with_reducible refine' x_seq ?_
  | with_reducible refine' x_next ?_
  | with_reducible refine' x_ifS ?_
  | with_reducible refine' x_asg ?_
  | with_reducible refine' x_ret ?_
  | with_reducible refine' x_retN ?_
  | with_reducible refine' x_drop ?_
  | with_reducible refine' x_brk ?_
  | with_reducible refine' x_cont ?_
  | ((with_reducible refine' x_gName ?e ?_); (case e => walk_at "set"))
  | with_reducible refine' x_gSub ?_
  | with_reducible refine' x_gCons ?_
  | with_reducible refine' x_gNil ?_
  | with_reducible refine' x_c ?_
  | ((with_reducible refine' x_var ?e ?_); (case e => exact rfl))
  | with_reducible refine' x_op ?_
  | with_reducible refine' x_un ?_
  | with_reducible refine' x_if ?_
  | with_reducible refine' x_cb ?_
  | with_reducible refine' x_cons ?_
  | with_reducible refine' x_nil ?_
  | with_reducible refine' x_bm0 ?_
  | with_reducible refine' x_bm ?_
  | with_reducible refine' x_tup ?_
  | with_reducible refine' x_lst ?_
  | ((with_reducible refine' And.intro (a := _ ≤ sizeLine) ?e ?_); (case e => walk_at "sd"); walk_at "nw")
  | with_reducible refine' x_fld ?_
  | with_reducible refine' x_test ?_
  | with_reducible refine' x_tB ?_
  | with_reducible refine' x_and ?_
  | with_reducible refine' x_or ?_
  | with_reducible refine' x_not ?_
  | with_reducible refine' x_notV ?_
  | with_reducible refine' x_andV ?_
  | with_reducible refine' x_orV ?_
  | with_reducible refine' x_rI0 ?_
  | ((with_reducible refine' x_rI ?e ?_); (case e => walk_at "sd"))
  | with_reducible refine' x_rU ?_
  | ((with_reducible refine' x_rEq ?e ?_); (case e => exact rfl))
  | ((with_reducible refine' x_rNe ?e ?_); (case e => exact rfl))
  | ((with_reducible refine' x_ixL0 ?h ?_); (case h => walk_at "sq"))
  | ((with_reducible refine' x_ixL1 ?h ?_); (case h => walk_at "sq"))
  | ((with_reducible refine' x_ixL2 ?h ?_); (case h => walk_at "sq"))
  | ((with_reducible refine' x_ixL0I ?h ?_); (case h => walk_at "sq"))
  | ((with_reducible refine' x_ixL ?h ?e ?_); (case h => walk_at "sq"); (case e => exact rfl))
  | ((with_reducible refine' x_neNil ?h ?h2 ?_); (case h => walk_at "sq"); (case h2 => walk_at "sq"))
  | ((with_reducible refine' x_pop0I ?h ?_); (case h => walk_at "hp"))
  | ((with_reducible refine' x_pop0 ?h ?_); (case h => walk_at "hp"))
  | ((with_reducible refine' x_setL0 ?h ?_); (case h => walk_at "hp"))
  | ((with_reducible refine' x_setL1 ?h ?_); (case h => walk_at "hp"))
  | ((with_reducible refine' x_setL2 ?h ?_); (case h => walk_at "hp"))
  | ((with_reducible refine' x_setL ?h ?e ?_); (case h => walk_at "hp"); (case e => exact rfl))
  | with_reducible refine' .inl ⟨_, rfl, ?_⟩
  | ((with_reducible refine' x_tyL ?h ?_); (case h => walk_at "sq"))
  | with_reducible refine' ⟨_, rfl, ?_⟩)
-- a split
local macro_rules | `(tactic| walk_at "if") => `(tactic| (
  first
  | (with_reducible refine' x_dec (fun h_ => ?_) (fun h_ => ?_))
  | (with_reducible refine' x_decN (fun h_ => ?_) (fun h_ => ?_))
  | (with_reducible refine' x_boolN (fun h_ => ?_) (fun h_ => ?_))
  | (with_reducible refine' x_bool (fun h_ => ?_) (fun h_ => ?_))))
local macro_rules | `(tactic| walk_at "ifs") => `(tactic| (walk_at "if" <;> first
  | (exfalso; first | omega | contradiction)
  | (rename_i h_; (try simp only [BEq.rfl, List.length_map, List.length_cons, List.length_nil, Int.natCast_zero, Int.ofNat_zero, gt_iff_lt, Int.lt_irrefl, Bool.true_eq_false, Bool.false_eq_true, List.isEmpty_nil, List.isEmpty_cons, V.int.injEq, V.str.injEq, V.bl.injEq, reduceCtorEq, not_false_eq_true, not_true_eq_false] at h_); (try (exfalso; omega)))))
local macro_rules | `(tactic| walk_at "ite1") => `(tactic| first
  | with_reducible refine' x_T ?_
  | with_reducible refine' x_F ?_
  | with_reducible refine' x_nT ?_
  | with_reducible refine' x_nF ?_
  | ((with_reducible refine' x_bT ?e ?_); (case e => first | decide | decide +kernel))
  | ((with_reducible refine' x_bF ?e ?_); (case e => first | decide | decide +kernel)))
local macro_rules | `(tactic| walk_at "st") => `(tactic| ((fail_if_success (with_reducible (show (if _ then _ else _)))); walk_at "st0"))
local macro_rules | `(tactic| walk_at "go") => `(tactic| repeat first | walk_at "ite1" | walk_at "st")
local macro_rules | `(tactic| walk_at "gs") => `(tactic| repeat' first | walk_at "ite1" | walk_at "st" | walk_at "ifs")
local macro_rules | `(tactic| walk_at "sz") => `(tactic| first | with_reducible assumption | (refine Nat.le_trans (by assumption) (by decide : 100000 ≤ sizeLine)) | (refine Nat.le_trans (m := 100000) ?_ (by decide); (try simp only [len_add, rep_len]); (try rw [show (Str.ofString "z").length = 1 from rfl]); omega))
local macro_rules | `(tactic| walk_at "hn") => `(tactic| first | with_reducible assumption)
local macro_rules | `(tactic| walk_at "sqo") => `(tactic| first | exact Or.inl (by walk_at "sq") | exact Or.inr (by walk_at "sqt"))
local macro_rules | `(tactic| walk_at "ty1") => `(tactic| first | with_reducible assumption | exact Ty1.int _ | exact Ty1.str _ | exact Ty1.bl _ | exact Ty1.non | exact Ty1.tup (by walk_at "hp") | exact Ty1.lst (by walk_at "hp"))
local macro_rules | `(tactic| walk_at "st2") => `(tactic| first
  | with_reducible refine' And.intro (a := V.non = V.non) rfl ?_
  | with_reducible refine' x_call0 ?_
  | with_reducible refine' x_callS ?_
  | with_reducible refine' x_meth0 ?_
  | with_reducible refine' x_methW0 ?_
  | with_reducible refine' x_make0 ?_
  | with_reducible refine' x_makeW0 ?_
  | with_reducible refine' x_sFld ?_
  | with_reducible refine' x_mkO ?_
  | with_reducible refine' x_chain ?_
  | with_reducible refine' x_dget ?_
  | with_reducible refine' x_dget1 ?_
  | with_reducible refine' x_dget2 ?_
  | with_reducible refine' x_sDPut ?_
  | with_reducible refine' x_pairs ?_
  | with_reducible refine' x_pairs0 ?_
  | with_reducible refine' x_sl ?_
  | with_reducible refine' x_noPart ?_
  | with_reducible refine' x_part ?_
  | ((with_reducible refine' x_disp ?_); walk_at "nw")
  | ((with_reducible refine' x_dnew ?_); walk_at "nw")
  | ((with_reducible refine' x_rz ?h ?_); (case h => walk_at "cf"); walk_at "nw")
  | ((with_reducible refine' x_isi ?h ?e ?_); (case h => walk_at "ty1"); (case e => decide))
  | ((with_reducible refine' x_fldR ?h ?c ?n ?e ?_); (case h => walk_at "hp"); (case c => walk_at "cf"); (case n => walk_at "cf"); (case e => walk_at "fl"))
  | ((with_reducible refine' x_onIns ?h ?n ?_); (case h => walk_at "hp"); (case n => walk_at "fl"))
  | ((with_reducible refine' x_addS ?l ?_); (case l => walk_at "sz"))
  | ((with_reducible refine' x_lenS ?l ?_); (case l => walk_at "sz"))
  | ((with_reducible refine' x_lenL ?h ?_); (case h => walk_at "sqo"))
  | ((with_reducible refine' x_slL ?h rfl ?_); (case h => walk_at "sq"); walk_at "nw")
  | ((with_reducible refine' x_listOf ?h ?_); (case h => walk_at "sqo"); walk_at "nw")
  | ((with_reducible refine' x_strmul ?c ?_); (case c => (refine' ⟨?_, ?_, ?_⟩ <;> first | omega | decide +kernel)))
  | ((with_reducible refine' x_isD2 ?h ?_); (case h => walk_at "hp"))
  | ((with_reducible refine' x_getI ?h ?_); (case h => walk_at "hp"))
  | ((with_reducible refine' x_getS ?h ?_); (case h => walk_at "hp"))
  | ((with_reducible refine' x_dgetS ?h ?e ?_); (case h => walk_at "hp"); (case e => walk_at "fl"))
  | ((with_reducible refine' x_ixT ?h ?e ?_); (case h => walk_at "sqt"); (case e => exact rfl))
  | ((with_reducible refine' x_gTup ?h ?e ?_); (case h => walk_at "sqt"); (case e => exact rfl)))
local macro_rules | `(tactic| walk_at "st0") => `(tactic| walk_at "st2")
local macro_rules | `(tactic| walk_at "fl") => `(tactic| first
  | with_reducible exact lk_hd
  | ((with_reducible refine' lk_tl ?n ?h); (case n => walk_at "nq"); (case h => walk_at "fl"))
  | with_reducible exact lk_nil
  | with_reducible exact pf_hd
  | ((with_reducible refine' pf_tl ?n ?h); (case n => walk_at "nq"); (case h => walk_at "fl"))
  | with_reducible exact pf_nil
  | with_reducible exact vl_hd
  | ((with_reducible refine' vl_tl ?n ?h); (case n => walk_at "nr"); (case h => walk_at "fl"))
  | with_reducible exact vl_nil
  | ((with_reducible refine' pk_hd ?n); (case n => rfl))
  | ((with_reducible refine' pk_tl ?n ?t ?h); (case n => walk_at "nr"); (case t => rfl); (case h => walk_at "fl")))
local macro_rules | `(tactic| walk_at "cf") => `(tactic| with_reducible assumption)
local macro_rules | `(tactic| walk_at "st0") => `(tactic| first
  | ((with_reducible refine' x_sFldR ?h ?c ?n ?l ?e ?_); (case h => walk_at "hp"); (case c => walk_at "cf"); (case n => walk_at "cf"); (case l => exact Nat.le_of_ble_eq_true rfl); (case e => walk_at "fl")))
local macro_rules | `(tactic| walk_at "pool") => `(tactic| first
  | with_reducible assumption
  | exact Pool.ne (by walk_at "pool") (by walk_at "ne") (by walk_at "ne")
  | exact Pool.stay (by walk_at "pool") (by with_reducible assumption) (by walk_at "nm") (by walk_at "nm"))
local macro_rules | `(tactic| walk_at "szl") => `(tactic| first | exact Nat.lt_of_le_of_lt (Nat.le_of_ble_eq_true (m := 1000) rfl) (by decide) | exact Nat.lt_of_le_of_lt (by with_reducible assumption) (by decide : 1000 < sizeLine))
local macro_rules | `(tactic| walk_at "st0") => `(tactic| first
  | ((with_reducible refine' x_putS ?h ?l ?e ?_); (case h => walk_at "hp"); (case l => walk_at "szl"); (case e => walk_at "fl"))
  | ((with_reducible refine' x_setD ?h ?l ?e ?_); (case h => walk_at "hp"); (case l => walk_at "szl"); (case e => walk_at "fl"))
  | ((with_reducible refine' x_putI ?h ?l ?_); (case h => walk_at "hp"); (case l => walk_at "szl")))
local macro_rules | `(tactic| walk_at "st0") => `(tactic| first
  | ((with_reducible refine' x_rowN ?e ?_); (case e => walk_at "cf"); walk_at "nw"; (try dsimp only [List.set]))
  | ((with_reducible refine' x_rowF ?e ?_); (case e => walk_at "cf"))
  | with_reducible refine' x_xw ?_
  | ((with_reducible refine' x_xwR ?t ?h ?_); (case t => walk_at "cf"); (case h => walk_at "hp")))
local macro_rules | `(tactic| walk_at "st0") => `(tactic| first
  | ((with_reducible refine' x_isXR ?k ?x ?h ?e ?_); (case k => exact ClsV.own _); (case x => exact ExT.xc (by with_reducible assumption)); (case h => walk_at "hp"); (case e => walk_at "cf")))
local macro_rules | `(tactic| walk_at "st0") => `(tactic| first
  | with_reducible refine' x_for ?_
  | with_reducible refine' x_rng1 ?_
  | with_reducible refine' x_rng2 ?_
  | with_reducible refine' x_iList ?_
  | with_reducible refine' x_iTup ?_
  | with_reducible refine' x_par ?_
  | with_reducible refine' x_yes ?_
  | with_reducible refine' x_lc ?_
  | ((with_reducible refine' x_itL ?h ?_); (case h => walk_at "sq"))
  | ((with_reducible refine' x_itT ?h ?_); (case h => walk_at "sqt"))
  | ((with_reducible refine' x_catL ?h ?h2 ?l ?_); (case h => walk_at "hp"); (case h2 => walk_at "hp"); (case l => walk_at "sd"); walk_at "nw")
  | ((with_reducible refine' And.intro (a := List.set _ _ none = _) ?e ?_); (case e => exact rfl))
  | ((with_reducible refine' x_gNameS ?e1 ?e ?_); (case e1 => walk_at "set"); (case e => walk_at "set")))
local macro_rules | `(tactic| walk_at "st0") => `(tactic| first
  | ((with_reducible refine' x_lenQL ?h ?_); (case h => walk_at "sq"))
  | ((with_reducible refine' x_lenQT ?h ?_); (case h => walk_at "sqt"))
  | ((with_reducible refine' x_listOfL ?h ?_); (case h => walk_at "sq"); walk_at "nw")
  | ((with_reducible refine' x_listOfT ?h ?_); (case h => walk_at "sqt"); walk_at "nw")
  | ((with_reducible refine' x_tupOfL ?h ?_); (case h => walk_at "sq"); walk_at "nw")
  | ((with_reducible refine' x_sum ?h ?_); (case h => walk_at "sq"))
  | with_reducible refine' x_enumS ?_
  | ((with_reducible refine' x_qEnumS ?h ?_); (case h => walk_at "sqt"))
  | ((with_reducible refine' x_ixL ?h ?e ?_); (case h => walk_at "sq"); (case e => with_reducible assumption))
  | ((with_reducible refine' x_ixT ?h ?e ?_); (case h => walk_at "sqt"); (case e => with_reducible assumption)))
local macro_rules | `(tactic| walk_at "st0") => `(tactic| first
  | ((with_reducible refine' x_lenMT ?h ?_); (case h => walk_at "sqt"))
  | ((with_reducible refine' x_lenML ?h ?_); (case h => walk_at "sq")))
local macro_rules | `(tactic| walk_at "st0") => `(tactic| first
  | ((with_reducible refine' x_lenT2 ?h ?_); (case h => walk_at "sqt"))
  | ((with_reducible refine' x_lenT1 ?h ?_); (case h => walk_at "sqt")))
local macro_rules | `(tactic| walk_at "nn") => `(tactic| first | with_reducible assumption | ((with_reducible refine' Eq.trans (upd_ne ?a) ?b); (case a => walk_at "ne"); (case b => walk_at "nn")))
local macro_rules | `(tactic| walk_at "tk") => `(tactic| first
  | exact Tk.refl _
  | with_reducible assumption
  | ((with_reducible refine' Tk.trans ?a (Tk.updN ?b)); (case b => walk_at "nn"); (case a => walk_at "tk"))
  | ((with_reducible refine' Tk.trans ?a (Tk.updL' ?b)); (case b => exact ⟨_, by walk_at "hp"⟩); (case a => walk_at "tk"))
  | exact Stay.tk0 (by with_reducible assumption))
local macro_rules | `(tactic| walk_at "st0") => `(tactic| first
  | ((with_reducible refine' x_setLk ?h ?e ?_); (case h => walk_at "hp"); (case e => with_reducible assumption)))
local macro_rules | `(tactic| walk_at "wp") => `(tactic| (dsimp only [wipe, List.map]; (try simp only [set0, set1, set2, set3, set4, set5, set6, set7, set8, set9, set10, set11, set12, set13, set14, set15, set16, set17, set18, set19, set20])))
local macro_rules | `(tactic| walk_at "szl2") => `(tactic| first | with_reducible assumption | ((try simp only [List.length_map, List.length_append, List.length_cons, List.length_nil, List.length_take]); have := sizeLine_eq; omega))
local macro_rules | `(tactic| walk_at "st0") => `(tactic| first
  | ((with_reducible refine' x_app ?h ?l ?_); (case h => walk_at "hp"); (case l => walk_at "szl2")))
local macro_rules | `(tactic| walk_at "st0") => `(tactic| first
  | with_reducible refine' x_listRg1 ?_
  | ((with_reducible refine' x_qRgL ?l ?_); (case l => omega); walk_at "nw"))
local macro_rules | `(tactic| walk_at "nq") => `(tactic| decide +kernel)
local macro_rules | `(tactic| walk_at "nr") => `(tactic| decide +kernel)
local macro_rules | `(tactic| walk_at "st0") => `(tactic| ((with_reducible refine' c_draw ?h ?m (fun d_ H_ lo_ hi_ pl_ st_ => ?_)); (case h => walk_at "pool"); (case m => first | with_reducible assumption | (refine' ⟨?_, ?_⟩ <;> first | decide | omega))))
local macro_rules | `(tactic| walk_at "st0") => `(tactic| ((with_reducible refine' c_is_number ?h ?_); (case h => walk_at "ty1")))
local macro_rules | `(tactic| walk_at "st0") => `(tactic| ((with_reducible refine' c_is_within ?h ?_); (case h => walk_at "ty1")))
section
variable {P : Program} {w : World} {K : PySem.W.Frag} {mg : Str → Option Value} {base : Heap}
def sp_llog : Sp := fun vs H Q _ => ∃ (a l : Addr) (P n : Nat) (b : Bool), vs = [.ref a, nat P, nat n, .bl b] ∧ Pool H a l ∧ 1 ≤ P ∧ P ≤ 32 ∧ n ≤ 400 ∧ ∀ r ds H', LogAt H' r P ds → Wf P ds → ds.length = n → Pool H' a l → Stay [a, l] H H' → Q (.ref r) H'
theorem c_llog {a l : Addr} {P n : Nat} {b : Bool} {H : Hp} {Q : VK} {E : XK} (h : Pool H a l) (h1 : 1 ≤ P) (h2 : P ≤ 32) (h3 : n ≤ 400) (q : ∀ r ds H', LogAt H' r P ds → Wf P ds → ds.length = n → Pool H' a l → Stay [a, l] H H' → Q (.ref r) H') : sp_llog [.ref a, nat P, nat n, .bl b] H Q E := ⟨a, l, P, n, b, rfl, h, h1, h2, h3, q⟩
theorem sc__law_log : FnScope ["pool", "pages", "deeds", "is_ringless", "rank", "rows", "thin", "turn", "page", "free", "other"] ["pool", "pages", "deeds", "is_ringless"] (defScope s__law_log) := ⟨rfl, rfl, rfl, by decide +kernel, rfl, by decide +kernel, by decide +kernel⟩
theorem ok__law_log (T : G K mg) : FnOk P w K mg base CX0 3 T.f__law_log T.d__law_log ["pool", "pages", "deeds", "is_ringless"] sp_llog := by
  refine T.F__law_log.ok sc__law_log (fun vs H Q E h => ?_) (fun cdv A outer s H vs Q E hr h => ?_)
  · obtain ⟨a, l, P, n, b, rfl, pl, hP1, hP, hn, k⟩ := h
    rfl
  · obtain ⟨a, l, P, n, b, rfl, pl, hP1, hP, hn, k⟩ := h
    have hu := hu_of hr
    have nd := sc__law_log.nd
    refine ⟨_, (pss_cons (ps_asg (pe_tup (pa_cons (pe_call (ok__law_turned T) (hr.mono (by decide)) rfl T.g__law_turned T.F__law_turned.kp T.b__law_turned .nil pass0 (pa_cons (pv 0) (pa_cons (pv 1) pa_nil))) (pa_cons (pe_lst pa_nil) (pa_cons (pe_op op_add pe_int (pe_call (ok__law_draw T) (hr.mono (by decide)) rfl T.g__law_draw T.F__law_draw.kp T.b__law_draw .nil pass0 (pa_cons (pv 0) (pa_cons pe_int pa_nil)))) pa_nil)))) (pg_tup rfl (pgs_cons (pg_name (i := 4) nd rfl (Or.inr rfl)) (pgs_cons (pg_name (i := 5) nd rfl (Or.inl rfl)) (pgs_cons (pg_name (i := 6) nd rfl (Or.inr rfl)) pgs_nil)))))
        (pss_cons (ps_for PassesOwn.never rfl (pi_range1 rfl T.n_range (pa_cons (pv 2) pa_nil)) (pg_name (i := 7) nd rfl (Or.inl rfl)) (pss_cons (ps_set (i := 8) nd rfl (Or.inr rfl) (pe_call (ok__law_draw T) (hr.mono (by decide)) rfl T.g__law_draw T.F__law_draw.kp T.b__law_draw .nil pass0 (pa_cons (pv 0) (pa_cons (pv 1) pa_nil))))
        (pss_cons (ps_setLc (i := 9) (own := [("other", 10)]) (g := gName 10) rfl nd rfl rfl (sw_true rfl rfl rfl (by decide +kernel)) (pi_range1 rfl T.n_range (pa_cons (pv 1) pa_nil)) (blkOk_by (own := [("other", 10)]) (N := ["pool", "pages", "deeds", "is_ringless", "rank", "rows", "thin", "turn", "page", "free", "other"]) (sc := defScope s__law_log) (by decide +kernel)) (fun _ _ _ _ _ => (pg_name (i := 10) nd rfl (Or.inl rfl))) (fun _ _ _ _ _ => (pts_one (PW.pt (pw_and (pt_cmpR op_ne (pv 10) (pv 8) (nomark _)) (pw_and1 (PW.pt (pw_or (pt_cmpR op_lt (pe_ix (r := rIxL K) ix_list (pv 4) (pv 10) (fun _ _ => rfl)) (pe_ix (r := rIxL K) ix_list (pv 4) (pv 8) (fun _ _ => rfl)) (nomark _)) (pw_or1 (pt_not (pt_val (pv 3))))))))))) (fun _ _ _ _ _ => (pv 10)))
        (pss_one (ps_expr (pe_bm PySem.F.plainAttrs_list PySem.F.slot_list_append PySem.F.type_list_append mt_append (pv 5) (pa_cons (pe_tup (pa_cons (pv 8) (pa_cons (pe_callTy (r := rTupleOf K) call_tupleOf (by rfl) T.n_tuple (by decide +kernel) (pa_cons (pe_lc (own := [("other", 10)]) (g := gName 10) rfl nd (pi_list (pv 9)) (blkOk_by (own := [("other", 10)]) (N := ["pool", "pages", "deeds", "is_ringless", "rank", "rows", "thin", "turn", "page", "free", "other"]) (sc := defScope s__law_log) (by decide +kernel)) (fun _ _ _ _ _ => (pg_name (i := 10) nd rfl (Or.inl rfl))) (fun _ _ _ _ _ => (pts_one (pt_cmpR op_eq (pe_call (ok__law_draw T) (hr.mono (by decide)) rfl T.g__law_draw T.F__law_draw.kp T.b__law_draw .nil pass0 (pa_cons (pv 0) (pa_cons (pe_op op_add (pv 6) pe_int) pa_nil))) pe_int (nomark _)))) (fun _ _ _ _ _ => (pv 10))) pa_nil)) pa_nil))) pa_nil)))))))
        (pss_one (ps_ret (pe_tup (pa_cons (pv 1) (pa_cons (pe_callTy (r := rTupleOf K) call_tupleOf (by rfl) T.n_tuple (by decide +kernel) (pa_cons (pv 5) pa_nil)) pa_nil))))))), ?_⟩
    try dsimp only [L2.cxOf, L2.Cx.nox, L2.Cx.wish]
    rw [show L2.start ["pool", "pages", "deeds", "is_ringless", "rank", "rows", "thin", "turn", "page", "free", "other"] [V.ref a, nat P, nat n, V.bl b] = [some (V.ref a), some (nat P), some (nat n), some (V.bl b), none, none, none, none, none, none, none] from rfl]
    obtain ⟨oa, ol, ea, el, nal⟩ := pl.ex
    walk_at "go"
    refine c_turned pl hP (fun R ns H1 nR hns hR pl1 st1 => ?_)
    have naR := ne_some ea nR
    have nlR := ne_some el nR
    clear ea el pl
    obtain ⟨oa, ol, ea, el, _⟩ := pl1.ex
    walk_at "go"
    rename_i F nF nF1 z H2 z0 z1 pl2 st2 T0 nT nT1 nTF nT2
    refine ⟨by omega, by omega, ?_⟩
    have naF := ne_some ea nF1
    have nlF := ne_some el nF1
    have nRF := ne_some hR nF1
    have kR : R ∉ [a, l] := nmS naR.symm (nmS nlR.symm nm0)
    have kF : F ∉ [a, l] := nmS naF.symm (nmS nlF.symm nm0)
    have hR2 : H2 R = some (.lst (ns.map V.int)) := st2.keep _ _ (by rw [upd_ne nRF]; exact hR) kR
    have hF2 : H2 F = some (.lst []) := st2.keep _ _ upd_same kF
    have st3 : Stay [a, l] H H2 := (Stay.new st1 nF).trans st2
    have naT : a ≠ T0 := by
      obtain ⟨oa, ol, ea, el, _⟩ := pl2.ex
      exact ne_some ea nT2
    have nlT : l ≠ T0 := by
      obtain ⟨oa, ol, ea, el, _⟩ := pl2.ex
      exact ne_some el nT2
    refine for_range (n := (↑n : Int).toNat) (fun i σ G => (∃ v1 v2 v3 v4 : Option V, σ = [some (V.ref a), some (nat P), some (nat n), some (V.bl b), some (V.ref R), some (V.ref F), some (V.int (1 + z)), v1, v2, v3, v4]) ∧ Pool G a l ∧ Stay [a, l] H G ∧ G R = some (.lst (ns.map V.int)) ∧ ∃ xs ds, G F = some (.lst xs) ∧ DeedsAt G xs ds ∧ ds.length = i ∧ ∀ d ∈ ds, WfD P d)
      ⟨⟨_, _, _, _, rfl⟩, pl2.ne naT nlT, Stay.new st3 nT, by rw [upd_ne (ne_some hR2 nT2)]; exact hR2, [], [], by rw [upd_ne (ne_some hF2 nT2)]; exact hF2, DeedsAt.nil, rfl, fun _ h => nomatch h⟩ ?_ ?_
    · clear ea el hR hR2 hF2 st3 pl2 st2 st1 pl1
      rintro i σ G hi ⟨⟨v1, v2, v3, v4, rfl⟩, pl, st, hR, xs, ds, hF, hx, hdl, hw⟩
      rw [Int.toNat_natCast] at hi
      rw [Int.zero_add]
      walk_at "go"
      refine c_draw pl ⟨by omega, log_small (by omega)⟩ (fun pg G1 p0 p1 pl1 st1 => ?_)
      obtain ⟨p, rfl⟩ : ∃ p : Nat, pg = (p : Int) := ⟨pg.toNat, by omega⟩
      have hpP : p < P := by omega
      replace hx := hx.tk (pl.tk st1)
      replace hR := st1.keep _ _ hR kR
      replace hF := st1.keep _ _ hF kF
      replace st := st.trans st1
      clear pl st1
      obtain ⟨oa, ol, ea, el, _⟩ := pl1.ex
      obtain ⟨y2, hy2⟩ := atInt (ns := ns) (i := p) (by omega)
      walk_at "go"
      refine ⟨by omega, by omega, ?_⟩
      intro D nD
      have nRD := ne_some hR nD
      have naD := ne_some ea nD
      have nlD := ne_some el nD
      have nFD := ne_some hF nD
      refine lc_range (n := (↑P : Int).toNat) (fun i G' => Stay [] G1 G' ∧ ∃ fr : List Nat, G' D = some (.lst (fr.map nat)) ∧ fr.length ≤ i ∧ (∀ r ∈ fr, r < i ∧ r ≠ p) ∧ fr.Pairwise (· < ·)) ⟨Stay.new (Stay.refl _ _) nD, [], upd_same, by simp, fun _ h => (nomatch h), List.Pairwise.nil⟩ ?_ ?_
      · rintro j G' hj ⟨st1, fr, hD, hfl, hfr, has⟩
        rw [Int.toNat_natCast] at hj
        rw [Int.zero_add]
        have hR' := st1.keep _ _ hR nm0
        obtain ⟨y1, hy1⟩ := atInt (ns := ns) (i := j) (by omega)
        have no : Stay [] G1 G' ∧ ∃ fr : List Nat, G' D = some (.lst (fr.map nat)) ∧ fr.length ≤ j + 1 ∧ (∀ r ∈ fr, r < j + 1 ∧ r ≠ p) ∧ fr.Pairwise (· < ·) := ⟨st1, fr, hD, by omega, fun r hr => ⟨by have := (hfr r hr).1; omega, (hfr r hr).2⟩, has⟩
        have yes : j ≠ p → ∃ acc : List V, G' D = some (.lst acc) ∧ acc.length < sizeLine ∧ Stay [] G1 (upd G' D (.lst (acc ++ [nat j]))) ∧ ∃ fr : List Nat, upd G' D (.lst (acc ++ [nat j])) D = some (.lst (fr.map nat)) ∧ fr.length ≤ j + 1 ∧ (∀ r ∈ fr, r < j + 1 ∧ r ≠ p) ∧ fr.Pairwise (· < ·) := fun hjp =>
          ⟨fr.map nat, hD, by have := sizeLine_eq; simp; omega, Stay.new st1 nD, fr ++ [j], by rw [upd_same, List.map_append]; rfl, by simp; omega, fun r hr => by
            rcases List.mem_append.mp hr with h | h
            · exact ⟨by have := (hfr r h).1; omega, (hfr r h).2⟩
            · rw [List.mem_singleton.mp h]; exact ⟨Nat.lt_succ_self _, hjp⟩, by
            rw [List.pairwise_append]
            exact ⟨has, by simp, fun u hu w hw => by rw [List.mem_singleton.mp hw]; exact (hfr u hu).1⟩⟩
        walk_at "wp"
        walk_at "go"
        refine x_decN (fun z => ?_) (fun z => ?_)
        · have hjp : j ≠ p := fun q => z (by rw [q])
          walk_at "go"
          refine x_dec (fun _ => ?_) (fun _ => ?_)
          · walk_at "go"
            exact yes hjp
          · walk_at "go"
            refine x_boolN (fun _ => ?_) (fun _ => ?_)
            · walk_at "go"
              exact yes hjp
            · walk_at "go"
              exact no
        · walk_at "go"
          exact no
      · rintro G' ⟨st1, fr, hD, hfl, hfr, has⟩
        rw [Int.toNat_natCast] at hfl hfr
        replace hx := hx.tk st1.tk0
        replace hR := st1.keep _ _ hR nm0
        replace hF := st1.keep _ _ hF nm0
        replace st := st.trans (st1.weak (S' := [a, l]) (fun b hb => nomatch hb))
        replace pl1 := pl1.stay st1 nm0 nm0
        clear ea el st1 nD
        obtain ⟨oa, ol, ea, el, _⟩ := pl1.ex
        walk_at "go"
        intro D2 nD2
        have nRD2 := ne_some hR nD2
        have naD2 := ne_some ea nD2
        have nlD2 := ne_some el nD2
        have nFD2 := ne_some hF nD2
        have nDD2 := ne_some hD nD2
        have kD : D ∉ [a, l] := nmS naD.symm (nmS nlD.symm nm0)
        have kD2 : D2 ∉ [a, l] := nmS naD2.symm (nmS nlD2.symm nm0)
        refine lc_list (xs := fr.map nat) (fun i G'' => Pool G'' a l ∧ Stay [a, l] G' G'' ∧ Tk G' G'' ∧ ∃ rs : List Nat, G'' D2 = some (.lst (rs.map nat)) ∧ rs.Sublist (fr.take i)) ⟨pl1.ne naD2 nlD2, Stay.new (Stay.refl _ _) nD2, Tk.updN nD2, [], upd_same, List.nil_sublist _⟩ ?_ ?_ ?_
        · rintro j G'' _ ⟨_, st2, _⟩
          exact SqL.of (st2.keep _ _ hD kD)
        · rintro j x G'' e ⟨pl2, st2, tk2, rs, hD2, hsub⟩
          obtain ⟨s, es, rfl⟩ : ∃ s, fr[j]? = some s ∧ nat s = x := by simpa using e
          have hrl := hsub.length_le
          rw [List.length_take] at hrl
          clear ea el pl1
          walk_at "wp"
          walk_at "go"
          refine c_draw pl2 ⟨by omega, log_smallI (by omega)⟩ (fun w G3 w0 w1 pl3 st3 => ?_)
          have tk3 := pl2.tk st3
          replace hD2 := st3.keep _ _ hD2 kD2
          walk_at "go"
          refine x_dec (fun _ => ?_) (fun _ => ?_)
          · walk_at "go"
            refine ⟨rs.map nat, hD2, by have := sizeLine_eq; simp; omega, pl3.ne naD2 nlD2, Stay.new (st2.trans st3) nD2, (tk2.trans tk3).trans (Tk.updL hD2), rs ++ [s], by rw [upd_same, List.map_append]; rfl, ?_⟩
            rw [List.take_succ, es]
            exact hsub.append_right [s]
          · walk_at "go"
            exact ⟨pl3, st2.trans st3, tk2.trans tk3, rs, hD2, hsub.trans (List.take_sublist_take_left (by omega))⟩
        · rintro G'' ⟨pl2, st2, tk2, rs, hD2, hsub⟩
          rw [List.length_map, List.take_length] at hsub
          replace hx := hx.tk tk2
          replace hF := st2.keep _ _ hF kF
          replace hR := st2.keep _ _ hR kR
          replace st := st.trans st2
          have hdx := hx.1
          clear ea el pl1
          obtain ⟨oa, ol, ea, el, _⟩ := pl2.ex
          walk_at "go"
          rename_i t nHt nt q nHq nq nqt
          refine ⟨⟨_, _, _, _, rfl⟩, by walk_at "pool", by walk_at "fr", by walk_at "hp", xs ++ [V.ref q], ds ++ [(p, rs)], upd_same, (hx.tk (by walk_at "tk")).snoc ⟨q, t, rfl, by walk_at "hp", by walk_at "hp"⟩, by simp [hdl], fun d hd => ?_⟩
          rcases List.mem_append.mp hd with h | h
          · exact hw d h
          · rw [List.mem_singleton.mp h]
            exact ⟨hpP, fun r hr => hfr r (hsub.subset hr), has.sublist hsub⟩
    · rintro σ G ⟨⟨v1, v2, v3, v4, rfl⟩, pl, st, hR, xs, ds, hF, hx, hdl, hw⟩
      rw [Int.toNat_natCast] at hdl
      clear ea el
      obtain ⟨oa, ol, ea, el, _⟩ := pl.ex
      walk_at "go"
      refine k _ ds _ ⟨_, _, by walk_at "hp", by walk_at "hp", hx.tk (by walk_at "tk")⟩ ⟨hP1, hP, by omega, hw⟩ hdl ?_ (by walk_at "fr")
      walk_at "pool"
end
end WD

namespace WD
open PySem PySem.Spec PyProof.Rows L2
-- p ≠ q of two addresses
local macro_rules | `(tactic| walk_at "ne") => `(tactic| first
  | with_reducible assumption
  | with_reducible exact Ne.symm (by assumption)
  | exact ne_some (by with_reducible assumption) (by with_reducible assumption)
  | exact Ne.symm (ne_some (by with_reducible assumption) (by with_reducible assumption)))
local macro_rules | `(tactic| walk_at "nm") => `(tactic| first | with_reducible assumption | with_reducible exact nm0 | ((with_reducible refine' nmS ?a ?b); (case a => walk_at "ne"); (case b => walk_at "nm")))
-- H p = some ?o
local macro_rules | `(tactic| walk_at "hp") => `(tactic| first
  | with_reducible exact upd_same
  | with_reducible assumption
  | ((with_reducible refine' Eq.trans (upd_ne ?a) ?b); (case a => walk_at "ne"); (case b => walk_at "hp"))
  | exact Stay.keep (by with_reducible assumption) _ _ (by walk_at "hp") (by walk_at "nm"))
local macro_rules | `(tactic| walk_at "hpd") => `(tactic| ((refine' Eq.trans ?h ?e); (case h => walk_at "hp"); (case e => exact rfl)))
-- a new address
local macro_rules | `(tactic| walk_at "nw") => `(tactic| ((repeat first | (with_reducible refine' nw_upd ?_) | refine' nw_fr (by with_reducible assumption) ?_); intro p_; intros))
local macro_rules | `(tactic| walk_at "mem") => `(tactic| first | exact List.mem_cons_self | (refine' List.mem_cons_of_mem _ ?_; walk_at "mem"))
-- what stands stays
local macro_rules | `(tactic| walk_at "fr") => `(tactic| first
  | with_reducible assumption
  | exact Stay.refl _ _
  | ((with_reducible refine' Stay.upd ?a ?b); (case a => walk_at "fr"); (case b => walk_at "mem"))
  | ((with_reducible refine' Stay.new ?a ?b); (case b => with_reducible assumption); (case a => walk_at "fr"))
  | (refine' Stay.trans ?_ (by with_reducible assumption); walk_at "fr"))
local macro_rules | `(tactic| walk_at "sq") => `(tactic| first | with_reducible assumption | exact SqL.of (by walk_at "hp"))
local macro_rules | `(tactic| walk_at "sqt") => `(tactic| first | with_reducible assumption | exact SqT.of (by walk_at "hp"))
-- side goals
local macro_rules | `(tactic| walk_at "sd") => `(tactic| first
  | with_reducible assumption | with_reducible rfl | (show _ ≤ sizeLine; decide) | (refine Nat.le_trans (Nat.le_of_ble_eq_true (m := 1000) rfl) (by decide)) | decide | omega
  | exact IntMulOk.of_right (intBits_le_64 (by omega) (by omega)) | exact IntMulOk.of_left (intBits_le_64 (by omega) (by omega))
  | (refine' Or.inl ⟨?_, ?_⟩ <;> omega) | (refine' Or.inr ⟨?_, ?_⟩ <;> omega)
  | (refine' ⟨?_, ?_⟩ <;> walk_at "sd") | (refine' ⟨?_, ?_, ?_⟩ <;> walk_at "sd"))
local macro_rules | `(tactic| walk_at "set") => `(tactic| first | with_reducible exact set0 | with_reducible exact set1 | with_reducible exact set2 | with_reducible exact set3 | with_reducible exact set4 | with_reducible exact set5 | with_reducible exact set6 | with_reducible exact set7 | with_reducible exact set8 | with_reducible exact set9 | with_reducible exact set10 | with_reducible exact set11 | with_reducible exact set12 | with_reducible exact set13 | with_reducible exact set14 | with_reducible exact set15 | with_reducible exact set16 | with_reducible exact set17 | with_reducible exact set18 | with_reducible exact set19 | with_reducible exact set20)
-- one step
local macro_rules | `(tactic| walk_at "st0") => `(tactic| first
  | with_reducible refine' x_seq ?_
  | with_reducible refine' x_next ?_
  | with_reducible refine' x_ifS ?_
  | with_reducible refine' x_asg ?_
  | with_reducible refine' x_ret ?_
  | with_reducible refine' x_retN ?_
  | with_reducible refine' x_drop ?_
  | with_reducible refine' x_brk ?_
  | with_reducible refine' x_cont ?_
  | ((with_reducible refine' x_gName ?e ?_); (case e => walk_at "set"))
  | with_reducible refine' x_gSub ?_
  | with_reducible refine' x_gCons ?_
  | with_reducible refine' x_gNil ?_
  | with_reducible refine' x_c ?_
  | ((with_reducible refine' x_var ?e ?_); (case e => exact rfl))
  | with_reducible refine' x_op ?_
  | with_reducible refine' x_un ?_
  | with_reducible refine' x_if ?_
  | with_reducible refine' x_cb ?_
  | with_reducible refine' x_cons ?_
  | with_reducible refine' x_nil ?_
  | with_reducible refine' x_bm0 ?_
  | with_reducible refine' x_bm ?_
  | with_reducible refine' x_tup ?_
  | with_reducible refine' x_lst ?_
  | ((with_reducible refine' And.intro (a := _ ≤ sizeLine) ?e ?_); (case e => walk_at "sd"); walk_at "nw")
  | with_reducible refine' x_fld ?_
  | with_reducible refine' x_test ?_
  | with_reducible refine' x_tB ?_
  | with_reducible refine' x_and ?_
  | with_reducible refine' x_or ?_
  | with_reducible refine' x_not ?_
  | with_reducible refine' x_notV ?_
  | with_reducible refine' x_andV ?_
  | with_reducible refine' x_orV ?_
  | with_reducible refine' x_rI0 ?_
  | ((with_reducible refine' x_rI ?e ?_); (case e => walk_at "sd"))
  | with_reducible refine' x_rU ?_
  | ((with_reducible refine' x_rEq ?e ?_); (case e => exact rfl))
  | ((with_reducible refine' x_rNe ?e ?_); (case e => exact rfl))
  | ((with_reducible refine' x_ixL0 ?h ?_); (case h => walk_at "sq"))
  | ((with_reducible refine' x_ixL1 ?h ?_); (case h => walk_at "sq"))
  | ((with_reducible refine' x_ixL2 ?h ?_); (case h => walk_at "sq"))
  | ((with_reducible refine' x_ixL0I ?h ?_); (case h => walk_at "sq"))
  | ((with_reducible refine' x_ixL ?h ?e ?_); (case h => walk_at "sq"); (case e => exact rfl))
  | ((with_reducible refine' x_neNil ?h ?h2 ?_); (case h => walk_at "sq"); (case h2 => walk_at "sq"))
  | ((with_reducible refine' x_pop0I ?h ?_); (case h => walk_at "hp"))
  | ((with_reducible refine' x_pop0 ?h ?_); (case h => walk_at "hp"))
  | ((with_reducible refine' x_setL0 ?h ?_); (case h => walk_at "hp"))
  | ((with_reducible refine' x_setL1 ?h ?_); (case h => walk_at "hp"))
  | ((with_reducible refine' x_setL2 ?h ?_); (case h => walk_at "hp"))
  | ((with_reducible refine' x_setL ?h ?e ?_); (case h => walk_at "hp"); (case e => exact rfl))
  | with_reducible refine' .inl ⟨_, rfl, ?_⟩
  | ((with_reducible refine' x_tyL ?h ?_); (case h => walk_at "sq"))
  | with_reducible refine' ⟨_, rfl, ?_⟩)
-- a split
local macro_rules | `(tactic| walk_at "if") => `(tactic| (
  first
  | (with_reducible refine' x_dec (fun h_ => ?_) (fun h_ => ?_))
  | (with_reducible refine' x_decN (fun h_ => ?_) (fun h_ => ?_))
  | (with_reducible refine' x_boolN (fun h_ => ?_) (fun h_ => ?_))
  | (with_reducible refine' x_bool (fun h_ => ?_) (fun h_ => ?_))))
local macro_rules | `(tactic| walk_at "ifs") => `(tactic| (walk_at "if" <;> first
  | (exfalso; first | omega | contradiction)
  | (rename_i h_; (try simp only [BEq.rfl, List.length_map, List.length_cons, List.length_nil, Int.natCast_zero, Int.ofNat_zero, gt_iff_lt, Int.lt_irrefl, Bool.true_eq_false, Bool.false_eq_true, List.isEmpty_nil, List.isEmpty_cons, V.int.injEq, V.str.injEq, V.bl.injEq, reduceCtorEq, not_false_eq_true, not_true_eq_false] at h_); (try (exfalso; omega)))))
local macro_rules | `(tactic| walk_at "ite1") => `(tactic| first
  | with_reducible refine' x_T ?_
  | with_reducible refine' x_F ?_
  | with_reducible refine' x_nT ?_
  | with_reducible refine' x_nF ?_
  | ((with_reducible refine' x_bT ?e ?_); (case e => first | decide | decide +kernel))
  | ((with_reducible refine' x_bF ?e ?_); (case e => first | decide | decide +kernel)))
local macro_rules | `(tactic| walk_at "st") => `(tactic| ((fail_if_success (with_reducible (show (if _ then _ else _)))); walk_at "st0"))
local macro_rules | `(tactic| walk_at "go") => `(tactic| repeat first | walk_at "ite1" | walk_at "st")
local macro_rules | `(tactic| walk_at "gs") => `(tactic| repeat' first | walk_at "ite1" | walk_at "st" | walk_at "ifs")
local macro_rules | `(tactic| walk_at "sz") => `(tactic| first | with_reducible assumption | (refine Nat.le_trans (by assumption) (by decide : 100000 ≤ sizeLine)) | (refine Nat.le_trans (m := 100000) ?_ (by decide); (try simp only [len_add, rep_len]); (try rw [show (Str.ofString "z").length = 1 from rfl]); omega))
local macro_rules | `(tactic| walk_at "hn") => `(tactic| first | with_reducible assumption)
local macro_rules | `(tactic| walk_at "sqo") => `(tactic| first | exact Or.inl (by walk_at "sq") | exact Or.inr (by walk_at "sqt"))
local macro_rules | `(tactic| walk_at "ty1") => `(tactic| first | with_reducible assumption | exact Ty1.int _ | exact Ty1.str _ | exact Ty1.bl _ | exact Ty1.non | exact Ty1.tup (by walk_at "hp") | exact Ty1.lst (by walk_at "hp"))
local macro_rules | `(tactic| walk_at "st2") => `(tactic| first
  | with_reducible refine' And.intro (a := V.non = V.non) rfl ?_
  | with_reducible refine' x_call0 ?_
  | with_reducible refine' x_callS ?_
  | with_reducible refine' x_meth0 ?_
  | with_reducible refine' x_methW0 ?_
  | with_reducible refine' x_make0 ?_
  | with_reducible refine' x_makeW0 ?_
  | with_reducible refine' x_sFld ?_
  | with_reducible refine' x_mkO ?_
  | with_reducible refine' x_chain ?_
  | with_reducible refine' x_dget ?_
  | with_reducible refine' x_dget1 ?_
  | with_reducible refine' x_dget2 ?_
  | with_reducible refine' x_sDPut ?_
  | with_reducible refine' x_pairs ?_
  | with_reducible refine' x_pairs0 ?_
  | with_reducible refine' x_sl ?_
  | with_reducible refine' x_noPart ?_
  | with_reducible refine' x_part ?_
  | ((with_reducible refine' x_disp ?_); walk_at "nw")
  | ((with_reducible refine' x_dnew ?_); walk_at "nw")
  | ((with_reducible refine' x_rz ?h ?_); (case h => walk_at "cf"); walk_at "nw")
  | ((with_reducible refine' x_isi ?h ?e ?_); (case h => walk_at "ty1"); (case e => decide))
  | ((with_reducible refine' x_fldR ?h ?c ?n ?e ?_); (case h => walk_at "hp"); (case c => walk_at "cf"); (case n => walk_at "cf"); (case e => walk_at "fl"))
  | ((with_reducible refine' x_onIns ?h ?n ?_); (case h => walk_at "hp"); (case n => walk_at "fl"))
  | ((with_reducible refine' x_addS ?l ?_); (case l => walk_at "sz"))
  | ((with_reducible refine' x_lenS ?l ?_); (case l => walk_at "sz"))
  | ((with_reducible refine' x_lenL ?h ?_); (case h => walk_at "sqo"))
  | ((with_reducible refine' x_slL ?h rfl ?_); (case h => walk_at "sq"); walk_at "nw")
  | ((with_reducible refine' x_listOf ?h ?_); (case h => walk_at "sqo"); walk_at "nw")
  | ((with_reducible refine' x_strmul ?c ?_); (case c => (refine' ⟨?_, ?_, ?_⟩ <;> first | omega | decide +kernel)))
  | ((with_reducible refine' x_isD2 ?h ?_); (case h => walk_at "hp"))
  | ((with_reducible refine' x_getI ?h ?_); (case h => walk_at "hp"))
  | ((with_reducible refine' x_getS ?h ?_); (case h => walk_at "hp"))
  | ((with_reducible refine' x_dgetS ?h ?e ?_); (case h => walk_at "hp"); (case e => walk_at "fl"))
  | ((with_reducible refine' x_ixT ?h ?e ?_); (case h => walk_at "sqt"); (case e => exact rfl))
  | ((with_reducible refine' x_gTup ?h ?e ?_); (case h => walk_at "sqt"); (case e => exact rfl)))
local macro_rules | `(tactic| walk_at "st0") => `(tactic| walk_at "st2")
local macro_rules | `(tactic| walk_at "fl") => `(tactic| first
  | with_reducible exact lk_hd
  | ((with_reducible refine' lk_tl ?n ?h); (case n => walk_at "nq"); (case h => walk_at "fl"))
  | with_reducible exact lk_nil
  | with_reducible exact pf_hd
  | ((with_reducible refine' pf_tl ?n ?h); (case n => walk_at "nq"); (case h => walk_at "fl"))
  | with_reducible exact pf_nil
  | with_reducible exact vl_hd
  | ((with_reducible refine' vl_tl ?n ?h); (case n => walk_at "nr"); (case h => walk_at "fl"))
  | with_reducible exact vl_nil
  | ((with_reducible refine' pk_hd ?n); (case n => rfl))
  | ((with_reducible refine' pk_tl ?n ?t ?h); (case n => walk_at "nr"); (case t => rfl); (case h => walk_at "fl")))
local macro_rules | `(tactic| walk_at "cf") => `(tactic| with_reducible assumption)
local macro_rules | `(tactic| walk_at "st0") => `(tactic| first
  | ((with_reducible refine' x_sFldR ?h ?c ?n ?l ?e ?_); (case h => walk_at "hp"); (case c => walk_at "cf"); (case n => walk_at "cf"); (case l => exact Nat.le_of_ble_eq_true rfl); (case e => walk_at "fl")))
local macro_rules | `(tactic| walk_at "pool") => `(tactic| first
  | with_reducible assumption
  | exact Pool.ne (by walk_at "pool") (by walk_at "ne") (by walk_at "ne")
  | exact Pool.stay (by walk_at "pool") (by with_reducible assumption) (by walk_at "nm") (by walk_at "nm"))
local macro_rules | `(tactic| walk_at "szl") => `(tactic| first | exact Nat.lt_of_le_of_lt (Nat.le_of_ble_eq_true (m := 1000) rfl) (by decide) | exact Nat.lt_of_le_of_lt (by with_reducible assumption) (by decide : 1000 < sizeLine))
local macro_rules | `(tactic| walk_at "st0") => `(tactic| first
  | ((with_reducible refine' x_putS ?h ?l ?e ?_); (case h => walk_at "hp"); (case l => walk_at "szl"); (case e => walk_at "fl"))
  | ((with_reducible refine' x_setD ?h ?l ?e ?_); (case h => walk_at "hp"); (case l => walk_at "szl"); (case e => walk_at "fl"))
  | ((with_reducible refine' x_putI ?h ?l ?_); (case h => walk_at "hp"); (case l => walk_at "szl")))
local macro_rules | `(tactic| walk_at "st0") => `(tactic| first
  | ((with_reducible refine' x_rowN ?e ?_); (case e => walk_at "cf"); walk_at "nw"; (try dsimp only [List.set]))
  | ((with_reducible refine' x_rowF ?e ?_); (case e => walk_at "cf"))
  | with_reducible refine' x_xw ?_
  | ((with_reducible refine' x_xwR ?t ?h ?_); (case t => walk_at "cf"); (case h => walk_at "hp")))
local macro_rules | `(tactic| walk_at "st0") => `(tactic| first
  | ((with_reducible refine' x_isXR ?k ?x ?h ?e ?_); (case k => exact ClsV.own _); (case x => exact ExT.xc (by with_reducible assumption)); (case h => walk_at "hp"); (case e => walk_at "cf")))
local macro_rules | `(tactic| walk_at "st0") => `(tactic| first
  | with_reducible refine' x_for ?_
  | with_reducible refine' x_rng1 ?_
  | with_reducible refine' x_rng2 ?_
  | with_reducible refine' x_iList ?_
  | with_reducible refine' x_iTup ?_
  | with_reducible refine' x_par ?_
  | with_reducible refine' x_yes ?_
  | with_reducible refine' x_lc ?_
  | ((with_reducible refine' x_itL ?h ?_); (case h => walk_at "sq"))
  | ((with_reducible refine' x_itT ?h ?_); (case h => walk_at "sqt"))
  | ((with_reducible refine' x_catL ?h ?h2 ?l ?_); (case h => walk_at "hp"); (case h2 => walk_at "hp"); (case l => walk_at "sd"); walk_at "nw")
  | ((with_reducible refine' And.intro (a := List.set _ _ none = _) ?e ?_); (case e => exact rfl))
  | ((with_reducible refine' x_gNameS ?e1 ?e ?_); (case e1 => walk_at "set"); (case e => walk_at "set")))
local macro_rules | `(tactic| walk_at "st0") => `(tactic| first
  | ((with_reducible refine' x_lenQL ?h ?_); (case h => walk_at "sq"))
  | ((with_reducible refine' x_lenQT ?h ?_); (case h => walk_at "sqt"))
  | ((with_reducible refine' x_listOfL ?h ?_); (case h => walk_at "sq"); walk_at "nw")
  | ((with_reducible refine' x_listOfT ?h ?_); (case h => walk_at "sqt"); walk_at "nw")
  | ((with_reducible refine' x_tupOfL ?h ?_); (case h => walk_at "sq"); walk_at "nw")
  | ((with_reducible refine' x_sum ?h ?_); (case h => walk_at "sq"))
  | with_reducible refine' x_enumS ?_
  | ((with_reducible refine' x_qEnumS ?h ?_); (case h => walk_at "sqt"))
  | ((with_reducible refine' x_ixL ?h ?e ?_); (case h => walk_at "sq"); (case e => with_reducible assumption))
  | ((with_reducible refine' x_ixT ?h ?e ?_); (case h => walk_at "sqt"); (case e => with_reducible assumption)))
local macro_rules | `(tactic| walk_at "st0") => `(tactic| first
  | ((with_reducible refine' x_lenMT ?h ?_); (case h => walk_at "sqt"))
  | ((with_reducible refine' x_lenML ?h ?_); (case h => walk_at "sq")))
local macro_rules | `(tactic| walk_at "st0") => `(tactic| first
  | ((with_reducible refine' x_lenT2 ?h ?_); (case h => walk_at "sqt"))
  | ((with_reducible refine' x_lenT1 ?h ?_); (case h => walk_at "sqt")))
local macro_rules | `(tactic| walk_at "nn") => `(tactic| first | with_reducible assumption | ((with_reducible refine' Eq.trans (upd_ne ?a) ?b); (case a => walk_at "ne"); (case b => walk_at "nn")))
local macro_rules | `(tactic| walk_at "tk") => `(tactic| first
  | exact Tk.refl _
  | with_reducible assumption
  | ((with_reducible refine' Tk.trans ?a (Tk.updN ?b)); (case b => walk_at "nn"); (case a => walk_at "tk"))
  | ((with_reducible refine' Tk.trans ?a (Tk.updL' ?b)); (case b => exact ⟨_, by walk_at "hp"⟩); (case a => walk_at "tk"))
  | exact Stay.tk0 (by with_reducible assumption))
local macro_rules | `(tactic| walk_at "st0") => `(tactic| first
  | ((with_reducible refine' x_setLk ?h ?e ?_); (case h => walk_at "hp"); (case e => with_reducible assumption)))
local macro_rules | `(tactic| walk_at "wp") => `(tactic| (dsimp only [wipe, List.map]; (try simp only [set0, set1, set2, set3, set4, set5, set6, set7, set8, set9, set10, set11, set12, set13, set14, set15, set16, set17, set18, set19, set20])))
local macro_rules | `(tactic| walk_at "szl2") => `(tactic| first | with_reducible assumption | ((try simp only [List.length_map, List.length_append, List.length_cons, List.length_nil, List.length_take]); have := sizeLine_eq; omega))
local macro_rules | `(tactic| walk_at "st0") => `(tactic| first
  | ((with_reducible refine' x_app ?h ?l ?_); (case h => walk_at "hp"); (case l => walk_at "szl2")))
local macro_rules | `(tactic| walk_at "st0") => `(tactic| first
  | with_reducible refine' x_listRg1 ?_
  | ((with_reducible refine' x_qRgL ?l ?_); (case l => omega); walk_at "nw"))
local macro_rules | `(tactic| walk_at "nq") => `(tactic| decide +kernel)
local macro_rules | `(tactic| walk_at "nr") => `(tactic| decide +kernel)
local macro_rules | `(tactic| walk_at "st0") => `(tactic| ((with_reducible refine' c_draw ?h ?m (fun d_ H_ lo_ hi_ pl_ st_ => ?_)); (case h => walk_at "pool"); (case m => first | with_reducible assumption | (refine' ⟨?_, ?_⟩ <;> first | decide | omega))))
local macro_rules | `(tactic| walk_at "st0") => `(tactic| ((with_reducible refine' c_is_number ?h ?_); (case h => walk_at "ty1")))
local macro_rules | `(tactic| walk_at "st0") => `(tactic| ((with_reducible refine' c_is_within ?h ?_); (case h => walk_at "ty1")))
section
variable {P : Program} {w : World} {K : PySem.W.Frag} {mg : Str → Option Value} {base : Heap}
def sp_row (K : PySem.W.Frag) : Sp := fun vs H Q _ => ∃ (a : Addr) (ks : List Nat), vs = [.ref a, .int (ks.length : Nat)] ∧ H a = some (.tup (ks.map nat)) ∧ ∀ H', Stay [] H H' → Q (.bl true) H'
theorem c_row {K : PySem.W.Frag} {a : Addr} {ks : List Nat} {H : Hp} {Q : VK} {E : XK} (h : H a = some (.tup (ks.map nat))) (q : ∀ H', Stay [] H H' → Q (.bl true) H') : sp_row K [.ref a, .int (ks.length : Nat)] H Q E := ⟨a, ks, rfl, h, q⟩
theorem sc__law_is_row : FnScope ["thing", "many", "part"] ["thing", "many"] (defScope s__law_is_row) := ⟨rfl, rfl, rfl, by decide +kernel, rfl, by decide +kernel, by decide +kernel⟩
theorem ok__law_is_row (T : G K mg) : FnOk P w K mg base CX0 1 T.f__law_is_row T.d__law_is_row ["thing", "many"] (sp_row K) := by
  refine T.F__law_is_row.ok sc__law_is_row (fun vs H Q E h => ?_) (fun cdv A outer s H vs Q E hr h => ?_)
  · obtain ⟨a, ks, rfl, h, k⟩ := h
    rfl
  · obtain ⟨a, ks, rfl, h, k⟩ := h
    have hu := hu_of hr
    have nd := sc__law_is_row.nd
    refine ⟨_, (pss_cons (ps_if (PW.pt (pw_or (pt_not (pt_val (pe_callB call_isi (by rfl) T.n_isinstance (by decide +kernel) (pa_cons (pv 0) (pa_cons (pe_bltn (v := .ty "tuple") (by rfl) T.n_tuple (by decide +kernel) rfl) pa_nil))))) (pw_or1 (pt_cmpR op_ne (pe_callB (r := rLenQ K) call_lenQ (by rfl) T.n_len PySem.boot_len (pa_cons (pv 0) pa_nil)) (pv 1) (nomark _))))) (pss_one (ps_ret pe_bl)) pss_nil)
        (pss_one (ps_ret (pe_cmpR (op_eqD hr.units) (pe_lc (own := [("part", 2)]) (g := gName 2) rfl nd (pi_tup (pv 0)) (blkOk_by (own := [("part", 2)]) (N := ["thing", "many", "part"]) (sc := defScope s__law_is_row) (by decide +kernel)) (fun _ _ _ _ _ => (pg_name (i := 2) nd rfl (Or.inl rfl))) (fun _ _ _ _ _ => (pts_one (PW.pt (pw_and (pt_cmpR op_notN (pv 2) pe_non (nomark _)) (pw_and1 (PW.pt (pw_or (pt_not (pt_val (pe_callB (r := rIsi K) call_isi (by rfl) T.n_isinstance (by decide +kernel) (pa_cons (pv 2) (pa_cons (pe_bltn (v := .ty "int") (by rfl) T.n_int (by decide +kernel) rfl) pa_nil))))) (pw_or1 (pt_val (pe_callB (r := rIsi K) call_isi (by rfl) T.n_isinstance (by decide +kernel) (pa_cons (pv 2) (pa_cons (pe_bltn (v := .ty "bool") (by rfl) T.n_bool (by decide +kernel) rfl) pa_nil)))))))))))) (fun _ _ _ _ _ => (pv 2))) (pe_lst pa_nil) (nomark _))))), ?_⟩
    try dsimp only [L2.cxOf, L2.Cx.nox, L2.Cx.wish]
    rw [show L2.start ["thing", "many", "part"] [V.ref a, V.int (ks.length : Nat)] = [some (V.ref a), some (V.int (ks.length : Nat)), none] from rfl]
    walk_at "go"
    refine x_decN (fun z => absurd rfl z) (fun _ => ?_)
    walk_at "go"
    intro D nD
    refine lc_tup (xs := ks.map nat) (fun i G => Stay [] H G ∧ G D = some (.lst [])) ⟨Stay.new (Stay.refl _ _) nD, upd_same⟩ ?_ ?_ ?_
    · rintro i G _ ⟨st, _⟩
      exact SqT.of (st.keep _ _ h nm0)
    · rintro i x G e ⟨st, hD⟩
      obtain ⟨s, es, rfl⟩ : ∃ s, ks[i]? = some s ∧ nat s = x := by simpa using e
      walk_at "wp"
      walk_at "go"
      refine x_decN (fun _ => ?_) (fun z => absurd z (by intro q; cases q))
      walk_at "go"
      exact ⟨st, hD⟩
    · rintro G ⟨st, hD⟩
      walk_at "go"
      refine' x_eqD2 (d := .list []) (e := .list []) (.lst ?h .nil) (.lst ?h2 .nil) (by decide) (by decide) rfl ?_
      case h => walk_at "sq"
      case h2 => walk_at "sq"
      exact k _ (by walk_at "fr")
end
end WD

namespace WD
open PySem PySem.Spec PyProof.Rows L2
-- p ≠ q of two addresses
local macro_rules | `(tactic| walk_at "ne") => `(tactic| first
  | with_reducible assumption
  | with_reducible exact Ne.symm (by assumption)
  | exact ne_some (by with_reducible assumption) (by with_reducible assumption)
  | exact Ne.symm (ne_some (by with_reducible assumption) (by with_reducible assumption)))
local macro_rules | `(tactic| walk_at "nm") => `(tactic| first | with_reducible assumption | with_reducible exact nm0 | ((with_reducible refine' nmS ?a ?b); (case a => walk_at "ne"); (case b => walk_at "nm")))
-- H p = some ?o
local macro_rules | `(tactic| walk_at "hp") => `(tactic| first
  | with_reducible exact upd_same
  | with_reducible assumption
  | ((with_reducible refine' Eq.trans (upd_ne ?a) ?b); (case a => walk_at "ne"); (case b => walk_at "hp"))
  | exact Stay.keep (by with_reducible assumption) _ _ (by walk_at "hp") (by walk_at "nm"))
local macro_rules | `(tactic| walk_at "hpd") => `(tactic| ((refine' Eq.trans ?h ?e); (case h => walk_at "hp"); (case e => exact rfl)))
-- a new address
local macro_rules | `(tactic| walk_at "nw") => `(tactic| ((repeat first | (with_reducible refine' nw_upd ?_) | refine' nw_fr (by with_reducible assumption) ?_); intro p_; intros))
local macro_rules | `(tactic| walk_at "mem") => `(tactic| first | exact List.mem_cons_self | (refine' List.mem_cons_of_mem _ ?_; walk_at "mem"))
-- what stands stays
local macro_rules | `(tactic| walk_at "fr") => `(tactic| first
  | with_reducible assumption
  | exact Stay.refl _ _
  | ((with_reducible refine' Stay.upd ?a ?b); (case a => walk_at "fr"); (case b => walk_at "mem"))
  | ((with_reducible refine' Stay.new ?a ?b); (case b => with_reducible assumption); (case a => walk_at "fr"))
  | (refine' Stay.trans ?_ (by with_reducible assumption); walk_at "fr"))
local macro_rules | `(tactic| walk_at "sq") => `(tactic| first | with_reducible assumption | exact SqL.of (by walk_at "hp"))
local macro_rules | `(tactic| walk_at "sqt") => `(tactic| first | with_reducible assumption | exact SqT.of (by walk_at "hp"))
-- side goals
local macro_rules | `(tactic| walk_at "sd") => `(tactic| first
  | with_reducible assumption | with_reducible rfl | (show _ ≤ sizeLine; decide) | (refine Nat.le_trans (Nat.le_of_ble_eq_true (m := 1000) rfl) (by decide)) | decide | omega
  | exact IntMulOk.of_right (intBits_le_64 (by omega) (by omega)) | exact IntMulOk.of_left (intBits_le_64 (by omega) (by omega))
  | (refine' Or.inl ⟨?_, ?_⟩ <;> omega) | (refine' Or.inr ⟨?_, ?_⟩ <;> omega)
  | (refine' ⟨?_, ?_⟩ <;> walk_at "sd") | (refine' ⟨?_, ?_, ?_⟩ <;> walk_at "sd"))
local macro_rules | `(tactic| walk_at "set") => `(tactic| first | with_reducible exact set0 | with_reducible exact set1 | with_reducible exact set2 | with_reducible exact set3 | with_reducible exact set4 | with_reducible exact set5 | with_reducible exact set6 | with_reducible exact set7 | with_reducible exact set8 | with_reducible exact set9 | with_reducible exact set10 | with_reducible exact set11 | with_reducible exact set12 | with_reducible exact set13 | with_reducible exact set14 | with_reducible exact set15 | with_reducible exact set16 | with_reducible exact set17 | with_reducible exact set18 | with_reducible exact set19 | with_reducible exact set20)
-- one step
local macro_rules | `(tactic| walk_at "st0") => `(tactic| first
  | with_reducible refine' x_seq ?_
  | with_reducible refine' x_next ?_
  | with_reducible refine' x_ifS ?_
  | with_reducible refine' x_asg ?_
  | with_reducible refine' x_ret ?_
  | with_reducible refine' x_retN ?_
  | with_reducible refine' x_drop ?_
  | with_reducible refine' x_brk ?_
  | with_reducible refine' x_cont ?_
  | ((with_reducible refine' x_gName ?e ?_); (case e => walk_at "set"))
  | with_reducible refine' x_gSub ?_
  | with_reducible refine' x_gCons ?_
  | with_reducible refine' x_gNil ?_
  | with_reducible refine' x_c ?_
  | ((with_reducible refine' x_var ?e ?_); (case e => exact rfl))
  | with_reducible refine' x_op ?_
  | with_reducible refine' x_un ?_
  | with_reducible refine' x_if ?_
  | with_reducible refine' x_cb ?_
  | with_reducible refine' x_cons ?_
  | with_reducible refine' x_nil ?_
  | with_reducible refine' x_bm0 ?_
  | with_reducible refine' x_bm ?_
  | with_reducible refine' x_tup ?_
  | with_reducible refine' x_lst ?_
  | ((with_reducible refine' And.intro (a := _ ≤ sizeLine) ?e ?_); (case e => walk_at "sd"); walk_at "nw")
  | with_reducible refine' x_fld ?_
  | with_reducible refine' x_test ?_
  | with_reducible refine' x_tB ?_
  | with_reducible refine' x_and ?_
  | with_reducible refine' x_or ?_
  | with_reducible refine' x_not ?_
  | with_reducible refine' x_notV ?_
  | with_reducible refine' x_andV ?_
  | with_reducible refine' x_orV ?_
  | with_reducible refine' x_rI0 ?_
  | ((with_reducible refine' x_rI ?e ?_); (case e => walk_at "sd"))
  | with_reducible refine' x_rU ?_
  | ((with_reducible refine' x_rEq ?e ?_); (case e => exact rfl))
  | ((with_reducible refine' x_rNe ?e ?_); (case e => exact rfl))
  | ((with_reducible refine' x_ixL0 ?h ?_); (case h => walk_at "sq"))
  | ((with_reducible refine' x_ixL1 ?h ?_); (case h => walk_at "sq"))
  | ((with_reducible refine' x_ixL2 ?h ?_); (case h => walk_at "sq"))
  | ((with_reducible refine' x_ixL0I ?h ?_); (case h => walk_at "sq"))
  | ((with_reducible refine' x_ixL ?h ?e ?_); (case h => walk_at "sq"); (case e => exact rfl))
  | ((with_reducible refine' x_neNil ?h ?h2 ?_); (case h => walk_at "sq"); (case h2 => walk_at "sq"))
  | ((with_reducible refine' x_pop0I ?h ?_); (case h => walk_at "hp"))
  | ((with_reducible refine' x_pop0 ?h ?_); (case h => walk_at "hp"))
  | ((with_reducible refine' x_setL0 ?h ?_); (case h => walk_at "hp"))
  | ((with_reducible refine' x_setL1 ?h ?_); (case h => walk_at "hp"))
  | ((with_reducible refine' x_setL2 ?h ?_); (case h => walk_at "hp"))
  | ((with_reducible refine' x_setL ?h ?e ?_); (case h => walk_at "hp"); (case e => exact rfl))
  | with_reducible refine' .inl ⟨_, rfl, ?_⟩
  | ((with_reducible refine' x_tyL ?h ?_); (case h => walk_at "sq"))
  | with_reducible refine' ⟨_, rfl, ?_⟩)
-- a split
local macro_rules | `(tactic| walk_at "if") => `(tactic| (
  first
  | (with_reducible refine' x_dec (fun h_ => ?_) (fun h_ => ?_))
  | (with_reducible refine' x_decN (fun h_ => ?_) (fun h_ => ?_))
  | (with_reducible refine' x_boolN (fun h_ => ?_) (fun h_ => ?_))
  | (with_reducible refine' x_bool (fun h_ => ?_) (fun h_ => ?_))))
local macro_rules | `(tactic| walk_at "ifs") => `(tactic| (walk_at "if" <;> first
  | (exfalso; first | omega | contradiction)
  | (rename_i h_; (try simp only [BEq.rfl, List.length_map, List.length_cons, List.length_nil, Int.natCast_zero, Int.ofNat_zero, gt_iff_lt, Int.lt_irrefl, Bool.true_eq_false, Bool.false_eq_true, List.isEmpty_nil, List.isEmpty_cons, V.int.injEq, V.str.injEq, V.bl.injEq, reduceCtorEq, not_false_eq_true, not_true_eq_false] at h_); (try (exfalso; omega)))))
local macro_rules | `(tactic| walk_at "ite1") => `(tactic| first
  | with_reducible refine' x_T ?_
  | with_reducible refine' x_F ?_
  | with_reducible refine' x_nT ?_
  | with_reducible refine' x_nF ?_
  | ((with_reducible refine' x_bT ?e ?_); (case e => first | decide | decide +kernel))
  | ((with_reducible refine' x_bF ?e ?_); (case e => first | decide | decide +kernel)))
local macro_rules | `(tactic| walk_at "st") => `(tactic| ((fail_if_success (with_reducible (show (if _ then _ else _)))); walk_at "st0"))
local macro_rules | `(tactic| walk_at "go") => `(tactic| repeat first | walk_at "ite1" | walk_at "st")
local macro_rules | `(tactic| walk_at "gs") => `(tactic| repeat' first | walk_at "ite1" | walk_at "st" | walk_at "ifs")
local macro_rules | `(tactic| walk_at "sz") => `(tactic| first | with_reducible assumption | (refine Nat.le_trans (by assumption) (by decide : 100000 ≤ sizeLine)) | (refine Nat.le_trans (m := 100000) ?_ (by decide); (try simp only [len_add, rep_len]); (try rw [show (Str.ofString "z").length = 1 from rfl]); omega))
local macro_rules | `(tactic| walk_at "hn") => `(tactic| first | with_reducible assumption)
local macro_rules | `(tactic| walk_at "sqo") => `(tactic| first | exact Or.inl (by walk_at "sq") | exact Or.inr (by walk_at "sqt"))
local macro_rules | `(tactic| walk_at "ty1") => `(tactic| first | with_reducible assumption | exact Ty1.int _ | exact Ty1.str _ | exact Ty1.bl _ | exact Ty1.non | exact Ty1.tup (by walk_at "hp") | exact Ty1.lst (by walk_at "hp"))
local macro_rules | `(tactic| walk_at "st2") => `(tactic| first
  | with_reducible refine' And.intro (a := V.non = V.non) rfl ?_
  | with_reducible refine' x_call0 ?_
  | with_reducible refine' x_callS ?_
  | with_reducible refine' x_meth0 ?_
  | with_reducible refine' x_methW0 ?_
  | with_reducible refine' x_make0 ?_
  | with_reducible refine' x_makeW0 ?_
  | with_reducible refine' x_sFld ?_
  | with_reducible refine' x_mkO ?_
  | with_reducible refine' x_chain ?_
  | with_reducible refine' x_dget ?_
  | with_reducible refine' x_dget1 ?_
  | with_reducible refine' x_dget2 ?_
  | with_reducible refine' x_sDPut ?_
  | with_reducible refine' x_pairs ?_
  | with_reducible refine' x_pairs0 ?_
  | with_reducible refine' x_sl ?_
  | with_reducible refine' x_noPart ?_
  | with_reducible refine' x_part ?_
  | ((with_reducible refine' x_disp ?_); walk_at "nw")
  | ((with_reducible refine' x_dnew ?_); walk_at "nw")
  | ((with_reducible refine' x_rz ?h ?_); (case h => walk_at "cf"); walk_at "nw")
  | ((with_reducible refine' x_isi ?h ?e ?_); (case h => walk_at "ty1"); (case e => decide))
  | ((with_reducible refine' x_fldR ?h ?c ?n ?e ?_); (case h => walk_at "hp"); (case c => walk_at "cf"); (case n => walk_at "cf"); (case e => walk_at "fl"))
  | ((with_reducible refine' x_onIns ?h ?n ?_); (case h => walk_at "hp"); (case n => walk_at "fl"))
  | ((with_reducible refine' x_addS ?l ?_); (case l => walk_at "sz"))
  | ((with_reducible refine' x_lenS ?l ?_); (case l => walk_at "sz"))
  | ((with_reducible refine' x_lenL ?h ?_); (case h => walk_at "sqo"))
  | ((with_reducible refine' x_slL ?h rfl ?_); (case h => walk_at "sq"); walk_at "nw")
  | ((with_reducible refine' x_listOf ?h ?_); (case h => walk_at "sqo"); walk_at "nw")
  | ((with_reducible refine' x_strmul ?c ?_); (case c => (refine' ⟨?_, ?_, ?_⟩ <;> first | omega | decide +kernel)))
  | ((with_reducible refine' x_isD2 ?h ?_); (case h => walk_at "hp"))
  | ((with_reducible refine' x_getI ?h ?_); (case h => walk_at "hp"))
  | ((with_reducible refine' x_getS ?h ?_); (case h => walk_at "hp"))
  | ((with_reducible refine' x_dgetS ?h ?e ?_); (case h => walk_at "hp"); (case e => walk_at "fl"))
  | ((with_reducible refine' x_ixT ?h ?e ?_); (case h => walk_at "sqt"); (case e => exact rfl))
  | ((with_reducible refine' x_gTup ?h ?e ?_); (case h => walk_at "sqt"); (case e => exact rfl)))
local macro_rules | `(tactic| walk_at "st0") => `(tactic| walk_at "st2")
local macro_rules | `(tactic| walk_at "fl") => `(tactic| first
  | with_reducible exact lk_hd
  | ((with_reducible refine' lk_tl ?n ?h); (case n => walk_at "nq"); (case h => walk_at "fl"))
  | with_reducible exact lk_nil
  | with_reducible exact pf_hd
  | ((with_reducible refine' pf_tl ?n ?h); (case n => walk_at "nq"); (case h => walk_at "fl"))
  | with_reducible exact pf_nil
  | with_reducible exact vl_hd
  | ((with_reducible refine' vl_tl ?n ?h); (case n => walk_at "nr"); (case h => walk_at "fl"))
  | with_reducible exact vl_nil
  | ((with_reducible refine' pk_hd ?n); (case n => rfl))
  | ((with_reducible refine' pk_tl ?n ?t ?h); (case n => walk_at "nr"); (case t => rfl); (case h => walk_at "fl")))
local macro_rules | `(tactic| walk_at "cf") => `(tactic| with_reducible assumption)
local macro_rules | `(tactic| walk_at "st0") => `(tactic| first
  | ((with_reducible refine' x_sFldR ?h ?c ?n ?l ?e ?_); (case h => walk_at "hp"); (case c => walk_at "cf"); (case n => walk_at "cf"); (case l => exact Nat.le_of_ble_eq_true rfl); (case e => walk_at "fl")))
local macro_rules | `(tactic| walk_at "pool") => `(tactic| first
  | with_reducible assumption
  | exact Pool.ne (by walk_at "pool") (by walk_at "ne") (by walk_at "ne")
  | exact Pool.stay (by walk_at "pool") (by with_reducible assumption) (by walk_at "nm") (by walk_at "nm"))
local macro_rules | `(tactic| walk_at "szl") => `(tactic| first | exact Nat.lt_of_le_of_lt (Nat.le_of_ble_eq_true (m := 1000) rfl) (by decide) | exact Nat.lt_of_le_of_lt (by with_reducible assumption) (by decide : 1000 < sizeLine))
local macro_rules | `(tactic| walk_at "st0") => `(tactic| first
  | ((with_reducible refine' x_putS ?h ?l ?e ?_); (case h => walk_at "hp"); (case l => walk_at "szl"); (case e => walk_at "fl"))
  | ((with_reducible refine' x_setD ?h ?l ?e ?_); (case h => walk_at "hp"); (case l => walk_at "szl"); (case e => walk_at "fl"))
  | ((with_reducible refine' x_putI ?h ?l ?_); (case h => walk_at "hp"); (case l => walk_at "szl")))
local macro_rules | `(tactic| walk_at "st0") => `(tactic| first
  | ((with_reducible refine' x_rowN ?e ?_); (case e => walk_at "cf"); walk_at "nw"; (try dsimp only [List.set]))
  | ((with_reducible refine' x_rowF ?e ?_); (case e => walk_at "cf"))
  | with_reducible refine' x_xw ?_
  | ((with_reducible refine' x_xwR ?t ?h ?_); (case t => walk_at "cf"); (case h => walk_at "hp")))
local macro_rules | `(tactic| walk_at "st0") => `(tactic| first
  | ((with_reducible refine' x_isXR ?k ?x ?h ?e ?_); (case k => exact ClsV.own _); (case x => exact ExT.xc (by with_reducible assumption)); (case h => walk_at "hp"); (case e => walk_at "cf")))
local macro_rules | `(tactic| walk_at "st0") => `(tactic| first
  | with_reducible refine' x_for ?_
  | with_reducible refine' x_rng1 ?_
  | with_reducible refine' x_rng2 ?_
  | with_reducible refine' x_iList ?_
  | with_reducible refine' x_iTup ?_
  | with_reducible refine' x_par ?_
  | with_reducible refine' x_yes ?_
  | with_reducible refine' x_lc ?_
  | ((with_reducible refine' x_itL ?h ?_); (case h => walk_at "sq"))
  | ((with_reducible refine' x_itT ?h ?_); (case h => walk_at "sqt"))
  | ((with_reducible refine' x_catL ?h ?h2 ?l ?_); (case h => walk_at "hp"); (case h2 => walk_at "hp"); (case l => walk_at "sd"); walk_at "nw")
  | ((with_reducible refine' And.intro (a := List.set _ _ none = _) ?e ?_); (case e => exact rfl))
  | ((with_reducible refine' x_gNameS ?e1 ?e ?_); (case e1 => walk_at "set"); (case e => walk_at "set")))
local macro_rules | `(tactic| walk_at "st0") => `(tactic| first
  | ((with_reducible refine' x_lenQL ?h ?_); (case h => walk_at "sq"))
  | ((with_reducible refine' x_lenQT ?h ?_); (case h => walk_at "sqt"))
  | ((with_reducible refine' x_listOfL ?h ?_); (case h => walk_at "sq"); walk_at "nw")
  | ((with_reducible refine' x_listOfT ?h ?_); (case h => walk_at "sqt"); walk_at "nw")
  | ((with_reducible refine' x_tupOfL ?h ?_); (case h => walk_at "sq"); walk_at "nw")
  | ((with_reducible refine' x_sum ?h ?_); (case h => walk_at "sq"))
  | with_reducible refine' x_enumS ?_
  | ((with_reducible refine' x_qEnumS ?h ?_); (case h => walk_at "sqt"))
  | ((with_reducible refine' x_ixL ?h ?e ?_); (case h => walk_at "sq"); (case e => with_reducible assumption))
  | ((with_reducible refine' x_ixT ?h ?e ?_); (case h => walk_at "sqt"); (case e => with_reducible assumption)))
local macro_rules | `(tactic| walk_at "st0") => `(tactic| first
  | ((with_reducible refine' x_lenMT ?h ?_); (case h => walk_at "sqt"))
  | ((with_reducible refine' x_lenML ?h ?_); (case h => walk_at "sq")))
local macro_rules | `(tactic| walk_at "st0") => `(tactic| first
  | ((with_reducible refine' x_lenT2 ?h ?_); (case h => walk_at "sqt"))
  | ((with_reducible refine' x_lenT1 ?h ?_); (case h => walk_at "sqt")))
local macro_rules | `(tactic| walk_at "nn") => `(tactic| first | with_reducible assumption | ((with_reducible refine' Eq.trans (upd_ne ?a) ?b); (case a => walk_at "ne"); (case b => walk_at "nn")))
local macro_rules | `(tactic| walk_at "tk") => `(tactic| first
  | exact Tk.refl _
  | with_reducible assumption
  | ((with_reducible refine' Tk.trans ?a (Tk.updN ?b)); (case b => walk_at "nn"); (case a => walk_at "tk"))
  | ((with_reducible refine' Tk.trans ?a (Tk.updL' ?b)); (case b => exact ⟨_, by walk_at "hp"⟩); (case a => walk_at "tk"))
  | exact Stay.tk0 (by with_reducible assumption))
local macro_rules | `(tactic| walk_at "st0") => `(tactic| first
  | ((with_reducible refine' x_setLk ?h ?e ?_); (case h => walk_at "hp"); (case e => with_reducible assumption)))
local macro_rules | `(tactic| walk_at "wp") => `(tactic| (dsimp only [wipe, List.map]; (try simp only [set0, set1, set2, set3, set4, set5, set6, set7, set8, set9, set10, set11, set12, set13, set14, set15, set16, set17, set18, set19, set20])))
local macro_rules | `(tactic| walk_at "szl2") => `(tactic| first | with_reducible assumption | ((try simp only [List.length_map, List.length_append, List.length_cons, List.length_nil, List.length_take]); have := sizeLine_eq; omega))
local macro_rules | `(tactic| walk_at "st0") => `(tactic| first
  | ((with_reducible refine' x_app ?h ?l ?_); (case h => walk_at "hp"); (case l => walk_at "szl2")))
local macro_rules | `(tactic| walk_at "st0") => `(tactic| first
  | with_reducible refine' x_listRg1 ?_
  | ((with_reducible refine' x_qRgL ?l ?_); (case l => omega); walk_at "nw"))
local macro_rules | `(tactic| walk_at "kf") => `(tactic| first
  | exact Kf.refl _ _
  | with_reducible assumption
  | ((with_reducible refine' Kf.trans ?a (Kf.updN ?b)); (case b => walk_at "nn"); (case a => walk_at "kf"))
  | ((with_reducible refine' Kf.trans ?a Kf.updF); (case a => walk_at "kf"))
  | exact Stay.kf (by with_reducible assumption))
local macro_rules | `(tactic| walk_at "nq") => `(tactic| decide +kernel)
local macro_rules | `(tactic| walk_at "nr") => `(tactic| decide +kernel)
local macro_rules | `(tactic| walk_at "st0") => `(tactic| ((with_reducible refine' c_draw ?h ?m (fun d_ H_ lo_ hi_ pl_ st_ => ?_)); (case h => walk_at "pool"); (case m => first | with_reducible assumption | (refine' ⟨?_, ?_⟩ <;> first | decide | omega))))
local macro_rules | `(tactic| walk_at "st0") => `(tactic| ((with_reducible refine' c_is_number ?h ?_); (case h => walk_at "ty1")))
local macro_rules | `(tactic| walk_at "st0") => `(tactic| ((with_reducible refine' c_is_within ?h ?_); (case h => walk_at "ty1")))
section
variable {P : Program} {w : World} {K : PySem.W.Frag} {mg : Str → Option Value} {base : Heap}
def sp_reach (K : PySem.W.Frag) : Sp := fun vs H Q _ => ∃ a P ds, vs = [.ref a] ∧ LogAt H a P ds ∧ Wf P ds ∧ ∀ r us fs H', H' r = some (.lst us) → FAt H' r us fs → Fs (Ed ds) P fs → (∀ x, x < P → ∀ y, (x = y ∨ Tg (Ed ds) x y) → y ∈ fs.getD x []) → Stay [] H H' → Q (.ref r) H'
theorem c_reach {K : PySem.W.Frag} {a : Addr} {P : Nat} {ds : List Deed} {H : Hp} {Q : VK} {E : XK} (h : LogAt H a P ds) (w : Wf P ds) (q : ∀ r us fs H', H' r = some (.lst us) → FAt H' r us fs → Fs (Ed ds) P fs → (∀ x, x < P → ∀ y, (x = y ∨ Tg (Ed ds) x y) → y ∈ fs.getD x []) → Stay [] H H' → Q (.ref r) H') : sp_reach K [.ref a] H Q E := ⟨a, P, ds, rfl, h, w, q⟩
theorem Wf.ed2 {P : Nat} {ds : List Deed} (w : Wf P ds) : ∀ x y, Ed ds x y → x < P ∧ y < P := by
  rintro x y ⟨d, hd, rfl, hy⟩
  exact ⟨(w.d d hd).pg, ((w.d d hd).rd y hy).1⟩
theorem getD_one {P x : Nat} (h : x < P) : ((List.range P).map fun x => [x]).getD x [] = [x] := by
  rw [List.getD_eq_getElem?_getD, List.getElem?_map, List.getElem?_range h]; rfl
theorem fs_one (E : Nat → Nat → Prop) (P : Nat) : Fs E P ((List.range P).map fun x => [x]) := by
  refine ⟨by simp, fun x hx => ?_, fun x hx y hy => ?_, fun x hx y hy => ?_, fun x hx => ?_⟩
  · rw [getD_one hx]; simp
  · rw [getD_one hx] at hy; rw [List.mem_singleton.mp hy]; exact hx
  · rw [getD_one hx] at hy; exact .inl (List.mem_singleton.mp hy).symm
  · rw [getD_one hx]; simp
theorem Fs.ll {E : Nat → Nat → Prop} {P : Nat} {fs : List (List Nat)} (h : Fs E P fs) {x : Nat} (hx : x < P) : (fs.getD x []).length ≤ P := nodup_len P _ (h.nd x hx) (h.lt x hx)
theorem lens_take {fs : List (List Nat)} {i : Nat} {l : List Nat} (e : fs[i]? = some l) : (lens fs).take (i + 1) = (lens fs).take i ++ [(l.length : Int)] := by
  rw [List.take_succ]
  unfold lens
  rw [List.getElem?_map, e]
  rfl
theorem sc__law_reach : FnScope ["log", "page", "found", "turn", "many", "reads", "read", "row", "other"] ["log"] (defScope s__law_reach) := ⟨rfl, rfl, rfl, by decide +kernel, rfl, by decide +kernel, by decide +kernel⟩
theorem ok__law_reach (T : G K mg) : FnOk P w K mg base CX0 1 T.f__law_reach T.d__law_reach ["log"] (sp_reach K) := by
  refine T.F__law_reach.ok sc__law_reach (fun vs H Q E h => ?_) (fun cdv A outer s H vs Q E hr h => ?_)
  · obtain ⟨a, P, ds, rfl, hl, wf, k⟩ := h
    rfl
  · obtain ⟨a, P, ds, rfl, hl, wf, k⟩ := h
    have hu := hu_of hr
    have nd := sc__law_reach.nd
    refine ⟨_, (pss_cons (ps_set (i := 2) nd rfl (Or.inr rfl) (pe_lc (own := [("page", 1)]) (g := gName 1) rfl nd (pi_range1 rfl T.n_range (pa_cons (pe_ix (r := rIxT K) ix_tup (pv 0) pe_int (fun _ _ => rfl)) pa_nil)) (blkOk_by (own := [("page", 1)]) (N := ["log", "page", "found", "turn", "many", "reads", "read", "row", "other"]) (sc := defScope s__law_reach) (by decide +kernel)) (fun _ _ _ _ _ => (pg_name (i := 1) nd rfl (Or.inl rfl))) (fun _ _ _ _ _ => pts_nil) (fun _ _ _ _ _ => (pe_lst (pa_cons (pv 1) pa_nil)))))
        (pss_cons (ps_for PassesOwn.never rfl (pi_range1 rfl T.n_range (pa_cons (pe_ix ix_tup (pv 0) pe_int (fun _ _ => rfl)) pa_nil)) (pg_name (i := 3) nd rfl (Or.inl rfl)) (pss_cons (ps_set (i := 4) nd rfl (Or.inl rfl) (pe_callB (r := rSum K) (cr_sum rfl) (by rfl) T.n_sum (by decide +kernel) (pa_cons (pe_lc (own := [("row", 7)]) (g := gName 7) rfl nd (pi_list (pv 2)) (blkOk_by (own := [("row", 7)]) (N := ["log", "page", "found", "turn", "many", "reads", "read", "row", "other"]) (sc := defScope s__law_reach) (by decide +kernel)) (fun _ _ _ _ _ => (pg_name (i := 7) nd rfl (Or.inl rfl))) (fun _ _ _ _ _ => pts_nil) (fun _ _ _ _ _ => (pe_callB (r := rLenQ K) call_lenQ (by rfl) T.n_len PySem.boot_len (pa_cons (pv 7) pa_nil)))) pa_nil)))
        (pss_cons (ps_for PassesOwn.never rfl (pi_tup (pe_ix ix_tup (pv 0) pe_int (fun _ _ => rfl))) (pg_tup rfl (pgs_cons (pg_name (i := 1) nd rfl (Or.inr rfl)) (pgs_cons (pg_name (i := 5) nd rfl (Or.inl rfl)) pgs_nil))) (pss_one (ps_for PassesOwn.never rfl (pi_tup (pv 5)) (pg_name (i := 6) nd rfl (Or.inl rfl)) (pss_one (ps_asg (pe_op op_cat (pe_ix ix_list (pv 2) (pv 1) (fun _ _ => rfl)) (pe_lc (own := [("other", 8)]) (g := gName 8) rfl nd (pi_list (pe_ix (r := rIxL K) ix_list (pv 2) (pv 6) (fun _ _ => rfl))) (blkOk_by (own := [("other", 8)]) (N := ["log", "page", "found", "turn", "many", "reads", "read", "row", "other"]) (sc := defScope s__law_reach) (by decide +kernel)) (fun _ _ _ _ _ => (pg_name (i := 8) nd rfl (Or.inl rfl))) (fun _ _ _ _ _ => (pts_one (pt_cmpR (r := rIn K true) (op_notIn_seq : OpR _ _ (rIn _ true)) (pv 8) (pe_ix (r := rIxL K) ix_list (pv 2) (pv 1) (fun _ _ => rfl)) (by rfl)))) (fun _ _ _ _ _ => (pv 8)))) (pg_sub (pv 2) (pv 1) set_list))))))
        (pss_one (ps_if (pt_cmpR op_eq (pe_callB (r := rSum K) (cr_sum rfl) (by rfl) T.n_sum (by decide +kernel) (pa_cons (pe_lc (own := [("row", 7)]) (g := gName 7) rfl nd (pi_list (pv 2)) (blkOk_by (own := [("row", 7)]) (N := ["log", "page", "found", "turn", "many", "reads", "read", "row", "other"]) (sc := defScope s__law_reach) (by decide +kernel)) (fun _ _ _ _ _ => (pg_name (i := 7) nd rfl (Or.inl rfl))) (fun _ _ _ _ _ => pts_nil) (fun _ _ _ _ _ => (pe_callB (r := rLenQ K) call_lenQ (by rfl) T.n_len PySem.boot_len (pa_cons (pv 7) pa_nil)))) pa_nil)) (pv 4) (nomark _)) (pss_one ps_break) pss_nil)))))
        (pss_one (ps_ret (pv 2))))), ?_⟩
    try dsimp only [L2.cxOf, L2.Cx.nox, L2.Cx.wish]
    rw [show L2.start ["log", "page", "found", "turn", "many", "reads", "read", "row", "other"] [V.ref a] = [some (V.ref a), none, none, none, none, none, none, none, none] from rfl]
    obtain ⟨b, xs, h1, h2, hd⟩ := hl
    have p1 := wf.p1
    have p2 := wf.p2
    have hlen := hd.1
    walk_at "go"
    refine ⟨by omega, by omega, ?_⟩
    intro F nF
    refine lc_range (n := (↑P : Int).toNat) (fun i G => Stay [] H G ∧ ∃ vs, G F = some (.lst vs) ∧ FAt G F vs ((List.range i).map fun x => [x])) ⟨Stay.new (Stay.refl _ _) nF, [], upd_same, FAt.nil⟩ ?_ ?_
    · rintro i G hi ⟨st, vs, hF, hv⟩
      rw [Int.toNat_natCast] at hi
      rw [Int.zero_add]
      have hvl := hv.1
      rw [List.length_map, List.length_range] at hvl
      walk_at "wp"
      walk_at "go"
      rename_i B nB nB2
      have nFB := ne_some hF nB2
      refine ⟨vs, by walk_at "hp", by have := sizeLine_eq; omega, by walk_at "fr", vs ++ [V.ref B], upd_same, ?_⟩
      rw [List.range_succ, List.map_append]
      exact (hv.kf (by walk_at "kf")).snoc nFB.symm (by rw [upd_ne nFB.symm, upd_same]; rfl)
    rintro G0 ⟨st0, vs0, hF0, hv0⟩
    rw [Int.toNat_natCast] at hv0
    have g1 := st0.keep _ _ h1 nm0
    have g2 := st0.keep _ _ h2 nm0
    walk_at "go"
    refine ⟨by omega, by omega, ?_⟩
    refine for_range (n := (↑P : Int).toNat) (fun t σ G => (∃ v1 v3 v4 v5 v6 v7 v8 : Option V, σ = [some (V.ref a), v1, some (V.ref F), v3, v4, v5, v6, v7, v8]) ∧ Stay [] H G ∧ ∃ vs fs, G F = some (.lst vs) ∧ FAt G F vs fs ∧ Fs (Ed ds) P fs ∧ ∀ x, x < P → ∀ y, Dn (Ed ds) t x y → y ∈ fs.getD x [])
      ⟨⟨_, _, _, _, _, _, _, rfl⟩, st0, vs0, _, hF0, hv0, fs_one _ P, fun x hx y hy => by rw [getD_one hx]; exact List.mem_singleton.mpr (Eq.symm hy)⟩ ?_ ?_
    · clear g1 g2 hF0 hv0 st0
      rintro t σ G ht ⟨⟨v1, v3, v4, v5, v6, v7, v8, rfl⟩, st, vs, fs, hF, hv, hfs, hdn⟩
      have hfl := hfs.len
      have hvl := hv.1
      rw [Int.zero_add]
      walk_at "go"
      intro S nS
      have nFS := ne_some hF nS
      have hsl : (lens fs).length = fs.length := by simp [lens]
      refine lc_list (xs := vs) (fun i G' => Stay [] G G' ∧ G' S = some (.lst (((lens fs).take i).map V.int))) ⟨Stay.new (Stay.refl _ _) nS, by rw [upd_same]; rfl⟩ ?_ ?_ ?_
      · rintro i G' _ ⟨st', _⟩
        exact SqL.of (st'.keep _ _ hF nm0)
      · rintro i x G' e ⟨st', hS⟩
        have hi : i < fs.length := by rw [← hvl]; exact (List.getElem?_eq_some_iff.mp e).1
        obtain ⟨B, rfl, nB, hB⟩ := (hv.kf st'.kf).2 i x fs[i] e (by simp [hi])
        walk_at "wp"
        walk_at "go"
        refine ⟨_, hS, ?_, Stay.new st' nS, ?_⟩
        · have := sizeLine_eq
          simp; omega
        · rw [upd_same, lens_take (l := fs[i]) (by simp [hi]), List.map_append]; rfl
      rintro G' ⟨st', hS⟩
      rw [show vs.length = (lens fs).length by rw [hsl, hvl], List.take_length] at hS
      have stA := st.trans st'
      replace hF := st'.keep _ _ hF nm0
      replace hv := hv.kf st'.kf
      have g1 := stA.keep _ _ h1 nm0
      have g2 := stA.keep _ _ h2 nm0
      clear st st'
      walk_at "go"
      refine for_tup (xs := xs) (fun i σ G1 => (∃ v1 v5 v6 v7 v8 : Option V, σ = [some (V.ref a), v1, some (V.ref F), some (V.int t), some (V.int (lens fs).sum), v5, v6, v7, v8]) ∧ Stay [] H G1 ∧ ∃ us gs, G1 F = some (.lst us) ∧ FAt G1 F us gs ∧ Fs (Ed ds) P gs ∧ Sw P fs gs (Ed (ds.take i)))
        ⟨⟨_, _, _, _, _, rfl⟩, stA, vs, fs, hF, hv, hfs, ⟨fun x _ => ⟨[], by simp⟩, fun p r h => absurd h (by rintro ⟨c, hc, _⟩; simp at hc)⟩⟩ ?_ ?_ ?_
      · rintro i σ G1 _ ⟨_, st, _⟩
        exact SqT.of (st.keep _ _ h2 nm0)
      · clear g1 g2 hF hv hS stA hvl nS nFS
        rintro i x σ G1 e ⟨⟨v1, v5, v6, v7, v8, rfl⟩, st, us, gs, hF, hv, hg, hs⟩
        obtain ⟨d, ed, hdx⟩ := hd.get e
        have hw := wf.d d (List.mem_of_getElem? ed)
        obtain ⟨t0, r, rfl, g3, g4⟩ := hdx.tk st.tk0
        have nrF : r ≠ F := ne_of g4 hF (by intro z; cases z)
        walk_at "go"
        refine for_tup (xs := d.2.map nat) (fun j σ G2 => (∃ v6 v7 v8 : Option V, σ = [some (V.ref a), some (nat d.1), some (V.ref F), some (V.int t), some (V.int (lens fs).sum), some (V.ref r), v6, v7, v8]) ∧ Stay [] H G2 ∧ Kf F G1 G2 ∧ ∃ us gs, G2 F = some (.lst us) ∧ FAt G2 F us gs ∧ Fs (Ed ds) P gs ∧ Sw P fs gs (fun x y => Ed (ds.take i) x y ∨ (x = d.1 ∧ y ∈ d.2.take j)))
          ⟨⟨_, _, _, rfl⟩, st, Kf.refl _ _, us, gs, hF, hv, hg, ⟨hs.ext, fun p q h => hs.dn p q (by simpa using h)⟩⟩ ?_ ?_ ?_
        · rintro j σ G2 _ ⟨_, _, kf, _⟩
          exact SqT.of (kf _ _ nrF g4)
        · clear hF hv hg hs st
          rintro j x σ G2 e2 ⟨⟨v6, v7, v8, rfl⟩, st, kf, us, gs, hF, hv, hg, hs⟩
          obtain ⟨q, eq, rfl⟩ : ∃ q, d.2[j]? = some q ∧ nat q = x := by simpa using e2
          obtain ⟨r1, r2⟩ := hw.rd q (List.mem_of_getElem? eq)
          have q1 := hw.pg
          have hgl := hg.len
          have hul := hv.1
          have eE : Ed ds d.1 q := ⟨d, List.mem_of_getElem? ed, rfl, List.mem_of_getElem? eq⟩
          obtain ⟨bp, ip, nbp, gbp⟩ := hv.at (p := d.1) (by omega)
          obtain ⟨bq, iq, nbq, gbq⟩ := hv.at (p := q) (by omega)
          have hset := ixV (vs := us) (p := d.1) (by omega)
          have lp := hg.ll q1
          have lq := hg.ll r1
          walk_at "go"
          intro D nD
          have nFD := ne_some hF nD
          have nbpD := ne_some gbp nD
          have nbqD := ne_some gbq nD
          refine lc_list (xs := (gs.getD q []).map nat) (fun m G3 => Stay [] G2 G3 ∧ G3 D = some (.lst (((((gs.getD q []).take m).filter fun y => !(gs.getD d.1 []).contains y)).map nat))) ⟨Stay.new (Stay.refl _ _) nD, by rw [upd_same]; rfl⟩ ?_ ?_ ?_
          · rintro m G3 _ ⟨st3, _⟩
            exact SqL.of (st3.keep _ _ gbq nm0)
          · rintro m x G3 e3 ⟨st3, hD⟩
            obtain ⟨y, ey, rfl⟩ : ∃ y, (gs.getD q [])[m]? = some y ∧ nat y = x := by simpa using e3
            have hF3 := st3.keep _ _ hF nm0
            have gb3 := st3.keep _ _ gbp nm0
            have fl : (((gs.getD q []).take m).filter fun y => !(gs.getD d.1 []).contains y).length ≤ 32 := by
              refine Nat.le_trans (List.length_filter_le _ _) ?_
              rw [List.length_take]; omega
            have step : ((gs.getD q []).take (m + 1)).filter (fun y => !(gs.getD d.1 []).contains y) = ((gs.getD q []).take m).filter (fun y => !(gs.getD d.1 []).contains y) ++ (if (!(gs.getD d.1 []).contains y) = true then [y] else []) := by
              rw [List.take_succ, ey, List.filter_append]
              congr 1
              by_cases hc : (!(gs.getD d.1 []).contains y) = true
              · rw [if_pos hc]; simp at hc; simp [hc]
              · rw [if_neg hc]; simp at hc; simp [hc]
            walk_at "wp"
            walk_at "go"
            refine x_notIn (.inl (SqL.of gb3)) rfl (flat_nat _) ?_
            rw [inV_nat]
            walk_at "go"
            refine x_bool (fun hc => ?_) (fun hc => ?_)
            · walk_at "go"
              refine ⟨_, hD, by have := sizeLine_eq; rw [List.length_map]; omega, Stay.new st3 nD, ?_⟩
              rw [upd_same, step, if_pos hc, List.map_append]; rfl
            · walk_at "go"
              exact ⟨st3, by rw [step, if_neg (by rw [hc]; decide), List.append_nil]; exact hD⟩
          · rintro G3 ⟨st3, hD⟩
            rw [List.length_map, List.take_length] at hD
            replace hF := st3.keep _ _ hF nm0
            replace hv := hv.kf st3.kf
            replace gbp := st3.keep _ _ gbp nm0
            replace kf := kf.trans st3.kf
            replace st := st.trans st3
            clear gbq st3 nD
            walk_at "go"
            refine x_catL gbp hD ?_ (fun N nN => ?_)
            · have z1 := sizeLine_eq
              have z2 := List.length_filter_le (fun y => !(gs.getD d.1 []).contains y) (gs.getD q [])
              simp only [List.length_map]
              omega
            have nFN := ne_some hF nN
            walk_at "go"
            refine ⟨⟨_, _, _, rfl⟩, Stay.new (Stay.new st (st.old N nN)) nF, (kf.trans (Kf.updN nN)).trans Kf.updF, us.set d.1 (V.ref N), fstep gs d.1 q, upd_same, ?_, hg.step q1 r1 eE, (hs.step hg q1 r1).mono fun x y h => ?_⟩
            · exact ((hv.kf (Kf.updN nN)).kf Kf.updF).set nFN.symm (by rw [upd_ne nFN.symm, upd_same, ← List.map_append]; rfl)
            · rw [List.take_succ, eq] at h
              rcases h with h | ⟨h1, h2⟩
              · exact .inl (.inl h)
              · rcases List.mem_append.mp h2 with h2 | h2
                · exact .inl (.inr ⟨h1, h2⟩)
                · exact .inr ⟨h1, by simpa using h2⟩
        · rintro σ G2 ⟨⟨v6, v7, v8, rfl⟩, st2, kf, us2, gs2, hF2, hv2, hg2, hs2⟩
          rw [List.length_map, List.take_length] at hs2
          exact ⟨⟨_, _, _, _, _, rfl⟩, st2, us2, gs2, hF2, hv2, hg2, ⟨hs2.ext, fun p q h => hs2.dn p q ((Ed.take ed).mp h)⟩⟩
      · clear g1 g2 hF hv hS stA nS nFS
        rintro σ G1 ⟨⟨v1, v5, v6, v7, v8, rfl⟩, st, us, gs, hF, hv, hg, hs⟩
        rw [hlen, List.take_length] at hs
        have hgl := hg.len
        have hul := hv.1
        walk_at "go"
        intro S2 nS2
        have nFS := ne_some hF nS2
        have hsl : (lens gs).length = gs.length := by simp [lens]
        refine lc_list (xs := us) (fun i G' => Stay [] G1 G' ∧ G' S2 = some (.lst (((lens gs).take i).map V.int))) ⟨Stay.new (Stay.refl _ _) nS2, by rw [upd_same]; rfl⟩ ?_ ?_ ?_
        · rintro i G' _ ⟨st', _⟩
          exact SqL.of (st'.keep _ _ hF nm0)
        · rintro i x G' e ⟨st', hS⟩
          have hi : i < gs.length := by rw [← hul]; exact (List.getElem?_eq_some_iff.mp e).1
          obtain ⟨B, rfl, nB, hB⟩ := (hv.kf st'.kf).2 i x gs[i] e (by simp [hi])
          walk_at "wp"
          walk_at "go"
          refine ⟨_, hS, ?_, Stay.new st' nS2, ?_⟩
          · have := sizeLine_eq
            simp; omega
          · rw [upd_same, lens_take (l := gs[i]) (by simp [hi]), List.map_append]; rfl
        rintro G' ⟨st', hS⟩
        rw [show us.length = (lens gs).length by rw [hsl, hul], List.take_length] at hS
        have stA := st.trans st'
        replace hF := st'.keep _ _ hF nm0
        replace hv := hv.kf st'.kf
        clear st st'
        walk_at "go"
        refine x_dec (fun z => ?_) (fun z => ?_)
        · have same : gs = fs := (sum_same (by rw [hgl, hfl]) fun x hx => hs.ext x (by omega)).2 (V.int.inj z)
          subst same
          walk_at "go"
          exact k _ us gs _ hF hv hg (fun x hx y hy => closed_all hg wf.ed2 hs.dn hx hy) stA
        · walk_at "go"
          refine ⟨⟨_, _, _, _, _, _, _, rfl⟩, stA, us, gs, hF, hv, hg, fun x hx y hy => ?_⟩
          rcases hy with hy | ⟨r, er, hy⟩
          · obtain ⟨e, he⟩ := hs.ext x hx
            rw [he]
            exact List.mem_append_left _ (hdn x hx y hy)
          · exact hs.dn x r er y (hdn r (wf.ed2 _ _ er).2 y hy)
    · rintro σ G ⟨⟨v1, v3, v4, v5, v6, v7, v8, rfl⟩, st, vs, fs, hF, hv, hfs, hdn⟩
      rw [Int.toNat_natCast] at hdn
      walk_at "go"
      refine k _ vs fs _ hF hv hfs (fun x hx y hy => ?_) st
      have hyP : y < P := by
        rcases hy with z | z
        · rw [← z]; exact hx
        · clear k
          induction z with
          | one e => exact (wf.ed2 _ _ e).2
          | step e _ ih => exact ih (wf.ed2 _ _ e).2
      have ⟨m, hm⟩ : ∃ m, Dn (Ed ds) m x y := by
        rcases hy with z | z
        · exact ⟨0, z⟩
        · exact Dn.of_tg z
      exact hdn x hx y (Dn.stable (fun x r e => (wf.ed2 x r e).2) hyP hx hm)
end
end WD

namespace WD
open PySem PySem.Spec PyProof.Rows L2
-- p ≠ q of two addresses
local macro_rules | `(tactic| walk_at "ne") => `(tactic| first
  | with_reducible assumption
  | with_reducible exact Ne.symm (by assumption)
  | exact ne_some (by with_reducible assumption) (by with_reducible assumption)
  | exact Ne.symm (ne_some (by with_reducible assumption) (by with_reducible assumption)))
local macro_rules | `(tactic| walk_at "nm") => `(tactic| first | with_reducible assumption | with_reducible exact nm0 | ((with_reducible refine' nmS ?a ?b); (case a => walk_at "ne"); (case b => walk_at "nm")))
-- H p = some ?o
local macro_rules | `(tactic| walk_at "hp") => `(tactic| first
  | with_reducible exact upd_same
  | with_reducible assumption
  | ((with_reducible refine' Eq.trans (upd_ne ?a) ?b); (case a => walk_at "ne"); (case b => walk_at "hp"))
  | exact Stay.keep (by with_reducible assumption) _ _ (by walk_at "hp") (by walk_at "nm"))
local macro_rules | `(tactic| walk_at "hpd") => `(tactic| ((refine' Eq.trans ?h ?e); (case h => walk_at "hp"); (case e => exact rfl)))
-- a new address
local macro_rules | `(tactic| walk_at "nw") => `(tactic| ((repeat first | (with_reducible refine' nw_upd ?_) | refine' nw_fr (by with_reducible assumption) ?_); intro p_; intros))
local macro_rules | `(tactic| walk_at "mem") => `(tactic| first | exact List.mem_cons_self | (refine' List.mem_cons_of_mem _ ?_; walk_at "mem"))
-- what stands stays
local macro_rules | `(tactic| walk_at "fr") => `(tactic| first
  | with_reducible assumption
  | exact Stay.refl _ _
  | ((with_reducible refine' Stay.upd ?a ?b); (case a => walk_at "fr"); (case b => walk_at "mem"))
  | ((with_reducible refine' Stay.new ?a ?b); (case b => with_reducible assumption); (case a => walk_at "fr"))
  | (refine' Stay.trans ?_ (by with_reducible assumption); walk_at "fr"))
local macro_rules | `(tactic| walk_at "sq") => `(tactic| first | with_reducible assumption | exact SqL.of (by walk_at "hp"))
local macro_rules | `(tactic| walk_at "sqt") => `(tactic| first | with_reducible assumption | exact SqT.of (by walk_at "hp"))
-- side goals
local macro_rules | `(tactic| walk_at "sd") => `(tactic| first
  | with_reducible assumption | with_reducible rfl | (show _ ≤ sizeLine; decide) | (refine Nat.le_trans (Nat.le_of_ble_eq_true (m := 1000) rfl) (by decide)) | decide | omega
  | exact IntMulOk.of_right (intBits_le_64 (by omega) (by omega)) | exact IntMulOk.of_left (intBits_le_64 (by omega) (by omega))
  | (refine' Or.inl ⟨?_, ?_⟩ <;> omega) | (refine' Or.inr ⟨?_, ?_⟩ <;> omega)
  | (refine' ⟨?_, ?_⟩ <;> walk_at "sd") | (refine' ⟨?_, ?_, ?_⟩ <;> walk_at "sd"))
local macro_rules | `(tactic| walk_at "set") => `(tactic| first | with_reducible exact set0 | with_reducible exact set1 | with_reducible exact set2 | with_reducible exact set3 | with_reducible exact set4 | with_reducible exact set5 | with_reducible exact set6 | with_reducible exact set7 | with_reducible exact set8 | with_reducible exact set9 | with_reducible exact set10 | with_reducible exact set11 | with_reducible exact set12 | with_reducible exact set13 | with_reducible exact set14 | with_reducible exact set15 | with_reducible exact set16 | with_reducible exact set17 | with_reducible exact set18 | with_reducible exact set19 | with_reducible exact set20)
-- one step
local macro_rules | `(tactic| walk_at "st0") => `(tactic| first
  | with_reducible refine' x_seq ?_
  | with_reducible refine' x_next ?_
  | with_reducible refine' x_ifS ?_
  | with_reducible refine' x_asg ?_
  | with_reducible refine' x_ret ?_
  | with_reducible refine' x_retN ?_
  | with_reducible refine' x_drop ?_
  | with_reducible refine' x_brk ?_
  | with_reducible refine' x_cont ?_
  | ((with_reducible refine' x_gName ?e ?_); (case e => walk_at "set"))
  | with_reducible refine' x_gSub ?_
  | with_reducible refine' x_gCons ?_
  | with_reducible refine' x_gNil ?_
  | with_reducible refine' x_c ?_
  | ((with_reducible refine' x_var ?e ?_); (case e => exact rfl))
  | with_reducible refine' x_op ?_
  | with_reducible refine' x_un ?_
  | with_reducible refine' x_if ?_
  | with_reducible refine' x_cb ?_
  | with_reducible refine' x_cons ?_
  | with_reducible refine' x_nil ?_
  | with_reducible refine' x_bm0 ?_
  | with_reducible refine' x_bm ?_
  | with_reducible refine' x_tup ?_
  | with_reducible refine' x_lst ?_
  | ((with_reducible refine' And.intro (a := _ ≤ sizeLine) ?e ?_); (case e => walk_at "sd"); walk_at "nw")
  | with_reducible refine' x_fld ?_
  | with_reducible refine' x_test ?_
  | with_reducible refine' x_tB ?_
  | with_reducible refine' x_and ?_
  | with_reducible refine' x_or ?_
  | with_reducible refine' x_not ?_
  | with_reducible refine' x_notV ?_
  | with_reducible refine' x_andV ?_
  | with_reducible refine' x_orV ?_
  | with_reducible refine' x_rI0 ?_
  | ((with_reducible refine' x_rI ?e ?_); (case e => walk_at "sd"))
  | with_reducible refine' x_rU ?_
  | ((with_reducible refine' x_rEq ?e ?_); (case e => exact rfl))
  | ((with_reducible refine' x_rNe ?e ?_); (case e => exact rfl))
  | ((with_reducible refine' x_ixL0 ?h ?_); (case h => walk_at "sq"))
  | ((with_reducible refine' x_ixL1 ?h ?_); (case h => walk_at "sq"))
  | ((with_reducible refine' x_ixL2 ?h ?_); (case h => walk_at "sq"))
  | ((with_reducible refine' x_ixL0I ?h ?_); (case h => walk_at "sq"))
  | ((with_reducible refine' x_ixL ?h ?e ?_); (case h => walk_at "sq"); (case e => exact rfl))
  | ((with_reducible refine' x_neNil ?h ?h2 ?_); (case h => walk_at "sq"); (case h2 => walk_at "sq"))
  | ((with_reducible refine' x_pop0I ?h ?_); (case h => walk_at "hp"))
  | ((with_reducible refine' x_pop0 ?h ?_); (case h => walk_at "hp"))
  | ((with_reducible refine' x_setL0 ?h ?_); (case h => walk_at "hp"))
  | ((with_reducible refine' x_setL1 ?h ?_); (case h => walk_at "hp"))
  | ((with_reducible refine' x_setL2 ?h ?_); (case h => walk_at "hp"))
  | ((with_reducible refine' x_setL ?h ?e ?_); (case h => walk_at "hp"); (case e => exact rfl))
  | with_reducible refine' .inl ⟨_, rfl, ?_⟩
  | ((with_reducible refine' x_tyL ?h ?_); (case h => walk_at "sq"))
  | with_reducible refine' ⟨_, rfl, ?_⟩)
-- a split
local macro_rules | `(tactic| walk_at "if") => `(tactic| (
  first
  | (with_reducible refine' x_dec (fun h_ => ?_) (fun h_ => ?_))
  | (with_reducible refine' x_decN (fun h_ => ?_) (fun h_ => ?_))
  | (with_reducible refine' x_boolN (fun h_ => ?_) (fun h_ => ?_))
  | (with_reducible refine' x_bool (fun h_ => ?_) (fun h_ => ?_))))
local macro_rules | `(tactic| walk_at "ifs") => `(tactic| (walk_at "if" <;> first
  | (exfalso; first | omega | contradiction)
  | (rename_i h_; (try simp only [BEq.rfl, List.length_map, List.length_cons, List.length_nil, Int.natCast_zero, Int.ofNat_zero, gt_iff_lt, Int.lt_irrefl, Bool.true_eq_false, Bool.false_eq_true, List.isEmpty_nil, List.isEmpty_cons, V.int.injEq, V.str.injEq, V.bl.injEq, reduceCtorEq, not_false_eq_true, not_true_eq_false] at h_); (try (exfalso; omega)))))
local macro_rules | `(tactic| walk_at "ite1") => `(tactic| first
  | with_reducible refine' x_T ?_
  | with_reducible refine' x_F ?_
  | with_reducible refine' x_nT ?_
  | with_reducible refine' x_nF ?_
  | ((with_reducible refine' x_bT ?e ?_); (case e => first | decide | decide +kernel))
  | ((with_reducible refine' x_bF ?e ?_); (case e => first | decide | decide +kernel)))
local macro_rules | `(tactic| walk_at "st") => `(tactic| ((fail_if_success (with_reducible (show (if _ then _ else _)))); walk_at "st0"))
local macro_rules | `(tactic| walk_at "go") => `(tactic| repeat first | walk_at "ite1" | walk_at "st")
local macro_rules | `(tactic| walk_at "gs") => `(tactic| repeat' first | walk_at "ite1" | walk_at "st" | walk_at "ifs")
local macro_rules | `(tactic| walk_at "sz") => `(tactic| first | with_reducible assumption | (refine Nat.le_trans (by assumption) (by decide : 100000 ≤ sizeLine)) | (refine Nat.le_trans (m := 100000) ?_ (by decide); (try simp only [len_add, rep_len]); (try rw [show (Str.ofString "z").length = 1 from rfl]); omega))
local macro_rules | `(tactic| walk_at "hn") => `(tactic| first | with_reducible assumption)
local macro_rules | `(tactic| walk_at "sqo") => `(tactic| first | exact Or.inl (by walk_at "sq") | exact Or.inr (by walk_at "sqt"))
local macro_rules | `(tactic| walk_at "ty1") => `(tactic| first | with_reducible assumption | exact Ty1.int _ | exact Ty1.str _ | exact Ty1.bl _ | exact Ty1.non | exact Ty1.tup (by walk_at "hp") | exact Ty1.lst (by walk_at "hp"))
local macro_rules | `(tactic| walk_at "st2") => `(tactic| first
  | with_reducible refine' And.intro (a := V.non = V.non) rfl ?_
  | with_reducible refine' x_call0 ?_
  | with_reducible refine' x_callS ?_
  | with_reducible refine' x_meth0 ?_
  | with_reducible refine' x_methW0 ?_
  | with_reducible refine' x_make0 ?_
  | with_reducible refine' x_makeW0 ?_
  | with_reducible refine' x_sFld ?_
  | with_reducible refine' x_mkO ?_
  | with_reducible refine' x_chain ?_
  | with_reducible refine' x_dget ?_
  | with_reducible refine' x_dget1 ?_
  | with_reducible refine' x_dget2 ?_
  | with_reducible refine' x_sDPut ?_
  | with_reducible refine' x_pairs ?_
  | with_reducible refine' x_pairs0 ?_
  | with_reducible refine' x_sl ?_
  | with_reducible refine' x_noPart ?_
  | with_reducible refine' x_part ?_
  | ((with_reducible refine' x_disp ?_); walk_at "nw")
  | ((with_reducible refine' x_dnew ?_); walk_at "nw")
  | ((with_reducible refine' x_rz ?h ?_); (case h => walk_at "cf"); walk_at "nw")
  | ((with_reducible refine' x_isi ?h ?e ?_); (case h => walk_at "ty1"); (case e => decide))
  | ((with_reducible refine' x_fldR ?h ?c ?n ?e ?_); (case h => walk_at "hp"); (case c => walk_at "cf"); (case n => walk_at "cf"); (case e => walk_at "fl"))
  | ((with_reducible refine' x_onIns ?h ?n ?_); (case h => walk_at "hp"); (case n => walk_at "fl"))
  | ((with_reducible refine' x_addS ?l ?_); (case l => walk_at "sz"))
  | ((with_reducible refine' x_lenS ?l ?_); (case l => walk_at "sz"))
  | ((with_reducible refine' x_lenL ?h ?_); (case h => walk_at "sqo"))
  | ((with_reducible refine' x_slL ?h rfl ?_); (case h => walk_at "sq"); walk_at "nw")
  | ((with_reducible refine' x_listOf ?h ?_); (case h => walk_at "sqo"); walk_at "nw")
  | ((with_reducible refine' x_strmul ?c ?_); (case c => (refine' ⟨?_, ?_, ?_⟩ <;> first | omega | decide +kernel)))
  | ((with_reducible refine' x_isD2 ?h ?_); (case h => walk_at "hp"))
  | ((with_reducible refine' x_getI ?h ?_); (case h => walk_at "hp"))
  | ((with_reducible refine' x_getS ?h ?_); (case h => walk_at "hp"))
  | ((with_reducible refine' x_dgetS ?h ?e ?_); (case h => walk_at "hp"); (case e => walk_at "fl"))
  | ((with_reducible refine' x_ixT ?h ?e ?_); (case h => walk_at "sqt"); (case e => exact rfl))
  | ((with_reducible refine' x_gTup ?h ?e ?_); (case h => walk_at "sqt"); (case e => exact rfl)))
local macro_rules | `(tactic| walk_at "st0") => `(tactic| walk_at "st2")
local macro_rules | `(tactic| walk_at "fl") => `(tactic| first
  | with_reducible exact lk_hd
  | ((with_reducible refine' lk_tl ?n ?h); (case n => walk_at "nq"); (case h => walk_at "fl"))
  | with_reducible exact lk_nil
  | with_reducible exact pf_hd
  | ((with_reducible refine' pf_tl ?n ?h); (case n => walk_at "nq"); (case h => walk_at "fl"))
  | with_reducible exact pf_nil
  | with_reducible exact vl_hd
  | ((with_reducible refine' vl_tl ?n ?h); (case n => walk_at "nr"); (case h => walk_at "fl"))
  | with_reducible exact vl_nil
  | ((with_reducible refine' pk_hd ?n); (case n => rfl))
  | ((with_reducible refine' pk_tl ?n ?t ?h); (case n => walk_at "nr"); (case t => rfl); (case h => walk_at "fl")))
local macro_rules | `(tactic| walk_at "cf") => `(tactic| with_reducible assumption)
local macro_rules | `(tactic| walk_at "st0") => `(tactic| first
  | ((with_reducible refine' x_sFldR ?h ?c ?n ?l ?e ?_); (case h => walk_at "hp"); (case c => walk_at "cf"); (case n => walk_at "cf"); (case l => exact Nat.le_of_ble_eq_true rfl); (case e => walk_at "fl")))
local macro_rules | `(tactic| walk_at "pool") => `(tactic| first
  | with_reducible assumption
  | exact Pool.ne (by walk_at "pool") (by walk_at "ne") (by walk_at "ne")
  | exact Pool.stay (by walk_at "pool") (by with_reducible assumption) (by walk_at "nm") (by walk_at "nm"))
local macro_rules | `(tactic| walk_at "szl") => `(tactic| first | exact Nat.lt_of_le_of_lt (Nat.le_of_ble_eq_true (m := 1000) rfl) (by decide) | exact Nat.lt_of_le_of_lt (by with_reducible assumption) (by decide : 1000 < sizeLine))
local macro_rules | `(tactic| walk_at "st0") => `(tactic| first
  | ((with_reducible refine' x_putS ?h ?l ?e ?_); (case h => walk_at "hp"); (case l => walk_at "szl"); (case e => walk_at "fl"))
  | ((with_reducible refine' x_setD ?h ?l ?e ?_); (case h => walk_at "hp"); (case l => walk_at "szl"); (case e => walk_at "fl"))
  | ((with_reducible refine' x_putI ?h ?l ?_); (case h => walk_at "hp"); (case l => walk_at "szl")))
local macro_rules | `(tactic| walk_at "st0") => `(tactic| first
  | ((with_reducible refine' x_rowN ?e ?_); (case e => walk_at "cf"); walk_at "nw"; (try dsimp only [List.set]))
  | ((with_reducible refine' x_rowF ?e ?_); (case e => walk_at "cf"))
  | with_reducible refine' x_xw ?_
  | ((with_reducible refine' x_xwR ?t ?h ?_); (case t => walk_at "cf"); (case h => walk_at "hp")))
local macro_rules | `(tactic| walk_at "st0") => `(tactic| first
  | ((with_reducible refine' x_isXR ?k ?x ?h ?e ?_); (case k => exact ClsV.own _); (case x => exact ExT.xc (by with_reducible assumption)); (case h => walk_at "hp"); (case e => walk_at "cf")))
local macro_rules | `(tactic| walk_at "st0") => `(tactic| first
  | with_reducible refine' x_for ?_
  | with_reducible refine' x_rng1 ?_
  | with_reducible refine' x_rng2 ?_
  | with_reducible refine' x_iList ?_
  | with_reducible refine' x_iTup ?_
  | with_reducible refine' x_par ?_
  | with_reducible refine' x_yes ?_
  | with_reducible refine' x_lc ?_
  | ((with_reducible refine' x_itL ?h ?_); (case h => walk_at "sq"))
  | ((with_reducible refine' x_itT ?h ?_); (case h => walk_at "sqt"))
  | ((with_reducible refine' x_catL ?h ?h2 ?l ?_); (case h => walk_at "hp"); (case h2 => walk_at "hp"); (case l => walk_at "sd"); walk_at "nw")
  | ((with_reducible refine' And.intro (a := List.set _ _ none = _) ?e ?_); (case e => exact rfl))
  | ((with_reducible refine' x_gNameS ?e1 ?e ?_); (case e1 => walk_at "set"); (case e => walk_at "set")))
local macro_rules | `(tactic| walk_at "st0") => `(tactic| first
  | ((with_reducible refine' x_lenQL ?h ?_); (case h => walk_at "sq"))
  | ((with_reducible refine' x_lenQT ?h ?_); (case h => walk_at "sqt"))
  | ((with_reducible refine' x_listOfL ?h ?_); (case h => walk_at "sq"); walk_at "nw")
  | ((with_reducible refine' x_listOfT ?h ?_); (case h => walk_at "sqt"); walk_at "nw")
  | ((with_reducible refine' x_tupOfL ?h ?_); (case h => walk_at "sq"); walk_at "nw")
  | ((with_reducible refine' x_sum ?h ?_); (case h => walk_at "sq"))
  | with_reducible refine' x_enumS ?_
  | ((with_reducible refine' x_qEnumS ?h ?_); (case h => walk_at "sqt"))
  | ((with_reducible refine' x_ixL ?h ?e ?_); (case h => walk_at "sq"); (case e => with_reducible assumption))
  | ((with_reducible refine' x_ixT ?h ?e ?_); (case h => walk_at "sqt"); (case e => with_reducible assumption)))
local macro_rules | `(tactic| walk_at "st0") => `(tactic| first
  | ((with_reducible refine' x_lenMT ?h ?_); (case h => walk_at "sqt"))
  | ((with_reducible refine' x_lenML ?h ?_); (case h => walk_at "sq")))
local macro_rules | `(tactic| walk_at "st0") => `(tactic| first
  | ((with_reducible refine' x_lenT2 ?h ?_); (case h => walk_at "sqt"))
  | ((with_reducible refine' x_lenT1 ?h ?_); (case h => walk_at "sqt")))
local macro_rules | `(tactic| walk_at "nn") => `(tactic| first | with_reducible assumption | ((with_reducible refine' Eq.trans (upd_ne ?a) ?b); (case a => walk_at "ne"); (case b => walk_at "nn")))
local macro_rules | `(tactic| walk_at "tk") => `(tactic| first
  | exact Tk.refl _
  | with_reducible assumption
  | ((with_reducible refine' Tk.trans ?a (Tk.updN ?b)); (case b => walk_at "nn"); (case a => walk_at "tk"))
  | ((with_reducible refine' Tk.trans ?a (Tk.updL' ?b)); (case b => exact ⟨_, by walk_at "hp"⟩); (case a => walk_at "tk"))
  | exact Stay.tk0 (by with_reducible assumption))
local macro_rules | `(tactic| walk_at "st0") => `(tactic| first
  | ((with_reducible refine' x_setLk ?h ?e ?_); (case h => walk_at "hp"); (case e => with_reducible assumption)))
local macro_rules | `(tactic| walk_at "wp") => `(tactic| (dsimp only [wipe, List.map]; (try simp only [set0, set1, set2, set3, set4, set5, set6, set7, set8, set9, set10, set11, set12, set13, set14, set15, set16, set17, set18, set19, set20])))
local macro_rules | `(tactic| walk_at "szl2") => `(tactic| first | with_reducible assumption | ((try simp only [List.length_map, List.length_append, List.length_cons, List.length_nil, List.length_take]); have := sizeLine_eq; omega))
local macro_rules | `(tactic| walk_at "st0") => `(tactic| first
  | ((with_reducible refine' x_app ?h ?l ?_); (case h => walk_at "hp"); (case l => walk_at "szl2")))
local macro_rules | `(tactic| walk_at "st0") => `(tactic| first
  | with_reducible refine' x_listRg1 ?_
  | ((with_reducible refine' x_qRgL ?l ?_); (case l => omega); walk_at "nw"))
local macro_rules | `(tactic| walk_at "kf") => `(tactic| first
  | exact Kf.refl _ _
  | with_reducible assumption
  | ((with_reducible refine' Kf.trans ?a (Kf.updN ?b)); (case b => walk_at "nn"); (case a => walk_at "kf"))
  | ((with_reducible refine' Kf.trans ?a Kf.updF); (case a => walk_at "kf"))
  | exact Stay.kf (by with_reducible assumption))
local macro_rules | `(tactic| walk_at "nq") => `(tactic| decide +kernel)
local macro_rules | `(tactic| walk_at "nr") => `(tactic| decide +kernel)
local macro_rules | `(tactic| walk_at "st0") => `(tactic| ((with_reducible refine' c_draw ?h ?m (fun d_ H_ lo_ hi_ pl_ st_ => ?_)); (case h => walk_at "pool"); (case m => first | with_reducible assumption | (refine' ⟨?_, ?_⟩ <;> first | decide | omega))))
local macro_rules | `(tactic| walk_at "st0") => `(tactic| ((with_reducible refine' c_is_number ?h ?_); (case h => walk_at "ty1")))
local macro_rules | `(tactic| walk_at "st0") => `(tactic| ((with_reducible refine' c_is_within ?h ?_); (case h => walk_at "ty1")))
section
variable {P : Program} {w : World} {K : PySem.W.Frag} {mg : Str → Option Value} {base : Heap}
def sp_law (K : PySem.W.Frag) : Sp := fun vs H Q _ => ∃ (a : Addr) (ns : List Int), vs = [.ref a] ∧ SqL K H a (ns.map V.int) ∧ ∀ H', Q (.bl true) H'
theorem x_iteC {b : Bool} {σ : L2.St} {H : Hp} {Q : VK} {x y : V} (h : ∀ v, (v = x ∨ v = y) → Q v H) : if b = true then tC x σ H Q else tC y σ H Q := by
  cases b with
  | true => rw [if_pos rfl]; exact h x (.inl rfl)
  | false => rw [if_neg Bool.false_ne_true]; exact h y (.inr rfl)
theorem x_decT {p : Prop} [Decidable p] {t u : TS} {D : Ends} {σ : L2.St} {H : Hp} (I : L2.St → Hp → Prop) (tail : ∀ σ' H', I σ' H' → D.nx σ' H') (h1 : p → (∀ σ' H', I σ' H' → D.nx σ' H') → t D σ H) (h2 : ¬ p → (∀ σ' H', I σ' H' → D.nx σ' H') → u D σ H) : if decide p = true then t D σ H else u D σ H := by
  by_cases h : p
  · rw [if_pos (decide_eq_true h)]; exact h1 h tail
  · rw [if_neg (by simpa using h)]; exact h2 h tail
def kn2 (P : Nat) (fs : List (List Nat)) (x : Nat) : List Nat := (List.range P).filter fun o => (fs.getD x []).contains o && (fs.getD o []).contains x
def kn2B (fs : List (List Nat)) (x o : Nat) : Bool := (fs.getD x []).contains o && (fs.getD o []).contains x
theorem kn2_succ (fs : List (List Nat)) (x i : Nat) : (List.range (i + 1)).filter (kn2B fs x) = (List.range i).filter (kn2B fs x) ++ (if kn2B fs x i = true then [i] else []) := by
  rw [List.range_succ, List.filter_append]
  congr 1
  by_cases h : kn2B fs x i = true
  · rw [if_pos h]; simp [h]
  · rw [if_neg h]; simp [h]
theorem kn2_len (fs : List (List Nat)) (x i : Nat) : ((List.range i).filter (kn2B fs x)).length ≤ i := Nat.le_trans (List.length_filter_le _ _) (by simp)
theorem kn2_cons {P : Nat} {fs : List (List Nat)} {x : Nat} (h : x < P) (m : x ∈ fs.getD x []) : ∃ y r, (List.range P).filter (kn2B fs x) = y :: r := by
  have mm : x ∈ (List.range P).filter (kn2B fs x) := by rw [List.mem_filter]; exact ⟨List.mem_range.mpr h, by unfold kn2B; rw [Bool.and_eq_true]; exact ⟨List.contains_iff_mem.mpr m, List.contains_iff_mem.mpr m⟩⟩
  cases e : (List.range P).filter (kn2B fs x) with
  | nil => rw [e] at mm; cases mm
  | cons y r => exact ⟨y, r, rfl⟩
/-- both ways tell the same knots -/
theorem kn_same {E : Nat → Nat → Prop} {P : Nat} {ms : List Nat} {fs : List (List Nat)} (hb : Bt P ms (Tg E)) (hf : Fs E P fs) (c : ∀ x, x < P → ∀ y, (x = y ∨ Tg E x y) → y ∈ fs.getD x []) {x : Nat} (hx : x < P) : kn ms x = (List.range P).filter (kn2B fs x) := by
  unfold kn
  rw [hb.len]
  apply List.filter_congr
  intro o ho
  have hoP := List.mem_range.mp ho
  have m : ∀ u v, u < P → v < P → ((fs.getD u []).contains v = true ↔ (u = v ∨ Tg E u v)) := fun u v hu hv => by
    rw [List.contains_iff_mem]
    exact ⟨hf.so u hu v, c u hu v⟩
  rw [Bool.eq_iff_iff]
  unfold kn2B
  rw [Bool.or_eq_true, Bool.and_eq_true, Bool.and_eq_true, hb.bit x hx o, hb.bit o hoP x, m x o hx hoP, m o x hoP hx, beq_iff_eq]
  constructor
  · rintro (e | ⟨h1, h2⟩)
    · exact ⟨.inl e.symm, .inl e⟩
    · exact ⟨.inr h1, .inr h2⟩
  · rintro ⟨h1, h2⟩
    rcases h1 with e | h1
    · exact .inl e.symm
    · rcases h2 with e | h2
      · exact .inl e
      · exact .inr ⟨h1, h2⟩
def kh2 (P : Nat) (fs : List (List Nat)) (x : Nat) : Bool := ((List.range P).filter (kn2B fs x)).head? == some x
def kns2 (P : Nat) (fs : List (List Nat)) (i : Nat) : List (List Nat) := ((List.range i).filter (kh2 P fs)).map fun x => (List.range P).filter (kn2B fs x)
theorem kns2_succ (P : Nat) (fs : List (List Nat)) (i : Nat) : kns2 P fs (i + 1) = kns2 P fs i ++ (if kh2 P fs i = true then [(List.range P).filter (kn2B fs i)] else []) := by
  unfold kns2
  rw [List.range_succ, List.filter_append, List.map_append]
  congr 1
  by_cases h : kh2 P fs i = true
  · rw [if_pos h]; simp [h]
  · rw [if_neg h]; simp [h]
theorem kns2_len (P : Nat) (fs : List (List Nat)) (i : Nat) : (kns2 P fs i).length ≤ i := by
  unfold kns2
  rw [List.length_map]
  exact Nat.le_trans (List.length_filter_le _ _) (by simp)
theorem kns_same {E : Nat → Nat → Prop} {P : Nat} {ms : List Nat} {fs : List (List Nat)} (hb : Bt P ms (Tg E)) (hf : Fs E P fs) (c : ∀ x, x < P → ∀ y, (x = y ∨ Tg E x y) → y ∈ fs.getD x []) : kns ms P = kns2 P fs P := by
  have e : ∀ x, x ∈ List.range P → kn ms x = (List.range P).filter (kn2B fs x) := fun x hx => kn_same hb hf c (List.mem_range.mp hx)
  unfold kns kns2
  have e1 : (List.range P).filter (kh ms) = (List.range P).filter (kh2 P fs) := by
    apply List.filter_congr
    intro x hx
    unfold kh kh2
    rw [e x hx]
  rw [e1]
  apply List.map_congr_left
  intro x hx
  exact e x (List.mem_filter.mp hx).1
theorem inV_non (l : List Nat) : inV .non (l.map nat) = false := by
  unfold inV
  rw [List.any_eq_false]
  intro x hx
  obtain ⟨n, _, rfl⟩ := List.mem_map.mp hx
  intro z; cases z
def rowD (ks : List Nat) : PyData := .tuple ((ks.map fun (n : Nat) => (n : Int)).map PyData.int)
theorem row_dp {K : PySem.W.Frag} {H : Hp} {t : Addr} {ks : List Nat} (h : H t = some (.tup (ks.map nat))) : Dp K H (.ref t) (rowD ks) := by
  refine .tup (SqT.of h) ?_
  have : ks.map nat = (ks.map fun (n : Nat) => (n : Int)).map V.int := by rw [List.map_map]; rfl
  rw [this]
  exact dpInts _
theorem rows_dp {K : PySem.W.Frag} {H : Hp} : ∀ {xs : List V} {kss : List (List Nat)}, RowsAt H xs kss → DpAll K H xs (kss.map rowD)
  | [], [], _ => .nil
  | x :: xs, ks :: kss, h => by
    obtain ⟨t, e, g⟩ := h.2 0 x ks rfl rfl
    subst e
    exact .cons (row_dp g) (rows_dp ⟨by simpa using h.1, fun i y c e1 e2 => h.2 (i + 1) y c (by simpa using e1) (by simpa using e2)⟩)
  | [], _ :: _, h => by simp [RowsAt] at h
  | _ :: _, [], h => by simp [RowsAt] at h
theorem rows_lay : ∀ kss : List (List Nat), PyData.canLayAll0 (kss.map rowD) = true
  | [] => rfl
  | ks :: r => by
    show (PyData.canLay0 (rowD ks) && PyData.canLayAll0 (r.map rowD)) = true
    rw [rows_lay r]
    show (PyData.canLayAll0 _ && true) = true
    rw [canInts]; rfl
theorem rows_depth : ∀ kss : List (List Nat), PyData.depthAll (kss.map rowD) ≤ 2
  | [] => by decide
  | ks :: r => by
    show Nat.max _ _ ≤ 2
    refine Nat.max_le.mpr ⟨?_, rows_depth r⟩
    have := depthInts (ks.map fun (n : Nat) => (n : Int))
    show PyData.depthAll _ + 1 ≤ 2
    omega
theorem rows_shaped (kss : List (List Nat)) : SeqAt.shaped (.tuple (kss.map rowD)) = true := by
  unfold SeqAt.shaped
  rw [Bool.and_eq_true]
  exact ⟨rows_lay kss, decide_eq_true (by have := rows_depth kss; show PyData.depthAll _ + 1 ≤ 64; omega)⟩
theorem emptyD {ns : List Nat} : PyData.eqv (rowD ns) (.tuple []) = ns.isEmpty := by cases ns <;> rfl
theorem row_shaped (ks : List Nat) : SeqAt.shaped (rowD ks) = true := shapedInts _
theorem x_decG {p : Prop} [Decidable p] {t u : TS} {D : Ends} {σ : L2.St} {H : Hp} (I : L2.St → Hp → Prop) (tail : ∀ σ' H', I σ' H' → D.nx σ' H') (h1 : p → ∀ D' : Ends, (∀ σ' H', I σ' H' → D'.nx σ' H') → t D' σ H) (h2 : ¬ p → ∀ D' : Ends, (∀ σ' H', I σ' H' → D'.nx σ' H') → u D' σ H) : if decide p = true then t D σ H else u D σ H := by
  by_cases h : p
  · rw [if_pos (decide_eq_true h)]; exact h1 h D tail
  · rw [if_neg (by simpa using h)]; exact h2 h D tail
theorem at_nat {ns : List Nat} {i : Nat} (h : i < ns.length) : ∃ y, y ∈ ns ∧ atI (ns.map nat) (i : Int) = some (nat y) := by
  refine ⟨ns[i], List.getElem_mem h, ?_⟩
  unfold atI ixN
  rw [if_pos (by omega), if_pos (by simp; omega)]
  simp [h]

theorem sc_law : FnScope ["script", "pool", "is_great", "pages", "deeds", "log", "rows", "page", "reads", "reach", "due", "knot", "told", "other"] ["script"] (defScope s_law) := ⟨rfl, rfl, rfl, by decide +kernel, rfl, by decide +kernel, by decide +kernel⟩
theorem ok_law (T : G K mg) : FnOk P w K mg base CX0 6 T.f_law T.d_law ["script"] (sp_law K) := by
  refine T.F_law.ok sc_law (fun vs H Q E h => ?_) (fun cdv A outer s H vs Q E hr h => ?_)
  · obtain ⟨a, ns, rfl, hS, k⟩ := h
    rfl
  · obtain ⟨a, ns, rfl, hS, k⟩ := h
    have hu := hu_of hr
    have nd := sc_law.nd
    refine ⟨_, (pss_cons (ps_set (i := 1) nd rfl (Or.inl rfl) (pe_call (ok__law_pool T) (hr.mono (by decide)) rfl T.g__law_pool T.F__law_pool.kp T.b__law_pool .nil pass0 (pa_cons (pv 0) pa_nil)))
        (pss_cons (ps_set (i := 2) nd rfl (Or.inl rfl) (pe_cmpR op_gt (pe_ix ix_list (pv 1) pe_int (fun _ _ => rfl)) pe_int (nomark _)))
        (pss_cons (ps_par (i := 3) (j := 4) (by rfl) nd rfl rfl (by decide) rfl rfl (pa_cons (pe_op op_add pe_int (pe_call (ok__law_draw T) (hr.mono (by decide)) rfl T.g__law_draw T.F__law_draw.kp T.b__law_draw .nil pass0 (pa_cons (pv 1) (pa_cons (pe_ifExp (pt_val (pv 2)) pe_int pe_int) pa_nil)))) (pa_cons (pe_call (ok__law_draw T) (hr.mono (by decide)) rfl T.g__law_draw T.F__law_draw.kp T.b__law_draw .nil pass0 (pa_cons (pv 1) (pa_cons (pe_ifExp (pt_val (pv 2)) pe_int pe_int) pa_nil))) pa_nil)) (by rfl))
        (pss_cons (ps_set (i := 5) nd rfl (Or.inl rfl) (pe_call (ok__law_log T) (hr.mono (by decide)) rfl T.g__law_log T.F__law_log.kp T.b__law_log .nil pass0 (pa_cons (pv 1) (pa_cons (pv 3) (pa_cons (pv 4) (pa_cons (pe_cmpR op_eq (pe_call (ok__law_draw T) (hr.mono (by decide)) rfl T.g__law_draw T.F__law_draw.kp T.b__law_draw .nil pass0 (pa_cons (pv 1) (pa_cons pe_int pa_nil))) pe_int (nomark _)) pa_nil))))))
        (pss_cons (ps_if (pt_cmpR op_eq (pe_call (ok__law_draw T) (hr.mono (by decide)) rfl T.g__law_draw T.F__law_draw.kp T.b__law_draw .nil pass0 (pa_cons (pv 1) (pa_cons pe_int pa_nil))) pe_int (nomark _)) (pss_cons (ps_set (i := 6) nd rfl (Or.inl rfl) (pe_lst pa_nil))
        (pss_cons (ps_for PassesOwn.never rfl (pi_tup (pe_ix ix_tup (pv 5) pe_int (fun _ _ => rfl))) (pg_tup rfl (pgs_cons (pg_name (i := 7) nd rfl (Or.inr rfl)) (pgs_cons (pg_name (i := 8) nd rfl (Or.inl rfl)) pgs_nil))) (pss_one (ps_expr (pe_bm PySem.F.plainAttrs_list PySem.F.slot_list_append PySem.F.type_list_append mt_append (pv 6) (pa_cons (pe_tup (pa_cons (pv 7) (pa_cons (pe_ifExp (pt_cmpR (op_eqD hr.units) (pv 8) (pe_tup pa_nil) (nomark _)) (pe_tup pa_nil) (pe_tup (pa_cons (pe_ix ix_tup (pv 8) (pe_call (ok__law_draw T) (hr.mono (by decide)) rfl T.g__law_draw T.F__law_draw.kp T.b__law_draw .nil pass0 (pa_cons (pv 1) (pa_cons (pe_callB (r := rLenQ K) call_lenQ (by rfl) T.n_len PySem.boot_len (pa_cons (pv 8) pa_nil)) pa_nil))) (fun _ _ => rfl)) pa_nil))) pa_nil))) pa_nil)))))
        (pss_one (ps_set (i := 5) nd rfl (Or.inl rfl) (pe_tup (pa_cons (pv 3) (pa_cons (pe_callTy (r := rTupleOf K) call_tupleOf (by rfl) T.n_tuple (by decide +kernel) (pa_cons (pv 6) pa_nil)) pa_nil))))))) pss_nil)
        (pss_cons (ps_asg (pe_tup (pa_cons (pe_call (ok__law_reach T) (hr.mono (by decide)) rfl T.g__law_reach T.F__law_reach.kp T.b__law_reach .nil pass0 (pa_cons (pv 5) pa_nil)) (pa_cons (pe_lst pa_nil) pa_nil))) (pg_tup rfl (pgs_cons (pg_name (i := 9) nd rfl (Or.inr rfl)) (pgs_cons (pg_name (i := 10) nd rfl (Or.inl rfl)) pgs_nil))))
        (pss_cons (ps_for PassesOwn.never rfl (pi_range1 rfl T.n_range (pa_cons (pv 3) pa_nil)) (pg_name (i := 7) nd rfl (Or.inr rfl)) (pss_cons (ps_setLc (i := 11) (own := [("other", 13)]) (g := gName 13) rfl nd rfl rfl (sw_true rfl rfl rfl (by decide +kernel)) (pi_range1 rfl T.n_range (pa_cons (pv 3) pa_nil)) (blkOk_by (own := [("other", 13)]) (N := ["script", "pool", "is_great", "pages", "deeds", "log", "rows", "page", "reads", "reach", "due", "knot", "told", "other"]) (sc := defScope s_law) (by decide +kernel)) (fun _ _ _ _ _ => (pg_name (i := 13) nd rfl (Or.inl rfl))) (fun _ _ _ _ _ => (pts_one (PW.pt (pw_and (pt_cmpR (r := rIn K false) (op_in_seq : OpR _ _ (rIn _ false)) (pv 13) (pe_ix (r := rIxL K) ix_list (pv 9) (pv 7) (fun _ _ => rfl)) (by rfl)) (pw_and1 (pt_cmpR (r := rIn K false) (op_in_seq : OpR _ _ (rIn _ false)) (pv 7) (pe_ix (r := rIxL K) ix_list (pv 9) (pv 13) (fun _ _ => rfl)) (by rfl))))))) (fun _ _ _ _ _ => (pv 13)))
        (pss_one (ps_if (pt_cmpR op_eq (pe_ix ix_list (pv 11) pe_int (fun _ _ => rfl)) (pv 7) (nomark _)) (pss_one (ps_expr (pe_bm PySem.F.plainAttrs_list PySem.F.slot_list_append PySem.F.type_list_append mt_append (pv 10) (pa_cons (pe_callTy (r := rTupleOf K) call_tupleOf (by rfl) T.n_tuple (by decide +kernel) (pa_cons (pv 11) pa_nil)) pa_nil)))) pss_nil))))
        (pss_cons (ps_set (i := 12) nd rfl (Or.inl rfl) (pe_call (ok_knots T) (hr.mono (by decide)) rfl T.g_knots T.F_knots.kp T.b_knots .nil pass0 (pa_cons (pv 5) pa_nil)))
        (pss_cons (ps_if (PW.pt (pw_or (pt_not (pt_val (pe_callB call_isi (by rfl) T.n_isinstance (by decide +kernel) (pa_cons (pv 12) (pa_cons (pe_bltn (v := .ty "tuple") (by rfl) T.n_tuple (by decide +kernel) rfl) pa_nil))))) (pw_or1 (pt_cmpR (op_neD hr.units) (pe_lc (own := [("knot", 11)]) (g := gName 11) rfl nd (pi_tup (pv 12)) (blkOk_by (own := [("knot", 11)]) (N := ["script", "pool", "is_great", "pages", "deeds", "log", "rows", "page", "reads", "reach", "due", "knot", "told", "other"]) (sc := defScope s_law) (by decide +kernel)) (fun _ _ _ _ _ => (pg_name (i := 11) nd rfl (Or.inl rfl))) (fun _ _ _ _ _ => (pts_one (PW.pt (pw_or (pt_not (pt_val (pe_call (ok__law_is_row T) (hr.mono (by decide)) rfl T.g__law_is_row T.F__law_is_row.kp T.b__law_is_row .nil pass0 (pa_cons (pv 11) (pa_cons (pe_callB (r := rLenQ K) call_lenQ (by rfl) T.n_len PySem.boot_len (pa_cons (pv 11) pa_nil)) pa_nil))))) (pw_or1 (pt_cmpR (r := rIn K false) (op_in_seq : OpR _ _ (rIn _ false)) pe_non (pv 11) (by rfl))))))) (fun _ _ _ _ _ => (pv 11))) (pe_lst pa_nil) (nomark _))))) (pss_one (ps_ret pe_bl)) pss_nil)
        (pss_one (ps_ret (pe_cmpR (op_eqD hr.units) (pv 12) (pe_callTy (r := rTupleOf K) call_tupleOf (by rfl) T.n_tuple (by decide +kernel) (pa_cons (pv 10) pa_nil)) (nomark _))))))))))))), ?_⟩
    try dsimp only [L2.cxOf, L2.Cx.nox, L2.Cx.wish]
    rw [show L2.start ["script", "pool", "is_great", "pages", "deeds", "log", "rows", "page", "reads", "reach", "due", "knot", "told", "other"] [V.ref a] = [some (V.ref a), none, none, none, none, none, none, none, none, none, none, none, none, none] from rfl]
    walk_at "go"
    refine c_pool hS (fun q l H1 nq nl pl st1 => ?_)
    clear hS st1
    obtain ⟨p0, p1, ps, e1, e2, nql, _⟩ := id pl
    walk_at "go"
    refine x_iteC (fun v hv => ?_)
    obtain ⟨m, rfl, hm⟩ : ∃ m : Int, v = .int m ∧ (m = 32 ∨ m = 12) := hv.elim (fun e => ⟨32, e, .inl rfl⟩) (fun e => ⟨12, e, .inr rfl⟩)
    clear hv e1 e2
    walk_at "go"
    refine c_draw pl ⟨by omega, log_smallI (by omega)⟩ (fun d H2 d0 d1 pl2 st2 => ?_)
    clear pl st2
    walk_at "go"
    refine x_iteC (fun v hv => ?_)
    obtain ⟨m2, rfl, hm2⟩ : ∃ m : Int, v = .int m ∧ (m = 41 ∨ m = 15) := hv.elim (fun e => ⟨41, e, .inl rfl⟩) (fun e => ⟨15, e, .inr rfl⟩)
    clear hv
    walk_at "go"
    refine c_draw pl2 ⟨by omega, log_smallI (by omega)⟩ (fun dd H3 dd0 dd1 pl3 st3 => ?_)
    clear pl2 st3
    obtain ⟨P, hP⟩ : ∃ P : Nat, 1 + d = (P : Int) := ⟨(1 + d).toNat, by omega⟩
    obtain ⟨N, hN⟩ : ∃ N : Nat, dd = (N : Int) := ⟨dd.toNat, by omega⟩
    subst hN
    rw [hP]
    have P1 : 1 ≤ P := by omega
    have P2 : P ≤ 32 := by omega
    have N2 : N ≤ 400 := by omega
    clear hP d0 d1 hm hm2
    walk_at "go"
    rename_i d5 H4 lo5 hi5 pl4 st4
    clear pl3 st4
    refine c_llog pl4 P1 P2 N2 (fun r ds H5 hl wf hdl pl5 st5 => ?_)
    clear st5 pl4
    walk_at "go"
    rename_i d6 H6 lo6 hi6 pl6 st6
    replace hl := hl.tk (pl5.tk st6)
    clear pl5 st6
    refine x_decG (fun σ G => ∃ (r : Addr) (ds : List Deed) (v2 v6 v7 v8 : Option V), σ = [some (V.ref a), some (V.ref q), v2, some (nat P), some (nat N), some (V.ref r), v6, v7, v8, none, none, none, none, none] ∧ LogAt G r P ds ∧ Wf P ds) ?_ ?_ ?_
    · clear hl wf hdl pl6
      rintro σ G ⟨r, ds, v2, v6, v7, v8, rfl, hl, wf⟩
      walk_at "go"
      refine c_reach hl wf (fun R us fs H7 hR hF hfs hcl st => ?_)
      replace hl := hl.tk st.tk0
      clear st
      have hfl := hfs.len
      have hul := hF.1
      walk_at "go"
      rename_i D nD T nT nTD
      refine ⟨by omega, by omega, ?_⟩
      refine for_range (n := (↑P : Int).toNat) (fun i σ G => (∃ v2 v6 v7 v8 v11 v12 v13 : Option V, σ = [some (V.ref a), some (V.ref q), v2, some (nat P), some (nat N), some (V.ref r), v6, v7, v8, some (V.ref R), some (V.ref D), v11, v12, v13]) ∧ Stay [] H7 G ∧ ∃ xs, G D = some (.lst xs) ∧ RowsAt G xs (kns2 P fs i))
        ⟨⟨_, _, _, _, _, _, _, rfl⟩, Stay.new (Stay.new (Stay.refl _ _) nD) nT, [], by rw [upd_ne nTD.symm, upd_same], rfl, fun _ _ _ e => by cases e⟩ ?_ ?_
      · rintro i σ G hi ⟨⟨v2, v6, v7, v8, v11, v12, v13, rfl⟩, st, xs, hD, hx⟩
        rw [Int.toNat_natCast] at hi
        rw [Int.zero_add]
        have hxl := hx.1
        have hkl := kns2_len P fs i
        have hR2 := st.keep _ _ hR nm0
        have hF2 := hF.kf st.kf
        walk_at "go"
        refine ⟨by omega, by omega, ?_⟩
        intro D2 nD2
        have nDD2 := ne_some hD nD2
        have nRD2 := ne_some hR2 nD2
        refine lc_range (n := (↑P : Int).toNat) (fun j G' => Stay [] G G' ∧ G' D2 = some (.lst (((List.range j).filter (kn2B fs i)).map nat))) ⟨Stay.new (Stay.refl _ _) nD2, by rw [upd_same]; rfl⟩ ?_ ?_
        · rintro j G' hj ⟨st2, hD2⟩
          rw [Int.toNat_natCast] at hj
          rw [Int.zero_add]
          have hR3 := st2.keep _ _ hR2 nm0
          have hF3 := hF2.kf st2.kf
          obtain ⟨b1, i1, _, g1⟩ := hF3.at (p := i) (by omega)
          obtain ⟨b2, i2, _, g2⟩ := hF3.at (p := j) (by omega)
          have hl2 := kn2_len fs i j
          have step := kn2_succ fs i j
          have no : kn2B fs i j = false → Stay [] G G' ∧ G' D2 = some (.lst (((List.range (j + 1)).filter (kn2B fs i)).map nat)) := fun z => ⟨st2, by rw [step, if_neg (by rw [z]; decide), List.append_nil]; exact hD2⟩
          walk_at "wp"
          walk_at "go"
          refine x_in (.inl (SqL.of g1)) rfl (flat_nat _) ?_
          rw [inV_nat]
          walk_at "go"
          refine x_bool (fun c1 => ?_) (fun c1 => ?_)
          · walk_at "go"
            refine x_in (.inl (SqL.of g2)) rfl (flat_nat _) ?_
            rw [inV_nat]
            walk_at "go"
            refine x_bool (fun c2 => ?_) (fun c2 => ?_)
            · have z : kn2B fs i j = true := by unfold kn2B; rw [c1, c2]; rfl
              walk_at "go"
              refine ⟨_, hD2, by have := sizeLine_eq; rw [List.length_map]; omega, Stay.new st2 nD2, ?_⟩
              rw [upd_same, step, if_pos z, List.map_append]; rfl
            · walk_at "go"
              exact no (by unfold kn2B; rw [c1, c2]; rfl)
          · walk_at "go"
            exact no (by unfold kn2B; rw [c1]; rfl)
        · rintro G' ⟨st2, hD2⟩
          rw [Int.toNat_natCast] at hD2
          replace st := st.trans st2
          replace hD := st2.keep _ _ hD nm0
          replace hx := hx.tk st2.tk0
          have hm := hcl i hi i (.inl rfl)
          obtain ⟨y, rr, ey⟩ := kn2_cons hi hm
          have hD3 := hD2
          rw [ey, List.map_cons] at hD3
          have step := kns2_succ P fs i
          clear hR2 hF2 st2
          walk_at "go"
          refine x_dec (fun z => ?_) (fun z => ?_)
          · have e : y = i := by have := V.int.inj z; omega
            have hk : kh2 P fs i = true := by unfold kh2; rw [ey, e]; simp
            walk_at "go"
            rename_i T2 nT2H nT2
            have nDT := ne_some hD nT2
            have hD4 : upd G' T2 (.tup (nat y :: rr.map nat)) D = some (.lst xs) := by rw [upd_ne nDT]; exact hD
            refine ⟨⟨_, _, _, _, _, _, _, rfl⟩, Stay.new (Stay.new st nT2H) nD, xs ++ [V.ref T2], upd_same, ?_⟩
            rw [step, if_pos hk]
            exact (hx.tk ((Tk.updN nT2).trans (Tk.updL hD4))).snoc (by rw [upd_ne nDT.symm, ey]; exact upd_same)
          · have hk : ¬ kh2 P fs i = true := by
              unfold kh2; rw [ey]; simp
              exact fun q => z (by rw [q])
            walk_at "go"
            exact ⟨⟨_, _, _, _, _, _, _, rfl⟩, st, xs, hD, by rw [step, if_neg hk, List.append_nil]; exact hx⟩
      · rintro σ G ⟨⟨v2, v6, v7, v8, v11, v12, v13, rfl⟩, st, xs, hD, hx⟩
        rw [Int.toNat_natCast] at hx
        have hl2 := hl.tk st.tk0
        walk_at "go"
        refine c_knots hl2 wf (fun t ys ms H8 hT hb hrows st2 => ?_)
        replace hD := st2.keep _ _ hD nm0
        replace hx := hx.tk st2.tk0
        clear st st2 hl2 hl
        walk_at "go"
        intro W nW
        have nDW := ne_some hD nW
        refine lc_tup (xs := ys) (fun i G' => Stay [] H8 G' ∧ G' W = some (.lst [])) ⟨Stay.new (Stay.refl _ _) nW, upd_same⟩ ?_ ?_ ?_
        · rintro i G' _ ⟨st2, _⟩
          exact SqT.of (st2.keep _ _ hT nm0)
        · rintro i x G' e ⟨st2, hW⟩
          obtain ⟨ks, tt, rfl, gt⟩ : ∃ (ks : List Nat) (tt : Addr), x = V.ref tt ∧ G' tt = some (.tup (ks.map nat)) := by
            have hi : i < (kns ms P).length := by rw [← hrows.1]; exact (List.getElem?_eq_some_iff.mp e).1
            obtain ⟨tt, e1, g⟩ := hrows.2 i x _ e (List.getElem?_eq_getElem hi)
            exact ⟨_, tt, e1, st2.keep _ _ g nm0⟩
          walk_at "wp"
          walk_at "go"
          refine c_row gt (fun G2 st3 => ?_)
          replace gt := st3.keep _ _ gt nm0
          replace hW := st3.keep _ _ hW nm0
          replace st2 := st2.trans st3
          clear st3
          walk_at "go"
          refine x_in (.inr (SqT.of gt)) rfl (flat_nat _) ?_
          rw [inV_non]
          walk_at "go"
          exact ⟨st2, hW⟩
        · rintro G' ⟨st2, hW⟩
          replace hT := st2.keep _ _ hT nm0
          replace hD := st2.keep _ _ hD nm0
          replace hx := hx.tk st2.tk0
          replace hrows := hrows.tk st2.tk0
          clear st2
          walk_at "go"
          refine' x_neD2 (d := .list []) (e := .list []) (.lst ?h .nil) (.lst ?h2 .nil) (by decide) (by decide) rfl ?_
          case h => walk_at "sq"
          case h2 => walk_at "sq"
          walk_at "go"
          rename_i E1 nE1 T3 nT3 nTE
          have nTt := ne_some hT nT3
          have nEt := ne_some hT nE1
          have hnT : upd G' E1 (.lst []) T3 = none := by rw [upd_ne nTE]; exact nT3
          have tkF : Tk G' (upd (upd G' E1 (.lst [])) T3 (.tup xs)) := (Tk.updN nE1).trans (Tk.updN hnT)
          refine x_eqD2 (.tup (SqT.of (tkF _ _ hT)) (rows_dp (hrows.tk tkF))) (.tup (SqT.of upd_same) (rows_dp (hx.tk tkF))) (rows_shaped _) (rows_shaped _) ?_ ?_
          · rw [kns_same hb hfs hcl]; exact eqvSelf (rows_shaped _)
          exact k _
    · intro _ D' tl
      obtain ⟨b, xs, h1, h2, hd⟩ := hl
      have hxl := hd.1
      obtain ⟨oa, ol, ea, el, nal⟩ := pl6.ex
      walk_at "go"
      rename_i L nL
      have naL := ne_some ea nL
      have nlL := ne_some el nL
      have nrL := ne_some h1 nL
      have nbL := ne_some h2 nL
      have kL : L ∉ [q, l] := nmS naL.symm (nmS nlL.symm nm0)
      refine for_tup (xs := xs) (fun i σ G => (∃ v2 v7 v8 : Option V, σ = [some (V.ref a), some (V.ref q), v2, some (nat P), some (nat N), some (V.ref r), some (V.ref L), v7, v8, none, none, none, none, none]) ∧ Pool G q l ∧ Tk H6 G ∧ ∃ ys es, G L = some (.lst ys) ∧ DeedsAt G ys es ∧ es.length = i ∧ ∀ d ∈ es, WfD P d)
        ⟨⟨_, _, _, rfl⟩, pl6.ne naL nlL, Tk.updN nL, [], [], upd_same, DeedsAt.nil, rfl, fun _ h => nomatch h⟩ ?_ ?_ ?_
      · rintro i σ G _ ⟨_, _, tk, _⟩
        exact SqT.of (tk _ _ h2)
      · clear ea el
        rintro i x σ G e ⟨⟨v2, v7, v8, rfl⟩, plG, tk, ys, es, hL, hy, hel, hw⟩
        obtain ⟨d, ed, hdx⟩ := hd.get e
        have hwd := wf.d d (List.mem_of_getElem? ed)
        have hi : i < ds.length := (List.getElem?_eq_some_iff.mp ed).1
        have hn := wf.n
        have hyl := hy.1
        obtain ⟨t0, rr, rfl, g3, g4⟩ := hdx.tk tk
        obtain ⟨pg, rs⟩ := d
        obtain ⟨oa, ol, ea, el, _⟩ := plG.ex
        dsimp only at g3 g4
        have nrrL := ne_of g4 hL (by intro z; cases z)
        walk_at "go"
        rename_i E1 nE1
        have nE1rr := ne_some g4 nE1
        refine x_eqD (row_dp (ks := rs) (by rw [upd_ne nE1rr]; exact g4)) (row_dp (ks := []) upd_same) (row_shaped _) (row_shaped _) ?_
        rw [show PyData.eqv (rowD rs) (rowD []) = rs.isEmpty from emptyD]
        cases rs with
        | nil =>
          walk_at "go"
          rename_i B1 nB1 nBE T2 nT2 nTE nTB
          have hnB : upd G E1 (.tup []) B1 = none := by rw [upd_ne nBE]; exact nB1
          have hnT : upd (upd G E1 (.tup [])) B1 (.tup []) T2 = none := by rw [upd_ne nTB, upd_ne nTE]; exact nT2
          have hL3 : upd (upd (upd G E1 (.tup [])) B1 (.tup [])) T2 (.tup [nat pg, V.ref B1]) L = some (.lst ys) := by rw [upd_ne (ne_some hL nT2), upd_ne (ne_some hL nB1), upd_ne (ne_some hL nE1)]; exact hL
          have tkF := (((Tk.updN (o := .tup []) nE1).trans (Tk.updN (o := .tup []) hnB)).trans (Tk.updN (o := .tup [nat pg, V.ref B1]) hnT)).trans (Tk.updL (o := .lst (ys ++ [V.ref T2])) hL3)
          have nLT := ne_some hL nT2
          have nLB := ne_some hL nB1
          have plF := (((plG.ne (o := .tup []) (ne_some ea nE1) (ne_some el nE1)).ne (o := .tup []) (ne_some ea nB1) (ne_some el nB1)).ne (o := .tup [nat pg, V.ref B1]) (ne_some ea nT2) (ne_some el nT2)).ne (o := .lst (ys ++ [V.ref T2])) naL nlL
          refine ⟨⟨_, _, _, rfl⟩, plF, tk.trans tkF, ys ++ [V.ref T2], es ++ [(pg, [])], upd_same, (hy.tk tkF).snoc ⟨T2, B1, rfl, by rw [upd_ne nLT.symm]; exact upd_same, by rw [upd_ne nLB.symm, upd_ne nTB.symm]; exact upd_same⟩, by rw [List.length_append, hel]; rfl, fun d hd => ?_⟩
          rcases List.mem_append.mp hd with h | h
          · exact hw d h
          · rw [List.mem_singleton.mp h]
            exact ⟨hwd.pg, fun r h => (nomatch h), List.Pairwise.nil⟩
        | cons s rs =>
          rw [show (s :: rs).isEmpty = false from rfl]
          have hlen : (s :: rs).length ≤ P := nodup_len P _ (hwd.asc.imp fun h => Nat.ne_of_lt h) fun r hr => (hwd.rd r hr).1
          walk_at "go"
          have pl0 := plG.ne (o := .tup []) (ne_some ea nE1) (ne_some el nE1)
          refine c_draw pl0 ⟨?_, log_smallI ?_⟩ (fun dr G2 w0 w1 pl2 st2 => ?_)
          · simp only [List.length_cons]; omega
          · omega
          obtain ⟨k2, rfl⟩ : ∃ k2 : Nat, dr = (k2 : Int) := ⟨dr.toNat, by omega⟩
          obtain ⟨y, my, ey⟩ := at_nat (ns := s :: rs) (i := k2) (by omega)
          have tk0 : Tk G (upd G E1 (.tup [])) := Tk.updN nE1
          have tk2 := tk0.trans (pl0.tk st2)
          have g5 := tk2 _ _ g4
          have nLE := ne_some hL nE1
          have hL2 := st2.keep L _ (by rw [upd_ne nLE]; exact hL) kL
          replace hy := hy.tk tk2
          replace tk := tk.trans tk2
          clear tk2 tk0 pl0 plG st2 hL ea el nE1 nE1rr g3 g4 hdx
          obtain ⟨oa2, ol2, ea2, el2, _⟩ := pl2.ex
          walk_at "go"
          rename_i R1 nR1 T2 nT2 nTR
          have hnT : upd G2 R1 (.tup [nat y]) T2 = none := by rw [upd_ne nTR]; exact nT2
          have hL3 : upd (upd G2 R1 (.tup [nat y])) T2 (.tup [nat pg, V.ref R1]) L = some (.lst ys) := by rw [upd_ne (ne_some hL2 nT2), upd_ne (ne_some hL2 nR1)]; exact hL2
          have tkF := ((Tk.updN (o := .tup [nat y]) nR1).trans (Tk.updN (o := .tup [nat pg, V.ref R1]) hnT)).trans (Tk.updL (o := .lst (ys ++ [V.ref T2])) hL3)
          have nLT := ne_some hL2 nT2
          have nLR := ne_some hL2 nR1
          have plF := ((pl2.ne (o := .tup [nat y]) (ne_some ea2 nR1) (ne_some el2 nR1)).ne (o := .tup [nat pg, V.ref R1]) (ne_some ea2 nT2) (ne_some el2 nT2)).ne (o := .lst (ys ++ [V.ref T2])) naL nlL
          refine ⟨⟨_, _, _, rfl⟩, plF, tk.trans tkF, ys ++ [V.ref T2], es ++ [(pg, [y])], upd_same, (hy.tk tkF).snoc ⟨T2, R1, rfl, by rw [upd_ne nLT.symm]; exact upd_same, by rw [upd_ne nLR.symm, upd_ne nTR.symm]; exact upd_same⟩, by rw [List.length_append, hel]; rfl, fun d hd => ?_⟩
          rcases List.mem_append.mp hd with h | h
          · exact hw d h
          · rw [List.mem_singleton.mp h]
            exact ⟨hwd.pg, fun r h => by rw [List.mem_singleton.mp h]; exact hwd.rd y my, by simp⟩
      · rintro σ G ⟨⟨v2, v7, v8, rfl⟩, plG, tk, ys, es, hL, hy, hel, hw⟩
        have hn := wf.n
        walk_at "go"
        rename_i T1 nT1 T2 nT2 nTT
        exact tl _ _ ⟨T2, es, v2, _, v7, v8, rfl, ⟨T1, ys, by walk_at "hp", by walk_at "hp", hy.tk (by walk_at "tk")⟩, ⟨P1, P2, by omega, hw⟩⟩
    · intro _ D' tl
      walk_at "go"
      exact tl _ _ ⟨_, _, _, _, _, _, rfl, hl, wf⟩
end
end WD

namespace WD
open PySem PySem.Spec PyProof.Rows L2
-- p ≠ q of two addresses
local macro_rules | `(tactic| walk_at "ne") => `(tactic| first
  | with_reducible assumption
  | with_reducible exact Ne.symm (by assumption)
  | exact ne_some (by with_reducible assumption) (by with_reducible assumption)
  | exact Ne.symm (ne_some (by with_reducible assumption) (by with_reducible assumption)))
local macro_rules | `(tactic| walk_at "nm") => `(tactic| first | with_reducible assumption | with_reducible exact nm0 | ((with_reducible refine' nmS ?a ?b); (case a => walk_at "ne"); (case b => walk_at "nm")))
-- H p = some ?o
local macro_rules | `(tactic| walk_at "hp") => `(tactic| first
  | with_reducible exact upd_same
  | with_reducible assumption
  | ((with_reducible refine' Eq.trans (upd_ne ?a) ?b); (case a => walk_at "ne"); (case b => walk_at "hp"))
  | exact Stay.keep (by with_reducible assumption) _ _ (by walk_at "hp") (by walk_at "nm"))
local macro_rules | `(tactic| walk_at "hpd") => `(tactic| ((refine' Eq.trans ?h ?e); (case h => walk_at "hp"); (case e => exact rfl)))
-- a new address
local macro_rules | `(tactic| walk_at "nw") => `(tactic| ((repeat first | (with_reducible refine' nw_upd ?_) | refine' nw_fr (by with_reducible assumption) ?_); intro p_; intros))
local macro_rules | `(tactic| walk_at "mem") => `(tactic| first | exact List.mem_cons_self | (refine' List.mem_cons_of_mem _ ?_; walk_at "mem"))
-- what stands stays
local macro_rules | `(tactic| walk_at "fr") => `(tactic| first
  | with_reducible assumption
  | exact Stay.refl _ _
  | ((with_reducible refine' Stay.upd ?a ?b); (case a => walk_at "fr"); (case b => walk_at "mem"))
  | ((with_reducible refine' Stay.new ?a ?b); (case b => with_reducible assumption); (case a => walk_at "fr"))
  | (refine' Stay.trans ?_ (by with_reducible assumption); walk_at "fr"))
local macro_rules | `(tactic| walk_at "sq") => `(tactic| first | with_reducible assumption | exact SqL.of (by walk_at "hp"))
local macro_rules | `(tactic| walk_at "sqt") => `(tactic| first | with_reducible assumption | exact SqT.of (by walk_at "hp"))
-- side goals
local macro_rules | `(tactic| walk_at "sd") => `(tactic| first
  | with_reducible assumption | with_reducible rfl | (show _ ≤ sizeLine; decide) | (refine Nat.le_trans (Nat.le_of_ble_eq_true (m := 1000) rfl) (by decide)) | decide | omega
  | exact IntMulOk.of_right (intBits_le_64 (by omega) (by omega)) | exact IntMulOk.of_left (intBits_le_64 (by omega) (by omega))
  | (refine' Or.inl ⟨?_, ?_⟩ <;> omega) | (refine' Or.inr ⟨?_, ?_⟩ <;> omega)
  | (refine' ⟨?_, ?_⟩ <;> walk_at "sd") | (refine' ⟨?_, ?_, ?_⟩ <;> walk_at "sd"))
local macro_rules | `(tactic| walk_at "set") => `(tactic| first | with_reducible exact set0 | with_reducible exact set1 | with_reducible exact set2 | with_reducible exact set3 | with_reducible exact set4 | with_reducible exact set5 | with_reducible exact set6 | with_reducible exact set7 | with_reducible exact set8 | with_reducible exact set9 | with_reducible exact set10 | with_reducible exact set11 | with_reducible exact set12 | with_reducible exact set13 | with_reducible exact set14 | with_reducible exact set15 | with_reducible exact set16 | with_reducible exact set17 | with_reducible exact set18 | with_reducible exact set19 | with_reducible exact set20)
-- one step
local macro_rules | `(tactic| walk_at "st0") => `(tactic| first
  | with_reducible refine' x_seq ?_
  | with_reducible refine' x_next ?_
  | with_reducible refine' x_ifS ?_
  | with_reducible refine' x_asg ?_
  | with_reducible refine' x_ret ?_
  | with_reducible refine' x_retN ?_
  | with_reducible refine' x_drop ?_
  | with_reducible refine' x_brk ?_
  | with_reducible refine' x_cont ?_
  | ((with_reducible refine' x_gName ?e ?_); (case e => walk_at "set"))
  | with_reducible refine' x_gSub ?_
  | with_reducible refine' x_gCons ?_
  | with_reducible refine' x_gNil ?_
  | with_reducible refine' x_c ?_
  | ((with_reducible refine' x_var ?e ?_); (case e => exact rfl))
  | with_reducible refine' x_op ?_
  | with_reducible refine' x_un ?_
  | with_reducible refine' x_if ?_
  | with_reducible refine' x_cb ?_
  | with_reducible refine' x_cons ?_
  | with_reducible refine' x_nil ?_
  | with_reducible refine' x_bm0 ?_
  | with_reducible refine' x_bm ?_
  | with_reducible refine' x_tup ?_
  | with_reducible refine' x_lst ?_
  | ((with_reducible refine' And.intro (a := _ ≤ sizeLine) ?e ?_); (case e => walk_at "sd"); walk_at "nw")
  | with_reducible refine' x_fld ?_
  | with_reducible refine' x_test ?_
  | with_reducible refine' x_tB ?_
  | with_reducible refine' x_and ?_
  | with_reducible refine' x_or ?_
  | with_reducible refine' x_not ?_
  | with_reducible refine' x_notV ?_
  | with_reducible refine' x_andV ?_
  | with_reducible refine' x_orV ?_
  | with_reducible refine' x_rI0 ?_
  | ((with_reducible refine' x_rI ?e ?_); (case e => walk_at "sd"))
  | with_reducible refine' x_rU ?_
  | ((with_reducible refine' x_rEq ?e ?_); (case e => exact rfl))
  | ((with_reducible refine' x_rNe ?e ?_); (case e => exact rfl))
  | ((with_reducible refine' x_ixL0 ?h ?_); (case h => walk_at "sq"))
  | ((with_reducible refine' x_ixL1 ?h ?_); (case h => walk_at "sq"))
  | ((with_reducible refine' x_ixL2 ?h ?_); (case h => walk_at "sq"))
  | ((with_reducible refine' x_ixL0I ?h ?_); (case h => walk_at "sq"))
  | ((with_reducible refine' x_ixL ?h ?e ?_); (case h => walk_at "sq"); (case e => exact rfl))
  | ((with_reducible refine' x_neNil ?h ?h2 ?_); (case h => walk_at "sq"); (case h2 => walk_at "sq"))
  | ((with_reducible refine' x_pop0I ?h ?_); (case h => walk_at "hp"))
  | ((with_reducible refine' x_pop0 ?h ?_); (case h => walk_at "hp"))
  | ((with_reducible refine' x_setL0 ?h ?_); (case h => walk_at "hp"))
  | ((with_reducible refine' x_setL1 ?h ?_); (case h => walk_at "hp"))
  | ((with_reducible refine' x_setL2 ?h ?_); (case h => walk_at "hp"))
  | ((with_reducible refine' x_setL ?h ?e ?_); (case h => walk_at "hp"); (case e => exact rfl))
  | with_reducible refine' .inl ⟨_, rfl, ?_⟩
  | ((with_reducible refine' x_tyL ?h ?_); (case h => walk_at "sq"))
  | with_reducible refine' ⟨_, rfl, ?_⟩)
-- a split
local macro_rules | `(tactic| walk_at "if") => `(tactic| (
  first
  | (with_reducible refine' x_dec (fun h_ => ?_) (fun h_ => ?_))
  | (with_reducible refine' x_decN (fun h_ => ?_) (fun h_ => ?_))
  | (with_reducible refine' x_boolN (fun h_ => ?_) (fun h_ => ?_))
  | (with_reducible refine' x_bool (fun h_ => ?_) (fun h_ => ?_))))
local macro_rules | `(tactic| walk_at "ifs") => `(tactic| (walk_at "if" <;> first
  | (exfalso; first | omega | contradiction)
  | (rename_i h_; (try simp only [BEq.rfl, List.length_map, List.length_cons, List.length_nil, Int.natCast_zero, Int.ofNat_zero, gt_iff_lt, Int.lt_irrefl, Bool.true_eq_false, Bool.false_eq_true, List.isEmpty_nil, List.isEmpty_cons, V.int.injEq, V.str.injEq, V.bl.injEq, reduceCtorEq, not_false_eq_true, not_true_eq_false] at h_); (try (exfalso; omega)))))
local macro_rules | `(tactic| walk_at "ite1") => `(tactic| first
  | with_reducible refine' x_T ?_
  | with_reducible refine' x_F ?_
  | with_reducible refine' x_nT ?_
  | with_reducible refine' x_nF ?_
  | ((with_reducible refine' x_bT ?e ?_); (case e => first | decide | decide +kernel))
  | ((with_reducible refine' x_bF ?e ?_); (case e => first | decide | decide +kernel)))
local macro_rules | `(tactic| walk_at "st") => `(tactic| ((fail_if_success (with_reducible (show (if _ then _ else _)))); walk_at "st0"))
local macro_rules | `(tactic| walk_at "go") => `(tactic| repeat first | walk_at "ite1" | walk_at "st")
local macro_rules | `(tactic| walk_at "gs") => `(tactic| repeat' first | walk_at "ite1" | walk_at "st" | walk_at "ifs")
local macro_rules | `(tactic| walk_at "sz") => `(tactic| first | with_reducible assumption | (refine Nat.le_trans (by assumption) (by decide : 100000 ≤ sizeLine)) | (refine Nat.le_trans (m := 100000) ?_ (by decide); (try simp only [len_add, rep_len]); (try rw [show (Str.ofString "z").length = 1 from rfl]); omega))
local macro_rules | `(tactic| walk_at "hn") => `(tactic| first | with_reducible assumption)
local macro_rules | `(tactic| walk_at "sqo") => `(tactic| first | exact Or.inl (by walk_at "sq") | exact Or.inr (by walk_at "sqt"))
local macro_rules | `(tactic| walk_at "ty1") => `(tactic| first | with_reducible assumption | exact Ty1.int _ | exact Ty1.str _ | exact Ty1.bl _ | exact Ty1.non | exact Ty1.tup (by walk_at "hp") | exact Ty1.lst (by walk_at "hp"))
local macro_rules | `(tactic| walk_at "st2") => `(tactic| first
  | with_reducible refine' And.intro (a := V.non = V.non) rfl ?_
  | with_reducible refine' x_call0 ?_
  | with_reducible refine' x_callS ?_
  | with_reducible refine' x_meth0 ?_
  | with_reducible refine' x_methW0 ?_
  | with_reducible refine' x_make0 ?_
  | with_reducible refine' x_makeW0 ?_
  | with_reducible refine' x_sFld ?_
  | with_reducible refine' x_mkO ?_
  | with_reducible refine' x_chain ?_
  | with_reducible refine' x_dget ?_
  | with_reducible refine' x_dget1 ?_
  | with_reducible refine' x_dget2 ?_
  | with_reducible refine' x_sDPut ?_
  | with_reducible refine' x_pairs ?_
  | with_reducible refine' x_pairs0 ?_
  | with_reducible refine' x_sl ?_
  | with_reducible refine' x_noPart ?_
  | with_reducible refine' x_part ?_
  | ((with_reducible refine' x_disp ?_); walk_at "nw")
  | ((with_reducible refine' x_dnew ?_); walk_at "nw")
  | ((with_reducible refine' x_rz ?h ?_); (case h => walk_at "cf"); walk_at "nw")
  | ((with_reducible refine' x_isi ?h ?e ?_); (case h => walk_at "ty1"); (case e => decide))
  | ((with_reducible refine' x_fldR ?h ?c ?n ?e ?_); (case h => walk_at "hp"); (case c => walk_at "cf"); (case n => walk_at "cf"); (case e => walk_at "fl"))
  | ((with_reducible refine' x_onIns ?h ?n ?_); (case h => walk_at "hp"); (case n => walk_at "fl"))
  | ((with_reducible refine' x_addS ?l ?_); (case l => walk_at "sz"))
  | ((with_reducible refine' x_lenS ?l ?_); (case l => walk_at "sz"))
  | ((with_reducible refine' x_lenL ?h ?_); (case h => walk_at "sqo"))
  | ((with_reducible refine' x_slL ?h rfl ?_); (case h => walk_at "sq"); walk_at "nw")
  | ((with_reducible refine' x_listOf ?h ?_); (case h => walk_at "sqo"); walk_at "nw")
  | ((with_reducible refine' x_strmul ?c ?_); (case c => (refine' ⟨?_, ?_, ?_⟩ <;> first | omega | decide +kernel)))
  | ((with_reducible refine' x_isD2 ?h ?_); (case h => walk_at "hp"))
  | ((with_reducible refine' x_getI ?h ?_); (case h => walk_at "hp"))
  | ((with_reducible refine' x_getS ?h ?_); (case h => walk_at "hp"))
  | ((with_reducible refine' x_dgetS ?h ?e ?_); (case h => walk_at "hp"); (case e => walk_at "fl"))
  | ((with_reducible refine' x_ixT ?h ?e ?_); (case h => walk_at "sqt"); (case e => exact rfl))
  | ((with_reducible refine' x_gTup ?h ?e ?_); (case h => walk_at "sqt"); (case e => exact rfl)))
local macro_rules | `(tactic| walk_at "st0") => `(tactic| walk_at "st2")
local macro_rules | `(tactic| walk_at "fl") => `(tactic| first
  | with_reducible exact lk_hd
  | ((with_reducible refine' lk_tl ?n ?h); (case n => walk_at "nq"); (case h => walk_at "fl"))
  | with_reducible exact lk_nil
  | with_reducible exact pf_hd
  | ((with_reducible refine' pf_tl ?n ?h); (case n => walk_at "nq"); (case h => walk_at "fl"))
  | with_reducible exact pf_nil
  | with_reducible exact vl_hd
  | ((with_reducible refine' vl_tl ?n ?h); (case n => walk_at "nr"); (case h => walk_at "fl"))
  | with_reducible exact vl_nil
  | ((with_reducible refine' pk_hd ?n); (case n => rfl))
  | ((with_reducible refine' pk_tl ?n ?t ?h); (case n => walk_at "nr"); (case t => rfl); (case h => walk_at "fl")))
local macro_rules | `(tactic| walk_at "cf") => `(tactic| with_reducible assumption)
local macro_rules | `(tactic| walk_at "st0") => `(tactic| first
  | ((with_reducible refine' x_sFldR ?h ?c ?n ?l ?e ?_); (case h => walk_at "hp"); (case c => walk_at "cf"); (case n => walk_at "cf"); (case l => exact Nat.le_of_ble_eq_true rfl); (case e => walk_at "fl")))
local macro_rules | `(tactic| walk_at "pool") => `(tactic| first
  | with_reducible assumption
  | exact Pool.ne (by walk_at "pool") (by walk_at "ne") (by walk_at "ne")
  | exact Pool.stay (by walk_at "pool") (by with_reducible assumption) (by walk_at "nm") (by walk_at "nm"))
local macro_rules | `(tactic| walk_at "szl") => `(tactic| first | exact Nat.lt_of_le_of_lt (Nat.le_of_ble_eq_true (m := 1000) rfl) (by decide) | exact Nat.lt_of_le_of_lt (by with_reducible assumption) (by decide : 1000 < sizeLine))
local macro_rules | `(tactic| walk_at "st0") => `(tactic| first
  | ((with_reducible refine' x_putS ?h ?l ?e ?_); (case h => walk_at "hp"); (case l => walk_at "szl"); (case e => walk_at "fl"))
  | ((with_reducible refine' x_setD ?h ?l ?e ?_); (case h => walk_at "hp"); (case l => walk_at "szl"); (case e => walk_at "fl"))
  | ((with_reducible refine' x_putI ?h ?l ?_); (case h => walk_at "hp"); (case l => walk_at "szl")))
local macro_rules | `(tactic| walk_at "st0") => `(tactic| first
  | ((with_reducible refine' x_rowN ?e ?_); (case e => walk_at "cf"); walk_at "nw"; (try dsimp only [List.set]))
  | ((with_reducible refine' x_rowF ?e ?_); (case e => walk_at "cf"))
  | with_reducible refine' x_xw ?_
  | ((with_reducible refine' x_xwR ?t ?h ?_); (case t => walk_at "cf"); (case h => walk_at "hp")))
local macro_rules | `(tactic| walk_at "st0") => `(tactic| first
  | ((with_reducible refine' x_isXR ?k ?x ?h ?e ?_); (case k => exact ClsV.own _); (case x => exact ExT.xc (by with_reducible assumption)); (case h => walk_at "hp"); (case e => walk_at "cf")))
local macro_rules | `(tactic| walk_at "st0") => `(tactic| first
  | with_reducible refine' x_for ?_
  | with_reducible refine' x_rng1 ?_
  | with_reducible refine' x_rng2 ?_
  | with_reducible refine' x_iList ?_
  | with_reducible refine' x_iTup ?_
  | with_reducible refine' x_par ?_
  | with_reducible refine' x_yes ?_
  | with_reducible refine' x_lc ?_
  | ((with_reducible refine' x_itL ?h ?_); (case h => walk_at "sq"))
  | ((with_reducible refine' x_itT ?h ?_); (case h => walk_at "sqt"))
  | ((with_reducible refine' x_catL ?h ?h2 ?l ?_); (case h => walk_at "hp"); (case h2 => walk_at "hp"); (case l => walk_at "sd"); walk_at "nw")
  | ((with_reducible refine' And.intro (a := List.set _ _ none = _) ?e ?_); (case e => exact rfl))
  | ((with_reducible refine' x_gNameS ?e1 ?e ?_); (case e1 => walk_at "set"); (case e => walk_at "set")))
local macro_rules | `(tactic| walk_at "st0") => `(tactic| first
  | ((with_reducible refine' x_lenQL ?h ?_); (case h => walk_at "sq"))
  | ((with_reducible refine' x_lenQT ?h ?_); (case h => walk_at "sqt"))
  | ((with_reducible refine' x_listOfL ?h ?_); (case h => walk_at "sq"); walk_at "nw")
  | ((with_reducible refine' x_listOfT ?h ?_); (case h => walk_at "sqt"); walk_at "nw")
  | ((with_reducible refine' x_tupOfL ?h ?_); (case h => walk_at "sq"); walk_at "nw")
  | ((with_reducible refine' x_sum ?h ?_); (case h => walk_at "sq"))
  | with_reducible refine' x_enumS ?_
  | ((with_reducible refine' x_qEnumS ?h ?_); (case h => walk_at "sqt"))
  | ((with_reducible refine' x_ixL ?h ?e ?_); (case h => walk_at "sq"); (case e => with_reducible assumption))
  | ((with_reducible refine' x_ixT ?h ?e ?_); (case h => walk_at "sqt"); (case e => with_reducible assumption)))
local macro_rules | `(tactic| walk_at "st0") => `(tactic| first
  | ((with_reducible refine' x_lenMT ?h ?_); (case h => walk_at "sqt"))
  | ((with_reducible refine' x_lenML ?h ?_); (case h => walk_at "sq")))
local macro_rules | `(tactic| walk_at "st0") => `(tactic| first
  | ((with_reducible refine' x_lenT2 ?h ?_); (case h => walk_at "sqt"))
  | ((with_reducible refine' x_lenT1 ?h ?_); (case h => walk_at "sqt")))
local macro_rules | `(tactic| walk_at "nn") => `(tactic| first | with_reducible assumption | ((with_reducible refine' Eq.trans (upd_ne ?a) ?b); (case a => walk_at "ne"); (case b => walk_at "nn")))
local macro_rules | `(tactic| walk_at "tk") => `(tactic| first
  | exact Tk.refl _
  | with_reducible assumption
  | ((with_reducible refine' Tk.trans ?a (Tk.updN ?b)); (case b => walk_at "nn"); (case a => walk_at "tk"))
  | ((with_reducible refine' Tk.trans ?a (Tk.updL' ?b)); (case b => exact ⟨_, by walk_at "hp"⟩); (case a => walk_at "tk"))
  | exact Stay.tk0 (by with_reducible assumption))
local macro_rules | `(tactic| walk_at "st0") => `(tactic| first
  | ((with_reducible refine' x_setLk ?h ?e ?_); (case h => walk_at "hp"); (case e => with_reducible assumption)))
local macro_rules | `(tactic| walk_at "wp") => `(tactic| (dsimp only [wipe, List.map]; (try simp only [set0, set1, set2, set3, set4, set5, set6, set7, set8, set9, set10, set11, set12, set13, set14, set15, set16, set17, set18, set19, set20])))
local macro_rules | `(tactic| walk_at "szl2") => `(tactic| first | with_reducible assumption | ((try simp only [List.length_map, List.length_append, List.length_cons, List.length_nil, List.length_take]); have := sizeLine_eq; omega))
local macro_rules | `(tactic| walk_at "st0") => `(tactic| first
  | ((with_reducible refine' x_app ?h ?l ?_); (case h => walk_at "hp"); (case l => walk_at "szl2")))
local macro_rules | `(tactic| walk_at "st0") => `(tactic| first
  | with_reducible refine' x_listRg1 ?_
  | ((with_reducible refine' x_qRgL ?l ?_); (case l => omega); walk_at "nw"))
local macro_rules | `(tactic| walk_at "kf") => `(tactic| first
  | exact Kf.refl _ _
  | with_reducible assumption
  | ((with_reducible refine' Kf.trans ?a (Kf.updN ?b)); (case b => walk_at "nn"); (case a => walk_at "kf"))
  | ((with_reducible refine' Kf.trans ?a Kf.updF); (case a => walk_at "kf"))
  | exact Stay.kf (by with_reducible assumption))
local macro_rules | `(tactic| walk_at "nq") => `(tactic| decide +kernel)
local macro_rules | `(tactic| walk_at "nr") => `(tactic| decide +kernel)
local macro_rules | `(tactic| walk_at "st0") => `(tactic| ((with_reducible refine' c_draw ?h ?m (fun d_ H_ lo_ hi_ pl_ st_ => ?_)); (case h => walk_at "pool"); (case m => first | with_reducible assumption | (refine' ⟨?_, ?_⟩ <;> first | decide | omega))))
local macro_rules | `(tactic| walk_at "st0") => `(tactic| ((with_reducible refine' c_is_number ?h ?_); (case h => walk_at "ty1")))
local macro_rules | `(tactic| walk_at "st0") => `(tactic| ((with_reducible refine' c_is_within ?h ?_); (case h => walk_at "ty1")))
def endFn : List He.DefD := [
  ⟨("Refused", some "__init__"), "__init__", "Refused.__init__", defArgs s_Refused___init__, defBody s_Refused___init__, defScope s_Refused___init__, [], []⟩,
  ⟨("_law_pool", none), "_law_pool", "_law_pool", defArgs s__law_pool, defBody s__law_pool, defScope s__law_pool, [], []⟩,
  ⟨("_law_draw", none), "_law_draw", "_law_draw", defArgs s__law_draw, defBody s__law_draw, defScope s__law_draw, [], []⟩,
  ⟨("is_number", none), "is_number", "is_number", defArgs s_is_number, defBody s_is_number, defScope s_is_number, [], []⟩,
  ⟨("is_within", none), "is_within", "is_within", defArgs s_is_within, defBody s_is_within, defScope s_is_within, [], []⟩,
  ⟨("_is_bare_deed", none), "_is_bare_deed", "_is_bare_deed", defArgs s__is_bare_deed, defBody s__is_bare_deed, defScope s__is_bare_deed, [], []⟩,
  ⟨("made_log", none), "made_log", "made_log", defArgs s_made_log, defBody s_made_log, defScope s_made_log, [], []⟩,
  ⟨("needs_of", none), "needs_of", "needs_of", defArgs s_needs_of, defBody s_needs_of, defScope s_needs_of, [], []⟩,
  ⟨("has_page", none), "has_page", "has_page", defArgs s_has_page, defBody s_has_page, defScope s_has_page, [], []⟩,
  ⟨("_reached", none), "_reached", "_reached", defArgs s__reached, defBody s__reached, defScope s__reached, [], []⟩,
  ⟨("_knot_of", none), "_knot_of", "_knot_of", defArgs s__knot_of, defBody s__knot_of, defScope s__knot_of, [], []⟩,
  ⟨("knots", none), "knots", "knots", defArgs s_knots, defBody s_knots, defScope s_knots, [], []⟩,
  ⟨("_law_turned", none), "_law_turned", "_law_turned", defArgs s__law_turned, defBody s__law_turned, defScope s__law_turned, [], []⟩,
  ⟨("_law_log", none), "_law_log", "_law_log", defArgs s__law_log, defBody s__law_log, defScope s__law_log, [], []⟩,
  ⟨("_law_is_row", none), "_law_is_row", "_law_is_row", defArgs s__law_is_row, defBody s__law_is_row, defScope s__law_is_row, [], []⟩,
  ⟨("_law_reach", none), "_law_reach", "_law_reach", defArgs s__law_reach, defBody s__law_reach, defScope s__law_reach, [], []⟩,
  ⟨("law", none), "law", "law", defArgs s_law, defBody s_law, defScope s_law, [], []⟩]
def endFa : List He.Fa := [.glo "_law_pool", .glo "_law_draw", .glo "is_number", .glo "is_within", .glo "_is_bare_deed", .glo "made_log", .glo "needs_of", .glo "has_page", .glo "_reached", .glo "_knot_of", .glo "knots", .glo "_law_turned", .glo "_law_log", .glo "_law_is_row", .glo "_law_reach", .glo "law", .free "bool", .free "enumerate", .free "int", .free "isinstance", .free "len", .free "list", .free "range", .free "sum", .free "tuple", .int "MOST_DEEDS" 400, .int "PAGES" 32, .glo "Refused", .glo "TooMany", .glo "BadLog"]
def endEx (K : PySem.W.Frag) : List Bool := [extB K "Refused" "Refused", extB K "TooMany" "Refused", extB K "BadLog" "Refused", decide (PySem.W.typeIn K (.ref (He.fAd K ("Refused", some "__init__"))) = some (.type "function"))]
def endLoose : List Str := (["__name__", "Refused", "TooMany", "BadLog", "PAGES", "is_number", "is_within", "MOST_DEEDS", "made_log", "_is_bare_deed", "needs_of", "has_page", "knots", "_reached", "_knot_of", "_law_pool", "_law_draw", "_law_turned", "_law_log", "_law_is_row", "_law_reach"] : List Str)
abbrev R : PySem.W.OpenRow := PySem.W.OpenLaw.row PySem.Challenge.rw_wendleaf_k30_knots
abbrev hk : PySem.W.Hook := He.hookX 6 endFa endFn [] [] (fun K => (endEx K).all id)
def ob (s : PySem.W.SharedT) : He.AlX := He.obsX 6 endFa endFn [] [] (fun K => (endEx K).all id) (HandSHeadRun.getT s)
theorem ob_eq (s : PySem.W.SharedT) : ob s = hk.obs s.abs := He.obsX_eq (HandSHeadRun.getT_eq s)
theorem run (w : World) : HandSHeadRun.RunEq R (PySem.W.view R.prog [26]) hk ob 4000 endLoose w := by
  intro os
  kernel_rfl
theorem mkG {K : PySem.W.Frag} {mg : Str → Option Value} {h : Heap} {w : World} (X : K.In h) (Gn : h.Ns mainGlobals mg) (c : He.SaysX endFa endFn [] [] (fun K => (endEx K).all id) w h K) : ∃ T : G K mg, T.f_law = He.ga K "law" ∧ ∀ (s : Shared) (v : Value), BindsTo s T.d_law ⟨[v], []⟩ [("script", v)] := by
  have hx : ∀ i, {b : Bool} → (endEx K)[i]? = some b → b = true := fun i b e => List.all_eq_true.mp c.more b (List.mem_of_getElem? e)
  obtain ⟨d_Refused___init__, F_Refused___init__⟩ := c.t.d.def_ 0 rfl
  have b_Refused___init__ : Binds K d_Refused___init__ ["self", "what"] [] := FunD.bindsN F_Refused___init__ fun _ _ _ _ _ _ us hl => match us, hl with | [_, _], _ => rfl
  obtain ⟨d__law_pool, F__law_pool⟩ := c.t.d.def_ 1 rfl
  have b__law_pool : Binds K d__law_pool ["script"] [] := FunD.bindsN F__law_pool fun _ _ _ _ _ _ us hl => match us, hl with | [_], _ => rfl
  obtain ⟨d__law_draw, F__law_draw⟩ := c.t.d.def_ 2 rfl
  have b__law_draw : Binds K d__law_draw ["pool", "many"] [] := FunD.bindsN F__law_draw fun _ _ _ _ _ _ us hl => match us, hl with | [_, _], _ => rfl
  obtain ⟨d_is_number, F_is_number⟩ := c.t.d.def_ 3 rfl
  have b_is_number : Binds K d_is_number ["thing"] [] := FunD.bindsN F_is_number fun _ _ _ _ _ _ us hl => match us, hl with | [_], _ => rfl
  obtain ⟨d_is_within, F_is_within⟩ := c.t.d.def_ 4 rfl
  have b_is_within : Binds K d_is_within ["thing", "low", "high"] [] := FunD.bindsN F_is_within fun _ _ _ _ _ _ us hl => match us, hl with | [_, _, _], _ => rfl
  obtain ⟨d__is_bare_deed, F__is_bare_deed⟩ := c.t.d.def_ 5 rfl
  have b__is_bare_deed : Binds K d__is_bare_deed ["thing", "many"] [] := FunD.bindsN F__is_bare_deed fun _ _ _ _ _ _ us hl => match us, hl with | [_, _], _ => rfl
  obtain ⟨d_made_log, F_made_log⟩ := c.t.d.def_ 6 rfl
  have b_made_log : Binds K d_made_log ["thing"] [] := FunD.bindsN F_made_log fun _ _ _ _ _ _ us hl => match us, hl with | [_], _ => rfl
  obtain ⟨d_needs_of, F_needs_of⟩ := c.t.d.def_ 7 rfl
  have b_needs_of : Binds K d_needs_of ["log"] [] := FunD.bindsN F_needs_of fun _ _ _ _ _ _ us hl => match us, hl with | [_], _ => rfl
  obtain ⟨d_has_page, F_has_page⟩ := c.t.d.def_ 8 rfl
  have b_has_page : Binds K d_has_page ["pages", "page"] [] := FunD.bindsN F_has_page fun _ _ _ _ _ _ us hl => match us, hl with | [_, _], _ => rfl
  obtain ⟨d__reached, F__reached⟩ := c.t.d.def_ 9 rfl
  have b__reached : Binds K d__reached ["needs"] [] := FunD.bindsN F__reached fun _ _ _ _ _ _ us hl => match us, hl with | [_], _ => rfl
  obtain ⟨d__knot_of, F__knot_of⟩ := c.t.d.def_ 10 rfl
  have b__knot_of : Binds K d__knot_of ["reached", "page"] [] := FunD.bindsN F__knot_of fun _ _ _ _ _ _ us hl => match us, hl with | [_, _], _ => rfl
  obtain ⟨d_knots, F_knots⟩ := c.t.d.def_ 11 rfl
  have b_knots : Binds K d_knots ["log"] [] := FunD.bindsN F_knots fun _ _ _ _ _ _ us hl => match us, hl with | [_], _ => rfl
  obtain ⟨d__law_turned, F__law_turned⟩ := c.t.d.def_ 12 rfl
  have b__law_turned : Binds K d__law_turned ["pool", "many"] [] := FunD.bindsN F__law_turned fun _ _ _ _ _ _ us hl => match us, hl with | [_, _], _ => rfl
  obtain ⟨d__law_log, F__law_log⟩ := c.t.d.def_ 13 rfl
  have b__law_log : Binds K d__law_log ["pool", "pages", "deeds", "is_ringless"] [] := FunD.bindsN F__law_log fun _ _ _ _ _ _ us hl => match us, hl with | [_, _, _, _], _ => rfl
  obtain ⟨d__law_is_row, F__law_is_row⟩ := c.t.d.def_ 14 rfl
  have b__law_is_row : Binds K d__law_is_row ["thing", "many"] [] := FunD.bindsN F__law_is_row fun _ _ _ _ _ _ us hl => match us, hl with | [_, _], _ => rfl
  obtain ⟨d__law_reach, F__law_reach⟩ := c.t.d.def_ 15 rfl
  have b__law_reach : Binds K d__law_reach ["log"] [] := FunD.bindsN F__law_reach fun _ _ _ _ _ _ us hl => match us, hl with | [_], _ => rfl
  obtain ⟨d_law, F_law⟩ := c.t.d.def_ 16 rfl
  have b_law : Binds K d_law ["script"] [] := FunD.bindsN F_law fun _ _ _ _ _ _ us hl => match us, hl with | [_], _ => rfl
  obtain ⟨t_MOST_DEEDS, e_MOST_DEEDS⟩ := He.int_ok X Gn (c.t.d.fact 25 rfl)
  obtain ⟨t_PAGES, e_PAGES⟩ := He.int_ok X Gn (c.t.d.fact 26 rfl)
  exact ⟨{
    f_Refused___init__ := He.fAd K ("Refused", some "__init__"),
    d_Refused___init__ := d_Refused___init__,
    F_Refused___init__ := fun_of F_Refused___init__,
    b_Refused___init__ := b_Refused___init__,
    f__law_pool := He.fAd K ("_law_pool", none),
    d__law_pool := d__law_pool,
    F__law_pool := fun_of F__law_pool,
    b__law_pool := b__law_pool,
    g__law_pool := He.glo_ok X Gn (c.t.d.fact 0 rfl),
    f__law_draw := He.fAd K ("_law_draw", none),
    d__law_draw := d__law_draw,
    F__law_draw := fun_of F__law_draw,
    b__law_draw := b__law_draw,
    g__law_draw := He.glo_ok X Gn (c.t.d.fact 1 rfl),
    f_is_number := He.fAd K ("is_number", none),
    d_is_number := d_is_number,
    F_is_number := fun_of F_is_number,
    b_is_number := b_is_number,
    g_is_number := He.glo_ok X Gn (c.t.d.fact 2 rfl),
    f_is_within := He.fAd K ("is_within", none),
    d_is_within := d_is_within,
    F_is_within := fun_of F_is_within,
    b_is_within := b_is_within,
    g_is_within := He.glo_ok X Gn (c.t.d.fact 3 rfl),
    f__is_bare_deed := He.fAd K ("_is_bare_deed", none),
    d__is_bare_deed := d__is_bare_deed,
    F__is_bare_deed := fun_of F__is_bare_deed,
    b__is_bare_deed := b__is_bare_deed,
    g__is_bare_deed := He.glo_ok X Gn (c.t.d.fact 4 rfl),
    f_made_log := He.fAd K ("made_log", none),
    d_made_log := d_made_log,
    F_made_log := fun_of F_made_log,
    b_made_log := b_made_log,
    g_made_log := He.glo_ok X Gn (c.t.d.fact 5 rfl),
    f_needs_of := He.fAd K ("needs_of", none),
    d_needs_of := d_needs_of,
    F_needs_of := fun_of F_needs_of,
    b_needs_of := b_needs_of,
    g_needs_of := He.glo_ok X Gn (c.t.d.fact 6 rfl),
    f_has_page := He.fAd K ("has_page", none),
    d_has_page := d_has_page,
    F_has_page := fun_of F_has_page,
    b_has_page := b_has_page,
    g_has_page := He.glo_ok X Gn (c.t.d.fact 7 rfl),
    f__reached := He.fAd K ("_reached", none),
    d__reached := d__reached,
    F__reached := fun_of F__reached,
    b__reached := b__reached,
    g__reached := He.glo_ok X Gn (c.t.d.fact 8 rfl),
    f__knot_of := He.fAd K ("_knot_of", none),
    d__knot_of := d__knot_of,
    F__knot_of := fun_of F__knot_of,
    b__knot_of := b__knot_of,
    g__knot_of := He.glo_ok X Gn (c.t.d.fact 9 rfl),
    f_knots := He.fAd K ("knots", none),
    d_knots := d_knots,
    F_knots := fun_of F_knots,
    b_knots := b_knots,
    g_knots := He.glo_ok X Gn (c.t.d.fact 10 rfl),
    f__law_turned := He.fAd K ("_law_turned", none),
    d__law_turned := d__law_turned,
    F__law_turned := fun_of F__law_turned,
    b__law_turned := b__law_turned,
    g__law_turned := He.glo_ok X Gn (c.t.d.fact 11 rfl),
    f__law_log := He.fAd K ("_law_log", none),
    d__law_log := d__law_log,
    F__law_log := fun_of F__law_log,
    b__law_log := b__law_log,
    g__law_log := He.glo_ok X Gn (c.t.d.fact 12 rfl),
    f__law_is_row := He.fAd K ("_law_is_row", none),
    d__law_is_row := d__law_is_row,
    F__law_is_row := fun_of F__law_is_row,
    b__law_is_row := b__law_is_row,
    g__law_is_row := He.glo_ok X Gn (c.t.d.fact 13 rfl),
    f__law_reach := He.fAd K ("_law_reach", none),
    d__law_reach := d__law_reach,
    F__law_reach := fun_of F__law_reach,
    b__law_reach := b__law_reach,
    g__law_reach := He.glo_ok X Gn (c.t.d.fact 14 rfl),
    f_law := He.fAd K ("law", none),
    d_law := d_law,
    F_law := fun_of F_law,
    b_law := b_law,
    g_law := He.glo_ok X Gn (c.t.d.fact 15 rfl),
    n_bool := He.free_ok X Gn (c.t.d.fact 16 rfl),
    n_enumerate := He.free_ok X Gn (c.t.d.fact 17 rfl),
    n_int := He.free_ok X Gn (c.t.d.fact 18 rfl),
    n_isinstance := He.free_ok X Gn (c.t.d.fact 19 rfl),
    n_len := He.free_ok X Gn (c.t.d.fact 20 rfl),
    n_list := He.free_ok X Gn (c.t.d.fact 21 rfl),
    n_range := He.free_ok X Gn (c.t.d.fact 22 rfl),
    n_sum := He.free_ok X Gn (c.t.d.fact 23 rfl),
    n_tuple := He.free_ok X Gn (c.t.d.fact 24 rfl),
    v_MOST_DEEDS := .int 400 t_MOST_DEEDS,
    g_MOST_DEEDS := ⟨⟨_, rfl⟩, e_MOST_DEEDS⟩,
    v_PAGES := .int 32 t_PAGES,
    g_PAGES := ⟨⟨_, rfl⟩, e_PAGES⟩,
    C_Refused := He.ga K "Refused",
    x_Refused := extB_ok (He.glo_ok X Gn (c.t.d.fact 27 rfl)) (hx 0 rfl),
    C_TooMany := He.ga K "TooMany",
    x_TooMany := extB_ok (He.glo_ok X Gn (c.t.d.fact 28 rfl)) (hx 1 rfl),
    C_BadLog := He.ga K "BadLog",
    x_BadLog := extB_ok (He.glo_ok X Gn (c.t.d.fact 29 rfl)) (hx 2 rfl),
    t_init := of_decide_eq_true (hx 3 rfl) }, rfl, fun s v => FunD.bindsA (ps := ["script"]) F_law (fun _ _ _ _ _ _ us hl => match us, hl with | [_], _ => rfl) s [v] rfl⟩end WD
open PySem PySem.W PySem.Calls PyProof.Rows
set_option maxRecDepth 100000 in
set_option maxHeartbeats 8000000 in
theorem PySem.Challenge.cw_wendleaf_k30_knots_holds : PySem.Challenge.rw_wendleaf_k30_knots.Holds := by
  w_on; o_law
  refine HandSHeadRun.head_any (r := OpenLaw.row PySem.Challenge.rw_wendleaf_k30_knots) (q := view (OpenLaw.row PySem.Challenge.rw_wendleaf_k30_knots).prog [26]) (H := WD.hk) (ob := WD.ob) (M := 4000) (loose := WD.endLoose) (d := HandSHeadRun.topDef (OpenLaw.row PySem.Challenge.rw_wendleaf_k30_knots).prog 26) (kwd := []) WD.ob_eq
    (by kernel_rfl) (fun s => by kernel_rfl) WD.run (by kernel_rfl) (by kernel_rfl) (by kernel_rfl) (by rfl) (by first | assumption | decide +kernel) (by decide +kernel) ⟨rfl, rfl, rfl, rfl, rfl, by decide +kernel⟩ ?hw ?hc
  case hw => w_witness2
  case hc =>
    refine L2.walk_ofE (l := PySem.Challenge.rw_wendleaf_k30_knots) (n := 63) (k := 6) (x := "script") (CX := L2.CX0) rfl (by decide) (by kernel_rfl) ⟨rfl, by decide, by decide⟩ ?F (fun _ _ _ _ z => z)
    intro w mg fa h Y Gn hmg0
    obtain ⟨K, KX, c⟩ := Y
    have hmg : mg ("law" : PySem.Str) = some (.ref fa) := by
      have e : (HandSHeadRun.topDef (OpenLaw.row PySem.Challenge.rw_wendleaf_k30_knots).prog 26).name = ("law" : PySem.Str) := by kernel_rfl
      rw [← e]
      exact hmg0
    obtain ⟨T, e, hb⟩ := WD.mkG KX Gn c
    have e2 := T.g_law.symm.trans hmg
    cases e2
    exact ⟨K, T.d_law, WD.sp_law K, KX, hb, fun H a ns hl _ hS => ⟨a, ns, rfl, hS, fun _ => rfl⟩, fun base _ _ => WD.ok_law T⟩
