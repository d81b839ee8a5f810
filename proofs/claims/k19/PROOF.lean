import PyProof.Rows.All
import Wide.All
import OpenK.AllK
import Wide.FinOn
import HandS.ForMost
import HandS.ForExc
import HandS.Wide
import HandS.EndBits
import HandS.More
import HandS.TryMany
import HandS.ExcField
import HandS.ExcInit
import HandS.ExcIs
import HandS.IsInst
import HandS.Defaults
import HandS.MakeKw
import PyProof.StrOps2
import HandS.Small
import HandS.MakeKwOnly
import HandS.HeadHook4
import HandS.HeadEnd
import HandS.HeadWalk
import HandS.Head2
import KE.GoesEnumKw
import KE.GoesMore
import PyProof.Rows.CallKwBuiltin
import HandS.Iter
import HandS.Conv
import PyProof.Draws
import HandS.TupAny
import HandS.Walk
import HandS.Zip
import HandS.TryOnly
import HandS.Style
import PySem.Challenge.RW_wendleaf_k19_slices
set_option Elab.async false
set_option linter.all false
set_option maxRecDepth 100000
/-! steps of a reading -/
namespace WD
open PySem PySem.Spec PyProof.Rows L2
def CMulX (i j : Int) : Prop := IntMulOk i j
theorem op_mulX {X : Cx} : OpR X (binaryOp .Mult) (rI CMulX fun i j => .int (i * j)) := opI fun _ _ _ _ _ _ _ hc q => mul_int q hc
theorem ne_none {H : Hp} {a b : Addr} {o : HO} (h : H b = none) (h2 : H a = some o) : a ≠ b := ne_of_none h2 h
/-- from H to H' what stands outside S stays, and nothing goes -/
structure Stay (S : List Addr) (H H' : Hp) : Prop where
  keep : ∀ b o, H b = some o → b ∉ S → H' b = some o
  old : ∀ b, H' b = none → H b = none
theorem nm0 {b : Addr} : b ∉ ([] : List Addr) := by simp
theorem nmS {b a : Addr} {S : List Addr} (h : b ≠ a) (r : b ∉ S) : b ∉ a :: S := by simp [h, r]
theorem nw_upd {H : Hp} {a : Addr} {o : HO} {G : Addr → Prop} (h : ∀ p, H p = none → p ≠ a → G p) : ∀ p, upd H a o p = none → G p := by
  intro p hp
  by_cases e : p = a
  · rw [e, upd_same] at hp; cases hp
  · rw [upd_ne e] at hp; exact h p hp e
theorem nw_fr {S : List Addr} {H H' : Hp} {G : Addr → Prop} (r : Stay S H H') (h : ∀ p, H p = none → H' p = none → G p) : ∀ p, H' p = none → G p := fun p hp => h p (r.old p hp) hp
theorem Stay.refl (S : List Addr) (H : Hp) : Stay S H H := ⟨fun _ _ h _ => h, fun _ h => h⟩
theorem Stay.upd {S : List Addr} {H H' : Hp} {a : Addr} {o : HO} (r : Stay S H H') (h : a ∈ S) : Stay S H (upd H' a o) := by
  refine ⟨fun b u e n => ?_, fun b e => ?_⟩
  · rw [upd_ne (fun z => n (by rw [z]; exact h))]; exact r.keep b u e n
  · by_cases z : b = a
    · rw [z, upd_same] at e; cases e
    · rw [upd_ne z] at e; exact r.old b e
theorem Stay.new {S : List Addr} {H H' : Hp} {a : Addr} {o : HO} (r : Stay S H H') (h : H a = none) : Stay S H (L2.upd H' a o) := by
  refine ⟨fun b u e n => ?_, fun b e => ?_⟩
  · rw [upd_ne (ne_of_none e h)]; exact r.keep b u e n
  · by_cases z : b = a
    · rw [z]; exact h
    · rw [upd_ne z] at e; exact r.old b e
theorem Stay.trans {S : List Addr} {H H1 H2 : Hp} (a : Stay S H H1) (b : Stay S H1 H2) : Stay S H H2 := ⟨fun c o h n => b.keep c o (a.keep c o h n) n, fun c h => a.old c (b.old c h)⟩
theorem Stay.weak {S S' : List Addr} {H H' : Hp} (a : Stay S H H') (h : ∀ b, b ∈ S → b ∈ S') : Stay S' H H' := ⟨fun c o e n => a.keep c o e (fun z => n (h c z)), a.old⟩
theorem Stay.same {H H' : Hp} (a : Stay [] H H') : Same H H' := fun b o h => a.keep b o h nm0
theorem ne_some {H : Hp} {a b : Addr} {o : HO} (h2 : H a = some o) (h : H b = none) : a ≠ b := ne_of_none h2 h
section
variable {σ : L2.St} {H : Hp} {Q : VK} {D : Ends} {v x y : V} {K : PySem.W.Frag} {ta tb te : TE} {t u : TS} {c c' : TT} {a p : Addr} {xs : List V} {i j : Int} {n : Nat} {QB : Bool → Hp → Prop} {QL : List V → Hp → Prop} {QS : L2.St → Hp → Prop}
-- statements
theorem x_seq (h : t { D with nx := u D } σ H) : tSeq t u D σ H := h
theorem x_next (h : D.nx σ H) : tNext D σ H := h
theorem x_ifS (h : c σ H fun b H1 => if b = true then t D σ H1 else u D σ H1) : tIfS c t u D σ H := h
theorem x_asg {g : TG} (h : te σ H fun x H1 => g x σ H1 D.nx) : tAsg te g D σ H := h
theorem x_ret (h : te σ H D.rt) : tRet te D σ H := h
theorem x_retN (h : D.rt .non H) : tRetN D σ H := h
theorem x_drop (h : te σ H fun _ H1 => D.nx σ H1) : tDrop te D σ H := h
theorem x_brk (h : D.bk σ H) : tBreak D σ H := h
theorem x_cont (h : D.ct σ H) : tCont D σ H := h
theorem x_aug {ti : TIp} (hv : σ[n]? = some (some x)) (h : te σ H fun y H1 => ti x y H1 fun z H2 => D.nx (σ.set n (some z)) H2) : tAug n te ti D σ H := ⟨x, hv, h⟩
theorem set0 {α : Type} {v x0 : α} {r : List α} : (x0 :: r).set 0 v = v :: r := rfl
theorem set1 {α : Type} {v x0 x1 : α} {r : List α} : (x0 :: x1 :: r).set 1 v = x0 :: v :: r := rfl
theorem set2 {α : Type} {v x0 x1 x2 : α} {r : List α} : (x0 :: x1 :: x2 :: r).set 2 v = x0 :: x1 :: v :: r := rfl
theorem set3 {α : Type} {v x0 x1 x2 x3 : α} {r : List α} : (x0 :: x1 :: x2 :: x3 :: r).set 3 v = x0 :: x1 :: x2 :: v :: r := rfl
theorem set4 {α : Type} {v x0 x1 x2 x3 x4 : α} {r : List α} : (x0 :: x1 :: x2 :: x3 :: x4 :: r).set 4 v = x0 :: x1 :: x2 :: x3 :: v :: r := rfl
theorem set5 {α : Type} {v x0 x1 x2 x3 x4 x5 : α} {r : List α} : (x0 :: x1 :: x2 :: x3 :: x4 :: x5 :: r).set 5 v = x0 :: x1 :: x2 :: x3 :: x4 :: v :: r := rfl
theorem set6 {α : Type} {v x0 x1 x2 x3 x4 x5 x6 : α} {r : List α} : (x0 :: x1 :: x2 :: x3 :: x4 :: x5 :: x6 :: r).set 6 v = x0 :: x1 :: x2 :: x3 :: x4 :: x5 :: v :: r := rfl
theorem set7 {α : Type} {v x0 x1 x2 x3 x4 x5 x6 x7 : α} {r : List α} : (x0 :: x1 :: x2 :: x3 :: x4 :: x5 :: x6 :: x7 :: r).set 7 v = x0 :: x1 :: x2 :: x3 :: x4 :: x5 :: x6 :: v :: r := rfl
theorem set8 {α : Type} {v x0 x1 x2 x3 x4 x5 x6 x7 x8 : α} {r : List α} : (x0 :: x1 :: x2 :: x3 :: x4 :: x5 :: x6 :: x7 :: x8 :: r).set 8 v = x0 :: x1 :: x2 :: x3 :: x4 :: x5 :: x6 :: x7 :: v :: r := rfl
theorem set9 {α : Type} {v x0 x1 x2 x3 x4 x5 x6 x7 x8 x9 : α} {r : List α} : (x0 :: x1 :: x2 :: x3 :: x4 :: x5 :: x6 :: x7 :: x8 :: x9 :: r).set 9 v = x0 :: x1 :: x2 :: x3 :: x4 :: x5 :: x6 :: x7 :: x8 :: v :: r := rfl
theorem set10 {α : Type} {v x0 x1 x2 x3 x4 x5 x6 x7 x8 x9 x10 : α} {r : List α} : (x0 :: x1 :: x2 :: x3 :: x4 :: x5 :: x6 :: x7 :: x8 :: x9 :: x10 :: r).set 10 v = x0 :: x1 :: x2 :: x3 :: x4 :: x5 :: x6 :: x7 :: x8 :: x9 :: v :: r := rfl
theorem set11 {α : Type} {v x0 x1 x2 x3 x4 x5 x6 x7 x8 x9 x10 x11 : α} {r : List α} : (x0 :: x1 :: x2 :: x3 :: x4 :: x5 :: x6 :: x7 :: x8 :: x9 :: x10 :: x11 :: r).set 11 v = x0 :: x1 :: x2 :: x3 :: x4 :: x5 :: x6 :: x7 :: x8 :: x9 :: x10 :: v :: r := rfl
theorem set12 {α : Type} {v x0 x1 x2 x3 x4 x5 x6 x7 x8 x9 x10 x11 x12 : α} {r : List α} : (x0 :: x1 :: x2 :: x3 :: x4 :: x5 :: x6 :: x7 :: x8 :: x9 :: x10 :: x11 :: x12 :: r).set 12 v = x0 :: x1 :: x2 :: x3 :: x4 :: x5 :: x6 :: x7 :: x8 :: x9 :: x10 :: x11 :: v :: r := rfl
theorem set13 {α : Type} {v x0 x1 x2 x3 x4 x5 x6 x7 x8 x9 x10 x11 x12 x13 : α} {r : List α} : (x0 :: x1 :: x2 :: x3 :: x4 :: x5 :: x6 :: x7 :: x8 :: x9 :: x10 :: x11 :: x12 :: x13 :: r).set 13 v = x0 :: x1 :: x2 :: x3 :: x4 :: x5 :: x6 :: x7 :: x8 :: x9 :: x10 :: x11 :: x12 :: v :: r := rfl
theorem set14 {α : Type} {v x0 x1 x2 x3 x4 x5 x6 x7 x8 x9 x10 x11 x12 x13 x14 : α} {r : List α} : (x0 :: x1 :: x2 :: x3 :: x4 :: x5 :: x6 :: x7 :: x8 :: x9 :: x10 :: x11 :: x12 :: x13 :: x14 :: r).set 14 v = x0 :: x1 :: x2 :: x3 :: x4 :: x5 :: x6 :: x7 :: x8 :: x9 :: x10 :: x11 :: x12 :: x13 :: v :: r := rfl
theorem set15 {α : Type} {v x0 x1 x2 x3 x4 x5 x6 x7 x8 x9 x10 x11 x12 x13 x14 x15 : α} {r : List α} : (x0 :: x1 :: x2 :: x3 :: x4 :: x5 :: x6 :: x7 :: x8 :: x9 :: x10 :: x11 :: x12 :: x13 :: x14 :: x15 :: r).set 15 v = x0 :: x1 :: x2 :: x3 :: x4 :: x5 :: x6 :: x7 :: x8 :: x9 :: x10 :: x11 :: x12 :: x13 :: x14 :: v :: r := rfl
theorem set16 {α : Type} {v x0 x1 x2 x3 x4 x5 x6 x7 x8 x9 x10 x11 x12 x13 x14 x15 x16 : α} {r : List α} : (x0 :: x1 :: x2 :: x3 :: x4 :: x5 :: x6 :: x7 :: x8 :: x9 :: x10 :: x11 :: x12 :: x13 :: x14 :: x15 :: x16 :: r).set 16 v = x0 :: x1 :: x2 :: x3 :: x4 :: x5 :: x6 :: x7 :: x8 :: x9 :: x10 :: x11 :: x12 :: x13 :: x14 :: x15 :: v :: r := rfl
theorem set17 {α : Type} {v x0 x1 x2 x3 x4 x5 x6 x7 x8 x9 x10 x11 x12 x13 x14 x15 x16 x17 : α} {r : List α} : (x0 :: x1 :: x2 :: x3 :: x4 :: x5 :: x6 :: x7 :: x8 :: x9 :: x10 :: x11 :: x12 :: x13 :: x14 :: x15 :: x16 :: x17 :: r).set 17 v = x0 :: x1 :: x2 :: x3 :: x4 :: x5 :: x6 :: x7 :: x8 :: x9 :: x10 :: x11 :: x12 :: x13 :: x14 :: x15 :: x16 :: v :: r := rfl
theorem set18 {α : Type} {v x0 x1 x2 x3 x4 x5 x6 x7 x8 x9 x10 x11 x12 x13 x14 x15 x16 x17 x18 : α} {r : List α} : (x0 :: x1 :: x2 :: x3 :: x4 :: x5 :: x6 :: x7 :: x8 :: x9 :: x10 :: x11 :: x12 :: x13 :: x14 :: x15 :: x16 :: x17 :: x18 :: r).set 18 v = x0 :: x1 :: x2 :: x3 :: x4 :: x5 :: x6 :: x7 :: x8 :: x9 :: x10 :: x11 :: x12 :: x13 :: x14 :: x15 :: x16 :: x17 :: v :: r := rfl
theorem set19 {α : Type} {v x0 x1 x2 x3 x4 x5 x6 x7 x8 x9 x10 x11 x12 x13 x14 x15 x16 x17 x18 x19 : α} {r : List α} : (x0 :: x1 :: x2 :: x3 :: x4 :: x5 :: x6 :: x7 :: x8 :: x9 :: x10 :: x11 :: x12 :: x13 :: x14 :: x15 :: x16 :: x17 :: x18 :: x19 :: r).set 19 v = x0 :: x1 :: x2 :: x3 :: x4 :: x5 :: x6 :: x7 :: x8 :: x9 :: x10 :: x11 :: x12 :: x13 :: x14 :: x15 :: x16 :: x17 :: x18 :: v :: r := rfl
theorem set20 {α : Type} {v x0 x1 x2 x3 x4 x5 x6 x7 x8 x9 x10 x11 x12 x13 x14 x15 x16 x17 x18 x19 x20 : α} {r : List α} : (x0 :: x1 :: x2 :: x3 :: x4 :: x5 :: x6 :: x7 :: x8 :: x9 :: x10 :: x11 :: x12 :: x13 :: x14 :: x15 :: x16 :: x17 :: x18 :: x19 :: x20 :: r).set 20 v = x0 :: x1 :: x2 :: x3 :: x4 :: x5 :: x6 :: x7 :: x8 :: x9 :: x10 :: x11 :: x12 :: x13 :: x14 :: x15 :: x16 :: x17 :: x18 :: x19 :: v :: r := rfl
-- targets
theorem x_gName {σ' : L2.St} (e : σ.set n (some v) = σ') (h : QS σ' H) : gName n v σ H QS := by subst e; exact h
theorem x_gSub {to ti : TE} {tt : TSet} (h : to σ H fun o H1 => ti σ H1 fun i H2 => tt o i v H2 fun H3 => QS σ H3) : gSub to ti tt v σ H QS := h
theorem x_gTup {g : TGs} (hT : SqT K H a xs) (hl : xs.length = n) (h : g xs σ H QS) : gTup K n g (.ref a) σ H QS := ⟨a, xs, rfl, hT, hl, h⟩
theorem x_gCons {t : TG} {u : TGs} {r : List V} (h : t v σ H fun σ' H' => u r σ' H' QS) : gCons t u (v :: r) σ H QS := ⟨v, r, rfl, h⟩
theorem x_gNil (h : QS σ H) : gNil [] σ H QS := ⟨rfl, h⟩
-- expressions
theorem x_var (e : σ[n]? = some (some v)) (h : Q v H) : tVar n σ H Q := ⟨v, e, h⟩
theorem x_c (h : Q v H) : tC v σ H Q := h
theorem x_op {r : R2} (h : ta σ H fun x H1 => tb σ H1 fun y H2 => r x y H2 Q) : tOp r ta tb σ H Q := h
theorem x_un {r : V → Hp → VK → Prop} (h : ta σ H fun x H1 => r x H1 Q) : tUn r ta σ H Q := h
theorem x_if (h : c σ H fun b H1 => if b = true then ta σ H1 Q else tb σ H1 Q) : tIf c ta tb σ H Q := h
theorem x_cb {r : List V → Hp → VK → Prop} {t : TA} (h : t σ H fun vs H1 => r vs H1 Q) : tCB r t σ H Q := h
theorem x_cons {tr : TA} (h : ta σ H fun x H1 => tr σ H1 fun xs H2 => QL (x :: xs) H2) : tCons ta tr σ H QL := h
theorem x_nil (h : QL [] H) : tNil σ H QL := h
theorem x_bm0 {T : String} {r : V → List V → Hp → VK → Prop} (h : ta σ H fun x H1 => tyV K T x H1 ∧ r x [] H1 Q) : tBM0 K T r ta σ H Q := h
theorem x_bm {T : String} {r : V → List V → Hp → VK → Prop} {t : TA} (h : ta σ H fun x H1 => tyV K T x H1 ∧ t σ H1 fun xs H2 => r x xs H2 Q) : tBM K T r ta t σ H Q := h
theorem x_call {sp : Sp} {dvs : List V} {E : XK} {t : TA} (h : t σ H fun vs H1 => sp (vs ++ dvs) H1 Q E) : tCall sp dvs E t σ H Q := h
theorem x_tup {t : TA} (h : t σ H fun xs H1 => xs.length ≤ sizeLine ∧ ∀ p, H1 p = none → Q (.ref p) (upd H1 p (.tup xs))) : tTup t σ H Q := h
theorem x_lst {t : TA} (h : t σ H fun xs H1 => xs.length ≤ sizeLine ∧ ∀ p, H1 p = none → Q (.ref p) (upd H1 p (.lst xs))) : tLst t σ H Q := h
theorem x_new {o : HO} {k : Nat} (e : k ≤ sizeLine) (h : ∀ p, H p = none → Q (.ref p) (upd H p o)) : k ≤ sizeLine ∧ ∀ p, H p = none → Q (.ref p) (upd H p o) := ⟨e, h⟩
theorem x_fld {f : Str} (h : ta σ H fun x H1 => ∃ a C dx fs v, x = .ref a ∧ H1 a = some (.ins C dx fs) ∧ Cls K C ∧ NoAttr K C f ∧ fs.lookup f = some v ∧ Q v H1) : tFld K ta f σ H Q := h
theorem x_test (h : ta σ H fun x H1 => ∃ k, x = .bl k ∧ QB k H1) : tTest ta σ H QB := h
theorem x_bl {b : Bool} (h : QB b H) : ∃ k, V.bl b = .bl k ∧ QB k H := ⟨b, rfl, h⟩
theorem x_tB (h : ta σ H fun x H1 => ∃ k, x = .bl k ∧ QB k H1) : tB ta σ H QB := h
theorem x_and (h : c σ H fun b H1 => if b = true then c' σ H1 QB else QB false H1) : tAnd c c' σ H QB := h
theorem x_or (h : c σ H fun b H1 => if b = true then QB true H1 else c' σ H1 QB) : tOr c c' σ H QB := h
theorem x_not (h : c σ H fun b H1 => QB (!b) H1) : tNot c σ H QB := h
theorem x_notV (h : ta σ H fun x H1 => ∃ c, x = .bl c ∧ Q (.bl (!c)) H1) : tNotV ta σ H Q := h
theorem x_andV (h : ta σ H fun x H1 => ∃ c, x = .bl c ∧ if c = true then tb σ H1 Q else Q (.bl false) H1) : tAndV ta tb σ H Q := h
theorem x_orV (h : ta σ H fun x H1 => ∃ c, x = .bl c ∧ if c = true then Q (.bl true) H1 else tb σ H1 Q) : tOrV ta tb σ H Q := h
-- rules on values
theorem x_rI {C : Int → Int → Prop} {g : Int → Int → V} (hc : C i j) (h : Q (g i j) H) : rI C g (.int i) (.int j) H Q := ⟨i, j, rfl, rfl, hc, h⟩
theorem x_rI0 {g : Int → Int → V} (h : Q (g i j) H) : rI0 g (.int i) (.int j) H Q := ⟨i, j, rfl, rfl, h⟩
theorem x_rU {g : Int → V} (h : Q (g i) H) : rU g (.int i) H Q := ⟨i, rfl, h⟩
theorem x_rEq (e : scal x y = true) (h : Q (.bl (decide (x = y))) H) : rEq x y H Q := ⟨e, h⟩
theorem x_rNe (e : scal x y = true) (h : Q (.bl (!decide (x = y))) H) : rNe x y H Q := ⟨e, h⟩
theorem x_ixL (hs : SqL K H a xs) (e : atI xs i = some v) (h : Q v H) : rIxL K (.ref a) (.int i) H Q := ⟨a, xs, i, v, rfl, rfl, hs, e, h⟩
theorem x_setL {k : Nat} {QH : Hp → Prop} (hs : H a = some (.lst xs)) (e : ixN xs.length i = some k) (h : QH (upd H a (.lst (xs.set k v)))) : rSetL (.ref a) (.int i) v H QH := ⟨a, xs, i, k, rfl, rfl, hs, e, h⟩
theorem at0 {x : V} {r : List V} : atI (x :: r) 0 = some x := by
  unfold atI ixN
  simp
theorem at1 {x y : V} {r : List V} : atI (x :: y :: r) 1 = some y := by
  unfold atI ixN
  rw [if_pos (by decide), if_pos (by simp only [List.length_cons]; omega)]
  rfl
theorem at2 {x y z : V} {r : List V} : atI (x :: y :: z :: r) 2 = some z := by
  unfold atI ixN
  rw [if_pos (by decide), if_pos (by simp only [List.length_cons]; omega)]
  rfl
theorem x_ixL0I {z : Int} {ns : List Int} (hs : SqL K H a ((z :: ns).map V.int)) (h : Q (.int z) H) : rIxL K (.ref a) (.int 0) H Q := ⟨a, _, 0, .int z, rfl, rfl, hs, at0, h⟩
theorem x_ixL0 {x : V} {r : List V} (hs : SqL K H a (x :: r)) (h : Q x H) : rIxL K (.ref a) (.int 0) H Q := ⟨a, _, 0, x, rfl, rfl, hs, at0, h⟩
theorem x_ixL1 {x y : V} {r : List V} (hs : SqL K H a (x :: y :: r)) (h : Q y H) : rIxL K (.ref a) (.int 1) H Q := ⟨a, _, 1, y, rfl, rfl, hs, at1, h⟩
theorem x_ixL2 {x y z : V} {r : List V} (hs : SqL K H a (x :: y :: z :: r)) (h : Q z H) : rIxL K (.ref a) (.int 2) H Q := ⟨a, _, 2, z, rfl, rfl, hs, at2, h⟩
theorem x_setL0 {y : V} {r : List V} {QH : Hp → Prop} (hs : H a = some (.lst (y :: r))) (h : QH (upd H a (.lst (v :: r)))) : rSetL (.ref a) (.int 0) v H QH := ⟨a, y :: r, 0, 0, rfl, rfl, hs, by simp [ixN] , h⟩
theorem x_setL1 {y z : V} {r : List V} {QH : Hp → Prop} (hs : H a = some (.lst (y :: z :: r))) (h : QH (upd H a (.lst (y :: v :: r)))) : rSetL (.ref a) (.int 1) v H QH := ⟨a, y :: z :: r, 1, 1, rfl, rfl, hs, by simp [ixN]; omega, h⟩
theorem x_setL2 {y z u : V} {r : List V} {QH : Hp → Prop} (hs : H a = some (.lst (y :: z :: u :: r))) (h : QH (upd H a (.lst (y :: z :: v :: r)))) : rSetL (.ref a) (.int 2) v H QH := ⟨a, y :: z :: u :: r, 2, 2, rfl, rfl, hs, by simp [ixN]; omega, h⟩
theorem x_neD {d e : PyData} (h1 : Dp K H x d) (h2 : Dp K H y e) (s1 : SeqAt.shaped d = true) (s2 : SeqAt.shaped e = true) (h : Q (.bl (!PyData.eqv d e)) H) : rNeD K x y H Q := ⟨d, e, h1, h2, s1, s2, h⟩
theorem x_eqD {d e : PyData} (h1 : Dp K H x d) (h2 : Dp K H y e) (s1 : SeqAt.shaped d = true) (s2 : SeqAt.shaped e = true) (h : Q (.bl (PyData.eqv d e)) H) : rEqD K x y H Q := ⟨d, e, h1, h2, s1, s2, h⟩
theorem dpInts {K : PySem.W.Frag} {H : Hp} : ∀ ns : List Int, DpAll K H (ns.map V.int) (ns.map PyData.int)
  | [] => .nil
  | n :: r => .cons (.int n) (dpInts r)
theorem canInts : ∀ ns : List Int, PyData.canLayAll0 (ns.map PyData.int) = true
  | [] => rfl
  | n :: r => by
    show (PyData.canLay0 (.int n) && PyData.canLayAll0 (r.map PyData.int)) = true
    rw [canInts r]; rfl
theorem depthInts : ∀ ns : List Int, PyData.depthAll (ns.map PyData.int) ≤ 1
  | [] => by decide
  | n :: r => by
    show Nat.max _ _ ≤ 1
    exact Nat.max_le.mpr ⟨Nat.zero_le _, depthInts r⟩
theorem eqvNil (ns : List Int) : PyData.eqv (.list (ns.map PyData.int)) (.list []) = ns.isEmpty := by cases ns <;> rfl
theorem x_neNil {ns : List Int} (h1 : SqL K H a (ns.map V.int)) (h2 : SqL K H p []) (h : Q (.bl (!ns.isEmpty)) H) : rNeD K (.ref a) (.ref p) H Q :=
  ⟨_, _, .lst h1 (dpInts ns), .lst h2 .nil, by
    unfold SeqAt.shaped
    rw [Bool.and_eq_true]
    exact ⟨canInts ns, decide_eq_true (by have := depthInts ns; show PyData.depthAll _ + 1 ≤ 64; omega)⟩, by decide, by rw [eqvNil]; exact h⟩
theorem x_pop0 {ys : List V} (hs : H a = some (.lst (y :: ys))) (h : Q y (upd H a (.lst ys))) : rPopAt (.ref a) [.int 0] H Q :=
  ⟨a, y :: ys, 0, 0, y, rfl, rfl, hs, by decide, by decide, by simp [seqIndex?], rfl, h⟩
theorem x_pop0I {z : Int} {ns : List Int} (hs : H a = some (.lst ((z :: ns).map V.int))) (h : Q (.int z) (upd H a (.lst (ns.map V.int)))) : rPopAt (.ref a) [.int 0] H Q := x_pop0 hs h
theorem x_popAt {k : Nat} (hs : H a = some (.lst xs)) (h1 : -(2 ^ 63) ≤ i) (h2 : i < 2 ^ 63) (e : seqIndex? i xs.length = some k) (e2 : xs[k]? = some y) (h : Q y (upd H a (.lst (xs.eraseIdx k)))) : rPopAt (.ref a) [.int i] H Q := ⟨a, xs, i, k, y, rfl, rfl, hs, h1, h2, e, e2, h⟩
theorem x_int1 (h : Q (.int i) H) : (∃ z, [V.int i] = [.int z] ∧ Q (.int z) H) ∨ ∃ k, [V.int i] = [.bl k] ∧ Q (.int (if k = true then 1 else 0)) H := .inl ⟨i, rfl, h⟩
theorem x_tyL (hs : SqL K H a xs) {B : Prop} (h : B) : tyV K "list" (.ref a) H ∧ B := ⟨.inl ⟨rfl, xs, hs⟩, h⟩
theorem x_dec {p : Prop} [Decidable p] {A B : Prop} (h1 : p → A) (h2 : ¬ p → B) : if decide p = true then A else B := by
  by_cases h : p
  · rw [if_pos (decide_eq_true h)]; exact h1 h
  · rw [if_neg (by simpa using h)]; exact h2 h
theorem x_decN {p : Prop} [Decidable p] {A B : Prop} (h1 : ¬ p → A) (h2 : p → B) : if (!decide p) = true then A else B := by
  by_cases h : p
  · rw [if_neg (by simpa using h)]; exact h2 h
  · rw [if_pos (by simpa using h)]; exact h1 h
theorem x_bool {b : Bool} {A B : Prop} (h1 : b = true → A) (h2 : b = false → B) : if b = true then A else B := by
  cases b with
  | true => rw [if_pos rfl]; exact h1 rfl
  | false => rw [if_neg Bool.false_ne_true]; exact h2 rfl
theorem x_boolN {b : Bool} {A B : Prop} (h1 : b = false → A) (h2 : b = true → B) : if (!b) = true then A else B := by
  cases b with
  | true => rw [if_neg (by decide)]; exact h2 rfl
  | false => rw [if_pos (show (!false) = true from rfl)]; exact h1 rfl
theorem x_T {A B : Prop} (h : A) : if true = true then A else B := by rw [if_pos rfl]; exact h
theorem x_F {A B : Prop} (h : B) : if false = true then A else B := by rw [if_neg Bool.false_ne_true]; exact h
theorem x_nT {A B : Prop} (h : B) : if (!true) = true then A else B := by rw [if_neg (by decide)]; exact h
theorem x_nF {A B : Prop} (h : A) : if (!false) = true then A else B := by rw [if_pos (show (!false) = true from rfl)]; exact h
end
end WD

set_option Elab.async false
set_option linter.all false
set_option maxRecDepth 100000
namespace WD
open PySem PySem.Spec PyProof.Rows L2
/-- one clause: its class, the slot of its name (if it has one), its suite -/
structure Cls1 where
  c : Value
  i : Option Nat
  ts : Addr → Value → Option Addr → TS
/-- leaving a suite that held the exception in a slot -/
def leave1 (D : Ends) : Option Nat → Ends
  | none => D
  | some i => ⟨fun τ G => D.nx (τ.set i none) G, D.rt, fun τ G => D.bk (τ.set i none) G, fun τ G => D.ct (τ.set i none) G⟩
def enter1 (σ : L2.St) (a : Addr) : Option Nat → L2.St
  | none => σ
  | some i => σ.set i (some (.ref a))
/-- what a row of clauses wishes of an exception -/
def wRow (K : PySem.W.Frag) (Wo : WX) (D : Ends) : List Cls1 → WX
  | [] => Wo
  | z :: r => fun cl dd τ G => ∃ yes, PySem.W.exmOne K cl z.c = some yes ∧ (yes = true → ∀ a, G a = none → z.ts a cl dd (leave1 D z.i) (enter1 τ a z.i) G) ∧ (yes = false → wRow K Wo D r cl dd τ G)
inductive Rows (X : Cx) : List ExceptHandler → List Cls1 → Prop
  | nil : Rows X [] []
  | bare {x : Str} {c : Value} {ts : Addr → Value → Option Addr → TS} {b0 : Stmt} {su : List Stmt} {p p' : Pos} {hs : List ExceptHandler} {l : List Cls1} (nm : Names X x c)
      (sc : ∀ (a : Addr) (ob : Obj) (cl : Value) (dd : Option Addr) (pn : List (Addr × Obj)), Zc cl dd ob → (∃ vs, ob.data = .fields vs) → PSs (X.suite a ((a, ob) :: pn)) (b0 :: su) (ts a cl dd)) (r : Rows X hs l) :
      Rows X (.ExceptHandler (some (.Name x p)) none (b0 :: su) p' :: hs) (⟨c, none, ts⟩ :: l)
  | named {x n : Str} {i : Nat} {c : Value} {ts : Addr → Value → Option Addr → TS} {b0 : Stmt} {su : List Stmt} {p p' : Pos} {hs : List ExceptHandler} {l : List Cls1} (nm : Names X x c) (hi : X.N[i]? = some n) (hl : X.env.kindOf n = some .local)
      (sc : ∀ (a : Addr) (ob : Obj) (cl : Value) (dd : Option Addr) (pn : List (Addr × Obj)), Zc cl dd ob → (∃ vs, ob.data = .fields vs) → PSs (X.suite a ((a, ob) :: pn)) (b0 :: su) (ts a cl dd)) (r : Rows X hs l) :
      Rows X (.ExceptHandler (some (.Name x p)) (some n) (b0 :: su) p' :: hs) (⟨c, some i, ts⟩ :: l)
section
variable {X : Cx} {bd : List Stmt} {h0 : ExceptHandler} {hs : List ExceptHandler} {l : List Cls1} {pos : Pos} {tb : WX → TS} {Wo : WX}
theorem ps_rows (st : X.stack = X.env :: X.outer) (hf : X.env.frame = some X.env.locals) (hN : X.N.Nodup) (tk : Takes X Wo)
    (hb : ∀ (V : WX) (pn : List (Addr × Obj)) (xe : Value → Shared → Prop), Takes (X.tr pn xe) V → PassesOwn (model X.prog X.w) X.A X.env xe → PSs (X.tr pn xe) bd (tb V))
    (hr : Rows X (h0 :: hs) l) : PS X (.Try bd (h0 :: hs) [] [] pos) (fun D σ H => tb (wRow X.K Wo D l) D σ H) := by
  constructor
  intro pins s σ H D I hq
  have okX := I.ok
  have frX : X.A.frames = some (X.env :: X.outer) := by rw [okX.frames, st]
  refine wpAny_Try_except ?_
  have body := (hb (wRow X.K Wo D l) (X.pn ++ pins) (fun e z1 => wpAny (model X.prog X.w) X.A (noteFrame e X.env) (fun _ z2 => wpAny (model X.prog X.w) X.A (setFlight e none)
    (fun _ z3 => wpAny (model X.prog X.w) X.A (handleBy e X.env (h0 :: hs)) (SP X pins D) X.xe z3) X.xe z2) X.xe z1) ?caught PassesOwn.looking).run [] s σ H D (I.toTry _) hq
  case caught =>
    rintro u z ⟨a, B, zI, pins', τ, G, cl, dd, rfl, J0, nb, up, sky, na, os, ag, wish⟩
    have J : Inv X pins τ G zI := J0.ofTry okX
    have sky1 : Sky B (X.env :: X.outer) a (Zc cl dd) X.env.locals z.heap := by rw [← st]; exact sky
    show wpAny (model X.prog X.w) X.A (noteFrame (.ref a) X.env) _ _ _
    refine Sky.land Zc.steady frX hf sky1 fun g3 fly3 up3 => ?_
    have J3 : Inv X pins τ G { z with heap := g3 } := J.landed nb fly3.1 (up.trans up3) os ag
    obtain ⟨ob3, v3, at3, zc3, da3⟩ := fly3.there
    have away : a ∉ frs (X.env :: X.outer) := by
      intro hm
      obtain ⟨_, ob', at', nf⟩ := fly3.2.2.1.mem hm
      rw [at3] at at'
      cases at'
      exact nf _ da3
    have aL : a ≠ X.env.locals := fun e => away (List.mem_filterMap.mpr ⟨X.env, List.mem_cons_self, by rw [hf, e]⟩)
    have aF : a ∉ X.fs := by
      intro hm
      obtain ⟨e, he, q⟩ := List.mem_filterMap.mp hm
      exact away (List.mem_filterMap.mpr ⟨e, List.mem_cons_of_mem _ he, q⟩)
    have S3 := J3.suite at3 da3 na aL aF
    have go : ∀ {ks : List ExceptHandler} {m : List Cls1}, Rows X ks m → wRow X.K Wo D m cl dd τ G →
        wpAny (model X.prog X.w) X.A (handleBy (.ref a) X.env ks) (SP X pins D) X.xe { z with heap := g3 } := by
      intro ks m rk
      have asked : ∀ {x : Str} {c : Value} {p : Pos} {Q : Value → Shared → Prop} {E : Value → Shared → Prop}, Names X x c → Q c { z with heap := g3 } →
          wpAny (model X.prog X.w) (X.A.mark (some (.ref a))) (eval (.Name x p) X.env) Q E { z with heap := g3 } := by
        rintro x c p Q E ⟨gl, db, mm | ⟨mm, bv, nn⟩⟩ q
        · exact ld_glob (X := X.suite a ((a, ob3) :: (X.pn ++ pins))) S3 gl mm q db
        · exact ld_blt (X := X.suite a ((a, ob3) :: (X.pn ++ pins))) S3 gl mm bv q nn db
      have LT : PySem.W.Looks (model X.prog X.w) g3 (typeOf (.ref a)) cl := fun _ _ _ _ kk q => wpAny_typeOf_ref (kk _ _ at3) (by rw [zc3.1]; exact q)
      induction rk with
      | nil =>
        intro w
        refine wpAny_handleBy_nil ?_
        obtain ⟨_, _, _, ob, vs, T, _, _, hat, _, hda, h1, _⟩ := id fly3
        unfold PySem.passOn
        refine wpAny_bind (wpAny_field hat hda h1 ?_)
        have nn : ¬ ((Value.ref T == Value.none) = true) := by simp
        rw [if_neg nn]
        have out : wpAny (model X.prog X.w) X.A (setFlight (.ref a) X.env.frame) (fun _ z4 => wpAny (model X.prog X.w) X.A (throw (.ref a) : Sem Flow) (SP X pins D) X.xe z4) X.xe { z with heap := g3 } := by
          rw [hf]
          refine HandSPX.setFlight_upZ fly3 fun g4 held4 up4 => wpAny_throw (tk _ _ ⟨a, B, zI, pins, τ, G, cl, dd, rfl, J, nb, ?_, ?_, na, os, ag, w⟩)
          · exact (up.trans up3).trans up4
          · exact .inr (.inr (by rw [st]; exact held4))
        first
          | exact wpAny_bind out
          | exact wpAny_bind (wpAny_pure (wpAny_bind out))
      | @bare x c ts b0 su p p' ks2 m2 nm sc r ih =>
        rintro ⟨yes, ey, hy, hn⟩
        refine wpAny_handleBy_cons (codeAny_handlers_test ?_) (by intro q; cases q)
        refine asked nm ((PySem.W.exm_one (M := model X.prog X.w) J3.kIn LT ey).here ?_)
        cases yes with
        | false => exact ih (hn rfl)
        | true =>
          refine codeAny_handlers_suite (HandSPX.lands_againZ fly3 fun g4 fly4 up4 => ?_)
          have J4 : Inv X pins τ G { z with heap := g4 } := J.landed nb fly4.1 ((up.trans up3).trans up4) os ag
          obtain ⟨ob4, v4, at4, zc4, da4⟩ := fly4.there
          have ran := (sc a ob4 cl dd (X.pn ++ pins) zc4 ⟨_, da4⟩).run [] _ _ G _ (J4.suite at4 da4 na aL aF) (hy rfl a na)
          refine wpAny_mono ran (fun fl z6 hz => ?_) (fun _ _ ff => ff.elim)
          cases fl with
          | ret u =>
            obtain ⟨_, _, _, S6, r6, q6⟩ := hz
            exact ⟨_, _, _, S6.unsuite okX, r6, q6⟩
          | next => obtain ⟨_, _, S6, q6⟩ := hz; exact ⟨_, _, S6.unsuite okX, q6⟩
          | brk => obtain ⟨_, _, S6, q6⟩ := hz; exact ⟨_, _, S6.unsuite okX, q6⟩
          | cont => obtain ⟨_, _, S6, q6⟩ := hz; exact ⟨_, _, S6.unsuite okX, q6⟩
      | @named x n i c ts b0 su p p' ks2 m2 nm hi hl sc r ih =>
        rintro ⟨yes, ey, hy, hn⟩
        refine wpAny_handleBy_cons (codeAny_handlers_test ?_) (by intro q; cases q)
        refine asked nm ((PySem.W.exm_one (M := model X.prog X.w) J3.kIn LT ey).here ?_)
        cases yes with
        | false => exact ih (hn rfl)
        | true =>
          refine codeAny_handlers_suite_as (HandSPX.lands_againZ fly3 fun g4 fly4 up4 => ?_)
          have J4 : Inv X pins τ G { z with heap := g4 } := J.landed nb fly4.1 ((up.trans up3).trans up4) os ag
          obtain ⟨ob4, v4, at4, zc4, da4⟩ := fly4.there
          have S4 := J4.suite at4 da4 na aL aF
          refine store_ok (X := X.suite a ((a, ob4) :: (X.pn ++ pins))) (v := .ref a) S4 hN hi (.inl hl) rfl (fun z5 S5 => ?_) (.inr hl)
          have ran := (sc a ob4 cl dd (X.pn ++ pins) zc4 ⟨_, da4⟩).run [] z5 _ G _ S5 (hy rfl a na)
          refine wpAny_mono ran (fun fl z6 hz => ?_) (fun _ _ ff => ff.elim)
          have gone : ∀ {τ6 : L2.St} {G6 : Hp} {R : Shared → Prop}, Inv (X.suite a ((a, ob4) :: (X.pn ++ pins))) [] τ6 G6 z6 → (∀ z7, Inv X pins (τ6.set i none) G6 z7 → R z7) →
              wpAny (model X.prog X.w) X.A (do bindName X.env n .none; unbindBehindTheSuite X.env n p') (fun _ z7 => R z7) X.xe z6 :=
            fun S6 k => gone_ok (S6.unsuite okX) hN hi hl k
          cases fl with
          | ret u =>
            obtain ⟨_, _, _, S6, r6, q6⟩ := hz
            exact gone S6 fun _ J7 => ⟨_, _, _, J7, r6, q6⟩
          | next => obtain ⟨_, _, S6, q6⟩ := hz; exact gone S6 fun _ J7 => ⟨_, _, J7, q6⟩
          | brk => obtain ⟨_, _, S6, q6⟩ := hz; exact gone S6 fun _ J7 => ⟨_, _, J7, q6⟩
          | cont => obtain ⟨_, _, S6, q6⟩ := hz; exact gone S6 fun _ J7 => ⟨_, _, J7, q6⟩
    exact go hr wish
  refine wpAny_mono body (fun fl z1 hz => ?_) (fun _ _ he => he)
  cases fl with
  | ret u =>
    obtain ⟨_, _, _, J1, r1, q⟩ := hz
    exact ⟨_, _, _, J1.ofTry okX, r1, q⟩
  | next =>
    obtain ⟨_, _, J1, q⟩ := hz
    exact wpAny_execs_nil ⟨_, _, J1.ofTry okX, q⟩
  | brk => obtain ⟨_, _, J1, q⟩ := hz; exact ⟨_, _, J1.ofTry okX, q⟩
  | cont => obtain ⟨_, _, J1, q⟩ := hz; exact ⟨_, _, J1.ofTry okX, q⟩
end
end WD

set_option Elab.async false
set_option linter.all false
set_option maxRecDepth 100000
set_option maxHeartbeats 4000000
namespace WD
open PySem PySem.Spec PyProof.Rows L2
section
open PySem.W PySem.Calls
variable {prog : Program} {w : World} {A : Around} {E : Value → Shared → Prop} {s : Shared} {K : Frag} {x D : Addr} {ox : Obj}
/-- the class of an own exception that has its dict -/
theorem cls_of_exc {od : Obj} {Q : Option Value → Shared → Prop} (C : ExcC K D) (X : K.In s.heap) (I : InstAt s.heap x ox D (some od)) (h : Q (some (.ref D)) { s with toks := s.toks + 1 }) :
    wpAny (model prog w) A (getAttr? (.ref x) "__class__") Q E s := by
  have found : findObj K D (some od) "__class__" = some (.bind (.builtin "getset_descriptor.__get__") (.builtin "object.__class__")) := by
    refine findObj_data ?_ C.ha C.hn C.ht
    obtain ⟨cd, hc, _⟩ := any_some C.hd
    rw [hc]; rfl
  obtain ⟨hp, gs, dr, tk, os⟩ := s
  have A0 := I.type (M := model prog w)
  have A1 := looks_findIn (M := model prog w) X C.hg
  have A2 := looks_findIn (M := model prog w) X C.hk
  have A3 := looks_find (M := model prog w) X I found
  have under : Looks (model prog w) hp (isInstance (.ref x) (.type "BaseException")) true := A0.andThen (looks_subIn X C.hs)
  have n0 : (Value.builtin "BaseException.__getattribute__" == Value.builtin "object.__getattribute__") = false := by decide +kernel
  have n1 : (onTheHeap (Value.ref D) && (Value.builtin "BaseException.__getattribute__" == Value.builtin "object.__getattribute__")) = false := by rw [n0]; rfl
  have n2 : (false && onTheHeap (Value.builtin "BaseException.__getattribute__")) = false := rfl
  unfold getAttr? getAttrBy? getAttrBy
  refine wpAny_bind (wpAny_mkText (wpAny_bind (wpAny_attempt (wpAny_holding ?_))))
  refine wpAny_bind (A0.at (wpAny_bind (A1.at ?_)))
  refine (show wpAny _ _ (if (onTheHeap (Value.ref D) && (Value.builtin "BaseException.__getattribute__" == Value.builtin "object.__getattribute__")) = true then _ else _) _ _ _ from ?_)
  rw [n1, if_neg Bool.false_ne_true]
  unfold getAttrByItsOwn hookBefore
  refine wpAny_bind ?_
  have onh : onTheHeap (Value.ref D) = true := rfl
  rw [if_pos onh]
  refine A2.at (wpAny_bind (wpAny_attempt (wpAny_holding ?_)))
  unfold callGetattribute
  rw [n2, if_neg Bool.false_ne_true]
  unfold boundAndCalled
  rw [PySem.F.excAttr_ValueError.ga.bind (.ref x)]
  refine wpAny_bind (wpAny_pure ?_)
  refine (show wpAny _ _ (call (.builtin "BaseException.__getattribute__") [.ref x, .str "__class__" tk]) _ _ _ from ?_)
  refine wpAny_call (codeAny_call_builtin PySem.F.excAttr_ValueError.ga.plain PySem.F.entry_bexc_ga ?_)
  refine @check_slot (model prog w) _ _ ⟨hp, gs, dr, tk + 1, os⟩ "BaseException.__getattribute__" "BaseException" "__getattribute__" (.ref x)
    [.str "__class__" tk] [] _ (by decide +kernel) (by decide +kernel) under (PySem.F.args_bexc_ga (.ref x) (.str "__class__" tk)) ?_
  unfold Builtin.«object.__getattribute__»
  refine wpAny_bind (wpAny_of_eq (a := ((Value.ref x : Value), [Value.str "__class__" tk])) (by first | rfl | (simp only [slotArgs]; rfl)) ?_)
  refine wpAny_bind (wpAny_pure ?_)
  refine wpAny_bind (A0.at (wpAny_bind (A3.at ?_)))
  refine (show wpAny _ _ (holding [Value.builtin "object.__class__"] (call (.builtin "getset_descriptor.__get__") [.builtin "object.__class__", .ref x, .ref D]) >>= ret) _ _ _ from ?_)
  refine wpAny_bind (wpAny_holding (wpAny_call ?_))
  refine class_get (s := ⟨hp, gs, dr, tk + 1, os⟩) (ox := ox) (od := some od) X I C.hm ?_
  refine wpAny_pure ?_
  refine (show wpAny _ _ (handedOut (.ref D)) _ _ _ from ?_)
  rw [handedOut_of (v := .ref D) rfl]
  first
    | exact wpAny_pure (wpAny_pure h)
    | exact wpAny_pure h
    | exact wpAny_pure (wpAny_bind (wpAny_pure (wpAny_pure h)))
theorem kit_exc (C : ExcC K D) : KitX K (.ref x) (.ref D) (fun h => ∃ od, InstAt h x ox D (some od)) where
  ty := fun _ _ _ ⟨_, I⟩ => I.type
  it := fun M h X _ => by
    obtain ⟨cd, hc, _⟩ := any_some C.hd
    unfold clsIn at hc
    split at hc
    · rename_i o2 d2 c2 s2 found
      intro A' Q' E' s' kk q
      unfold isType loadHead
      exact wpAny_bind (wpAny_loadPart (kk _ _ (X _ _ found)) (wpAny_pure q))
    · cases hc
  ne := fun h tp dd its n sl X at_ => by
    obtain ⟨cd, hc, _⟩ := any_some C.hd
    refine Bool.eq_false_iff.mpr fun q => ?_
    cases (Value.ref.inj (beq_iff_eq.mp q) : D = tp)
    unfold clsIn at hc
    split at hc
    · rename_i o2 d2 c2 s2 found
      cases (X _ _ found).symm.trans at_
    · cases hc
  ca := fun X ⟨_, I⟩ k => cls_of_exc C X I k
end
/-- isinstance(e, c), e the exception that the suite holds (at a; its class cl, its dict dd) -/
def rIsX (K : PySem.W.Frag) (a : Addr) (cl : Value) (dd : Option Addr) : List V → Hp → VK → Prop := fun xs H Q => ∃ (c : V) (cv : Value) (D d : Addr) (fs : List (Str × V)) (b : Bool),
  xs = [.ref a, c] ∧ ClsV c cv ∧ cl = .ref D ∧ dd = some d ∧ ExcC K D ∧ H d = some (.xd fs) ∧ PySem.W.kitOne K (.ref D) cv = some b ∧ Q (.bl b) H
theorem call_isX {X : Cx} {a : Addr} {cl : Value} {dd : Option Addr} {ob : Obj} {pn : List (Addr × Obj)} (hz : Zc cl dd ob) (hf : ∃ vs, ob.data = .fields vs) : CallR (X.suite a ((a, ob) :: pn)) (.builtin "isinstance") (rIsX X.K a cl dd) := by
  intro pins s σ H xs us Q I r h
  obtain ⟨c, cv, D, d, fs, b, rfl, kc, rfl, rfl, C, hd, e, q⟩ := h
  obtain ⟨u1, u2, rfl, r1, r2⟩ := vals2 r
  cases kc.eq r2
  cases (show u1 = Value.ref a from r1)
  obtain ⟨at_, _⟩ := I.pin (a, ob) (List.mem_append_left _ List.mem_cons_self)
  obtain ⟨vs, hv⟩ := hf
  obtain ⟨mA, ns, _⟩ := (show ObjOk X.prog X.w H s.heap d (.xd fs) from I.hok d _ hd)
  obtain ⟨od, ho, _⟩ := lookIn_ns ns
  have J : PySem.W.InstAt s.heap a ob D (some od) := ⟨at_, hz.1, by unfold PySem.W.notCls; rw [hv] <;> rfl, by rw [hz.2]; exact ho⟩
  exact PySem.W.kia_one (kit_exc C) I.kIn ⟨od, J⟩ e (fun z => nomatch z) fun tk => ⟨.bl b, H, I.kept (t' := tk) fun _ _ z => z, rfl, q⟩
/-- e.f, e the exception that the suite holds -/
def tXw (K : PySem.W.Frag) (a : Addr) (cl : Value) (dd : Option Addr) (f : Str) (te : TE) : TE := fun σ H Q => te σ H fun x H1 => x = .ref a ∧ ∃ (C d : Addr) (fs : List (Str × V)) (v : V), cl = .ref C ∧ XfC K C ∧ PySem.W.findIn K (.ref C) f = some none ∧
  dd = some d ∧ H1 d = some (.xd fs) ∧ fs.lookup f = some v ∧ Q v H1
theorem pe_xw {X : Cx} {a : Addr} {cl : Value} {dd : Option Addr} {ob : Obj} {pn : List (Addr × Obj)} {e : Expr} {te : TE} {pos : Pos} {n : Str} (hz : Zc cl dd ob) (hf : ∃ vs, ob.data = .fields vs)
    (he : PE (X.suite a ((a, ob) :: pn)) e te) (hb : attributeBase e n X.env (eval e X.env) = eval e X.env := by rfl) : PE (X.suite a ((a, ob) :: pn)) (.Attribute e n pos) (tXw X.K a cl dd n te) := by
  constructor
  intro pins s σ H Q I h
  refine attr_of hb (thn (he.run pins s σ H _ I h) ?_)
  rintro u s1 ⟨x, H1, I1, rx, rfl, C, d, fs, v, rfl, T, no, rfl, hd, hl, q⟩
  cases (show u = Value.ref a from rx)
  obtain ⟨at_, _⟩ := I1.pin (a, ob) (List.mem_append_left _ List.mem_cons_self)
  obtain ⟨vs, hv⟩ := hf
  obtain ⟨mA, ns, hr⟩ := (show ObjOk X.prog X.w H1 s1.heap d (.xd fs) from I1.hok d _ hd)
  obtain ⟨od, ho, hlo⟩ := lookIn_ns ns
  obtain ⟨u2, hu, ru⟩ := RelO.some_of (v := v) (o := mA n) (by rw [← hl]; exact hr n)
  have J : PySem.W.InstAt s1.heap a ob C (some od) := ⟨at_, hz.1, by unfold PySem.W.notCls; rw [hv] <;> rfl, by rw [hz.2]; exact ho⟩
  refine HandSPX.exc_get I1.kIn J T.ga T.gg T.exC (PySem.W.findObj_own T.hdC no rfl ?_) (handed_of ru) ⟨v, H1, I1.tok _, ru, q⟩
  rw [hlo, hu]
end WD

set_option Elab.async false
set_option linter.all false
set_option maxRecDepth 100000
set_option maxHeartbeats 1000000
namespace WD
open PySem PySem.Spec PyProof.Rows L2
section
variable {X : Cx} {o e : Expr} {es : List Expr} {ta : TE} {t : TA} {C f : Addr} {m x : Str} {fd : FuncData} {ps : List Str} {sp : Sp} {E : L2.St → XK} {CT : CXT} {k : Nat} {ds : List Value} {dvs : List V} {p apos pos : Pos}
/-- a def's run where what it raises is wished for at the caller's slots; ds: the values of its defaults -/
theorem run_at {pins : List (Addr × Obj)} {σ : L2.St} {H : Hp} {s : Shared} {Q : VK} {us : List Value} {vs : List V} (F : FnOk X.prog X.w X.K X.mg X.base CT k f fd ps sp) (hr : Room k X.A) (hb : Binds X.K fd ps ds) (hd : Vals dvs ds) (hx : PassesAt CT X σ (E σ))
    (I : Inv X pins σ H s) (r : Vals vs us) (h : sp (vs ++ dvs) H Q (E σ)) : wpAny (model X.prog X.w) X.A (call (.ref f) us) (EP X pins σ Q) X.xe s := by
  have rr := r.append hd
  have len : (us ++ ds).length = ps.length := rr.length.symm.trans (F.len _ _ _ _ h)
  have ran := F.run X.A X.stack s H ⟨us, []⟩ (us ++ ds) (vs ++ dvs) Q (E σ) hr I.env0 (hb s us I.kIn len) rr h
  refine wpAny_call (codeAny_mono ran ?_)
  rintro (er | fl) s' hq
  · exact hx pins H s er s' I hq
  · cases fl with
    | ret u => exact I.after hq
    | next => exact hq.elim
    | brk => exact hq.elim
    | cont => exact hq.elim
def tMethW (C : Addr) (m : Str) (sp : Sp) (dvs : List V) (E : L2.St → XK) (ta : TE) (t : TA) : TE := fun σ H Q => ta σ H fun x H1 => ∃ a dx fs, x = .ref a ∧ H1 a = some (.ins C dx fs) ∧ fs.lookup m = none ∧ t σ H1 fun vs H2 => sp (x :: (vs ++ dvs)) H2 Q (E σ)
theorem pe_methW {pl : Sem Bool} (he : PE X o ta) (c : Cls X.K C) (hm : Meth X.K C m f) (F : FnOk X.prog X.w X.K X.mg X.base CT k f fd ps sp) (hr : Room k X.A) (hb : Binds X.K fd ps ds) (hd : Vals dvs ds) (hx : ∀ σ, PassesAt CT X σ (E σ)) (ha : PA X (e :: es) t)
    (hst : starEach (e :: es) X.env = (false, eval e X.env) :: starEach es X.env := by rfl) (hpl : (backTo pos (starEach es X.env)).any (·.1) = false := by rfl)
    (ht : eval (.Call (.Attribute o m apos) (e :: es) [] pos) X.env = (do
      let val ← eval o X.env
      standAt apos.atName
      let (g, fst) ← holding [val] (getMethod val m pl)
      callWith pos g fst (backTo pos (starEach (e :: es) X.env)) (backToKw pos (keywordEach [] X.env))) := by rfl) :
    PE X (.Call (.Attribute o m apos) (e :: es) [] pos) (tMethW C m sp dvs E ta t) := by
  constructor
  intro pins s σ H Q I h
  refine PySem.W.methodCall_KW (pl := pl) (thn (he.run pins s σ H _ I h) ?_) ht
  rintro u s1 ⟨x, H1, I1, rx, a, dx, fs, rfl, ea, l, q⟩
  cases (show u = Value.ref a from rx)
  refine getmeth_ok I1 ea c hm l ?_
  refine PySem.W.callWith_K (first := [.ref a]) (h₀ := X.base) I.ok.mod.kin hm.kp (thn (ha.run pos pins s1 σ H1 _ I1 q) ?_) hst hpl
  rintro us s2 ⟨vs, H2, I2, r, q2⟩
  exact ⟨I2.kIn, run_at (us := .ref a :: us) (vs := .ref a :: vs) F hr hb hd (hx σ) I2 (.cons rfl r) q2⟩
theorem pe_methW0 {pl : Sem Bool} (he : PE X o ta) (c : Cls X.K C) (hm : Meth X.K C m f) (F : FnOk X.prog X.w X.K X.mg X.base CT k f fd ps sp) (hr : Room k X.A) (hb : Binds X.K fd ps ds) (hd : Vals dvs ds) (hx : ∀ σ, PassesAt CT X σ (E σ))
    (ht : eval (.Call (.Attribute o m apos) [] [] pos) X.env = (do
      let val ← eval o X.env
      standAt apos.atName
      let (g, fst) ← holding [val] (getMethod val m pl)
      callWith pos g fst (backTo pos (starEach [] X.env)) (backToKw pos (keywordEach [] X.env))) := by rfl) :
    PE X (.Call (.Attribute o m apos) [] [] pos) (tMethW C m sp dvs E ta tNil) := by
  constructor
  intro pins s σ H Q I h
  refine PySem.W.methodCall_KW (pl := pl) (thn (he.run pins s σ H _ I h) ?_) ht
  rintro u s1 ⟨x, H1, I1, rx, a, dx, fs, rfl, ea, l, q⟩
  cases (show u = Value.ref a from rx)
  refine getmeth_ok I1 ea c hm l ?_
  exact PySem.W.callWith_K0 (first := [.ref a]) I1.kIn hm.kp (run_at (us := [.ref a]) (vs := [.ref a]) F hr hb hd (hx σ) I1 (.cons rfl .nil) q)
def tMakeW (C : Addr) (sp : Sp) (dvs : List V) (E : L2.St → XK) (t : TA) : TE := fun σ H Q => t σ H fun vs H1 => ∀ x dx, H1 x = none → H1 dx = none → dx ≠ x →
  sp (.ref x :: (vs ++ dvs)) (upd (upd H1 dx (.own x)) x (.ins C dx [])) (fun v H2 => v = .non ∧ Q (.ref x) H2) (E σ)
theorem pe_makeW (M : Mk X.K C f) (F : FnOk X.prog X.w X.K X.mg X.base CT k f fd ps sp) (hr : Room (k + 1) X.A) (hg : Gl X x) (hm : X.mg x = some (.ref C)) (hb : Binds X.K fd ps ds) (hd : Vals dvs ds) (hx : ∀ σ, PassesAt CT X σ (E σ))
    (ha : PA X (e :: es) t) (hdb : (x == ("__debug__" : Str)) = false := by decide) (he : starEach (e :: es) X.env = (false, eval e X.env) :: starEach es X.env := by rfl) (hpl : (backTo pos (starEach es X.env)).any (·.1) = false := by rfl) :
    PE X (.Call (.Name x p) (e :: es) [] pos) (tMakeW C sp dvs E t) := by
  constructor
  intro pins s σ H Q I h
  refine wpAny_Call_Name_kw (ld_glob I hg hm ?_ hdb)
  refine PySem.W.callWith_K (h₀ := X.base) I.ok.mod.kin M.kp (thn (ha.run pos pins s σ H _ I h) ?_) he hpl
  rintro us s1 ⟨vs, H1, I1, r, q⟩
  refine ⟨I1.kIn, ?_⟩
  have fr := I1.hok.fresh (Nat.le_succ s1.heap.objs.size)
  have q0 := q _ _ fr (I1.hok.fresh (Nat.le_refl _)) (Nat.ne_of_lt (Nat.lt_succ_self _))
  have I2 := Inv.made (C := C) I1
  have rr : Vals (V.ref (s1.heap.objs.size + 1) :: (vs ++ dvs)) (Value.ref (s1.heap.objs.size + 1) :: (us ++ ds)) := .cons rfl (r.append hd)
  have len : (Value.ref (s1.heap.objs.size + 1) :: us ++ ds).length = ps.length := rr.length.symm.trans (F.len _ _ _ _ q0)
  have ran := F.run _ X.stack _ _ ⟨Value.ref (s1.heap.objs.size + 1) :: us, []⟩ (Value.ref (s1.heap.objs.size + 1) :: (us ++ ds)) _ _ (E σ) (hr.make C us []) (I2.env0.make C us []) (hb _ (Value.ref (s1.heap.objs.size + 1) :: us) I2.kIn len) rr q0
  refine wpAny_call (make_map (f := f) I1.kIn M.makes M.init (beq_iff_eq.mp M.fn) (codeAny_mono ran ?_))
  rintro (er | fl) s' hq
  · exact hx σ pins _ _ er s' I2 hq
  · cases fl with
    | ret u =>
      obtain ⟨v, H', I3, rv, rfl, q3⟩ := I2.after hq
      exact ⟨rv, ⟨V.ref (s1.heap.objs.size + 1), H', I3, rfl, q3⟩⟩
    | next => exact hq.elim
    | brk => exact hq.elim
    | cont => exact hq.elim
end
/-! an own exception whose __init__ keeps its argument in what -/
structure ExT (K : PySem.W.Frag) (mg : Str → Option Value) (nm : Str) (C fI : Addr) : Prop where
  g : mg nm = some (.ref C)
  oex : OexC K C
  init : PySem.W.findIn K (.ref C) "__init__" = some (some (.ref fI))
  xc : ExcC K C
  nw : PySem.W.findIn K (.ref C) "what" = some none
theorem ExT.xf {K : PySem.W.Frag} {mg : Str → Option Value} {nm : Str} {C fI : Addr} (T : ExT K mg nm C fI) : XfC K C := ⟨T.xc.hg, T.xc.hk, T.xc.hs, T.xc.hd⟩
/-- __init__(self, what) -/
def sp_Refused___init__ (K : PySem.W.Frag) : Sp := fun vs H Q _ => ∃ (a C : Addr) (v : V), vs = [.ref a, v] ∧ H a = some (exo a C none) ∧ OexC K C ∧ PySem.W.findIn K (.ref C) "what" = some none ∧
  ∀ dx, H dx = none → dx ≠ a → Q .non (upd (upd H dx (exd dx [(("what" : Str), v)])) a (exo a C (some dx)))
section
variable {K : PySem.W.Frag} {mg : Str → Option Value} {nm : Str} {C fI a : Addr} {v : V} {σ : L2.St} {H : Hp} {Q : XK} {ta : TA}
def RzQ (K : PySem.W.Frag) (C : Addr) (vs : List V) (H1 : Hp) (Q : XK) : Prop := vs.length ≤ 1000 ∧ ∀ a, H1 a = none → sp_Refused___init__ K (.ref a :: (vs ++ [])) (upd H1 a (exo a C none))
  (fun v H2 => v = .non ∧ ∃ (d : Addr) (fs : List (Str × V)), H2 a = some (exo a C (some d)) ∧ H2 d = some (exd d fs) ∧ H1 d = none ∧ Q (.ref C) (some d) (upd (del H2 a) d (.xd fs))) (fun _ _ _ => False)
theorem x_raise0 {ts : L2.St → Hp → XK → Prop} {W : WX} {D : Ends} (h : ts σ H fun cls d H' => W cls d σ H') : (fun (_ : Ends) σ H => ts σ H fun cls d H' => W cls d σ H') D σ H := h
theorem x_mkO (h : ta σ H fun vs H1 => RzQ K C vs H1 Q) : tMkO C (sp_Refused___init__ K) [] ta σ H Q := h
theorem x_rz (T : ExT K mg nm C fI) (h : ∀ d, H d = none → Q (.ref C) (some d) (upd H d (.xd [(("what" : Str), v)]))) : RzQ K C [v] H Q := by
  refine ⟨Nat.le_of_ble_eq_true rfl, fun a ha => ?_⟩
  refine ⟨a, C, v, rfl, upd_same, T.oex, T.nw, fun dx hx ne => ?_⟩
  rw [upd_ne ne] at hx
  have ex : (upd (upd (upd H a (exo a C none)) dx (exd dx [(("what" : Str), v)])) a (exo a C (some dx))) dx = some (exd dx [(("what" : Str), v)]) := by rw [upd_ne ne, upd_same]
  refine ⟨rfl, dx, [(("what" : Str), v)], upd_same, ex, hx, ?_⟩
  have same : upd (del (upd (upd (upd H a (exo a C none)) dx (exd dx [(("what" : Str), v)])) a (exo a C (some dx))) a) dx (.xd [(("what" : Str), v)]) = upd H dx (.xd [(("what" : Str), v)]) := by
    funext b
    by_cases hb : b = dx
    · rw [hb, upd_same, upd_same]
    · rw [upd_ne hb, upd_ne hb]
      by_cases hba : b = a
      · rw [hba, del_same, ha]
      · rw [del_ne hba, upd_ne hba, upd_ne hb, upd_ne hba]
  rw [same]
  exact h dx hx
end
end WD

set_option Elab.async false
set_option linter.all false
set_option maxRecDepth 100000
set_option maxHeartbeats 1000000
namespace WD
open PySem PySem.Spec PyProof.Rows L2
/-! kinds of values -/
def kinds7 : List String := ["NoneType", "bool", "int", "str", "list", "tuple", "dict"]
def isT (s c : String) : Bool := s == c || (s == "bool" && c == "int")
theorem isT_ok : ∀ s ∈ kinds7, ∀ c ∈ kinds7, kitB s c = some (isT s c) := by decide +kernel
structure Ty1 (K : PySem.W.Frag) (H : Hp) (v : V) (s : String) : Prop where
  ty : TyX K H v (.type s)
  ks : s ∈ kinds7
theorem Ty1.int {K : PySem.W.Frag} {H : Hp} (i : Int) : Ty1 K H (.int i) "int" := ⟨.base (.int i), by decide⟩
theorem Ty1.bl {K : PySem.W.Frag} {H : Hp} (i : Bool) : Ty1 K H (.bl i) "bool" := ⟨.base (.bl i), by decide⟩
theorem Ty1.str {K : PySem.W.Frag} {H : Hp} (i : Str) : Ty1 K H (.str i) "str" := ⟨.base (.str i), by decide⟩
theorem Ty1.non {K : PySem.W.Frag} {H : Hp} : Ty1 K H .non "NoneType" := ⟨.base .non, by decide⟩
theorem Ty1.tup {K : PySem.W.Frag} {H : Hp} {a : Addr} {xs : List V} (e : H a = some (.tup xs)) : Ty1 K H (.ref a) "tuple" := ⟨.base (.tup e), by decide⟩
theorem Ty1.lst {K : PySem.W.Frag} {H : Hp} {a : Addr} {xs : List V} (e : H a = some (.lst xs)) : Ty1 K H (.ref a) "list" := ⟨.base (.lst e), by decide⟩
theorem tyx_int {K : PySem.W.Frag} {H : Hp} {v : V} {t : Value} (h : TyX K H v t) (e : t = .type "int") : ∃ i, v = .int i := by
  cases h with
  | base h =>
    cases h with
    | int i => exact ⟨i, rfl⟩
    | _ => exact absurd e (by first | decide | (intro z; cases z))
  | _ => exact absurd e (by first | decide | (intro z; cases z))
theorem Ty1.isInt {K : PySem.W.Frag} {H : Hp} {v : V} (h : Ty1 K H v "int") : ∃ i, v = .int i := tyx_int h.ty rfl
section
variable {σ : L2.St} {H : Hp} {Q : VK} {D : Ends} {v x y : V} {K : PySem.W.Frag} {ta tb tc te : TE} {t u : TS} {c c' : TT} {a p C dx : Addr} {xs : List V} {i j : Int} {n : Nat} {QB : Bool → Hp → Prop} {QL : List V → Hp → Prop} {QS : L2.St → Hp → Prop}
  {sp : Sp} {E : XK} {tt : TA} {m f : Str} {fs : List (Str × V)} {r r' : R2} {ES : L2.St → XK}
theorem x_call0 (h : tt σ H fun vs H1 => sp vs H1 Q E) : tCall sp [] E tt σ H Q := by
  show tt σ H fun vs H1 => sp (vs ++ []) H1 Q E
  simp only [List.append_nil]; exact h
theorem x_callS (h : tt σ H fun vs H1 => sp vs H1 Q (ES σ)) : tCallS sp ES tt σ H Q := h
theorem x_meth0 (h : ta σ H fun x H1 => ∃ a dx fs, x = .ref a ∧ H1 a = some (.ins C dx fs) ∧ fs.lookup m = none ∧ tt σ H1 fun vs H2 => sp (x :: vs) H2 Q E) : tMeth C m sp [] E ta tt σ H Q := by
  show ta σ H fun x H1 => ∃ a dx fs, x = .ref a ∧ H1 a = some (.ins C dx fs) ∧ fs.lookup m = none ∧ tt σ H1 fun vs H2 => sp (x :: (vs ++ [])) H2 Q E
  simp only [List.append_nil]; exact h
theorem x_methW0 (h : ta σ H fun x H1 => ∃ a dx fs, x = .ref a ∧ H1 a = some (.ins C dx fs) ∧ fs.lookup m = none ∧ tt σ H1 fun vs H2 => sp (x :: vs) H2 Q (ES σ)) : tMethW C m sp [] ES ta tt σ H Q := by
  show ta σ H fun x H1 => ∃ a dx fs, x = .ref a ∧ H1 a = some (.ins C dx fs) ∧ fs.lookup m = none ∧ tt σ H1 fun vs H2 => sp (x :: (vs ++ [])) H2 Q (ES σ)
  simp only [List.append_nil]; exact h
theorem x_onIns {P : Prop} (hp : H p = some (.ins C dx fs)) (no : fs.lookup m = none) (h : P) : ∃ a dx fs, V.ref p = .ref a ∧ H a = some (.ins C dx fs) ∧ fs.lookup m = none ∧ P := ⟨p, dx, fs, rfl, hp, no, h⟩
theorem x_make0 (h : tt σ H fun vs H1 => ∀ x dx, H1 x = none → H1 dx = none → dx ≠ x → sp (.ref x :: vs) (upd (upd H1 dx (.own x)) x (.ins C dx [])) (fun v H2 => v = .non ∧ Q (.ref x) H2) E) : tMake C sp [] E tt σ H Q := by
  show tt σ H fun vs H1 => ∀ x dx, H1 x = none → H1 dx = none → dx ≠ x → sp (.ref x :: (vs ++ [])) (upd (upd H1 dx (.own x)) x (.ins C dx [])) (fun v H2 => v = .non ∧ Q (.ref x) H2) E
  simp only [List.append_nil]; exact h
theorem x_makeW0 (h : tt σ H fun vs H1 => ∀ x dx, H1 x = none → H1 dx = none → dx ≠ x → sp (.ref x :: vs) (upd (upd H1 dx (.own x)) x (.ins C dx [])) (fun v H2 => v = .non ∧ Q (.ref x) H2) (ES σ)) : tMakeW C sp [] ES tt σ H Q := by
  show tt σ H fun vs H1 => ∀ x dx, H1 x = none → H1 dx = none → dx ≠ x → sp (.ref x :: (vs ++ [])) (upd (upd H1 dx (.own x)) x (.ins C dx [])) (fun v H2 => v = .non ∧ Q (.ref x) H2) (ES σ)
  simp only [List.append_nil]; exact h
theorem x_fldR {P : V → Prop} (hp : H p = some (.ins C dx fs)) (c : Cls K C) (no : NoAttr K C f) (e : fs.lookup f = some v) (h : P v) : ∃ a C dx fs v, V.ref p = .ref a ∧ H a = some (.ins C dx fs) ∧ Cls K C ∧ NoAttr K C f ∧ fs.lookup f = some v ∧ P v := ⟨p, C, dx, fs, v, rfl, hp, c, no, e, h⟩
theorem x_sFld {tv : TE} (h : tv σ H fun y H1 => ta σ H1 fun x H2 => ∃ a C dx fs, x = .ref a ∧ H2 a = some (.ins C dx fs) ∧ Cls K C ∧ NoAttr K C f ∧ fs.length < 1000 ∧ D.nx σ (upd H2 a (.ins C dx (putF f y fs)))) : sFld K ta tv f D σ H := h
theorem x_sFldR {fs' : List (Str × V)} (hp : H p = some (.ins C dx fs)) (c : Cls K C) (no : NoAttr K C f) (l : fs.length < 1000) (e : putF f y fs = fs') (h : QS σ (upd H p (.ins C dx fs'))) :
    ∃ a C dx fs, V.ref p = .ref a ∧ H a = some (.ins C dx fs) ∧ Cls K C ∧ NoAttr K C f ∧ fs.length < 1000 ∧ QS σ (upd H a (.ins C dx (putF f y fs))) := ⟨p, C, dx, fs, rfl, hp, c, no, l, by rw [e]; exact h⟩
theorem x_chain (h : ta σ H fun x H1 => tb σ H1 fun y H2 => r x y H2 fun z H3 => ∃ k, z = .bl k ∧ (if k = true then tc σ H3 fun w' H4 => r' y w' H4 Q else Q (.bl false) H3)) : tChain r r' ta tb tc σ H Q := h
theorem x_isN (h : Q (.bl (decide (x = .non))) H) : (fun (x y : V) (H : Hp) (Q : VK) => y = .non ∧ Q (.bl (decide (x = .non))) H) x .non H Q := ⟨rfl, h⟩
theorem x_isi {s c : String} (hy : Ty1 K H x s) (hc : c ∈ kinds7) (h : Q (.bl (isT s c)) H) : rIsi K [x, .ty c] H Q := ⟨x, .ty c, .type s, .type c, isT s c, rfl, .ty c, hy.ty, kit_ty (isT_ok s hy.ks c hc), h⟩
theorem x_bT {b : Bool} {A B : Prop} (e : b = true) (h : A) : if b = true then A else B := by rw [if_pos e]; exact h
theorem x_bF {b : Bool} {A B : Prop} (e : b = false) (h : B) : if b = true then A else B := by rw [e, if_neg Bool.false_ne_true]; exact h
theorem x_ret2 {ts : TS} (h : ts D σ H) : ts D σ H := h
-- dicts
theorem x_dget {td ty : TE} (h : td σ H fun x H1 => ty σ H1 fun y H2 => ∃ a v, x = .ref a ∧ DGet H2 a y (some v) ∧ Q v H2) : tDGet td ty σ H Q := h
theorem x_dgetK {P : V → Prop} {kvs : List (Key × V)} (k : Key) (ek : kV k = y) (hd : H a = some (.dK kvs)) (e : valV kvs k = some v) (h : P v) : ∃ a' v, V.ref a = .ref a' ∧ DGet H a' y (some v) ∧ P v := by
  subst ek; exact ⟨a, v, rfl, by rw [← e]; exact DGet.k hd, h⟩
theorem x_dget1 {td ty : TE} (h : td σ H fun x H1 => ∃ a, x = .ref a ∧ IsD H1 a ∧ ty σ H1 fun y H2 => ∃ o, DGet H2 a y o ∧ Q (o.getD .non) H2) : tDGet1 td ty σ H Q := h
theorem x_dget2 {td ty tx : TE} (h : td σ H fun x H1 => ∃ a, x = .ref a ∧ IsD H1 a ∧ ty σ H1 fun y H2 => tx σ H2 fun z H3 => ∃ o, DGet H3 a y o ∧ Q (o.getD z) H3) : tDGet2 td ty tx σ H Q := h
theorem x_isD {kvs : List (Key × V)} {P : Prop} (hd : H a = some (.dK kvs)) (h : P) : ∃ a', V.ref a = .ref a' ∧ IsD H a' ∧ P := ⟨a, rfl, .inl ⟨kvs, .inl hd⟩, h⟩
theorem x_addS {P : Str → Str → Prop} {i j : Str} (l : i.length + j.length ≤ sizeLine) (h : P i j) : ∃ i' j', V.str i = .str i' ∧ V.str j = .str j' ∧ i'.length + j'.length ≤ sizeLine ∧ P i' j' := ⟨i, j, rfl, rfl, l, h⟩
theorem x_listOf {P : Addr → List V → Prop} (hs : SqL K H a xs ∨ SqT K H a xs) (h : P a xs) : ∃ p ys, [V.ref a] = [.ref p] ∧ (SqL K H p ys ∨ SqT K H p ys) ∧ P p ys := ⟨a, xs, rfl, hs, h⟩
theorem x_lenS {P : Str → Prop} {i : Str} (l : i.length ≤ sizeLine) (h : P i) : ∃ i', [V.str i] = [.str i'] ∧ i'.length ≤ sizeLine ∧ P i' := ⟨i, rfl, l, h⟩
theorem x_isD2 {kvs : List (Key × V)} {P : Prop} (hd : H a = some (.dK kvs)) (h : P) : IsD H a ∧ P := ⟨.inl ⟨kvs, .inl hd⟩, h⟩
theorem x_getI {P : Option V → Prop} {kvs : List (Key × V)} {n : Int} (hd : H a = some (.dK kvs)) (h : P (valV kvs (Sum.inl n))) : ∃ o, DGet H a (.int n) o ∧ P o := ⟨_, DGet.k (k := Sum.inl n) hd, h⟩
theorem x_getS {P : Option V → Prop} {kvs : List (Key × V)} {n : Str} (hd : H a = some (.dK kvs)) (h : P (valV kvs (Sum.inr n))) : ∃ o, DGet H a (.str n) o ∧ P o := ⟨_, DGet.k (k := Sum.inr n) hd, h⟩
theorem x_dgetS {P : V → Prop} {kvs : List (Key × V)} {n : Str} (hd : H a = some (.dK kvs)) (e : valV kvs (Sum.inr n) = some v) (h : P v) : ∃ a' v, V.ref a = .ref a' ∧ DGet H a' (.str n) (some v) ∧ P v := ⟨a, v, rfl, by rw [← e]; exact DGet.k (k := Sum.inr n) hd, h⟩
theorem x_getK {P : Option V → Prop} {kvs : List (Key × V)} (k : Key) (ek : kV k = y) (hd : H a = some (.dK kvs)) (h : P (valV kvs k)) : ∃ o, DGet H a y o ∧ P o := by
  subst ek; exact ⟨_, DGet.k hd, h⟩
theorem x_sDPut {td ty tv : TE} (h : tv σ H fun v H1 => td σ H1 fun x H2 => ty σ H2 fun y H3 => ∃ a H4, x = .ref a ∧ DPut H3 a y v H4 ∧ D.nx σ H4) : sDPut td ty tv D σ H := h
theorem x_putK {P : Hp → Prop} {kvs kvs' : List (Key × V)} (k : Key) (ek : kV k = y) (hd : H a = some (.dK kvs)) (l : kvs.length < sizeLine) (e : putK kvs k v = kvs') (h : P (upd H a (.dK kvs'))) : ∃ a' H4, V.ref a = .ref a' ∧ DPut H a' y v H4 ∧ P H4 := by
  subst ek; subst e; exact ⟨a, _, rfl, DPut.k hd l, h⟩
theorem x_dnew (h : ∀ p, H p = none → Q (.ref p) (upd H p (.dK []))) : tDNewK σ H Q := h
theorem x_disp {trs : List (TE × TE)} (h : ∀ p, H p = none → tPairs trs σ (upd H p (.dK [])) fun ps H2 => H2 p = some (.dK []) ∧ ∃ kvs : List (Key × V), ps = kvs.map (fun kv => (kV kv.1, kv.2)) ∧ kvs.length ≤ 15 ∧ Q (.ref p) (upd H2 p (.dK (mergeK [] kvs)))) : tDisp trs σ H Q := h
theorem x_pairs {tk tv : TE} {trs : List (TE × TE)} {QP : List (V × V) → Hp → Prop} (h : tk σ H fun x H1 => tv σ H1 fun y H2 => tPairs trs σ H2 fun ps H3 => QP ((x, y) :: ps) H3) : tPairs ((tk, tv) :: trs) σ H QP := h
theorem x_pairs0 {QP : List (V × V) → Hp → Prop} (h : QP [] H) : tPairs [] σ H QP := h
-- lists, texts
theorem x_lenL {P : Addr → List V → Prop} (hs : SqL K H a xs ∨ SqT K H a xs) (h : P a xs) : ∃ p ys, [V.ref a] = [.ref p] ∧ (SqL K H p ys ∨ SqT K H p ys) ∧ P p ys := ⟨a, xs, rfl, hs, h⟩
theorem x_ixT (hs : SqT K H a xs) (e : atI xs i = some v) (h : Q v H) : rIxT K (.ref a) (.int i) H Q := ⟨a, xs, i, v, rfl, rfl, hs, e, h⟩
-- loops
theorem x_for {wi : TI} {g : TG} {tb : TS} (h : wi σ H fun J H1 => ∃ W : Nat → Nat → L2.St → Hp → Prop, (∃ m, W 0 m σ H1) ∧ ∀ i m σ H, W i m σ H →
      (J.stop i H ∧ D.nx σ H) ∨ (J.go i H ∧ ∃ N : L2.St → Hp → Prop, (∀ σ' H', N σ' H' → ∃ m', m' < m ∧ W (i + 1) m' σ' H') ∧ ∀ x H', J.yld i H x H' → g x σ H' fun σ2 H2 => tb { D with nx := N, ct := N, bk := D.nx } σ2 H2)) : tFor wi g tb D σ H := h
end
end WD
namespace WD
open PySem PySem.Spec PyProof.Rows L2
section
variable {σ : L2.St} {H : Hp} {Q : VK} {te : TE} {K : PySem.W.Frag} {a : Addr} {xs : List V} {QO : Option Int → Hp → Prop} {tl th : TO} {i : Int}
theorem x_sl {sl : V → Option Int → Option Int → Hp → VK → Prop} (h : te σ H fun x H1 => tl σ H1 fun l H2 => th σ H2 fun u H3 => sl x l u H3 Q) : tSl sl te tl th σ H Q := h
theorem x_noPart (h : QO none H) : tNoPart σ H QO := h
theorem x_part (h : te σ H fun x H1 => ∃ i, x = .int i ∧ QO (some i) H1) : tPart te σ H QO := h
theorem x_partI (h : QO (some i) H) : ∃ j, V.int i = .int j ∧ QO (some j) H := ⟨i, rfl, h⟩
theorem x_slL {lo hi : Option Int} {ys : List V} (hs : SqL K H a xs) (e : cutV xs lo hi = ys) (h : ∀ p, H p = none → Q (.ref p) (upd H p (.lst ys))) : rSlL K (.ref a) lo hi H Q := by subst e; exact ⟨a, xs, rfl, hs, h⟩
theorem cut_tail (y : V) (r : List V) : cutV (y :: r) (some 1) none = r := by
  simp [cutV, HT.sIx]
theorem cut_tail0 : cutV [] (some 1) none = [] := rfl
end
end WD

set_option Elab.async false
set_option linter.all false
set_option maxRecDepth 100000
set_option maxHeartbeats 1000000
namespace WD
open PySem PySem.Spec PyProof.Rows L2
/-! attributes by their names, dicts by written keys -/
section
variable {f g : Str} {v x : V} {r r' : List (Str × V)} {o : Option V}
theorem lk_hd : List.lookup f ((f, v) :: r) = some v := by simp [List.lookup]
theorem lk_tl (n : (f == g) = false) (h : List.lookup f r = o) : List.lookup f ((g, x) :: r) = o := by simp only [List.lookup, n]; exact h
theorem lk_nil : List.lookup f ([] : List (Str × V)) = none := rfl
theorem pf_hd : putF f v ((f, x) :: r) = (f, v) :: r := by simp [putF]
theorem pf_tl (n : (g == f) = false) (h : putF f v r = r') : putF f v ((g, x) :: r) = (g, x) :: r' := by
  have : ¬ g = f := by simpa using n
  simp only [putF, if_neg this, h]
theorem pf_nil : putF f v [] = [(f, v)] := rfl
end
section
variable {k j : Key} {v x : V} {r r' : List (Key × V)} {o : Option V}
theorem vl_hd : valV ((k, v) :: r) k = some v := by simp [valV]
theorem vl_tl (n : decide (j = k) = false) (h : valV r k = o) : valV ((j, x) :: r) k = o := by
  have : ¬ j = k := by simpa using n
  simp only [valV, List.find?_cons, decide_eq_false this] at *
  exact h
theorem vl_nil : valV ([] : List (Key × V)) k = none := rfl
theorem pk_hd (n : (r.all fun kv => !decide (kv.1 = k)) = true) : putK ((k, x) :: r) k v = (k, v) :: r := by
  have e : r.map (fun kv => if kv.1 = k then (kv.1, v) else kv) = r := by
    have h : ∀ kv ∈ r, (if kv.1 = k then (kv.1, v) else kv) = kv := by
      intro kv hk
      have := List.all_eq_true.mp n kv hk
      simp at this
      rw [if_neg this]
    rw [List.map_congr_left h, List.map_id']
  simp [putK, e]
theorem pk_tl (n : decide (j = k) = false) (t : (r.any fun kv => decide (kv.1 = k)) = true) (h : putK r k v = r') : putK ((j, x) :: r) k v = (j, x) :: r' := by
  have nn : ¬ j = k := by simpa using n
  rw [← h]
  unfold putK
  rw [if_pos t, if_pos (by rw [List.any_cons, t, Bool.or_true]), List.map_cons, if_neg nn]
end
theorem merge_gen : ∀ (kvs acc : List (Key × V)), ((acc ++ kvs).map (·.1)).Nodup → mergeK acc kvs = acc ++ kvs
  | [], acc, _ => by simp [mergeK]
  | (k, v) :: r, acc, h => by
    have nk : (acc.any fun kv => decide (kv.1 = k)) = false := by
      rw [List.any_eq_false]
      intro kv hk
      simp only [decide_eq_true_eq]
      intro e
      rw [List.map_append, List.nodup_append] at h
      exact h.2.2 kv.1 (List.mem_map_of_mem hk) k (by simp) e
    have st : mergeK acc ((k, v) :: r) = mergeK (acc ++ [(k, v)]) r := by
      show mergeK (putK acc k v) r = _
      unfold putK
      rw [nk, if_neg Bool.false_ne_true]
    rw [st, merge_gen r (acc ++ [(k, v)]) (by simpa using h)]
    simp
theorem mergeK_nil {kvs : List (Key × V)} (h : (kvs.map (·.1)).Nodup) : mergeK [] kvs = kvs := by simpa using merge_gen kvs [] (by simpa using h)
section
variable {H : Hp} {Q : VK} {p : Addr} {kvs : List (Key × V)}
theorem x_dispEnd {ps : List (V × V)} (h0 : H p = some (.dK [])) (e : ps = kvs.map (fun kv => (kV kv.1, kv.2))) (l : kvs.length ≤ 15) (nd : (kvs.map (·.1)).Nodup) (h : Q (.ref p) (upd H p (.dK kvs))) :
    H p = some (.dK []) ∧ ∃ kvs : List (Key × V), ps = kvs.map (fun kv => (kV kv.1, kv.2)) ∧ kvs.length ≤ 15 ∧ Q (.ref p) (upd H p (.dK (mergeK [] kvs))) := ⟨h0, kvs, e, l, by rw [mergeK_nil nd]; exact h⟩
end
end WD

set_option Elab.async false
set_option linter.all false
set_option maxRecDepth 100000
set_option maxHeartbeats 1000000
namespace WD
open PySem PySem.Spec PyProof.Rows L2
/-! a text times a number -/
def rep (z : Str) (n : Nat) : Str := ⟨(List.replicate n z.cps).foldl (· ++ ·) #[]⟩
theorem foldl_sz : ∀ (n : Nat) (c acc : Array Nat), ((List.replicate n c).foldl (· ++ ·) acc).size = acc.size + n * c.size
  | 0, c, acc => by simp
  | n + 1, c, acc => by
    rw [List.replicate_succ, List.foldl_cons, foldl_sz n c, Array.size_append, Nat.succ_mul]; omega
theorem rep_len (z : Str) (n : Nat) : (rep z n).length = n * z.length := by
  show ((List.replicate n z.cps).foldl (· ++ ·) #[]).size = _
  rw [foldl_sz]; simp [Str.length]
theorem foldl_all (p : Nat → Bool) : ∀ (n : Nat) (c acc : Array Nat), c.all p = true → acc.all p = true → ((List.replicate n c).foldl (· ++ ·) acc).all p = true
  | 0, c, acc, _, h => by simpa using h
  | n + 1, c, acc, hc, h => by
    rw [List.replicate_succ, List.foldl_cons]
    exact foldl_all p n c _ hc (by rw [Array.all_append, h, hc]; rfl)
theorem strOk_rep {z : Str} {n : Nat} (h : PyData.strOk z = true) : PyData.strOk (rep z n) = true := foldl_all _ n z.cps #[] h (by simp)
theorem strOk_add {x y : Str} (h : PyData.strOk x = true) (h2 : PyData.strOk y = true) : PyData.strOk (x ++ y) = true := by
  show (x.cps ++ y.cps).all _ = true
  rw [Array.all_append]
  unfold PyData.strOk at h h2
  rw [h, h2]; rfl
theorem len_add (x y : Str) : (x ++ y).length = x.length + y.length := by
  show (x.cps ++ y.cps).size = _
  rw [Array.size_append]; rfl
section
variable {X : Cx}
theorem op_strmul : OpR X (binaryOp .Mult) (fun x y H Q => ∃ z k, x = .str z ∧ y = .int k ∧ (0 ≤ k ∧ k ≤ 1000 ∧ z.length ≤ 1000) ∧ Q (.str (rep z k.toNat)) H) := by
  intro pins s σ H x y v u Q I rx ry h
  obtain ⟨z, k, rfl, rfl, ⟨h0, h1, hl⟩, q⟩ := h
  obtain ⟨t, rfl⟩ := rx
  obtain ⟨t', rfl⟩ := ry
  have big : z.length * k.toNat ≤ sizeLine := by
    have : z.length * k.toNat ≤ 1000 * 1000 := Nat.mul_le_mul hl (by omega)
    have e := sizeLine_eq
    omega
  have lrep : (rep z k.toNat).length ≤ sizeLine := by rw [rep_len, Nat.mul_comm]; exact big
  refine PySem.P.mul_str ?_ ?_ ?_ ?_
  · rw [decide_eq_false (by omega), decide_eq_false (by omega)]; rfl
  · intro hk _
    have hpos : 0 < k := by omega
    have : (1000 : Int) * k ≤ 2 ^ 63 - 1 := by omega
    have d : (1000 : Int) ≤ (2 ^ 63 - 1) / k := (Int.le_ediv_iff_mul_le hpos).mpr this
    omega
  · intro _ _
    exact decide_eq_false (by omega)
  · by_cases c : k < 1
    · rw [if_pos c]
      have e : k.toNat = 0 := by omega
      rw [e] at q
      exact ⟨by decide, .str (rep z 0), H, I.tok _, ⟨_, rfl⟩, q⟩
    · rw [if_neg c]
      by_cases c2 : (k == 1 || z.length == 0) = true
      · rw [if_pos c2]
        have e : rep z k.toNat = z := by
          rw [Bool.or_eq_true] at c2
          rcases c2 with c2 | c2
          · have : k = 1 := by simpa using c2
            rw [this]
            show (⟨(List.replicate 1 z.cps).foldl (· ++ ·) #[]⟩ : Str) = z
            simp
          · have zl : z.cps.size = 0 := by simpa [Str.length] using c2
            have zn : z.cps = #[] := Array.eq_empty_of_size_eq_zero zl
            have r0 : (rep z k.toNat).cps.size = 0 := by
              have := rep_len z k.toNat
              simp only [Str.length] at this
              rw [this, zl]; simp
            have rn := Array.eq_empty_of_size_eq_zero r0
            cases z with
            | mk c =>
              have e1 : c = #[] := zn
              show (⟨(List.replicate k.toNat c).foldl (· ++ ·) #[]⟩ : Str) = ⟨c⟩
              have : (List.replicate k.toNat c).foldl (· ++ ·) #[] = #[] := rn
              rw [this, e1]
        rw [e] at q
        exact ⟨.str z, H, I, ⟨t, rfl⟩, q⟩
      · rw [if_neg c2]
        exact ⟨lrep, .str _, H, I.tok _, ⟨_, rfl⟩, q⟩
end
section
variable {H : Hp} {Q : VK} {a p : Addr} {K : PySem.W.Frag} {v : V} {xs : List V}
theorem x_strmul {P : Str → Int → Prop} {z : Str} {k : Int} (c : 0 ≤ k ∧ k ≤ 1000 ∧ z.length ≤ 1000) (h : P z k) : ∃ z' k', V.str z = .str z' ∧ V.int k = .int k' ∧ (0 ≤ k' ∧ k' ≤ 1000 ∧ z'.length ≤ 1000) ∧ P z' k' := ⟨z, k, rfl, rfl, c, h⟩
theorem at_mem {i : Int} {n : Int} (h0 : 0 ≤ i) (h1 : i < n) (hn : n = xs.length) : ∃ v, atI xs i = some v ∧ v ∈ xs := by
  have hl : i.toNat < xs.length := by omega
  refine ⟨xs[i.toNat], ?_, List.getElem_mem hl⟩
  unfold atI ixN
  rw [if_pos h0, if_pos (by omega)]
  simp [hl]
/-- an item of a written list at a drawn place -/
theorem x_ixMem {i n : Int} (hs : SqL K H a xs) (h0 : 0 ≤ i) (h1 : i < n) (hn : n = xs.length) (h : ∀ v, v ∈ xs → Q v H) : rIxL K (.ref a) (.int i) H Q := by
  obtain ⟨v, e, m⟩ := at_mem h0 h1 hn
  exact ⟨a, xs, i, v, rfl, rfl, hs, e, h v m⟩
theorem x_setD {QH : Hp → Prop} {kvs kvs' : List (Key × V)} {n : Str} (hd : H a = some (.dK kvs)) (l : kvs.length < sizeLine) (e : putK kvs (Sum.inr n) v = kvs') (h : QH (upd H a (.dK kvs'))) : rSetD (.ref a) (.str n) v H QH := by
  subst e; exact ⟨a, _, rfl, DPut.k (k := Sum.inr n) hd l, h⟩
theorem x_putS {P : Hp → Prop} {kvs kvs' : List (Key × V)} {n : Str} (hd : H a = some (.dK kvs)) (l : kvs.length < sizeLine) (e : putK kvs (Sum.inr n) v = kvs') (h : P (upd H a (.dK kvs'))) : ∃ a' H4, V.ref a = .ref a' ∧ DPut H a' (.str n) v H4 ∧ P H4 := by
  subst e; exact ⟨a, _, rfl, DPut.k (k := Sum.inr n) hd l, h⟩
theorem x_putI {P : Hp → Prop} {kvs : List (Key × V)} {n : Int} (hd : H a = some (.dK kvs)) (l : kvs.length < sizeLine) (h : P (upd H a (.dK (putK kvs (Sum.inl n) v)))) : ∃ a' H4, V.ref a = .ref a' ∧ DPut H a' (.int n) v H4 ∧ P H4 := ⟨a, _, rfl, DPut.k (k := Sum.inl n) hd l, h⟩
theorem x_rowN {Wo : WX} {D : Ends} {c cl : Value} {i : Nat} {ts : Addr → Value → Option Addr → TS} {r : List Cls1} {τ : L2.St} {dd : Option Addr} {G : Hp} (e : PySem.W.exmOne K cl c = some true)
    (h : ∀ a, G a = none → ts a cl dd ⟨fun τ G => D.nx (τ.set i none) G, D.rt, fun τ G => D.bk (τ.set i none) G, fun τ G => D.ct (τ.set i none) G⟩ (τ.set i (some (.ref a))) G) : WE (wRow K Wo D (⟨c, some i, ts⟩ :: r)) τ cl dd G :=
  ⟨true, e, fun _ => h, fun z => nomatch z⟩
theorem x_rowF {Wo : WX} {D : Ends} {z : Cls1} {cl : Value} {r : List Cls1} {τ : L2.St} {dd : Option Addr} {G : Hp} (e : PySem.W.exmOne K cl z.c = some false) (h : WE (wRow K Wo D r) τ cl dd G) : WE (wRow K Wo D (z :: r)) τ cl dd G :=
  ⟨false, e, (fun z => nomatch z), fun _ => h⟩
theorem x_xw {cl : Value} {dd : Option Addr} {f : Str} {te : TE} {σ : L2.St} (h : te σ H fun x H1 => x = .ref a ∧ ∃ (C d : Addr) (fs : List (Str × V)) (v : V), cl = .ref C ∧ XfC K C ∧ PySem.W.findIn K (.ref C) f = some none ∧
  dd = some d ∧ H1 d = some (.xd fs) ∧ fs.lookup f = some v ∧ Q v H1) : tXw K a cl dd f te σ H Q := h
theorem x_xwR {mg : Str → Option Value} {nm : Str} {C fI d : Addr} {P : V → Prop} (T : ExT K mg nm C fI) (hd : H d = some (.xd [(("what" : Str), v)])) (h : P v) : V.ref a = .ref a ∧ ∃ (C' d' : Addr) (fs : List (Str × V)) (v : V), Value.ref C = .ref C' ∧ XfC K C' ∧ PySem.W.findIn K (.ref C') "what" = some none ∧
  some d = some d' ∧ H d' = some (.xd fs) ∧ fs.lookup ("what" : Str) = some v ∧ P v := ⟨rfl, C, d, _, v, rfl, T.xf, T.nw, rfl, hd, lk_hd, h⟩
theorem x_isXR {c : V} {cv : Value} {C d : Addr} {b : Bool} {fs : List (Str × V)} (k : ClsV c cv) (X : ExcC K C) (hd : H d = some (.xd fs)) (e : PySem.W.kitOne K (.ref C) cv = some b) (h : Q (.bl b) H) : rIsX K a (.ref C) (some d) [.ref a, c] H Q :=
  ⟨c, cv, C, d, fs, b, rfl, k, rfl, rfl, X, hd, e, h⟩
theorem x_tupleOfL (hs : SqL K H a xs) {P : Addr → List V → Prop} {P2 : Addr → List V → Prop} (h : P a xs) : ∃ p ys, [V.ref a] = [.ref p] ∧ ((SqL K H p ys ∧ P p ys) ∨ P2 p ys) := ⟨a, xs, rfl, .inl ⟨hs, h⟩⟩
end
end WD

set_option Elab.async false
set_option linter.all false
set_option maxRecDepth 100000
set_option maxHeartbeats 1000000
namespace WD
open PySem PySem.Spec PyProof.Rows L2
/-! loops, comprehensions: how their readings open -/
section
variable {σ : L2.St} {H : Hp} {Q : VK} {D : Ends} {v x y : V} {K : PySem.W.Frag} {ta tb te tl : TE} {t u : TS} {tt : TT} {ts : TA} {a p : Addr} {xs : List V} {i j : Int} {n : Nat} {R : It → Hp → Prop} {wi : TI} {g : TG} {vs : List Nat}
theorem x_rng1 (h : ts σ H fun vs H1 => ∃ j : Int, vs = [.int j] ∧ -(2 ^ 62) ≤ j ∧ j < 2 ^ 62 ∧ R (Itr 0 j.toNat) H1) : iRng1 ts σ H R := h
theorem x_rng2 (h : ts σ H fun vs H1 => ∃ i j : Int, vs = [.int i, .int j] ∧ (-(2 ^ 62) ≤ i ∧ i < 2 ^ 62 ∧ -(2 ^ 62) ≤ j ∧ j < 2 ^ 62) ∧ R (Itr i (j - i).toNat) H1) : iRng2 ts σ H R := h
theorem x_rng1I {j : Int} {P : It → Prop} (h1 : -(2 ^ 62) ≤ j ∧ j < 2 ^ 62) (h : P (Itr 0 j.toNat)) : ∃ j' : Int, [V.int j] = [.int j'] ∧ -(2 ^ 62) ≤ j' ∧ j' < 2 ^ 62 ∧ P (Itr 0 j'.toNat) := ⟨j, rfl, h1.1, h1.2, h⟩
theorem x_rng2I {i j : Int} {P : It → Prop} (h1 : -(2 ^ 62) ≤ i ∧ i < 2 ^ 62 ∧ -(2 ^ 62) ≤ j ∧ j < 2 ^ 62) (h : P (Itr i (j - i).toNat)) : ∃ i' j' : Int, [V.int i, V.int j] = [.int i', .int j'] ∧ (-(2 ^ 62) ≤ i' ∧ i' < 2 ^ 62 ∧ -(2 ^ 62) ≤ j' ∧ j' < 2 ^ 62) ∧ P (Itr i' (j' - i').toNat) := ⟨i, j, rfl, h1, h⟩
def qList (K : PySem.W.Frag) (R : It → Hp → Prop) : VK := fun x H1 => ∃ a, x = .ref a ∧ (∃ xs, SqL K H1 a xs) ∧ R (Itl K a) H1
def qTup (K : PySem.W.Frag) (R : It → Hp → Prop) : VK := fun x H1 => ∃ a, x = .ref a ∧ (∃ xs, SqT K H1 a xs) ∧ R (Itt K a) H1
theorem x_iList (h : tl σ H (qList K R)) : iList K tl σ H R := h
theorem x_iTup (h : tl σ H (qTup K R)) : iTup K tl σ H R := h
theorem x_itL (hs : SqL K H a xs) (h : R (Itl K a) H) : qList K R (.ref a) H := ⟨a, rfl, ⟨xs, hs⟩, h⟩
theorem x_itT (hs : SqT K H a xs) (h : R (Itt K a) H) : qTup K R (.ref a) H := ⟨a, rfl, ⟨xs, hs⟩, h⟩
def rSortDI : List V → Hp → VK → Prop := fun xs H Q => ∃ (a : Addr) (kvs : List (Key × V)) (ks : List Int), xs = [.ref a] ∧ Rd H a (.dK kvs) ∧ kvs.map (·.1) = ks.map Sum.inl ∧ ks.length < 64 ∧
    ∀ (ys : List Int) (p : Addr), ys.Perm ks → ys.Pairwise (· ≤ ·) → H p = none → Q (.ref p) (upd H p (.lst (ys.map V.int)))
theorem call_sortDI {X : Cx} (h : X.calm = true) : CallR X (.builtin "sorted") rSortDI := call_sortedDI h
theorem x_sortDI {kvs : List (Key × V)} {ks : List Int} (hd : H a = some (.dK kvs)) (hk : kvs.map (·.1) = ks.map Sum.inl) (h64 : ks.length < 64) (h : ∀ ys : List Int, ys.Perm ks → ys.Pairwise (· ≤ ·) → ∀ p, H p = none → Q (.ref p) (upd H p (.lst (ys.map V.int)))) :
    rSortDI [.ref a] H Q := ⟨a, kvs, ks, rfl, .inl hd, hk, h64, fun ys p p1 p2 p3 => h ys p1 p2 p p3⟩
theorem x_par {i j : Nat} (h : ta σ H fun x H1 => tb σ H1 fun y H2 => gName i x σ H2 fun σ1 H3 => gName j y σ1 H3 D.nx) : tPar i j (tCons ta (tCons tb tNil)) D σ H := by
  show ta σ H fun x H1 => tb σ H1 fun y H2 => ∃ v w, [x, y] = [v, w] ∧ D.nx ((σ.set i (some v)).set j (some w)) H2
  have e : (fun x H1 => tb σ H1 fun y H2 => ∃ v w, [x, y] = [v, w] ∧ D.nx ((σ.set i (some v)).set j (some w)) H2) = fun x H1 => tb σ H1 fun y H2 => gName i x σ H2 fun σ1 H3 => gName j y σ1 H3 D.nx := by
    funext x H1
    congr 1
    funext y H2
    apply propext
    constructor
    · rintro ⟨v, w, e, q⟩
      cases e
      exact q
    · intro q
      exact ⟨x, y, rfl, q⟩
  rw [e]
  exact h
theorem x_lc (h : wi σ H fun J H1 => ∀ D, H1 D = none → ∃ W : Nat → Nat → Hp → Prop, (∃ m, W 0 m (upd H1 D (.lst []))) ∧ ∀ i m H, W i m H →
  (J.stop i H ∧ Q (.ref D) H) ∨ (J.go i H ∧ ∃ Nx : Hp → Prop, (∀ H', Nx H' → ∃ m', m' < m ∧ W (i + 1) m' H') ∧ ∀ x H', J.yld i H x H' → g x (wipe σ vs) H' fun σ2 H2 => wipe σ2 vs = wipe σ vs ∧ tt σ2 H2 fun b H3 =>
    if b = true then te σ2 H3 fun y H4 => ∃ acc, H4 D = some (.lst acc) ∧ acc.length < sizeLine ∧ Nx (upd H4 D (.lst (acc ++ [y]))) else Nx H3)) : tLc wi g tt te vs σ H Q := h
theorem x_cat {ys : List V} (h1 : SqL K H a xs) (h2 : SqL K H p ys) (l : xs.length + ys.length ≤ sizeLine) {P : Prop} (h : P) : SqL K H a xs ∧ SqL K H p ys ∧ xs.length + ys.length ≤ sizeLine ∧ P := ⟨h1, h2, l, h⟩
theorem x_catL {ys : List V} (h1 : H a = some (.lst xs)) (h2 : H p = some (.lst ys)) (l : xs.length + ys.length ≤ sizeLine) (h : ∀ q, H q = none → Q (.ref q) (upd H q (.lst (xs ++ ys)))) : rCat (.ref a) (.ref p) H Q := ⟨a, p, xs, ys, rfl, rfl, h1, h2, l, h⟩
theorem x_gNameS {m : Nat} {σ1 σ2 : L2.St} {QS : L2.St → Hp → Prop} (e1 : σ.set m none = σ1) (e : σ1.set n (some v) = σ2) (h : QS σ2 H) : gName n v (σ.set m none) H QS := by subst e1; subst e; exact h
theorem x_yes {QB : Bool → Hp → Prop} (h : QB true H) : tYes σ H QB := h
theorem x_neD2 {d e : PyData} (h1 : Dp K H x d) (h2 : Dp K H y e) (s1 : SeqAt.shaped d = true) (s2 : SeqAt.shaped e = true) (ne : PyData.eqv d e = true) (h : Q (.bl false) H) : rNeD K x y H Q := ⟨d, e, h1, h2, s1, s2, by rw [ne]; exact h⟩
theorem x_eqD2 {d e : PyData} (h1 : Dp K H x d) (h2 : Dp K H y e) (s1 : SeqAt.shaped d = true) (s2 : SeqAt.shaped e = true) (ne : PyData.eqv d e = true) (h : Q (.bl true) H) : rEqD K x y H Q := ⟨d, e, h1, h2, s1, s2, by rw [ne]; exact h⟩
end
section
variable {K : PySem.W.Frag} {a : Addr} {xs : List V} {g : TG} {tt : TT} {te : TE} {vs : List Nat} {σ σw : L2.St} {H1 : Hp} {D : Addr} {Qd : Hp → Prop}
theorem lc_listW (ew : wipe σ vs = σw) (Pv : Nat → Hp → Prop) (h0 : Pv 0 (upd H1 D (.lst []))) (hl : ∀ i H, i ≤ xs.length → Pv i H → SqL K H a xs)
    (hs : ∀ i x H, xs[i]? = some x → Pv i H → g x σw H fun σ2 H2 => wipe σ2 vs = σw ∧ tt σ2 H2 fun b H3 =>
      if b = true then te σ2 H3 fun y H4 => ∃ acc, H4 D = some (.lst acc) ∧ acc.length < sizeLine ∧ Pv (i + 1) (upd H4 D (.lst (acc ++ [y]))) else Pv (i + 1) H3) (hd : ∀ H, Pv xs.length H → Qd H) :
    ∃ W : Nat → Nat → Hp → Prop, (∃ m, W 0 m (upd H1 D (.lst []))) ∧ ∀ i m H, W i m H →
      ((Itl K a).stop i H ∧ Qd H) ∨ ((Itl K a).go i H ∧ ∃ Nx : Hp → Prop, (∀ H', Nx H' → ∃ m', m' < m ∧ W (i + 1) m' H') ∧ ∀ x H', (Itl K a).yld i H x H' → g x (wipe σ vs) H' fun σ2 H2 => wipe σ2 vs = wipe σ vs ∧ tt σ2 H2 fun b H3 =>
        if b = true then te σ2 H3 fun y H4 => ∃ acc, H4 D = some (.lst acc) ∧ acc.length < sizeLine ∧ Nx (upd H4 D (.lst (acc ++ [y]))) else Nx H3) := by
  subst ew; exact lc_list Pv h0 hl hs hd
theorem lc_tupW (ew : wipe σ vs = σw) (Pv : Nat → Hp → Prop) (h0 : Pv 0 (upd H1 D (.lst []))) (hl : ∀ i H, i ≤ xs.length → Pv i H → SqT K H a xs)
    (hs : ∀ i x H, xs[i]? = some x → Pv i H → g x σw H fun σ2 H2 => wipe σ2 vs = σw ∧ tt σ2 H2 fun b H3 =>
      if b = true then te σ2 H3 fun y H4 => ∃ acc, H4 D = some (.lst acc) ∧ acc.length < sizeLine ∧ Pv (i + 1) (upd H4 D (.lst (acc ++ [y]))) else Pv (i + 1) H3) (hd : ∀ H, Pv xs.length H → Qd H) :
    ∃ W : Nat → Nat → Hp → Prop, (∃ m, W 0 m (upd H1 D (.lst []))) ∧ ∀ i m H, W i m H →
      ((Itt K a).stop i H ∧ Qd H) ∨ ((Itt K a).go i H ∧ ∃ Nx : Hp → Prop, (∀ H', Nx H' → ∃ m', m' < m ∧ W (i + 1) m' H') ∧ ∀ x H', (Itt K a).yld i H x H' → g x (wipe σ vs) H' fun σ2 H2 => wipe σ2 vs = wipe σ vs ∧ tt σ2 H2 fun b H3 =>
        if b = true then te σ2 H3 fun y H4 => ∃ acc, H4 D = some (.lst acc) ∧ acc.length < sizeLine ∧ Nx (upd H4 D (.lst (acc ++ [y]))) else Nx H3) := by
  subst ew; exact lc_tup Pv h0 hl hs hd
theorem lc_rangeW {lo : Int} {n : Nat} (ew : wipe σ vs = σw) (Pv : Nat → Hp → Prop) (h0 : Pv 0 (upd H1 D (.lst [])))
    (hs : ∀ i H, i < n → Pv i H → g (.int (lo + i)) σw H fun σ2 H2 => wipe σ2 vs = σw ∧ tt σ2 H2 fun b H3 =>
      if b = true then te σ2 H3 fun y H4 => ∃ acc, H4 D = some (.lst acc) ∧ acc.length < sizeLine ∧ Pv (i + 1) (upd H4 D (.lst (acc ++ [y]))) else Pv (i + 1) H3) (hd : ∀ H, Pv n H → Qd H) :
    ∃ W : Nat → Nat → Hp → Prop, (∃ m, W 0 m (upd H1 D (.lst []))) ∧ ∀ i m H, W i m H →
      ((Itr lo n).stop i H ∧ Qd H) ∨ ((Itr lo n).go i H ∧ ∃ Nx : Hp → Prop, (∀ H', Nx H' → ∃ m', m' < m ∧ W (i + 1) m' H') ∧ ∀ x H', (Itr lo n).yld i H x H' → g x (wipe σ vs) H' fun σ2 H2 => wipe σ2 vs = wipe σ vs ∧ tt σ2 H2 fun b H3 =>
        if b = true then te σ2 H3 fun y H4 => ∃ acc, H4 D = some (.lst acc) ∧ acc.length < sizeLine ∧ Nx (upd H4 D (.lst (acc ++ [y]))) else Nx H3) := by
  subst ew; exact lc_range Pv h0 hs hd
end
theorem shapedInts (ns : List Int) : SeqAt.shaped (.tuple (ns.map PyData.int)) = true := by
  unfold SeqAt.shaped
  rw [Bool.and_eq_true]
  exact ⟨canInts ns, decide_eq_true (by have := depthInts ns; show PyData.depthAll _ + 1 ≤ 64; omega)⟩
theorem shapedIntsL (ns : List Int) : SeqAt.shaped (.list (ns.map PyData.int)) = true := by
  unfold SeqAt.shaped
  rw [Bool.and_eq_true]
  exact ⟨canInts ns, decide_eq_true (by have := depthInts ns; show PyData.depthAll _ + 1 ≤ 64; omega)⟩
theorem eqvSelf {d : PyData} (h : SeqAt.shaped d = true) : PyData.eqv d d = true := by
  unfold SeqAt.shaped at h
  rw [Bool.and_eq_true] at h
  exact SeqAt.eqv_refl d h.1
/-- two sorted lists of the same ints are one -/
theorem sorted_one {ks ys zs : List Int} (p1 : ys.Perm ks) (s1 : ys.Pairwise (· ≤ ·)) (p2 : zs.Perm ks) (s2 : zs.Pairwise (· ≤ ·)) : ys = zs := by
  have pm := p1.trans p2.symm
  clear p1 p2
  induction ys generalizing zs with
  | nil => exact (List.nil_perm.mp pm).symm
  | cons a r ih =>
    cases zs with
    | nil => exact absurd pm (by simp)
    | cons b q =>
      have ha : a ∈ b :: q := pm.subset List.mem_cons_self
      have hb : b ∈ a :: r := pm.symm.subset List.mem_cons_self
      rw [List.pairwise_cons] at s1 s2
      have h1 : a ≤ b := by
        rcases List.mem_cons.mp hb with e | m
        · omega
        · exact s1.1 b m
      have h2 : b ≤ a := by
        rcases List.mem_cons.mp ha with e | m
        · omega
        · exact s2.1 a m
      have e : a = b := by omega
      subst e
      rw [ih s1.2 s2.2 (List.Perm.cons_inv pm)]
end WD

set_option Elab.async false
set_option linter.all false
set_option maxRecDepth 100000
set_option maxHeartbeats 1000000
namespace WD
open PySem PySem.Spec PyProof.Rows L2
/-! the end: facts of the top as Bools of the written part -/
theorem fun_of {K : PySem.W.Frag} {x qual : Str} {st : Stmt} {f : Addr} {fd : FuncData} (F : FunD K x qual (defArgs st) (defBody st) (defScope st) [] [] f fd) : Fun K x qual st f fd := by
  obtain ⟨oc, od, dV, kV, doc, pm, an, cdv, ct, osl, e, lk, hcd, hD, _⟩ := F.ex
  rcases hD with ⟨_, rfl⟩ | ⟨z, _⟩
  · exact ⟨⟨oc, od, kV, doc, pm, an, cdv, ct, osl, e, lk, hcd⟩, F.kp⟩
  · exact absurd rfl z
/-- a def with defaults, all arguments written -/
theorem binds_full {K : PySem.W.Frag} {x qual : Str} {params : Arguments} {body : List Stmt} {scope : Scope} {dvs : List V} {f : Addr} {fd : FuncData} {ps : List Str} (F : FunD K x qual params body scope dvs [] f fd) (hd : dvs ≠ []) (h0 : dvs.drop dvs.length = [])
    (h : ∀ (T : Addr) (kV doc pm : Value) (an : Option Addr) (cdv ct : Value) (us its : List Value), us.length = ps.length → its.length = dvs.length →
      ∃ k, bindArgs (PySem.W.fnOf x qual params body scope (.ref T) kV doc pm an cdv ct) ⟨us, []⟩ = seqItems? (.ref T) >>= k ∧ k (some its.toArray) = pure (ps.zip (us ++ its.drop dvs.length))) : Binds K fd ps [] := by
  obtain ⟨ds, r, b⟩ := F.binds1 ps.length dvs.length hd (by omega) h
  rw [h0] at r
  cases r
  exact b
/-- an own exception class over ValueError whose instances have a dict -/
def oexB (K : PySem.W.Frag) (C : Addr) : Bool := (match K.lookup C with
  | some ⟨.type "type", _, .cls cd, sl⟩ => (match cd.mro, sl.toList with
    | .ref C' :: bm, [_, _, _, _, some (.builtin n), _] => C' == C && n == "ValueError.__new__" && !cd.hasDel && cd.hasDict && PySem.HandSPX.refsVE bm
    | _, _ => false)
  | _ => false) && (decide (PySem.W.findIn K (.ref C) "__setattr__" = some (some (.builtin "object.__setattr__"))) && (decide (PySem.W.subIn K (.ref C) (.type "BaseException") = some true) &&
    (decide (PySem.W.typeIn K (.ref C) = some (.type "type")) && PySem.W.keepIn K (.ref C))))
theorem oexB_ok {K : PySem.W.Frag} {C : Addr} (h : oexB K C = true) : OexC K C := by
  unfold oexB at h
  simp only [Bool.and_eq_true, decide_eq_true_eq] at h
  obtain ⟨q, sa, eC, tC, kC⟩ := h
  refine ⟨?_, sa, eC, tC, kC⟩
  split at q
  · rename_i dd cd sl ho
    split at q
    · rename_i C' bm k0 k1 k2 k3 n k5 hm hs
      simp only [Bool.and_eq_true, beq_iff_eq, Bool.not_eq_true'] at q
      obtain ⟨⟨⟨⟨rfl, rfl⟩, hdel⟩, hdc⟩, hr⟩ := q
      obtain ⟨nm, bs, mro, ns, qn, hd, sn, sub, ab, col, del⟩ := cd
      dsimp only at hm hdel hdc
      subst hm hdel hdc
      have hsl : sl = #[k0, k1, k2, k3, some (.builtin "ValueError.__new__"), k5] := by
        obtain ⟨l⟩ := sl
        simp only at hs
        rw [hs]
      subst hsl
      exact ⟨nm, qn, ns, bs, bm, sn, sub, ab, col, dd, k0, k1, k2, k3, k5, ho, hr⟩
    · cases q
  · cases q
/-- isinstance and .what of such an instance -/
def excB (K : PySem.W.Frag) (C : Addr) : Bool := decide (PySem.W.findIn K (.ref C) "__getattribute__" = some (some (.builtin "BaseException.__getattribute__"))) && (decide (PySem.W.findIn K (.ref C) "__getattr__" = some none) &&
  (decide (PySem.W.subIn K (.ref C) (.type "BaseException") = some true) && (PySem.W.hasDictIn K C && (decide (PySem.W.findIn K (.ref C) "__class__" = some (some (.builtin "object.__class__"))) &&
  (decide (PySem.W.specialIn K (.builtin "object.__class__") "__get__" = some (some (.builtin "getset_descriptor.__get__"))) && (decide (PySem.W.takesIn K (.builtin "object.__class__") = some true) && decide (PySem.W.mroIn K C (.type "object") = some true)))))))
theorem excB_ok {K : PySem.W.Frag} {C : Addr} (h : excB K C = true) : ExcC K C := by
  unfold excB at h
  simp only [Bool.and_eq_true, decide_eq_true_eq] at h
  obtain ⟨h1, h2, h3, h4, h5, h6, h7, h8⟩ := h
  exact ⟨h1, h2, h3, h4, h5, h6, h7, h8⟩
/-- class x with the __init__ of class y (one attribute: what) -/
def extB (K : PySem.W.Frag) (x y : Str) : Bool := oexB K (He.ga K x) && (excB K (He.ga K x) && (decide (PySem.W.findIn K (.ref (He.ga K x)) "__init__" = some (some (.ref (He.ma K (He.ga K y) "__init__")))) && decide (PySem.W.findIn K (.ref (He.ga K x)) "what" = some none)))
theorem extB_ok {K : PySem.W.Frag} {mg : Str → Option Value} {x y : Str} (g : mg x = some (.ref (He.ga K x))) (h : extB K x y = true) : ExT K mg x (He.ga K x) (He.ma K (He.ga K y) "__init__") := by
  unfold extB at h
  simp only [Bool.and_eq_true, decide_eq_true_eq] at h
  obtain ⟨h1, h2, h3, h4⟩ := h
  exact ⟨g, oexB_ok h1, h3, excB_ok h2, h4⟩
end WD

set_option Elab.async false
set_option linter.all false
set_option maxRecDepth 100000
set_option maxHeartbeats 4000000
namespace WD
open PySem PySem.Spec PyProof.Rows L2
/-! enumerate(t), enumerate(t, start=k) over a tuple -/
/-- the tuple at a, each item in a new pair with its count -/
def IteT (K : PySem.W.Frag) (a : Addr) (c0 : Int) : It :=
  ⟨fun i H => ∃ (xs : List V) (x : V), SqT K H a xs ∧ xs[i]? = some x, fun i H v H' => ∃ T x, v = .ref T ∧ H T = none ∧ H' = upd H T (.tup [.int (c0 + (i : Nat)), x]) ∧ ∀ xs, SqT K H a xs → xs[i]? = some x, fun i H => ∃ xs : List V, SqT K H a xs ∧ xs.length ≤ i⟩
theorem turn_enumT {P : Program} {w : World} {K : PySem.W.Frag} {elts : List Expr} {kk : Nat} {tpos : Pos} (a e it : Addr) (c0 : Int) :
    Turn P w K (.Tuple elts kk tpos) (IteT K a c0) [e, it] e (fun i h => (∃ old, IsEnum h e it (c0 + ((i : Nat) : Int)) old) ∧ h.IsTupleIter it a i ∧ e ≠ it ∧ a ≠ it ∧ e ≠ a) where
  mem := by simp
  obj := fun i h st b hb => by
    obtain ⟨⟨old, he⟩, ⟨o, ho, hc, hd⟩, _⟩ := st
    have e' : b = e ∨ b = it := by simpa using hb
    rcases e' with z | z
    · rw [z]; exact ⟨_, he, fun v q => nomatch q⟩
    · rw [z]; exact ⟨o, ho, fun v q => by rw [hd] at q; cases q⟩
  keep := fun i h h' st k => by
    obtain ⟨⟨old, he⟩, hi, hne⟩ := st
    exact ⟨⟨old, k e (by simp) _ he⟩, hi.at fun o q => k it (by simp) o q, hne⟩
  item := by
    intro X hP hw hK hc i pins s σ H E I hf st hg
    subst hP hw hK
    obtain ⟨⟨old, he⟩, hit, hne, hat, hea⟩ := st
    obtain ⟨xs, x, hq, hx⟩ := hg
    obtain ⟨its, rv, p, hz⟩ := I.tuple hq
    obtain ⟨u, hu, ru⟩ := rv.get hx
    have hel : e < s.heap.objs.size := Heap.lt_size he
    have hil : it < s.heap.objs.size := by obtain ⟨_, q, _⟩ := hit; exact Heap.lt_size q
    have hlt : i < its.toArray.size := by
      rcases Nat.lt_or_ge i its.length with h | h
      · simpa using h
      · rw [List.getElem?_eq_none h] at hu; cases hu
    refine wpAny_pyNext_enum_itemC (Draws.tuple (A := X.A.in1) (show X.A.in1.handled = none from I.ok.hd hc) it a hat its.toArray) he ⟨hit, (show s.heap.IsTuple a its.toArray from p)⟩ hlt hne (by simp [hne, hea]) fun x' h' tk hP ho hst' hT hsz hk => ?_
    have hxu : x' = u := by
      have h2 : its.toArray[i]? = some u := by simpa using hu
      rw [h2] at hP
      exact (Option.some.inj hP).symm
    subst hxu
    obtain ⟨hit', _⟩ := hst'
    refine ⟨_, rfl, wpAny_letOwnedTupleGo_enum (s := { s with heap := h', toks := tk + 1 }) ho fun h'' he' sb => ?_⟩
    have hT2 : h''.get? s.heap.objs.size = some { cls := .type "tuple", data := .seq #[.int (c0 + (i : Int)) tk, x'] } := (sb.2 _ (Nat.ne_of_gt hel)).trans hT
    have new : ObjOk X.prog X.w (upd H s.heap.objs.size (.tup [.int (c0 + (i : Nat)), x])) h'' s.heap.objs.size (.tup [.int (c0 + (i : Nat)), x]) :=
      ⟨by show 2 ≤ sizeLine; decide, [.int (c0 + (i : Int)) tk, x'], .cons ⟨_, rfl⟩ (.cons ru .nil), ⟨_, hT2, rfl, _, rfl⟩⟩
    have I1 : Inv X pins σ (upd H s.heap.objs.size (.tup [.int (c0 + (i : Nat)), x])) { s with heap := h'', toks := tk + 1 } :=
      I.turnedNew (ch := [e, it]) (fun b ob hb q => (sb.2 b (fun z => hb (by simp [z]))).trans (hk b ob (fun z => hb (by simp [z])) (fun z => hb (by simp [z])) q)) hf (Nat.le_refl _) new
    refine ⟨.ref s.heap.objs.size, _, I1, rfl, ⟨_, x, rfl, I.hok.fresh (Nat.le_refl _), rfl, fun ys hy => by rw [I.tuple_inj hy hq]; exact hx⟩, ⟨⟨x', ?_⟩, hit'.at fun o q => (sb.2 it (Ne.symm hne)).trans q, hne, hat, hea⟩, fun b hb => ?_⟩
    · have e1 : c0 + ((i + 1 : Nat) : Int) = c0 + (i : Int) + 1 := by omega
      rw [e1]; exact he'
    · have hb' : b < s.heap.objs.size := by
        have e' : b = e ∨ b = it := by simpa using hb
        rcases e' with z | z
        · rw [z]; exact hel
        · rw [z]; exact hil
      rw [upd_ne (Nat.ne_of_lt hb')]
      exact (hf b hb).1
  done := by
    intro X hP hw hK hc i pins s σ H E I hf st hg
    subst hP hw hK
    obtain ⟨⟨old, he⟩, hit, hne, hat, hea⟩ := st
    obtain ⟨xs, hq, hx⟩ := hg
    obtain ⟨its, rv, p, hz⟩ := I.tuple hq
    obtain ⟨f0, f1, f2, f3, f4, f5⟩ := hf it (by simp)
    have hl := rv.length
    have D : Draws X.prog X.w X.A.in1 it [it, a] i (fun _ _ => True) (fun j h => j = i ∧ h.IsTupleIter it a j ∧ h.IsTuple a its.toArray) := {
      live := fun _ _ st => let ⟨o, ho, _⟩ := st.2.1; ⟨o, ho⟩
      frame := fun _ _ _ st hk => ⟨st.1, st.2.1.at fun o e => hk it (by simp) o e, st.2.2.at fun o e => hk a (by simp) o e⟩
      item := fun j s Q E hi st hQ => absurd st.1 (Nat.ne_of_lt hi)
      done := fun s Q E st hE => wpAny_nextOf_tuple_end (show X.A.in1.handled = none from I.ok.hd hc) st.2.1 st.2.2 (by simp; omega) hE }
    exact wpAny_pyNext_enum_endD D he ⟨rfl, hit, (show s.heap.IsTuple a its.toArray from p)⟩ fun h' eb => ⟨rfl, I.turned (t' := s.toks) (fun b o hb q => eb b o hb q) f0 f1 f3 f4 f5⟩
  self := fun A i s Q E st h => let ⟨⟨_, he⟩, _⟩ := st; wpAny_pyIter_enum he h
section
variable {M : Model} {A : Around} {E : Value → Shared → Prop} {s : Shared} {env : Env}
theorem callWith_type_kwB {pos : Pos} {id : String} {first : List Value} {args : List (Bool × Sem Value)} {keywords : List (Option Str × Sem Value)} {Q : Value → Shared → Prop} (hplain : args.any (·.1) = false) (hkw : keywords.any (·.1.isNone) = false)
    (h : wpAny M A (evalArgs (.type id) true args keywords) (fun a s₁ => wpAny M A (call (.type id) (first ++ a.pos) a.kw) Q E s₁) E s) : wpAny M A (callWith pos (.type id) first args keywords) Q E s := by
  unfold callWith
  refine wpAny_bind (wpAny_holding (wpAny_mono h (fun a s₁ h₁ => wpAny_bind (wpAny_standAt ?_)) fun _ _ x => x))
  simp only [hplain, hkw, Bool.or_false]
  refine wpAny_bind (wpAny_pure ?_)
  exact wpAny_bind (wpAny_mono h₁ (fun r s₂ hr => wpAny_bind (wpAny_holding (wpAny_point (wpAny_pure hr)))) fun _ _ x => x)
end
def qEnumS (K : PySem.W.Frag) (k : Int) (R : It → Hp → Prop) : List V → Hp → Prop := fun vs H1 => ∃ a xs, vs = [.ref a] ∧ SqT K H1 a xs ∧ R (IteT K a k) H1
def iEnumS (K : PySem.W.Frag) (ta : TA) (k : Int) : TI := fun σ H R => ta σ H (qEnumS K k R)
theorem pi_enumS {X : Cx} {e : Expr} {ta : TA} {p pos tpos kp : Pos} {elts : List Expr} {kk : Nat} {k : Int} {ce : Expr} (hg : Gl X "enumerate") (hm : X.mg "enumerate" = none) (ha : PA X [e] ta) (hc : PE X ce (tC (.int k))) (hk : -(2 ^ 63) ≤ k ∧ k < 2 ^ 63)
    (hs : starEach [e] X.env = [(false, eval e X.env)] := by rfl) :
    PI X (.Tuple elts kk tpos) (.Call (.Name "enumerate" p) [e] [⟨some "start", ce, kp⟩] pos) (iEnumS X.K ta k) := by
  refine ⟨fun pins s σ H R I h => ?_⟩
  refine wpAny_Call_Name_kw (ld_blt I hg hm boot_enumerate ?_)
  refine callWith_type_kwB (by rw [hs]; rfl) (by rfl) ?_
  refine evalArgs_kw2 (by rfl) (thn (ha.run pos pins s σ H _ I h) fun us s1 hh => ?_) hs
  obtain ⟨vs, H1, I1, r1, q1⟩ := hh
  refine PyProof.Rows.kws_cons (thn (hc.run pins s1 σ H1 (fun v H2 => v = .int k ∧ H2 = H1) I1 ⟨rfl, rfl⟩) fun v s2 hh => ?_)
  obtain ⟨x, H2, I2, r2, rfl, rfl⟩ := hh
  refine PyProof.Rows.kws_nil ?_
  obtain ⟨a, xs, rfl, hq, q⟩ := q1
  obtain ⟨t, rfl⟩ := r2
  cases r1 with
  | cons r rr =>
    cases rr
    cases r
    obtain ⟨its, rv, p', hz⟩ := I2.tuple hq
    refine enum_begins_start (k := k) (t := t) (begins_tuple a its.toArray) (show s2.heap.IsTuple a its.toArray from p') hk.1 hk.2 fun h' he hit hsz hkk => wpAny_pyIter_enum he ?_
    have I3 : Inv X pins σ H2 { s2 with heap := h' } := I2.kept (t' := s2.toks) hkk
    have hal : a < s2.heap.objs.size := by obtain ⟨o, ho, _⟩ := (show s2.heap.IsTuple a its.toArray from p'); exact Heap.lt_size ho
    refine ⟨s2.heap.objs.size + 1, [s2.heap.objs.size + 1, s2.heap.objs.size], _, _, H2, rfl, I3, turn_enumT a (s2.heap.objs.size + 1) s2.heap.objs.size k, ⟨⟨.none, ?_⟩, ⟨_, hit, rfl, rfl⟩, Nat.succ_ne_self _, Nat.ne_of_lt hal, ?_⟩, fun b hb => ?_, q⟩
    · have e0 : k + ((0 : Nat) : Int) = k := by omega
      rw [e0]; exact he
    · exact Nat.ne_of_gt (Nat.lt_succ_of_lt hal)
    have e' : b = s2.heap.objs.size + 1 ∨ b = s2.heap.objs.size := by simpa using hb
    have hle : s2.heap.objs.size ≤ b := by
      rcases e' with z | z
      · rw [z]; exact Nat.le_add_right _ _
      · rw [z]; exact Nat.le_refl _
    exact I2.fpOk hle (I2.hok.fresh hle)
/-- over such an enumeration -/
theorem for_enumS {K : PySem.W.Frag} {a : Addr} {xs : List V} {c0 : Int} {g : TG} {tb : TS} {D : Ends} {σ : L2.St} {H : Hp} (Pv : Nat → L2.St → Hp → Prop) (h0 : Pv 0 σ H) (hl : ∀ i σ H, i ≤ xs.length → Pv i σ H → SqT K H a xs)
    (hs : ∀ i x σ H, xs[i]? = some x → Pv i σ H → ∀ T, H T = none → g (.ref T) σ (upd H T (.tup [.int (c0 + (i : Nat)), x])) fun σ2 H2 => tb { D with nx := Pv (i + 1), ct := Pv (i + 1), bk := D.nx } σ2 H2) (hd : ∀ σ H, Pv xs.length σ H → D.nx σ H) :
    ∃ W : Nat → Nat → L2.St → Hp → Prop, (∃ m, W 0 m σ H) ∧ ∀ i m σ H, W i m σ H →
      ((IteT K a c0).stop i H ∧ D.nx σ H) ∨ ((IteT K a c0).go i H ∧ ∃ N : L2.St → Hp → Prop, (∀ σ' H', N σ' H' → ∃ m', m' < m ∧ W (i + 1) m' σ' H') ∧ ∀ x H', (IteT K a c0).yld i H x H' → g x σ H' fun σ2 H2 => tb { D with nx := N, ct := N, bk := D.nx } σ2 H2) := by
  refine ⟨fun i m σ H => m = xs.length - i ∧ i ≤ xs.length ∧ Pv i σ H, ⟨xs.length, by simp, Nat.zero_le _, h0⟩, ?_⟩
  rintro i m σ H ⟨rfl, hi, p⟩
  have q := hl i σ H hi p
  by_cases hlt : i < xs.length
  · refine .inr ⟨⟨xs, xs[i], q, by simp [hlt]⟩, Pv (i + 1), fun σ' H' p' => ⟨xs.length - (i + 1), by omega, rfl, hlt, p'⟩, fun x H' y => ?_⟩
    obtain ⟨T, x', rfl, nT, rfl, hx⟩ := y
    exact hs i x' σ H (hx xs q) p T nT
  · have e : i = xs.length := by omega
    subst e
    exact .inl ⟨⟨xs, q, Nat.le_refl _⟩, hd σ H p⟩
end WD

set_option Elab.async false
set_option linter.all false
set_option maxRecDepth 100000
set_option maxHeartbeats 1000000
namespace WD
open PySem PySem.Spec PyProof.Rows L2
/-! readings with names; steps of lists, tuples, bits -/
def rLenQ (K : PySem.W.Frag) : List V → Hp → VK → Prop := fun xs H Q => ∃ p ys, xs = [.ref p] ∧ (SqL K H p ys ∨ SqT K H p ys) ∧ Q (.int ys.length) H
theorem call_lenQ {X : Cx} : CallR X (.builtin "len") (rLenQ X.K) := call_len_seq
def rListOf (K : PySem.W.Frag) : List V → Hp → VK → Prop := fun xs H Q => ∃ p ys, xs = [.ref p] ∧ (SqL K H p ys ∨ SqT K H p ys) ∧ ∀ l, H l = none → Q (.ref l) (upd H l (.lst ys))
theorem call_listOf {X : Cx} : CallR X (.type "list") (rListOf X.K) := call_list_of
def rTupleOf (K : PySem.W.Frag) : List V → Hp → VK → Prop := fun xs H Q => ∃ p ys, xs = [.ref p] ∧ ((SqL K H p ys ∧ ∀ l, H l = none → Q (.ref l) (upd H l (.tup ys))) ∨ (SqT K H p ys ∧ Q (.ref p) H))
theorem call_tupleOf {X : Cx} : CallR X (.type "tuple") (rTupleOf X.K) := call_tuple_of
section
variable {σ : L2.St} {H : Hp} {Q : VK} {D : Ends} {v x y : V} {K : PySem.W.Frag} {ta tb te : TE} {ts : TA} {a p : Addr} {xs : List V} {i j : Int} {n k : Nat} {R : It → Hp → Prop}
theorem x_lenQL (hs : SqL K H a xs) (h : Q (.int xs.length) H) : rLenQ K [.ref a] H Q := ⟨a, xs, rfl, .inl hs, h⟩
theorem x_lenQT (hs : SqT K H a xs) (h : Q (.int xs.length) H) : rLenQ K [.ref a] H Q := ⟨a, xs, rfl, .inr hs, h⟩
theorem x_lenT2 {x y : V} (hs : SqT K H a [x, y]) (h : Q (.int 2) H) : rLenQ K [.ref a] H Q := ⟨a, [x, y], rfl, .inr hs, h⟩
theorem x_lenT1 {x : V} (hs : SqT K H a [x]) (h : Q (.int 1) H) : rLenQ K [.ref a] H Q := ⟨a, [x], rfl, .inr hs, h⟩
theorem x_lenMT {f : Nat → V} {ns : List Nat} (hs : SqT K H a (ns.map f)) (h : Q (.int ns.length) H) : rLenQ K [.ref a] H Q := ⟨a, _, rfl, .inr hs, by rw [List.length_map]; exact h⟩
theorem x_lenML {f : Nat → V} {ns : List Nat} (hs : SqL K H a (ns.map f)) (h : Q (.int ns.length) H) : rLenQ K [.ref a] H Q := ⟨a, _, rfl, .inl hs, by rw [List.length_map]; exact h⟩
theorem x_listOfL (hs : SqL K H a xs) (h : ∀ l, H l = none → Q (.ref l) (upd H l (.lst xs))) : rListOf K [.ref a] H Q := ⟨a, xs, rfl, .inl hs, h⟩
theorem x_listOfT (hs : SqT K H a xs) (h : ∀ l, H l = none → Q (.ref l) (upd H l (.lst xs))) : rListOf K [.ref a] H Q := ⟨a, xs, rfl, .inr hs, h⟩
theorem x_tupOfL (hs : SqL K H a xs) (h : ∀ l, H l = none → Q (.ref l) (upd H l (.tup xs))) : rTupleOf K [.ref a] H Q := ⟨a, xs, rfl, .inl ⟨hs, h⟩⟩
theorem x_sum {ns : List Int} (hs : SqL K H a (ns.map V.int)) (h : Q (.int ns.sum) H) : rSum K [.ref a] H Q := ⟨a, ns, rfl, hs, h⟩
theorem x_enumS {c : Int} (h : ts σ H (qEnumS K c R)) : iEnumS K ts c σ H R := h
theorem x_qEnumS {c : Int} (hs : SqT K H a xs) (h : R (IteT K a c) H) : qEnumS K c R [.ref a] H := ⟨a, xs, rfl, hs, h⟩
theorem x_setLk {QH : Hp → Prop} (hs : H a = some (.lst xs)) (e : ixN xs.length i = some k) (h : QH (upd H a (.lst (xs.set k v)))) : rSetL (.ref a) (.int i) v H QH := ⟨a, xs, i, k, rfl, rfl, hs, e, h⟩
theorem x_in (hs : SqL K H p xs ∨ SqT K H p xs) (f1 : flatV x = true) (f2 : xs.all flatV = true) (h : Q (.bl (inV x xs)) H) : rIn K false x (.ref p) H Q := ⟨p, xs, rfl, hs, f1, f2, h⟩
theorem x_notIn (hs : SqL K H p xs ∨ SqT K H p xs) (f1 : flatV x = true) (f2 : xs.all flatV = true) (h : Q (.bl (!inV x xs)) H) : rIn K true x (.ref p) H Q := ⟨p, xs, rfl, hs, f1, f2, h⟩
theorem x_rep {c : Int} (hs : H a = some (.lst xs)) (h1 : -(2 ^ 63) ≤ c ∧ c < 2 ^ 63) (h2 : xs.length * c.toNat ≤ sizeLine) (h : ∀ p, H p = none → Q (.ref p) (upd H p (.lst (List.replicate c.toNat xs).flatten))) : rRep (.ref a) (.int c) H Q := ⟨a, c, xs, rfl, rfl, hs, h1.1, h1.2, h2, h⟩
end
/-! ### what stays: tuples -/
def Tk (H H' : Hp) : Prop := ∀ a xs, H a = some (.tup xs) → H' a = some (.tup xs)
theorem Tk.refl (H : Hp) : Tk H H := fun _ _ h => h
theorem Tk.trans {H H1 H2 : Hp} (a : Tk H H1) (b : Tk H1 H2) : Tk H H2 := fun c xs h => b c xs (a c xs h)
theorem Stay.tk0 {H H' : Hp} (s : Stay [] H H') : Tk H H' := fun a xs h => s.keep a _ h nm0
theorem Stay.tk {S : List Addr} {H H' : Hp} (s : Stay S H H') (h : ∀ b ∈ S, ∀ xs, H b ≠ some (.tup xs)) : Tk H H' := fun a xs e => s.keep a _ e fun m => h a m xs e
theorem Tk.upd {H : Hp} {a : Addr} {o : HO} (h : ∀ xs, H a ≠ some (.tup xs)) : Tk H (L2.upd H a o) := fun b xs e => by
  by_cases z : b = a
  · subst z; exact absurd e (h xs)
  · rw [upd_ne z]; exact e
/-! ### bare logs -/
abbrev Deed : Type := Nat × List Nat
abbrev nat (n : Nat) : V := .int (n : Int)
def DeedAt (H : Hp) (v : V) (d : Deed) : Prop := ∃ t r, v = .ref t ∧ H t = some (.tup [nat d.1, .ref r]) ∧ H r = some (.tup (d.2.map nat))
def DeedsAt (H : Hp) (xs : List V) (ds : List Deed) : Prop := xs.length = ds.length ∧ ∀ (i : Nat) (x : V) (d : Deed), xs[i]? = some x → ds[i]? = some d → DeedAt H x d
def LogAt (H : Hp) (a : Addr) (P : Nat) (ds : List Deed) : Prop := ∃ b xs, H a = some (.tup [nat P, .ref b]) ∧ H b = some (.tup xs) ∧ DeedsAt H xs ds
theorem DeedAt.tk {H H' : Hp} {v : V} {d : Deed} (h : DeedAt H v d) (s : Tk H H') : DeedAt H' v d := by
  obtain ⟨t, r, e, h1, h2⟩ := h
  exact ⟨t, r, e, s _ _ h1, s _ _ h2⟩
theorem DeedsAt.tk {H H' : Hp} {xs : List V} {ds : List Deed} (h : DeedsAt H xs ds) (s : Tk H H') : DeedsAt H' xs ds := ⟨h.1, fun i x d e1 e2 => (h.2 i x d e1 e2).tk s⟩
theorem LogAt.tk {H H' : Hp} {a : Addr} {P : Nat} {ds : List Deed} (h : LogAt H a P ds) (s : Tk H H') : LogAt H' a P ds := by
  obtain ⟨b, xs, h1, h2, h3⟩ := h
  exact ⟨b, xs, s _ _ h1, s _ _ h2, h3.tk s⟩
theorem DeedsAt.get {H : Hp} {xs : List V} {ds : List Deed} (h : DeedsAt H xs ds) {i : Nat} {x : V} (e : xs[i]? = some x) : ∃ d, ds[i]? = some d ∧ DeedAt H x d := by
  have hi : i < ds.length := by
    rw [← h.1]
    rcases Nat.lt_or_ge i xs.length with l | l
    · exact l
    · rw [List.getElem?_eq_none l] at e; cases e
  exact ⟨ds[i], List.getElem?_eq_getElem hi, h.2 i x _ e (List.getElem?_eq_getElem hi)⟩
theorem DeedsAt.nil {H : Hp} : DeedsAt H [] [] := ⟨rfl, fun _ _ _ e => by simp at e⟩
theorem DeedsAt.snoc {H : Hp} {xs : List V} {ds : List Deed} {x : V} {d : Deed} (h : DeedsAt H xs ds) (hx : DeedAt H x d) : DeedsAt H (xs ++ [x]) (ds ++ [d]) := by
  refine ⟨by simp [h.1], fun i y c e1 e2 => ?_⟩
  rcases Nat.lt_or_ge i xs.length with l | l
  · rw [List.getElem?_append_left l] at e1
    rw [List.getElem?_append_left (by rw [← h.1]; exact l)] at e2
    exact h.2 i y c e1 e2
  · rw [List.getElem?_append_right l] at e1
    rw [List.getElem?_append_right (by rw [← h.1]; exact l)] at e2
    rw [← h.1] at e2
    rcases Nat.eq_zero_or_pos (i - xs.length) with z | z
    · rw [z] at e1 e2
      cases e1; cases e2; exact hx
    · rw [List.getElem?_eq_none (by simp; omega)] at e1; cases e1
/-- a deed of a log with P pages -/
structure WfD (P : Nat) (d : Deed) : Prop where
  pg : d.1 < P
  rd : ∀ r ∈ d.2, r < P ∧ r ≠ d.1
  asc : d.2.Pairwise (· < ·)
structure Wf (P : Nat) (ds : List Deed) : Prop where
  p1 : 1 ≤ P
  p2 : P ≤ 32
  n : ds.length ≤ 400
  d : ∀ d ∈ ds, WfD P d
theorem WfD.upTo {P : Nat} {d : Deed} (h : WfD P d) : ∀ (i r : Nat), d.2[i]? = some r → ∀ (j s : Nat), i < j → d.2[j]? = some s → r < s := fun i r e j s l e2 => by
  have hi := (List.getElem?_eq_some_iff.mp e).1
  have hj := (List.getElem?_eq_some_iff.mp e2).1
  have := List.pairwise_iff_getElem.mp h.asc i j hi hj l
  rw [(List.getElem?_eq_some_iff.mp e).2, (List.getElem?_eq_some_iff.mp e2).2] at this
  exact this
end WD

set_option Elab.async false
set_option linter.all false
set_option maxHeartbeats 1000000
namespace WD
open PySem PySem.Spec PyProof.Rows L2
theorem Tk.updN {H : Hp} {a : Addr} {o : HO} (h : H a = none) : Tk H (L2.upd H a o) := Tk.upd fun xs z => by rw [h] at z; cases z
theorem Tk.updL {H : Hp} {a : Addr} {o : HO} {ys : List V} (h : H a = some (.lst ys)) : Tk H (L2.upd H a o) := Tk.upd fun xs z => by rw [h] at z; cases z
theorem Tk.updL' {H : Hp} {a : Addr} {o : HO} (h : ∃ ys : List V, H a = some (.lst ys)) : Tk H (L2.upd H a o) := by
  obtain ⟨ys, h⟩ := h
  exact Tk.updL h
theorem rep0 {P : Nat} : (List.replicate (P : Int).toNat [V.int 0]).flatten = (List.replicate P 0).map nat := by
  rw [Int.toNat_natCast]
  induction P with
  | zero => rfl
  | succ n ih => rw [List.replicate_succ, List.replicate_succ, List.flatten_cons, ih]; rfl
theorem bitAnd_nat (a b : Nat) : Builtin.bitAnd (a : Int) (b : Int) = ((a &&& b : Nat) : Int) := by
  unfold Builtin.bitAnd
  simp
theorem bitNot_nat (a : Nat) : Builtin.bitNot (a : Int) = -(a : Int) - 1 := by
  unfold Builtin.bitNot
  omega
theorem bitNot_toNat (a : Nat) : (Builtin.bitNot (-(a : Int) - 1)).toNat = a := by
  unfold Builtin.bitNot
  omega
theorem bitOr_nat (a b : Nat) : Builtin.bitOr (a : Int) (b : Int) = ((a ||| b : Nat) : Int) := by
  unfold Builtin.bitOr
  rw [bitNot_nat, bitNot_nat]
  unfold Builtin.bitAnd
  rw [decide_eq_false (by omega), decide_eq_false (by omega)]
  show Builtin.bitNot (Builtin.bitNot _) = _
  rw [bitNot_toNat, bitNot_toNat]
  unfold Builtin.bitNot
  omega
theorem atNat {ns : List Nat} {i : Nat} (h : i < ns.length) : atI (ns.map nat) (i : Int) = some (nat (ns.getD i 0)) := by
  unfold atI ixN
  rw [if_pos (by omega), if_pos (by simp; omega)]
  simp [List.getD_eq_getElem?_getD, h]
theorem ixNat {ns : List Nat} {i : Nat} (h : i < ns.length) : ixN (ns.map nat).length (i : Int) = some i := by
  unfold ixN
  rw [if_pos (by omega), if_pos (by simp; omega)]
  simp
/-! closures of relations of numbers -/
inductive Tg (E : Nat → Nat → Prop) : Nat → Nat → Prop
  | one {x y : Nat} : E x y → Tg E x y
  | step {x y z : Nat} : E x y → Tg E y z → Tg E x z
theorem Tg.trans {E : Nat → Nat → Prop} {x y z : Nat} (h : Tg E x y) (g : Tg E y z) : Tg E x z := by
  induction h with
  | one e => exact .step e g
  | step e _ ih => exact .step e (ih g)
def Wr (R : Nat → Nat → Prop) (k : Nat) : Nat → Nat → Prop := fun x y => R x y ∨ (R x k ∧ R k y)
def Rk (E : Nat → Nat → Prop) : Nat → Nat → Nat → Prop
  | 0 => E
  | k + 1 => Wr (Rk E k) k
theorem Rk.sound {E : Nat → Nat → Prop} : ∀ {k x y : Nat}, Rk E k x y → Tg E x y
  | 0, _, _, h => .one h
  | k + 1, _, _, h => by
    rcases h with h | ⟨h, g⟩
    · exact Rk.sound h
    · exact (Rk.sound h).trans (Rk.sound g)
theorem Rk.base {E : Nat → Nat → Prop} : ∀ {k x y : Nat}, E x y → Rk E k x y
  | 0, _, _, h => h
  | k + 1, _, _, h => .inl (Rk.base h)
theorem Rk.comp {E : Nat → Nat → Prop} : ∀ {k x y z : Nat}, z < k → Rk E k x z → Rk E k z y → Rk E k x y
  | 0, _, _, _, l, _, _ => absurd l (Nat.not_lt_zero _)
  | k + 1, x, y, z, l, h, g => by
    rcases Nat.lt_or_ge z k with lz | lz
    · rcases h with h | ⟨h1, h2⟩
      · rcases g with g | ⟨g1, g2⟩
        · exact .inl (Rk.comp lz h g)
        · exact .inr ⟨Rk.comp lz h g1, g2⟩
      · rcases g with g | ⟨g1, g2⟩
        · exact .inr ⟨h1, Rk.comp lz h2 g⟩
        · exact .inr ⟨h1, g2⟩
    · have e : z = k := by omega
      subst e
      have h' : Rk E z x z := by rcases h with h | ⟨h, _⟩ <;> exact h
      have g' : Rk E z z y := by rcases g with g | ⟨_, g⟩ <;> exact g
      exact .inr ⟨h', g'⟩
theorem Rk.all {E : Nat → Nat → Prop} {P : Nat} (hE : ∀ x y, E x y → y < P) {x y : Nat} : Rk E P x y ↔ Tg E x y := by
  refine ⟨Rk.sound, fun h => ?_⟩
  induction h with
  | one e => exact Rk.base e
  | step e _ ih => exact Rk.comp (hE _ _ e) (Rk.base e) ih
/-- the rows of ns are the bits of R -/
structure Bt (P : Nat) (ns : List Nat) (R : Nat → Nat → Prop) : Prop where
  len : ns.length = P
  bit : ∀ x, x < P → ∀ y, (ns.getD x 0).testBit y = true ↔ R x y
theorem Bt.mono {P : Nat} {ns : List Nat} {R R' : Nat → Nat → Prop} (h : Bt P ns R) (e : ∀ x, x < P → ∀ y, R x y ↔ R' x y) : Bt P ns R' := ⟨h.len, fun x hx y => (h.bit x hx y).trans (e x hx y)⟩
theorem getD_set {ns : List Nat} {p v x : Nat} (h : p < ns.length) : (ns.set p v).getD x 0 = if x = p then v else ns.getD x 0 := by
  by_cases e : x = p
  · subst e
    rw [if_pos rfl, List.getD_eq_getElem?_getD, List.getElem?_set_self h]
    rfl
  · rw [if_neg e, List.getD_eq_getElem?_getD, List.getD_eq_getElem?_getD, List.getElem?_set_ne (Ne.symm e)]
theorem testBit_one {r y : Nat} : (1 * 2 ^ r).testBit y = true ↔ y = r := by
  rw [Nat.one_mul, Nat.testBit_two_pow]
  simp [eq_comm]
/-- one read more -/
theorem Bt.read {P : Nat} {ns : List Nat} {R : Nat → Nat → Prop} {p r : Nat} (h : Bt P ns R) (hp : p < P) : Bt P (ns.set p (ns.getD p 0 ||| (1 * 2 ^ r))) (fun x y => R x y ∨ (x = p ∧ y = r)) := by
  refine ⟨by simp [h.len], fun x hx y => ?_⟩
  rw [getD_set (by rw [h.len]; exact hp)]
  by_cases e : x = p
  · subst e
    rw [if_pos rfl, Nat.testBit_or, Bool.or_eq_true, h.bit x hx y, testBit_one]
    simp
  · rw [if_neg e, h.bit x hx y]
    simp [e]
/-- the row of a page takes that of another -/
theorem Bt.row {P : Nat} {ns : List Nat} {R : Nat → Nat → Prop} {p k : Nat} (h : Bt P ns R) (hp : p < P) (hk : k < P) : Bt P (ns.set p (ns.getD p 0 ||| ns.getD k 0)) (fun x y => R x y ∨ (x = p ∧ R k y)) := by
  refine ⟨by simp [h.len], fun x hx y => ?_⟩
  rw [getD_set (by rw [h.len]; exact hp)]
  by_cases e : x = p
  · subst e
    rw [if_pos rfl, Nat.testBit_or, Bool.or_eq_true, h.bit x hx y, h.bit k hk y]
    simp
  · rw [if_neg e, h.bit x hx y]
    simp [e]
/-- the edges of a log -/
def Ed (ds : List Deed) : Nat → Nat → Prop := fun x y => ∃ d ∈ ds, d.1 = x ∧ y ∈ d.2
theorem has_bit (m y : Nat) : decide (V.int (Builtin.bitAnd ((m : Int) / 2 ^ (y : Int).toNat) 1) = V.int 1) = m.testBit y := by
  have e1 : ((m : Int) / 2 ^ (y : Int).toNat) = ((m / 2 ^ y : Nat) : Int) := by
    rw [Int.toNat_natCast]
    exact_mod_cast rfl
  rw [e1, show (1 : Int) = ((1 : Nat) : Int) from rfl, bitAnd_nat]
  rw [Nat.testBit, Nat.shiftRight_eq_div_pow, Nat.and_comm 1]
  have : (m / 2 ^ y) &&& 1 = 0 ∨ (m / 2 ^ y) &&& 1 = 1 := by
    have := Nat.and_one_is_mod (m / 2 ^ y)
    omega
  rcases this with h | h <;> rw [h] <;> decide
def kn (ns : List Nat) (x : Nat) : List Nat := (List.range ns.length).filter fun o => o == x || ((ns.getD x 0).testBit o && (ns.getD o 0).testBit x)
end WD

set_option Elab.async false
set_option linter.all false
set_option maxHeartbeats 1000000
namespace WD
open PySem PySem.Spec PyProof.Rows L2
section
variable {H : Hp} {Q : VK} {v x : V} {a : Addr} {xs : List V}
theorem x_app (hs : H a = some (.lst xs)) (l : xs.length < sizeLine) (h : Q .non (upd H a (.lst (xs ++ [v])))) : rAppend (.ref a) [v] H Q := ⟨a, xs, v, rfl, rfl, hs, l, h⟩
end
end WD
namespace WD
open PySem PySem.Spec PyProof.Rows L2
section
variable {σ : L2.St} {H : Hp} {Q : VK} {v x y : V} {a l : Addr} {xs : List V} {ta : TE}
def qRgL (x : V) (H1 : Hp) (Q : VK) : Prop := ∃ n, x = .int n ∧ RgOk 0 n ∧ ∀ q, H1 q = none → Q (.ref q) (upd H1 q (.lst (rgV 0 n)))
theorem x_listRg1 (h : ta σ H fun x H1 => qRgL x H1 Q) : tLstRg (tRg1 ta) σ H Q := h
theorem rgV_ints (n : Nat) : rgV 0 (n : Int) = ((List.range n).map fun i => ((i : Nat) : Int)).map V.int := by
  unfold rgV
  rw [List.map_map, show ((n : Int) - 0).toNat = n by omega]
  apply List.map_congr_left
  intro i _
  simp
theorem x_qRgL {n : Nat} (l : n ≤ 1000) (h : ∀ q, H q = none → Q (.ref q) (upd H q (.lst (((List.range n).map fun i => ((i : Nat) : Int)).map V.int)))) : qRgL (.int (n : Int)) H Q := ⟨n, rfl, RgOk.of_le (by omega) (by omega) (by omega) (by omega), fun q hq => by rw [rgV_ints]; exact h q hq⟩
theorem log_small {m : Nat} (h : m ≤ 1000) : (m : Int).natAbs.log2 < 9000 := by
  rw [Int.natAbs_natCast]
  exact Nat.lt_of_le_of_lt (Nat.log2_le_self m) (by omega)
theorem pop_ix {ls : List Int} {d : Int} (h0 : 0 ≤ d) (h1 : d < ls.length) : ∃ y, seqIndex? d (ls.map V.int).length = some d.toNat ∧ (ls.map V.int)[d.toNat]? = some (.int y) := by
  refine ⟨ls[d.toNat]'(by omega), ?_, ?_⟩
  · unfold seqIndex?
    rw [List.length_map]
    simp
    omega
  · rw [List.getElem?_map, List.getElem?_eq_getElem (by omega)]; rfl
end
end WD
namespace WD
open PySem PySem.Spec PyProof.Rows L2
theorem atInt {ns : List Int} {i : Nat} (h : i < ns.length) : ∃ y, atI (ns.map V.int) (i : Int) = some (.int y) := by
  refine ⟨ns[i], ?_⟩
  unfold atI ixN
  rw [if_pos (by omega), if_pos (by simp; omega)]
  simp [h]
theorem log_smallI {m : Int} (h : m.natAbs ≤ 1000) : m.natAbs.log2 < 9000 := Nat.lt_of_le_of_lt (Nat.log2_le_self _) (by omega)
end WD

set_option Elab.async false
set_option linter.all false
set_option maxHeartbeats 1000000
namespace WD
/-! reaching by sweeps -/
theorem nodup_len : ∀ (P : Nat) (l : List Nat), l.Nodup → (∀ y ∈ l, y < P) → l.length ≤ P
  | 0, l, _, h => by
    cases l with
    | nil => exact Nat.le_refl _
    | cons y r => exact absurd (h y (by simp)) (Nat.not_lt_zero _)
  | P + 1, l, n, h => by
    by_cases m : P ∈ l
    · have e := List.length_erase_of_mem m
      have := nodup_len P (l.erase P) (n.erase P) fun y hy => by
        have h1 := h y (List.mem_of_mem_erase hy)
        have h2 : y ≠ P := fun z => by
          rw [z] at hy
          exact (List.Nodup.not_mem_erase n) hy
        omega
      have : 0 < l.length := List.length_pos_of_mem m
      omega
    · have := nodup_len P l n fun y hy => by
        have h1 := h y hy
        have h2 : y ≠ P := fun z => m (z ▸ hy)
        omega
      omega
/-- within n steps -/
def Dn (E : Nat → Nat → Prop) : Nat → Nat → Nat → Prop
  | 0, x, y => x = y
  | n + 1, x, y => Dn E n x y ∨ ∃ r, E x r ∧ Dn E n r y
theorem Dn.mono {E : Nat → Nat → Prop} {n m x y : Nat} (l : n ≤ m) (h : Dn E n x y) : Dn E m x y := by
  induction l with
  | refl => exact h
  | step _ ih => exact .inl ih
theorem Dn.sound {E : Nat → Nat → Prop} : ∀ {n x y : Nat}, Dn E n x y → x = y ∨ Tg E x y
  | 0, _, _, h => .inl h
  | n + 1, _, _, h => by
    rcases h with h | ⟨r, e, h⟩
    · exact h.sound
    · rcases h.sound with z | z
      · subst z; exact .inr (.one e)
      · exact .inr (.step e z)
theorem Dn.of_tg {E : Nat → Nat → Prop} {x y : Nat} (h : Tg E x y) : ∃ n, Dn E n x y := by
  induction h with
  | one e => exact ⟨1, .inr ⟨_, e, rfl⟩⟩
  | step e _ ih =>
    obtain ⟨n, h⟩ := ih
    exact ⟨n + 1, .inr ⟨_, e, h⟩⟩
theorem filter_lt {p q : Nat → Bool} : ∀ {l : List Nat}, (∀ y, p y = true → q y = true) → (∃ y ∈ l, q y = true ∧ ¬ p y = true) → (l.filter p).length < (l.filter q).length
  | [], _, h => by obtain ⟨_, h, _⟩ := h; cases h
  | a :: r, hpq, h => by
    have le : (r.filter p).length ≤ (r.filter q).length := by
      clear h
      induction r with
      | nil => exact Nat.le_refl _
      | cons b s ih =>
        by_cases hp : p b = true
        · rw [List.filter_cons_of_pos hp, List.filter_cons_of_pos (hpq b hp), List.length_cons, List.length_cons]; omega
        · rw [List.filter_cons_of_neg hp]
          by_cases hq : q b = true
          · rw [List.filter_cons_of_pos hq, List.length_cons]; omega
          · rw [List.filter_cons_of_neg hq]; exact ih
    obtain ⟨y, hy, hq, hp⟩ := h
    rcases List.mem_cons.mp hy with e | hy
    · subst e
      rw [List.filter_cons_of_neg hp, List.filter_cons_of_pos hq, List.length_cons]; omega
    · have := filter_lt hpq ⟨y, hy, hq, hp⟩
      by_cases hp' : p a = true
      · rw [List.filter_cons_of_pos hp', List.filter_cons_of_pos (hpq a hp'), List.length_cons, List.length_cons]; omega
      · rw [List.filter_cons_of_neg hp']
        by_cases hq' : q a = true
        · rw [List.filter_cons_of_pos hq', List.length_cons]; omega
        · rw [List.filter_cons_of_neg hq']; exact this
open Classical in
noncomputable def cnt (E : Nat → Nat → Prop) (P y n : Nat) : Nat := ((List.range P).filter fun x => decide (Dn E n x y)).length
theorem cnt_le (E : Nat → Nat → Prop) (P y n : Nat) : cnt E P y n ≤ P := Nat.le_trans (List.length_filter_le _ _) (by simp)
theorem cnt_grow {E : Nat → Nat → Prop} {P y : Nat} (hy : y < P) : ∀ n, (∀ k, k < n → ∃ x, x < P ∧ Dn E (k + 1) x y ∧ ¬ Dn E k x y) → n + 1 ≤ cnt E P y n
  | 0, _ => by
    have : y ∈ (List.range P).filter fun x => @decide (Dn E 0 x y) (Classical.propDecidable _) := by
      rw [List.mem_filter]
      exact ⟨List.mem_range.mpr hy, by simp [Dn]⟩
    exact List.length_pos_of_mem this
  | n + 1, h => by
    have ih := cnt_grow hy n fun k hk => h k (by omega)
    obtain ⟨x, hx, h1, h2⟩ := h n (Nat.lt_succ_self _)
    have : cnt E P y n < cnt E P y (n + 1) := by
      unfold cnt
      refine filter_lt (fun z hz => ?_) ⟨x, List.mem_range.mpr hx, by simpa using h1, by simpa using h2⟩
      simp only [decide_eq_true_eq] at hz ⊢
      exact .inl hz
    omega
theorem Dn.stable {E : Nat → Nat → Prop} {P y : Nat} (hE : ∀ x r, E x r → r < P) (hy : y < P) : ∀ {m x : Nat}, x < P → Dn E m x y → Dn E P x y := by
  have ⟨k, hk, st⟩ : ∃ k, k < P ∧ ∀ x, x < P → Dn E (k + 1) x y → Dn E k x y := by
    refine Classical.byContradiction fun no => ?_
    have g := cnt_grow (E := E) hy P fun k hk => Classical.byContradiction fun n2 => no ⟨k, hk, fun x hx h => Classical.byContradiction fun h2 => n2 ⟨x, hx, h, h2⟩⟩
    have := cnt_le E P y P
    omega
  have all : ∀ m x, x < P → Dn E m x y → Dn E k x y := by
    intro m
    induction m with
    | zero => exact fun x hx h => Dn.mono (Nat.zero_le _) h
    | succ m ih =>
      intro x hx h
      rcases h with h | ⟨r, e, h⟩
      · exact ih x hx h
      · exact st x hx (.inr ⟨r, e, ih r (hE _ _ e) h⟩)
  exact fun {m x} hx h => Dn.mono (by omega) (all m x hx h)
/-- the lists of pages that are found -/
structure Fs (E : Nat → Nat → Prop) (P : Nat) (fs : List (List Nat)) : Prop where
  len : fs.length = P
  nd : ∀ x, x < P → (fs.getD x []).Nodup
  lt : ∀ x, x < P → ∀ y ∈ fs.getD x [], y < P
  so : ∀ x, x < P → ∀ y ∈ fs.getD x [], x = y ∨ Tg E x y
  me : ∀ x, x < P → x ∈ fs.getD x []
def add1 (fs : List (List Nat)) (p r : Nat) : List Nat := (fs.getD r []).filter fun y => !(fs.getD p []).contains y
def fstep (fs : List (List Nat)) (p r : Nat) : List (List Nat) := fs.set p (fs.getD p [] ++ add1 fs p r)
theorem getD_setL {fs : List (List Nat)} {p x : Nat} {v : List Nat} (h : p < fs.length) : (fs.set p v).getD x [] = if x = p then v else fs.getD x [] := by
  by_cases e : x = p
  · subst e
    rw [if_pos rfl, List.getD_eq_getElem?_getD, List.getElem?_set_self h]
    rfl
  · rw [if_neg e, List.getD_eq_getElem?_getD, List.getD_eq_getElem?_getD, List.getElem?_set_ne (Ne.symm e)]
theorem mem_add1 {fs : List (List Nat)} {p r y : Nat} : y ∈ add1 fs p r ↔ y ∈ fs.getD r [] ∧ y ∉ fs.getD p [] := by
  unfold add1
  rw [List.mem_filter]
  simp
theorem Fs.step {E : Nat → Nat → Prop} {P : Nat} {fs : List (List Nat)} {p r : Nat} (h : Fs E P fs) (hp : p < P) (hr : r < P) (e : E p r) : Fs E P (fstep fs p r) := by
  have hl : p < fs.length := by rw [h.len]; exact hp
  have key : ∀ x, (fstep fs p r).getD x [] = if x = p then fs.getD p [] ++ add1 fs p r else fs.getD x [] := fun x => getD_setL hl
  refine ⟨by unfold fstep; simp [h.len], fun x hx => ?_, fun x hx y hy => ?_, fun x hx y hy => ?_, fun x hx => ?_⟩
  · rw [key]
    by_cases z : x = p
    · rw [if_pos z, List.nodup_append]
      refine ⟨h.nd p hp, (h.nd r hr).filter _, fun a ha b hb ab => ?_⟩
      rw [ab] at ha
      exact (mem_add1.mp hb).2 ha
    · rw [if_neg z]; exact h.nd x hx
  · rw [key] at hy
    by_cases z : x = p
    · rw [if_pos z] at hy
      rcases List.mem_append.mp hy with hy | hy
      · exact h.lt p hp y hy
      · exact h.lt r hr y (mem_add1.mp hy).1
    · rw [if_neg z] at hy; exact h.lt x hx y hy
  · rw [key] at hy
    by_cases z : x = p
    · rw [if_pos z] at hy
      subst z
      rcases List.mem_append.mp hy with hy | hy
      · exact h.so x hp y hy
      · rcases h.so r hr y (mem_add1.mp hy).1 with q | q
        · subst q; exact .inr (.one e)
        · exact .inr (.step e q)
    · rw [if_neg z] at hy; exact h.so x hx y hy
  · rw [key]
    by_cases z : x = p
    · rw [if_pos z]; subst z; exact List.mem_append_left _ (h.me x hx)
    · rw [if_neg z]; exact h.me x hx
/-- what the sweep has done: nothing goes, and each edge's pages are taken over -/
structure Sw (P : Nat) (f0 fs : List (List Nat)) (D : Nat → Nat → Prop) : Prop where
  ext : ∀ x, x < P → ∃ e, fs.getD x [] = f0.getD x [] ++ e
  dn : ∀ p r, D p r → ∀ y ∈ f0.getD r [], y ∈ fs.getD p []
theorem Sw.step {E : Nat → Nat → Prop} {P : Nat} {f0 fs : List (List Nat)} {D : Nat → Nat → Prop} {p r : Nat} (w : Sw P f0 fs D) (h : Fs E P fs) (hp : p < P) (hr : r < P) : Sw P f0 (fstep fs p r) (fun a b => D a b ∨ (a = p ∧ b = r)) := by
  have hl : p < fs.length := by rw [h.len]; exact hp
  have key : ∀ x, (fstep fs p r).getD x [] = if x = p then fs.getD p [] ++ add1 fs p r else fs.getD x [] := fun x => getD_setL hl
  have up : ∀ x y, y ∈ fs.getD x [] → y ∈ (fstep fs p r).getD x [] := fun x y hy => by
    rw [key]
    by_cases z : x = p
    · rw [if_pos z]; subst z; exact List.mem_append_left _ hy
    · rw [if_neg z]; exact hy
  refine ⟨fun x hx => ?_, fun a b hd y hy => ?_⟩
  · obtain ⟨e, he⟩ := w.ext x hx
    rw [key]
    by_cases z : x = p
    · rw [if_pos z]; subst z; exact ⟨e ++ add1 fs x r, by rw [he, List.append_assoc]⟩
    · rw [if_neg z]; exact ⟨e, he⟩
  · rcases hd with hd | ⟨rfl, rfl⟩
    · exact up _ _ (w.dn a b hd y hy)
    · rw [key, if_pos rfl]
      obtain ⟨e, he⟩ := w.ext b hr
      have hy2 : y ∈ fs.getD b [] := by rw [he]; exact List.mem_append_left _ hy
      by_cases m : y ∈ fs.getD a []
      · exact List.mem_append_left _ m
      · exact List.mem_append_right _ (mem_add1.mpr ⟨hy2, m⟩)
def lens (fs : List (List Nat)) : List Int := fs.map fun l => (l.length : Int)
theorem sum_same : ∀ {f0 fs : List (List Nat)}, f0.length = fs.length → (∀ x, x < fs.length → ∃ e, fs.getD x [] = f0.getD x [] ++ e) → (lens f0).sum ≤ (lens fs).sum ∧ ((lens fs).sum = (lens f0).sum → fs = f0)
  | [], [], _, _ => ⟨by simp [lens], fun _ => rfl⟩
  | a :: r, b :: s, hl, h => by
    obtain ⟨e, he⟩ := h 0 (by simp)
    have he : b = a ++ e := by simpa using he
    have ⟨i1, i2⟩ := sum_same (f0 := r) (fs := s) (by simpa using hl) fun x hx => by
      obtain ⟨e, he⟩ := h (x + 1) (by simp; omega)
      exact ⟨e, by simpa using he⟩
    unfold lens at *
    simp only [List.map_cons, List.sum_cons]
    subst he
    rw [List.length_append]
    refine ⟨by omega, fun q => ?_⟩
    have z : e.length = 0 := by omega
    have e0 : e = [] := List.eq_nil_of_length_eq_zero z
    subst e0
    rw [i2 (by simp at q; omega), List.append_nil]
  | [], _ :: _, hl, _ => by simp at hl
  | _ :: _, [], hl, _ => by simp at hl
theorem closed_all {E : Nat → Nat → Prop} {P : Nat} {fs : List (List Nat)} (h : Fs E P fs) (hE : ∀ x r, E x r → x < P ∧ r < P) (c : ∀ p r, E p r → ∀ y ∈ fs.getD r [], y ∈ fs.getD p []) {x y : Nat} (hx : x < P) (g : x = y ∨ Tg E x y) : y ∈ fs.getD x [] := by
  rcases g with z | g
  · subst z; exact h.me x hx
  · induction g with
    | one e => exact c _ _ e _ (h.me _ (hE _ _ e).2)
    | step e _ ih => exact c _ _ e _ (ih (hE _ _ e).2)
end WD
namespace WD
open PySem PySem.Spec PyProof.Rows L2
/-- what stands stays, but for f -/
def Kf (f : Addr) (H H' : Hp) : Prop := ∀ b o, b ≠ f → H b = some o → H' b = some o
theorem Kf.refl (f : Addr) (H : Hp) : Kf f H H := fun _ _ _ h => h
theorem Kf.trans {f : Addr} {H H1 H2 : Hp} (a : Kf f H H1) (b : Kf f H1 H2) : Kf f H H2 := fun c o n h => b c o n (a c o n h)
theorem Stay.kf {f : Addr} {H H' : Hp} (s : Stay [] H H') : Kf f H H' := fun b o _ h => s.keep b o h nm0
theorem Kf.updF {f : Addr} {H : Hp} {o : HO} : Kf f H (L2.upd H f o) := fun b u n h => by rw [upd_ne n]; exact h
theorem Kf.updN {f a : Addr} {H : Hp} {o : HO} (h : H a = none) : Kf f H (L2.upd H a o) := fun b u n e => by
  rw [upd_ne (fun z => by rw [z, h] at e; cases e)]; exact e
def FAt (H : Hp) (f : Addr) (vs : List V) (fs : List (List Nat)) : Prop := vs.length = fs.length ∧ ∀ (i : Nat) (x : V) (l : List Nat), vs[i]? = some x → fs[i]? = some l → ∃ b, x = .ref b ∧ b ≠ f ∧ H b = some (.lst (l.map nat))
theorem FAt.kf {H H' : Hp} {f : Addr} {vs : List V} {fs : List (List Nat)} (h : FAt H f vs fs) (s : Kf f H H') : FAt H' f vs fs := ⟨h.1, fun i x l e1 e2 => by
  obtain ⟨b, e, n, g⟩ := h.2 i x l e1 e2
  exact ⟨b, e, n, s _ _ n g⟩⟩
theorem FAt.nil {H : Hp} {f : Addr} : FAt H f [] [] := ⟨rfl, fun _ _ _ e => by simp at e⟩
theorem FAt.snoc {H : Hp} {f b : Addr} {vs : List V} {fs : List (List Nat)} {l : List Nat} (h : FAt H f vs fs) (n : b ≠ f) (g : H b = some (.lst (l.map nat))) : FAt H f (vs ++ [.ref b]) (fs ++ [l]) := by
  refine ⟨by simp [h.1], fun i y c e1 e2 => ?_⟩
  rcases Nat.lt_or_ge i vs.length with q | q
  · rw [List.getElem?_append_left q] at e1
    rw [List.getElem?_append_left (by rw [← h.1]; exact q)] at e2
    exact h.2 i y c e1 e2
  · rw [List.getElem?_append_right q] at e1
    rw [List.getElem?_append_right (by rw [← h.1]; exact q)] at e2
    rw [← h.1] at e2
    rcases Nat.eq_zero_or_pos (i - vs.length) with z | z
    · rw [z] at e1 e2
      cases e1; cases e2; exact ⟨b, rfl, n, g⟩
    · rw [List.getElem?_eq_none (by simp; omega)] at e1; cases e1
theorem FAt.set {H : Hp} {f b : Addr} {vs : List V} {fs : List (List Nat)} {l : List Nat} {p : Nat} (h : FAt H f vs fs) (n : b ≠ f) (g : H b = some (.lst (l.map nat))) : FAt H f (vs.set p (.ref b)) (fs.set p l) := by
  refine ⟨by simp [h.1], fun i y c e1 e2 => ?_⟩
  rw [List.getElem?_set] at e1 e2
  by_cases z : p = i
  · rw [if_pos z] at e1 e2
    split at e1
    · split at e2
      · cases e1; cases e2; exact ⟨b, rfl, n, g⟩
      · cases e2
    · cases e1
  · rw [if_neg z] at e1 e2
    exact h.2 i y c e1 e2
theorem FAt.at {H : Hp} {f : Addr} {vs : List V} {fs : List (List Nat)} {p : Nat} (h : FAt H f vs fs) (hp : p < fs.length) : ∃ b, atI vs (p : Int) = some (.ref b) ∧ b ≠ f ∧ H b = some (.lst ((fs.getD p []).map nat)) := by
  have hv : p < vs.length := by rw [h.1]; exact hp
  obtain ⟨b, e, n, g⟩ := h.2 p vs[p] fs[p] (by simp [hv]) (by simp [hp])
  refine ⟨b, ?_, n, ?_⟩
  · unfold atI ixN
    rw [if_pos (by omega), if_pos (by omega)]
    simp [hv, e]
  · rw [List.getD_eq_getElem?_getD, List.getElem?_eq_getElem hp]; exact g
theorem ixV {vs : List V} {p : Nat} (h : p < vs.length) : ixN vs.length (p : Int) = some p := by
  unfold ixN
  rw [if_pos (by omega), if_pos (by omega)]
  simp
theorem inV_nat (y : Nat) : ∀ l : List Nat, inV (nat y) (l.map nat) = l.contains y
  | [] => rfl
  | z :: r => by
    have ih := inV_nat y r
    unfold inV at *
    rw [List.map_cons, List.any_cons, ih, List.contains_cons]
    congr 1
    show ((z : Int) == (y : Int)) = (y == z)
    by_cases e : y = z
    · subst e; rw [beq_self_eq_true, beq_self_eq_true]
    · have e2 : (z : Int) ≠ (y : Int) := by omega
      rw [beq_eq_false_iff_ne.mpr e2, beq_eq_false_iff_ne.mpr e]
theorem flat_nat (l : List Nat) : (l.map nat).all flatV = true := by
  rw [List.all_eq_true]
  intro x hx
  obtain ⟨n, _, rfl⟩ := List.mem_map.mp hx
  rfl
end WD
namespace WD
theorem Sw.mono {P : Nat} {f0 fs : List (List Nat)} {D D' : Nat → Nat → Prop} (w : Sw P f0 fs D) (h : ∀ p r, D' p r → D p r) : Sw P f0 fs D' := ⟨w.ext, fun p r d => w.dn p r (h p r d)⟩
end WD

namespace WD
open PySem PySem.Spec PyProof.Rows L2
variable {X : L2.Cx}
/-- o[i] for an o[i] op= e, of a list, counted from its start -/
def rGetL (K : PySem.W.Frag) : V → V → Hp → VK → Prop := fun x y H Q => ∃ p xs i v, x = .ref p ∧ y = .int i ∧ 0 ≤ i ∧ SqL K H p xs ∧ atI xs i = some v ∧ Q v H
theorem getL : PGet X (rGetL X.K) := by
  intro pins s σ H x y v u Q I rx ry h
  obtain ⟨p, xs, i, z, rfl, rfl, h0, hq, he, q⟩ := h
  cases rx
  obtain ⟨t, rfl⟩ := ry
  obtain ⟨its, r, pl, hz⟩ := I.list hq
  obtain ⟨j, h1, h2, h3, h4, h5⟩ := atI_get he
  obtain ⟨w, ew, rw'⟩ := r.get h2
  have hl := r.length
  have hn := line63
  have fin : EP X pins σ Q w s := ⟨z, H, I, rw', q⟩
  have hj : i.toNat = j := by
    rw [seqIndex_of h0 h5] at h1
    exact Option.some.inj h1
  exact wpAny_getItem_list pl.isList h0 (by omega) (by rw [hj]; simpa using ew) fin
end WD

set_option Elab.async false
set_option linter.all false
set_option maxRecDepth 100000
set_option maxHeartbeats 4000000
namespace WD
open PySem PySem.Spec PyProof.Rows L2
/-! enumerate over a list or a tuple, with or without a start -/
/-- the list at a, each item in a new pair with its count -/
def IteL (K : PySem.W.Frag) (a : Addr) (c0 : Int) : It :=
  ⟨fun i H => ∃ (xs : List V) (x : V), SqL K H a xs ∧ xs[i]? = some x, fun i H v H' => ∃ T x, v = .ref T ∧ H T = none ∧ H' = upd H T (.tup [.int (c0 + (i : Nat)), x]) ∧ ∀ xs, SqL K H a xs → xs[i]? = some x, fun i H => ∃ xs : List V, SqL K H a xs ∧ xs.length ≤ i⟩
theorem turn_enumL {P : Program} {w : World} {K : PySem.W.Frag} {elts : List Expr} {kk : Nat} {tpos : Pos} (a e it : Addr) (c0 : Int) :
    Turn P w K (.Tuple elts kk tpos) (IteL K a c0) [e, it] e (fun i h => (∃ old, IsEnum h e it (c0 + ((i : Nat) : Int)) old) ∧ h.IsListIter it a i ∧ e ≠ it ∧ a ≠ it ∧ e ≠ a) where
  mem := by simp
  obj := fun i h st b hb => by
    obtain ⟨⟨old, he⟩, ⟨o, ho, hc, hd⟩, _⟩ := st
    have e' : b = e ∨ b = it := by simpa using hb
    rcases e' with z | z
    · rw [z]; exact ⟨_, he, fun v q => nomatch q⟩
    · rw [z]; exact ⟨o, ho, fun v q => by rw [hd] at q; cases q⟩
  keep := fun i h h' st k => by
    obtain ⟨⟨old, he⟩, hi, hne⟩ := st
    exact ⟨⟨old, k e (by simp) _ he⟩, hi.at fun o q => k it (by simp) o q, hne⟩
  item := by
    intro X hP hw hK hc i pins s σ H E I hf st hg
    subst hP hw hK
    obtain ⟨⟨old, he⟩, hit, hne, hat, hea⟩ := st
    obtain ⟨xs, x, hq, hx⟩ := hg
    obtain ⟨its, rv, p, hz⟩ := I.list hq
    obtain ⟨u, hu, ru⟩ := rv.get hx
    have hel : e < s.heap.objs.size := Heap.lt_size he
    have hil : it < s.heap.objs.size := by obtain ⟨_, q, _⟩ := hit; exact Heap.lt_size q
    have hlt : i < its.toArray.size := by
      rcases Nat.lt_or_ge i its.length with h | h
      · simpa using h
      · rw [List.getElem?_eq_none h] at hu; cases hu
    refine wpAny_pyNext_enum_itemC (Draws.list (A := X.A.in1) (show X.A.in1.handled = none from I.ok.hd hc) it a hat its.toArray) he ⟨hit, p.isList⟩ hlt hne (by simp [hne, hea]) fun x' h' tk hP ho hst' hT hsz hk => ?_
    have hxu : x' = u := by
      have h2 : its.toArray[i]? = some u := by simpa using hu
      rw [h2] at hP
      exact (Option.some.inj hP).symm
    subst hxu
    obtain ⟨hit', _⟩ := hst'
    refine ⟨_, rfl, wpAny_letOwnedTupleGo_enum (s := { s with heap := h', toks := tk + 1 }) ho fun h'' he' sb => ?_⟩
    have hT2 : h''.get? s.heap.objs.size = some { cls := .type "tuple", data := .seq #[.int (c0 + (i : Int)) tk, x'] } := (sb.2 _ (Nat.ne_of_gt hel)).trans hT
    have new : ObjOk X.prog X.w (upd H s.heap.objs.size (.tup [.int (c0 + (i : Nat)), x])) h'' s.heap.objs.size (.tup [.int (c0 + (i : Nat)), x]) :=
      ⟨by show 2 ≤ sizeLine; decide, [.int (c0 + (i : Int)) tk, x'], .cons ⟨_, rfl⟩ (.cons ru .nil), ⟨_, hT2, rfl, _, rfl⟩⟩
    have I1 : Inv X pins σ (upd H s.heap.objs.size (.tup [.int (c0 + (i : Nat)), x])) { s with heap := h'', toks := tk + 1 } :=
      I.turnedNew (ch := [e, it]) (fun b ob hb q => (sb.2 b (fun z => hb (by simp [z]))).trans (hk b ob (fun z => hb (by simp [z])) (fun z => hb (by simp [z])) q)) hf (Nat.le_refl _) new
    refine ⟨.ref s.heap.objs.size, _, I1, rfl, ⟨_, x, rfl, I.hok.fresh (Nat.le_refl _), rfl, fun ys hy => by rw [I.list_inj hy hq]; exact hx⟩, ⟨⟨x', ?_⟩, hit'.at fun o q => (sb.2 it (Ne.symm hne)).trans q, hne, hat, hea⟩, fun b hb => ?_⟩
    · have e1 : c0 + ((i + 1 : Nat) : Int) = c0 + (i : Int) + 1 := by omega
      rw [e1]; exact he'
    · have hb' : b < s.heap.objs.size := by
        have e' : b = e ∨ b = it := by simpa using hb
        rcases e' with z | z
        · rw [z]; exact hel
        · rw [z]; exact hil
      rw [upd_ne (Nat.ne_of_lt hb')]
      exact (hf b hb).1
  done := by
    intro X hP hw hK hc i pins s σ H E I hf st hg
    subst hP hw hK
    obtain ⟨⟨old, he⟩, hit, hne, hat, hea⟩ := st
    obtain ⟨xs, hq, hx⟩ := hg
    obtain ⟨its, rv, p, hz⟩ := I.list hq
    obtain ⟨f0, f1, f2, f3, f4, f5⟩ := hf it (by simp)
    have hl := rv.length
    have D : Draws X.prog X.w X.A.in1 it [it, a] i (fun _ _ => True) (fun j h => j = i ∧ h.IsListIter it a j ∧ h.IsList a its.toArray) := {
      live := fun _ _ st => let ⟨o, ho, _⟩ := st.2.1; ⟨o, ho⟩
      frame := fun _ _ _ st hk => ⟨st.1, st.2.1.at fun o e => hk it (by simp) o e, st.2.2.at fun o e => hk a (by simp) o e⟩
      item := fun j s Q E hi st hQ => absurd st.1 (Nat.ne_of_lt hi)
      done := fun s Q E st hE => wpAny_nextOf_list_end (show X.A.in1.handled = none from I.ok.hd hc) st.2.1 st.2.2 (by simp; omega) hE }
    exact wpAny_pyNext_enum_endD D he ⟨rfl, hit, p.isList⟩ fun h' eb => ⟨rfl, I.turned (t' := s.toks) (fun b o hb q => eb b o hb q) f0 f1 f3 f4 f5⟩
  self := fun A i s Q E st h => let ⟨⟨_, he⟩, _⟩ := st; wpAny_pyIter_enum he h

set_option maxHeartbeats 4000000 in
theorem meets_enum1 {v : Value} {o : Obj} {H : Heap → Prop} (B : Begins v o H) :
    Meets (Builtin.«enumerate.__new__» ⟨[.type "enumerate", v], []⟩) (fun _ R s => H s.heap ∧
      R (.ok (.ret (.ref (s.heap.push o).objs.size))) { s with heap := (s.heap.push o).push { cls := .type "enumerate", data := .fields #[.none, .bool false, .ref s.heap.objs.size, rawInt 0, .none, .none] } }) :=
  .of_wp fun prog w A R s h => by
    obtain ⟨hp, g, d, tk, os⟩ := s; obtain ⟨h1, h⟩ := h
    have hsub := sub_enumerate
    have q1 : ∀ {A' : Around} {E : Value → Shared → Prop} {Q : Value → Shared → Prop}, Q (.ref hp.objs.size) ⟨hp.push o, g, d, tk, os⟩ → wpAny (model prog w) A' (pyIter v) Q E ⟨hp, g, d, tk, os⟩ :=
      fun q => B.iter prog w _ _ ⟨hp, g, d, tk, os⟩ _ h1 q
    wp_walk using q1
    refine wpAny_stack_any fun st => wpAny_pure ?_
    split
    · rename_i c _ _ _ _ _
      cases (c == Value.type "enumerate")
      · wp_walk using q1
        exact ⟨_, rfl, h⟩
      · wp_walk using q1
        exact ⟨_, rfl, h⟩
    · wp_walk using q1
      exact ⟨_, rfl, h⟩
theorem enum_begins1 {prog : Program} {w : World} {A : Around} {E : Value → Shared → Prop} {s : Shared} {v : Value} {o : Obj} {H : Heap → Prop} {Q : Value → Shared → Prop} (B : Begins v o H) (h1 : H s.heap)
    (h : ∀ h', IsEnum h' (s.heap.objs.size + 1) s.heap.objs.size 0 .none → h'.get? s.heap.objs.size = some o → h'.objs.size = s.heap.objs.size + 2 →
      (∀ b o, s.heap.get? b = some o → h'.get? b = some o) → Q (.ref (s.heap.objs.size + 1)) { s with heap := h' }) :
    wpAny (model prog w) A (call (.type "enumerate") [v]) Q E s := by
  refine callType_new PySem.F.called_enumerate (by decide) (PySem.F.typeCall_enumerate_1 _) (PySem.F.newCall_enumerate_1 _) (fun obj => PySem.F.args_object_init_2 obj _) PySem.F.entry_enumerate_new
    (meets_enum1 B) ⟨h1, ?_⟩
  have hz : (s.heap.push o).objs.size = s.heap.objs.size + 1 := Heap.size_push ..
  show _ ∧ _
  rw [hz]
  have he : IsEnum ((s.heap.push o).push { cls := .type "enumerate", data := .fields #[.none, .bool false, .ref s.heap.objs.size, rawInt 0, .none, .none] }) (s.heap.objs.size + 1) s.heap.objs.size 0 .none := by
    have := Heap.get?_push_size (s.heap.push o) (o := { cls := .type "enumerate", data := .fields #[.none, .bool false, .ref s.heap.objs.size, rawInt 0, .none, .none] }) rfl
    rw [hz] at this; exact this
  refine ⟨⟨_, he, rfl⟩, h _ he (Heap.get?_push_of_some _ (Heap.get?_push_size _ B.free)) (by rw [Heap.size_push, hz]) fun b o x => Heap.get?_push_of_some _ (Heap.get?_push_of_some _ x)⟩
/-- over a list, a tuple -/
def qEnumA (K : PySem.W.Frag) (k : Int) (R : It → Hp → Prop) : List V → Hp → Prop := fun vs H1 => ∃ a xs, vs = [.ref a] ∧ (SqL K H1 a xs ∧ R (IteL K a k) H1 ∨ SqT K H1 a xs ∧ R (IteT K a k) H1)
def iEnumA (K : PySem.W.Frag) (ta : TA) (k : Int) : TI := fun σ H R => ta σ H (qEnumA K k R)
theorem pi_enumSA {X : Cx} {e : Expr} {ta : TA} {p pos tpos kp : Pos} {elts : List Expr} {kk : Nat} {k : Int} {ce : Expr} (hg : Gl X "enumerate") (hm : X.mg "enumerate" = none) (ha : PA X [e] ta) (hc : PE X ce (tC (.int k))) (hk : -(2 ^ 63) ≤ k ∧ k < 2 ^ 63)
    (hs : starEach [e] X.env = [(false, eval e X.env)] := by rfl) :
    PI X (.Tuple elts kk tpos) (.Call (.Name "enumerate" p) [e] [⟨some "start", ce, kp⟩] pos) (iEnumA X.K ta k) := by
  refine ⟨fun pins s σ H R I h => ?_⟩
  refine wpAny_Call_Name_kw (ld_blt I hg hm boot_enumerate ?_)
  refine callWith_type_kwB (by rw [hs]; rfl) (by rfl) ?_
  refine evalArgs_kw2 (by rfl) (thn (ha.run pos pins s σ H _ I h) fun us s1 hh => ?_) hs
  obtain ⟨vs, H1, I1, r1, q1⟩ := hh
  refine PyProof.Rows.kws_cons (thn (hc.run pins s1 σ H1 (fun v H2 => v = .int k ∧ H2 = H1) I1 ⟨rfl, rfl⟩) fun v s2 hh => ?_)
  obtain ⟨x, H2, I2, r2, rfl, rfl⟩ := hh
  refine PyProof.Rows.kws_nil ?_
  obtain ⟨a, xs, rfl, q1⟩ := q1
  obtain ⟨t, rfl⟩ := r2
  cases r1 with
  | cons r rr =>
    cases rr
    cases r
    rcases q1 with ⟨hq, q⟩ | ⟨hq, q⟩
    · obtain ⟨its, rv, p', hz⟩ := I2.list hq
      have p2 : s2.heap.IsList a its.toArray := p'.isList
      refine enum_begins_start (k := k) (t := t) (begins_list a its.toArray) p2 hk.1 hk.2 fun h' he hit hsz hkk => wpAny_pyIter_enum he ?_
      have I3 : Inv X pins σ H2 { s2 with heap := h' } := I2.kept (t' := s2.toks) hkk
      have hal : a < s2.heap.objs.size := by obtain ⟨o, ho, _⟩ := p2; exact Heap.lt_size ho
      refine ⟨s2.heap.objs.size + 1, [s2.heap.objs.size + 1, s2.heap.objs.size], _, _, H2, rfl, I3, turn_enumL a (s2.heap.objs.size + 1) s2.heap.objs.size k, ⟨⟨.none, ?_⟩, ⟨_, hit, rfl, rfl⟩, Nat.succ_ne_self _, Nat.ne_of_lt hal, ?_⟩, fun b hb => ?_, q⟩
      · have e0 : k + ((0 : Nat) : Int) = k := by omega
        rw [e0]; exact he
      · exact Nat.ne_of_gt (Nat.lt_succ_of_lt hal)
      have e' : b = s2.heap.objs.size + 1 ∨ b = s2.heap.objs.size := by simpa using hb
      have hle : s2.heap.objs.size ≤ b := by
        rcases e' with z | z
        · rw [z]; exact Nat.le_add_right _ _
        · rw [z]; exact Nat.le_refl _
      exact I2.fpOk hle (I2.hok.fresh hle)
    · obtain ⟨its, rv, p', hz⟩ := I2.tuple hq
      have p2 : s2.heap.IsTuple a its.toArray := p'
      refine enum_begins_start (k := k) (t := t) (begins_tuple a its.toArray) p2 hk.1 hk.2 fun h' he hit hsz hkk => wpAny_pyIter_enum he ?_
      have I3 : Inv X pins σ H2 { s2 with heap := h' } := I2.kept (t' := s2.toks) hkk
      have hal : a < s2.heap.objs.size := by obtain ⟨o, ho, _⟩ := p2; exact Heap.lt_size ho
      refine ⟨s2.heap.objs.size + 1, [s2.heap.objs.size + 1, s2.heap.objs.size], _, _, H2, rfl, I3, turn_enumT a (s2.heap.objs.size + 1) s2.heap.objs.size k, ⟨⟨.none, ?_⟩, ⟨_, hit, rfl, rfl⟩, Nat.succ_ne_self _, Nat.ne_of_lt hal, ?_⟩, fun b hb => ?_, q⟩
      · have e0 : k + ((0 : Nat) : Int) = k := by omega
        rw [e0]; exact he
      · exact Nat.ne_of_gt (Nat.lt_succ_of_lt hal)
      have e' : b = s2.heap.objs.size + 1 ∨ b = s2.heap.objs.size := by simpa using hb
      have hle : s2.heap.objs.size ≤ b := by
        rcases e' with z | z
        · rw [z]; exact Nat.le_add_right _ _
        · rw [z]; exact Nat.le_refl _
      exact I2.fpOk hle (I2.hok.fresh hle)
theorem pi_enumA {X : Cx} {e : Expr} {ta : TA} {p pos tpos : Pos} {elts : List Expr} {kk : Nat} (hg : Gl X "enumerate") (hm : X.mg "enumerate" = none) (ha : PA X [e] ta) (hs : starEach [e] X.env = [(false, eval e X.env)] := by rfl) :
    PI X (.Tuple elts kk tpos) (.Call (.Name "enumerate" p) [e] [] pos) (iEnumA X.K ta 0) := by
  refine ⟨fun pins s σ H R I h => ?_⟩
  refine Call_ (ld_blt I hg hm boot_enumerate (PyProof.Rows.callWith_type1 (thn (ha.run pos pins s σ H _ I h) fun us s1 ⟨vs, H1, I1, r1, q1⟩ => ?_) hs rfl))
  obtain ⟨a, xs, ex, q1⟩ := q1
  subst ex
  cases r1 with
  | cons r rr =>
    cases rr
    cases r
    rcases q1 with ⟨hq, q⟩ | ⟨hq, q⟩
    · obtain ⟨its, rv, p', hz⟩ := I1.list hq
      have p2 : s1.heap.IsList a its.toArray := p'.isList
      refine enum_begins1 (begins_list a its.toArray) p2 fun h' he hit hsz hk => wpAny_pyIter_enum he ?_
      have I2 : Inv X pins σ H1 { s1 with heap := h' } := I1.kept (t' := s1.toks) hk
      have hal : a < s1.heap.objs.size := by obtain ⟨o, ho, _⟩ := p2; exact Heap.lt_size ho
      refine ⟨s1.heap.objs.size + 1, [s1.heap.objs.size + 1, s1.heap.objs.size], _, _, H1, rfl, I2, turn_enumL a (s1.heap.objs.size + 1) s1.heap.objs.size 0, ⟨⟨.none, by simpa using he⟩, ⟨_, hit, rfl, rfl⟩, Nat.succ_ne_self _, Nat.ne_of_lt hal, Nat.ne_of_gt (Nat.lt_succ_of_lt hal)⟩, fun b hb => ?_, q⟩
      have e' : b = s1.heap.objs.size + 1 ∨ b = s1.heap.objs.size := by simpa using hb
      have hle : s1.heap.objs.size ≤ b := by
        rcases e' with z | z
        · rw [z]; exact Nat.le_add_right _ _
        · rw [z]; exact Nat.le_refl _
      exact I1.fpOk hle (I1.hok.fresh hle)
    · obtain ⟨its, rv, p', hz⟩ := I1.tuple hq
      have p2 : s1.heap.IsTuple a its.toArray := p'
      refine enum_begins1 (begins_tuple a its.toArray) p2 fun h' he hit hsz hk => wpAny_pyIter_enum he ?_
      have I2 : Inv X pins σ H1 { s1 with heap := h' } := I1.kept (t' := s1.toks) hk
      have hal : a < s1.heap.objs.size := by obtain ⟨o, ho, _⟩ := p2; exact Heap.lt_size ho
      refine ⟨s1.heap.objs.size + 1, [s1.heap.objs.size + 1, s1.heap.objs.size], _, _, H1, rfl, I2, turn_enumT a (s1.heap.objs.size + 1) s1.heap.objs.size 0, ⟨⟨.none, by simpa using he⟩, ⟨_, hit, rfl, rfl⟩, Nat.succ_ne_self _, Nat.ne_of_lt hal, Nat.ne_of_gt (Nat.lt_succ_of_lt hal)⟩, fun b hb => ?_, q⟩
      have e' : b = s1.heap.objs.size + 1 ∨ b = s1.heap.objs.size := by simpa using hb
      have hle : s1.heap.objs.size ≤ b := by
        rcases e' with z | z
        · rw [z]; exact Nat.le_add_right _ _
        · rw [z]; exact Nat.le_refl _
      exact I1.fpOk hle (I1.hok.fresh hle)
end WD

set_option Elab.async false
set_option linter.all false
set_option maxRecDepth 100000
set_option maxHeartbeats 1000000
/-! a layer without the heap: slots hold data (PyData), raw values, lists and dicts of one's own, the pool -/
namespace WD
open PySem PySem.Spec PyProof.Rows L2
def Sub (F H : Hp) : Prop := ∀ a o, F a = some o → H a = some o
theorem Sub.refl (F : Hp) : Sub F F := fun _ _ h => h
theorem Sub.trans {A B C : Hp} (h : Sub A B) (g : Sub B C) : Sub A C := fun a o e => g a o (h a o e)
theorem Sub.upd {F H : Hp} {a : Addr} {o : HO} (h : Sub F H) : Sub (upd F a o) (upd H a o) := fun b u e => by
  by_cases z : b = a
  · subst z; rw [upd_same] at e ⊢; exact e
  · rw [upd_ne z] at e ⊢; exact h b u e
theorem Sub.new {F H : Hp} {a : Addr} {o : HO} (h : Sub F H) (n : F a = none) : Sub F (L2.upd H a o) := fun b u e => by
  rw [upd_ne (ne_of_none e n)]; exact h b u e
theorem Sub.none {F H : Hp} {a : Addr} (h : Sub F H) (n : H a = none) : F a = none := by
  cases e : F a with
  | none => rfl
  | some o => rw [h a o e] at n; cases n
theorem Sub.put {F H : Hp} {a : Addr} {o : HO} (h : Sub F H) (n : H a = some o) : Sub (L2.upd F a o) H := fun b u e => by
  by_cases z : b = a
  · subst z; rw [upd_same] at e; rw [← e]; exact n
  · rw [upd_ne z] at e; exact h b u e
end WD
namespace L2
open PySem PySem.Spec PyProof.Rows WD
section
variable {K : PySem.W.Frag}
theorem Rd.sub {F H : Hp} {a : Addr} {o : HO} (s : Sub F H) (h : Rd F a o) : Rd H a o := by
  rcases h with h | ⟨u, h⟩
  · exact .inl (s _ _ h)
  · exact .inr ⟨u, s _ _ h⟩
theorem SqL.sub {F H : Hp} {a : Addr} {xs : List V} (s : Sub F H) (h : SqL K F a xs) : SqL K H a xs := by
  rcases h with h | h
  · exact .inl (Rd.sub s h)
  · exact .inr h
theorem SqT.sub {F H : Hp} {a : Addr} {xs : List V} (s : Sub F H) (h : SqT K F a xs) : SqT K H a xs := by
  rcases h with h | h
  · exact .inl (Rd.sub s h)
  · exact .inr h
mutual
/-- data in the heap: lists are objects of their own, tuples may stand in the written part too -/
inductive Dq (K : PySem.W.Frag) (H : Hp) : V → PyData → Prop
  | non : Dq K H .non .none
  | bl (b : Bool) : Dq K H (.bl b) (.bool b)
  | int (i : Int) : Dq K H (.int i) (.int i)
  | str (x : Str) : Dq K H (.str x) (.str x)
  | lst {a : Addr} {xs : List V} {ds : List PyData} : H a = some (.lst xs) → DqAll K H xs ds → Dq K H (.ref a) (.list ds)
  | tup {a : Addr} {xs : List V} {ds : List PyData} : SqT K H a xs → DqAll K H xs ds → Dq K H (.ref a) (.tuple ds)
inductive DqAll (K : PySem.W.Frag) (H : Hp) : List V → List PyData → Prop
  | nil : DqAll K H [] []
  | cons {v : V} {vs : List V} {d : PyData} {ds : List PyData} : Dq K H v d → DqAll K H vs ds → DqAll K H (v :: vs) (d :: ds)
end
mutual
theorem Dq.sub {F H : Hp} (s : Sub F H) : ∀ {v : V} {x : PyData}, Dq K F v x → Dq K H v x
  | _, _, .non => .non
  | _, _, .bl b => .bl b
  | _, _, .int i => .int i
  | _, _, .str x => .str x
  | _, _, .lst h g => .lst (s _ _ h) (DqAll.sub s g)
  | _, _, .tup h g => .tup (SqT.sub s h) (DqAll.sub s g)
theorem DqAll.sub {F H : Hp} (s : Sub F H) : ∀ {vs : List V} {xs : List PyData}, DqAll K F vs xs → DqAll K H vs xs
  | _, _, .nil => .nil
  | _, _, .cons h g => .cons (Dq.sub s h) (DqAll.sub s g)
end
mutual
theorem Dq.dp {F : Hp} : ∀ {v : V} {x : PyData}, Dq K F v x → Dp K F v x
  | _, _, .non => .non
  | _, _, .bl b => .bl b
  | _, _, .int i => .int i
  | _, _, .str x => .str x
  | _, _, .lst h g => .lst (SqL.of h) (DqAll.dp g)
  | _, _, .tup h g => .tup h (DqAll.dp g)
theorem DqAll.dp {F : Hp} : ∀ {vs : List V} {xs : List PyData}, DqAll K F vs xs → DpAll K F vs xs
  | _, _, .nil => .nil
  | _, _, .cons h g => .cons (Dq.dp h) (DqAll.dp g)
end
theorem DqAll.len {F : Hp} : ∀ {vs : List V} {xs : List PyData}, DqAll K F vs xs → vs.length = xs.length
  | _, _, .nil => rfl
  | _, _, .cons _ g => by simp [DqAll.len g]
theorem DqAll.get {F : Hp} : ∀ {vs : List V} {xs : List PyData} {i : Nat} {x : PyData}, DqAll K F vs xs → xs[i]? = some x → ∃ v, vs[i]? = some v ∧ Dq K F v x
  | _, _, i, _, .nil, e => by simp at e
  | _, _, 0, _, .cons h _, e => by simp at e; subst e; exact ⟨_, rfl, h⟩
  | _, _, i + 1, _, .cons _ g, e => by
    obtain ⟨v, h1, h2⟩ := DqAll.get (i := i) g (by simpa using e)
    exact ⟨v, by simpa using h1, h2⟩
theorem DqAll.get2 {F : Hp} {vs : List V} {xs : List PyData} {i : Nat} {v : V} (h : DqAll K F vs xs) (e : vs[i]? = some v) : ∃ x, xs[i]? = some x ∧ Dq K F v x := by
  have l := h.len
  obtain ⟨hi, _⟩ := List.getElem?_eq_some_iff.mp e
  obtain ⟨x, ex⟩ : ∃ x, xs[i]? = some x := ⟨xs[i]'(by omega), List.getElem?_eq_getElem (by omega)⟩
  obtain ⟨v', h1, h2⟩ := h.get ex
  rw [e] at h1; cases h1
  exact ⟨x, ex, h2⟩
theorem DqAll.app {F : Hp} : ∀ {vs us : List V} {xs ys : List PyData}, DqAll K F vs xs → DqAll K F us ys → DqAll K F (vs ++ us) (xs ++ ys)
  | _, _, _, _, .nil, g => g
  | _, _, _, _, .cons h t, g => .cons h (DqAll.app t g)
theorem DqAll.one {F : Hp} {v : V} {x : PyData} (h : Dq K F v x) : DqAll K F [v] [x] := .cons h .nil
theorem DqAll.set {F : Hp} {v : V} {x : PyData} (r : Dq K F v x) : ∀ {vs : List V} {xs : List PyData} (i : Nat), DqAll K F vs xs → DqAll K F (vs.set i v) (xs.set i x)
  | _, _, _, .nil => .nil
  | _, _, 0, .cons _ t => .cons r t
  | _, _, i + 1, .cons q t => .cons q (DqAll.set r i t)
theorem DqAll.take {F : Hp} : ∀ {vs : List V} {xs : List PyData} (n : Nat), DqAll K F vs xs → DqAll K F (vs.take n) (xs.take n)
  | _, _, 0, _ => .nil
  | _, _, _ + 1, .nil => .nil
  | _, _, n + 1, .cons r t => .cons r (DqAll.take n t)
theorem DqAll.drop {F : Hp} : ∀ {vs : List V} {xs : List PyData} (n : Nat), DqAll K F vs xs → DqAll K F (vs.drop n) (xs.drop n)
  | _, _, 0, r => r
  | _, _, _ + 1, .nil => .nil
  | _, _, n + 1, .cons _ t => DqAll.drop n t
theorem DqAll.erase {F : Hp} {vs : List V} {xs : List PyData} (n : Nat) (h : DqAll K F vs xs) : DqAll K F (vs.eraseIdx n) (xs.eraseIdx n) := by
  rw [List.eraseIdx_eq_take_drop_succ, List.eraseIdx_eq_take_drop_succ]
  exact (h.take n).app (h.drop (n + 1))
theorem DqAll.rep {F : Hp} {v : V} {x : PyData} (h : Dq K F v x) : ∀ n, DqAll K F (List.replicate n v) (List.replicate n x)
  | 0 => .nil
  | n + 1 => .cons h (DqAll.rep h n)
theorem DqAll.ints {F : Hp} {vs : List V} {ns : List Int} (h : DqAll K F vs (ns.map PyData.int)) : vs = ns.map V.int := by
  induction ns generalizing vs with
  | nil => cases h; rfl
  | cons n r ih => cases h with | cons h g => cases h; rw [ih g]; rfl
theorem DqAll.strs {F : Hp} {vs : List V} {ns : List Str} (h : DqAll K F vs (ns.map PyData.str)) : vs = ns.map V.str := by
  induction ns generalizing vs with
  | nil => cases h; rfl
  | cons n r ih => cases h with | cons h g => cases h; rw [ih g]; rfl
theorem DqAll.bools {F : Hp} {vs : List V} {ns : List Bool} (h : DqAll K F vs (ns.map PyData.bool)) : vs = ns.map V.bl := by
  induction ns generalizing vs with
  | nil => cases h; rfl
  | cons n r ih => cases h with | cons h g => cases h; rw [ih g]; rfl
end
end L2
namespace WD
open PySem PySem.Spec PyProof.Rows L2
/-- the drawing's pool -/
def Pool (H : Hp) (a l : Addr) : Prop := ∃ (p0 p1 : Int) (ns : List Int), H a = some (.lst [.int p0, .int p1, .ref l]) ∧ H l = some (.lst (ns.map V.int)) ∧ a ≠ l ∧ 0 ≤ p0 ∧ 0 ≤ p1 ∧ p1 < 4294967296
theorem Pool.ex {H : Hp} {a l : Addr} (h : Pool H a l) : ∃ o u, H a = some o ∧ H l = some u ∧ a ≠ l := by
  obtain ⟨_, _, _, h1, h2, h3, _⟩ := h
  exact ⟨_, _, h1, h2, h3⟩
theorem Pool.ne {H : Hp} {a l p : Addr} {o : HO} (h : Pool H a l) (h1 : a ≠ p) (h2 : l ≠ p) : Pool (upd H p o) a l := by
  obtain ⟨p0, p1, ns, e1, e2, r⟩ := h
  exact ⟨p0, p1, ns, by rw [upd_ne h1]; exact e1, by rw [upd_ne h2]; exact e2, r⟩
theorem Pool.stay {S : List Addr} {H H' : Hp} {a l : Addr} (h : Pool H a l) (s : Stay S H H') (h1 : a ∉ S) (h2 : l ∉ S) : Pool H' a l := by
  obtain ⟨p0, p1, ns, e1, e2, r⟩ := h
  exact ⟨p0, p1, ns, s.keep _ _ e1 h1, s.keep _ _ e2 h2, r⟩
theorem Pool.same {H H' : Hp} {a l : Addr} (h : Pool H a l) (h1 : H' a = H a) (h2 : H' l = H l) : Pool H' a l := by
  obtain ⟨p0, p1, ns, e1, e2, r⟩ := h
  exact ⟨p0, p1, ns, by rw [h1]; exact e1, by rw [h2]; exact e2, r⟩
theorem mk_pool {H : Hp} {q l : Addr} {p0 p1 : Int} {xs : List V} (c : H q = some (.lst [.int p0, .int p1, .ref l])) (d : H l = some (.lst xs)) (e : ∃ ns : List Int, xs = ns.map V.int) (f : q ≠ l) (h0 : 0 ≤ p0) (h1 : 0 ≤ p1) (h2 : p1 < 4294967296) : Pool H q l := by
  obtain ⟨ns, rfl⟩ := e
  exact ⟨p0, p1, ns, c, d, f, h0, h1, h2⟩

/-- what a slot or a value in flight is: data; a raw value; a list, a dict of one's own; the pool; a caught error (at a, its dict at d, its what) -/
inductive W where
  | d (x : PyData) | v (u : V) | l (xs : List PyData) | m (kvs : List (Key × PyData)) | pool (a l : Addr) | ex (a d : Addr) (w : PyData)
  | r (p : Addr) (xs : List PyData) | hl (p : Addr) (qs : List Addr) (xss : List (List PyData)) | hm (p : Addr) (qs : List Addr) (ks : List Key) (xss : List (List PyData))
abbrev Env := List (Option W)
inductive RK (K : PySem.W.Frag) (F : Hp) : List (Key × PyData) → List (Key × V) → Prop
  | nil : RK K F [] []
  | cons {k : Key} {x : PyData} {v : V} {r : List (Key × PyData)} {q : List (Key × V)} : Dq K F v x → RK K F r q → RK K F ((k, x) :: r) ((k, v) :: q)
theorem RK.sub {K : PySem.W.Frag} {F H : Hp} (s : Sub F H) {r : List (Key × PyData)} {q : List (Key × V)} (h : RK K F r q) : RK K H r q := by
  induction h with
  | nil => exact .nil
  | cons a _ ih => exact .cons (a.sub s) ih
/-- lists of data, each its own -/
inductive HI (K : PySem.W.Frag) (F H : Hp) : List Addr → List (List PyData) → Prop
  | nil : HI K F H [] []
  | cons {q : Addr} {vs : List V} {xs : List PyData} {qs : List Addr} {xss : List (List PyData)} : H q = some (.lst vs) → DqAll K F vs xs → HI K F H qs xss → HI K F H (q :: qs) (xs :: xss)
theorem HI.mono {K : PySem.W.Frag} {F F' H H' : Hp} {qs : List Addr} {xss : List (List PyData)} (h : HI K F H qs xss) (s : Sub F F') (k : ∀ q ∈ qs, H' q = H q) : HI K F' H' qs xss := by
  induction h with
  | nil => exact .nil
  | cons a b _ ih => exact .cons (by rw [k _ List.mem_cons_self]; exact a) (b.sub s) (ih fun q m => k q (List.mem_cons_of_mem _ m))
theorem HI.there {K : PySem.W.Frag} {F H : Hp} {qs : List Addr} {xss : List (List PyData)} (h : HI K F H qs xss) : ∀ q ∈ qs, H q ≠ none := by
  induction h with
  | nil => simp
  | cons a b _ ih =>
    intro q m
    rcases List.mem_cons.mp m with rfl | m
    · rw [a]; simp
    · exact ih q m
theorem HI.len {K : PySem.W.Frag} {F H : Hp} {qs : List Addr} {xss : List (List PyData)} (h : HI K F H qs xss) : qs.length = xss.length := by
  induction h with
  | nil => rfl
  | cons _ _ _ ih => simp [ih]
theorem HI.get {K : PySem.W.Frag} {F H : Hp} {qs : List Addr} {xss : List (List PyData)} (h : HI K F H qs xss) {j : Nat} {q : Addr} (e : qs[j]? = some q) : ∃ vs xs, xss[j]? = some xs ∧ H q = some (.lst vs) ∧ DqAll K F vs xs := by
  induction h generalizing j with
  | nil => simp at e
  | @cons q' vs xs qs xss a b _ ih =>
    cases j with
    | zero => simp at e; subst e; exact ⟨vs, xs, rfl, a, b⟩
    | succ j => exact ih (by simpa using e)
theorem HI.put {K : PySem.W.Frag} {F H : Hp} {qs : List Addr} {xss : List (List PyData)} (h : HI K F H qs xss) (nd : qs.Nodup) {j : Nat} {q : Addr} {vs : List V} {xs : List PyData} (e : qs[j]? = some q) (d : DqAll K F vs xs) : HI K F (upd H q (.lst vs)) qs (xss.set j xs) := by
  induction h generalizing j with
  | nil => simp at e
  | @cons q' vs' xs' qs xss a b g ih =>
    obtain ⟨n1, n2⟩ := List.nodup_cons.mp nd
    cases j with
    | zero =>
      simp at e; subst e
      exact .cons upd_same d (g.mono (Sub.refl F) fun r m => upd_ne fun z => n1 (z ▸ m))
    | succ j =>
      have m : q ∈ qs := List.mem_of_getElem? (show qs[j]? = some q by simpa using e)
      exact .cons (by rw [upd_ne (fun z => n1 (by rw [z]; exact m))]; exact a) b (ih n2 (by simpa using e))
theorem HI.app {K : PySem.W.Frag} {F H : Hp} {qs qs' : List Addr} {xss xss' : List (List PyData)} (h : HI K F H qs xss) (g : HI K F H qs' xss') : HI K F H (qs ++ qs') (xss ++ xss') := by
  induction h with
  | nil => exact g
  | cons a b _ ih => exact .cons a b ih
section
variable (K : PySem.W.Frag)
def RW (F H : Hp) : W → V → List Addr → Prop
  | .d x, u, fp => fp = [] ∧ Dq K F u x
  | .v w, u, fp => fp = [] ∧ u = w
  | .l xs, u, fp => ∃ p vs, u = .ref p ∧ fp = [p] ∧ H p = some (.lst vs) ∧ DqAll K F vs xs
  | .m kvs, u, fp => ∃ p ys, u = .ref p ∧ fp = [p] ∧ H p = some (.dK ys) ∧ RK K F kvs ys
  | .pool a l, u, fp => u = .ref a ∧ fp = [a, l] ∧ Pool H a l
  | .ex a d w, u, fp => fp = [] ∧ u = .ref a ∧ ∃ v, F d = some (.xd [(("what" : Str), v)]) ∧ Dq K F v w
  | .r p xs, u, fp => u = .ref p ∧ fp = [p] ∧ ∃ vs, H p = some (.lst vs) ∧ DqAll K F vs xs
  | .hl p qs xss, u, fp => u = .ref p ∧ fp = p :: qs ∧ H p = some (.lst (qs.map V.ref)) ∧ HI K F H qs xss
  | .hm p qs ks xss, u, fp => u = .ref p ∧ fp = p :: qs ∧ ks.length = qs.length ∧ H p = some (.dK (ks.zip (qs.map V.ref))) ∧ HI K F H qs xss
inductive RS (F H : Hp) : Env → L2.St → List Addr → Prop
  | nil : RS F H [] [] []
  | no {ρ : Env} {s : Option V} {σ : L2.St} {fp : List Addr} : RS F H ρ σ fp → RS F H (none :: ρ) (s :: σ) fp
  | so {w : W} {u : V} {f : List Addr} {ρ : Env} {σ : L2.St} {fp : List Addr} : RW K F H w u f → RS F H ρ σ fp → RS F H (some w :: ρ) (some u :: σ) (f ++ fp)
/-- a value in flight: itself, or slot i's -/
inductive T where
  | w (x : W) | p (i : Nat)
def W.own : W → Bool
  | .d _ => false
  | .v _ => false
  | .ex _ _ _ => false
  | _ => true
/-- own, or a list of data -/
def W.lst : W → Bool
  | .d (.list _) => true
  | .d _ => false
  | .v _ => false
  | .ex _ _ _ => false
  | _ => true
inductive RT (ρ : Env) (σ : L2.St) (F H : Hp) : List T → List V → List Addr → Prop
  | nil : RT ρ σ F H [] [] []
  | w {x : W} {u : V} {f : List Addr} {τ : List T} {vs : List V} {fp : List Addr} : RW K F H x u f → RT ρ σ F H τ vs fp → RT ρ σ F H (.w x :: τ) (u :: vs) (f ++ fp)
  | p {i : Nat} {x : W} {u : V} {τ : List T} {vs : List V} {fp : List Addr} : σ[i]? = some (some u) → ρ[i]? = some (some x) → x.lst = true → RT ρ σ F H τ vs fp → RT ρ σ F H (.p i :: τ) (u :: vs) fp
end
structure Base where
  H : Hp
  S : List Addr
  F : Hp
/-- what must stay known: at the def's entry, and at G -/
def Low (B : Base) (G F : Hp) : Prop := Sub B.F F ∧ Sub G F
theorem Low.trans {B : Base} {G F F' : Hp} (h : Low B G F) (s : Sub F F') : Low B G F' := ⟨h.1.trans s, h.2.trans s⟩
structure Rel (K : PySem.W.Frag) (B : Base) (G : Hp) (ρ : Env) (σ : L2.St) (τ : List T) (vs : List V) (F H : Hp) : Prop where
  ex : ∃ fs ft, RS K F H ρ σ fs ∧ RT K ρ σ F H τ vs ft ∧ (ft ++ fs).Nodup ∧ (∀ p ∈ ft ++ fs, F p = none ∧ (p ∈ B.S ∨ B.H p = none))
  sub : Sub F H
  stay : Stay B.S B.H H
  base : Low B G F
  new : ∀ a, B.F a = none → F a ≠ none → B.H a = none ∨ a ∈ B.S
section
variable {K : PySem.W.Frag} {B : Base} {G : Hp} {ρ : Env} {σ : L2.St} {τ : List T} {vs : List V} {F H F' H' : Hp}
theorem RW.mono {w : W} {u : V} {fp : List Addr} (h : RW K F H w u fp) (s : Sub F F') (k : ∀ p ∈ fp, H' p = H p) : RW K F' H' w u fp := by
  cases w with
  | d x => exact ⟨h.1, h.2.sub s⟩
  | v w => exact h
  | l xs =>
    obtain ⟨p, vs, rfl, rfl, h1, h2⟩ := h
    exact ⟨p, vs, rfl, rfl, by rw [k p (by simp)]; exact h1, h2.sub s⟩
  | m kvs =>
    obtain ⟨p, ys, rfl, rfl, h1, h2⟩ := h
    exact ⟨p, ys, rfl, rfl, by rw [k p (by simp)]; exact h1, h2.sub s⟩
  | pool a l =>
    obtain ⟨rfl, rfl, h1⟩ := h
    exact ⟨rfl, rfl, h1.same (k a (by simp)) (k l (by simp))⟩
  | ex a d w =>
    obtain ⟨rfl, rfl, v, h1, h2⟩ := h
    exact ⟨rfl, rfl, v, s _ _ h1, h2.sub s⟩
  | r p xs =>
    obtain ⟨rfl, rfl, vs, h1, h2⟩ := h
    exact ⟨rfl, rfl, vs, by rw [k p (by simp)]; exact h1, h2.sub s⟩
  | hl p qs xss =>
    obtain ⟨rfl, rfl, h1, h2⟩ := h
    exact ⟨rfl, rfl, by rw [k p (by simp)]; exact h1, h2.mono s fun q m => k q (List.mem_cons_of_mem _ m)⟩
  | hm p qs ks xss =>
    obtain ⟨rfl, rfl, l, h1, h2⟩ := h
    exact ⟨rfl, rfl, l, by rw [k p (by simp)]; exact h1, h2.mono s fun q m => k q (List.mem_cons_of_mem _ m)⟩
theorem RW.there {w : W} {u : V} {fp : List Addr} (h : RW K F H w u fp) : ∀ p ∈ fp, H p ≠ none := by
  cases w with
  | d x => rw [h.1]; simp
  | v w => rw [h.1]; simp
  | ex a d w => rw [h.1]; simp
  | r p xs =>
    obtain ⟨rfl, rfl, vs, h1, h2⟩ := h
    intro q hq; simp at hq; subst hq; rw [h1]; simp
  | hl p qs xss =>
    obtain ⟨rfl, rfl, h1, h2⟩ := h
    intro q hq
    rcases List.mem_cons.mp hq with rfl | m
    · rw [h1]; simp
    · exact h2.there q m
  | hm p qs ks xss =>
    obtain ⟨rfl, rfl, l, h1, h2⟩ := h
    intro q hq
    rcases List.mem_cons.mp hq with rfl | m
    · rw [h1]; simp
    · exact h2.there q m
  | l xs =>
    obtain ⟨p, vs, rfl, rfl, h1, h2⟩ := h
    intro q hq; simp at hq; subst hq; rw [h1]; simp
  | m kvs =>
    obtain ⟨p, ys, rfl, rfl, h1, h2⟩ := h
    intro q hq; simp at hq; subst hq; rw [h1]; simp
  | pool a l =>
    obtain ⟨rfl, rfl, h1⟩ := h
    obtain ⟨o, u, e1, e2, _⟩ := h1.ex
    intro q hq; simp at hq
    rcases hq with rfl | rfl
    · rw [e1]; simp
    · rw [e2]; simp
theorem RS.mono {fp : List Addr} (h : RS K F H ρ σ fp) (s : Sub F F') (k : ∀ p ∈ fp, H' p = H p) : RS K F' H' ρ σ fp := by
  induction h with
  | nil => exact .nil
  | no _ ih => exact .no (ih k)
  | so r _ ih => exact .so (r.mono s fun p hp => k p (List.mem_append_left _ hp)) (ih fun p hp => k p (List.mem_append_right _ hp))
theorem RS.there {fp : List Addr} (h : RS K F H ρ σ fp) : ∀ p ∈ fp, H p ≠ none := by
  induction h with
  | nil => simp
  | no _ ih => exact ih
  | so r _ ih =>
    intro p hp
    rcases List.mem_append.mp hp with q | q
    · exact r.there p q
    · exact ih p q
theorem RT.mono {fp : List Addr} (h : RT K ρ σ F H τ vs fp) (s : Sub F F') (k : ∀ p ∈ fp, H' p = H p) : RT K ρ σ F' H' τ vs fp := by
  induction h with
  | nil => exact .nil
  | w r _ ih => exact .w (r.mono s fun p hp => k p (List.mem_append_left _ hp)) (ih fun p hp => k p (List.mem_append_right _ hp))
  | p a b c _ ih => exact .p a b c (ih k)
theorem RT.there {fp : List Addr} (h : RT K ρ σ F H τ vs fp) : ∀ p ∈ fp, H p ≠ none := by
  induction h with
  | nil => simp
  | w r _ ih =>
    intro p hp
    rcases List.mem_append.mp hp with q | q
    · exact r.there p q
    · exact ih p q
  | p a b c _ ih => exact ih
theorem RT.len {fp : List Addr} (h : RT K ρ σ F H τ vs fp) : τ.length = vs.length := by
  induction h with
  | nil => rfl
  | w r _ ih => simp [ih]
  | p a b c _ ih => simp [ih]
/-- slot i taken out of the row -/
theorem RS.at {fp : List Addr} (h : RS K F H ρ σ fp) : ∀ {i : Nat} {w : W}, ρ[i]? = some (some w) → ∃ u f1 f f2, σ[i]? = some (some u) ∧ fp = f1 ++ f ++ f2 ∧ RW K F H w u f ∧
    ∀ {F' H' : Hp} {o : Option W} {s : Option V} {g : List Addr}, Sub F F' → (∀ p ∈ f1 ++ f2, H' p = H p) → (o = none ∧ g = [] ∨ ∃ w' u', o = some w' ∧ s = some u' ∧ RW K F' H' w' u' g) → RS K F' H' (ρ.set i o) (σ.set i s) (f1 ++ g ++ f2) := by
  induction h with
  | nil => intro i w e; simp at e
  | @no ρ s σ fp h ih =>
    intro i w e
    cases i with
    | zero => simp at e
    | succ i =>
      obtain ⟨u, f1, f, f2, e1, rfl, r, k⟩ := ih (by simpa using e)
      exact ⟨u, f1, f, f2, by simpa using e1, rfl, r, fun s a b => .no (k s a b)⟩
  | @so w0 u0 f0 ρ σ fp r0 h ih =>
    intro i w e
    cases i with
    | zero =>
      simp at e; subst e
      refine ⟨u0, [], f0, fp, rfl, rfl, r0, fun {F' H' o s g} su kp c => ?_⟩
      rcases c with ⟨rfl, rfl⟩ | ⟨w', u', rfl, rfl, r'⟩
      · exact .no (h.mono su fun p hp => kp p (by simpa using hp))
      · exact .so r' (h.mono su fun p hp => kp p (by simpa using hp))
    | succ i =>
      obtain ⟨u, f1, f, f2, e1, rfl, r, k⟩ := ih (by simpa using e)
      refine ⟨u, f0 ++ f1, f, f2, by simpa using e1, by simp, r, fun {F' H' o s g} su kp c => ?_⟩
      have := RS.so (r0.mono su fun p hp => kp p (by simp [hp])) (k su (fun p hp => kp p (by simp only [List.mem_append] at hp ⊢; rcases hp with hp | hp <;> simp [hp])) c)
      simpa using this
/-- an empty slot filled -/
theorem RS.fill {fp : List Addr} (h : RS K F H ρ σ fp) : ∀ {i : Nat}, ρ[i]? = some none → ∃ f1 f2, fp = f1 ++ f2 ∧
    ∀ {F' H' : Hp} {o : Option W} {s : Option V} {g : List Addr}, Sub F F' → (∀ p ∈ f1 ++ f2, H' p = H p) → (o = none ∧ g = [] ∨ ∃ w' u', o = some w' ∧ s = some u' ∧ RW K F' H' w' u' g) → RS K F' H' (ρ.set i o) (σ.set i s) (f1 ++ g ++ f2) := by
  induction h with
  | nil => intro i e; simp at e
  | @no ρ s σ fp h ih =>
    intro i e
    cases i with
    | zero =>
      refine ⟨[], fp, rfl, fun {F' H' o s g} su kp c => ?_⟩
      rcases c with ⟨rfl, rfl⟩ | ⟨w', u', rfl, rfl, r'⟩
      · exact .no (h.mono su fun p hp => kp p (by simpa using hp))
      · exact .so r' (h.mono su fun p hp => kp p (by simpa using hp))
    | succ i =>
      obtain ⟨f1, f2, rfl, k⟩ := ih (by simpa using e)
      exact ⟨f1, f2, rfl, fun s a b => .no (k s a b)⟩
  | @so w0 u0 f0 ρ σ fp r0 h ih =>
    intro i e
    cases i with
    | zero => simp at e
    | succ i =>
      obtain ⟨f1, f2, rfl, k⟩ := ih (by simpa using e)
      refine ⟨f0 ++ f1, f2, by simp, fun {F' H' o s g} su kp c => ?_⟩
      have := RS.so (r0.mono su fun p hp => kp p (by simp [hp])) (k su (fun p hp => kp p (by simp only [List.mem_append] at hp ⊢; rcases hp with hp | hp <;> simp [hp])) c)
      simpa using this
end
end WD

set_option Elab.async false
set_option linter.all false
set_option maxRecDepth 100000
set_option maxHeartbeats 1000000
namespace WD
open PySem PySem.Spec PyProof.Rows L2
section
variable {K : PySem.W.Frag} {B : Base} {G : Hp} {ρ : Env} {σ : L2.St} {τ : List T} {vs : List V} {F H F' H' : Hp}
theorem Stay.get {H H' : Hp} (s : Stay [] H H') {p : Addr} (h : H p ≠ none) : H' p = H p := by
  cases e : H p with
  | none => exact absurd e h
  | some o => exact s.keep _ _ e nm0
theorem Stay.getS {S : List Addr} {H H' : Hp} (s : Stay S H H') {p : Addr} (h : H p ≠ none) (n : p ∉ S) : H' p = H p := by
  cases e : H p with
  | none => exact absurd e h
  | some o => exact s.keep _ _ e n
theorem Stay.nil {S : List Addr} {H H' : Hp} (s : Stay [] H H') : Stay S H H' := s.weak fun _ h => by simp at h
theorem Rel.push {x : PyData} {u : V} (r : Rel K B G ρ σ τ vs F H) (h : Dq K F u x) : Rel K B G ρ σ (.w (.d x) :: τ) (u :: vs) F H := by
  obtain ⟨fs, ft, a, b, c, d⟩ := r.ex
  exact ⟨⟨fs, ft, a, .w (f := []) ⟨rfl, h⟩ b, c, d⟩, r.sub, r.stay, r.base, r.new⟩
theorem Rel.pushV {u : V} (r : Rel K B G ρ σ τ vs F H) : Rel K B G ρ σ (.w (.v u) :: τ) (u :: vs) F H := by
  obtain ⟨fs, ft, a, b, c, d⟩ := r.ex
  exact ⟨⟨fs, ft, a, .w (f := []) ⟨rfl, rfl⟩ b, c, d⟩, r.sub, r.stay, r.base, r.new⟩
theorem Rel.pushP {i : Nat} {w : W} {u : V} (r : Rel K B G ρ σ τ vs F H) (h : ρ[i]? = some (some w)) (o : w.lst = true) (e : σ[i]? = some (some u)) : Rel K B G ρ σ (.p i :: τ) (u :: vs) F H := by
  obtain ⟨fs, ft, a, b, c, d⟩ := r.ex
  exact ⟨⟨fs, ft, a, .p e h o b, c, d⟩, r.sub, r.stay, r.base, r.new⟩
theorem Rel.pop {t : T} {u : V} (r : Rel K B G ρ σ (t :: τ) (u :: vs) F H) : Rel K B G ρ σ τ vs F H := by
  obtain ⟨fs, ft, a, b, c, d⟩ := r.ex
  cases b with
  | @w x u f τ vs fp e g =>
    refine ⟨⟨fs, fp, a, g, ?_, fun p hp => d p ?_⟩, r.sub, r.stay, r.base, r.new⟩
    · rw [List.append_assoc, List.nodup_append] at c
      exact c.2.1
    · simp only [List.mem_append] at hp ⊢; rcases hp with hp | hp <;> simp [hp]
  | p e1 e2 e3 g => exact ⟨⟨fs, ft, a, g, c, d⟩, r.sub, r.stay, r.base, r.new⟩
theorem Rel.pops {ts : List T} {us : List V} (l : ts.length = us.length) (r : Rel K B G ρ σ (ts ++ τ) (us ++ vs) F H) : Rel K B G ρ σ τ vs F H := by
  induction ts generalizing us with
  | nil => cases us with
    | nil => exact r
    | cons _ _ => simp at l
  | cons t ts ih => cases us with
    | nil => simp at l
    | cons u us => exact ih (by simpa using l) r.pop
theorem Rel.grow (r : Rel K B G ρ σ τ vs F H) (s1 : Sub F F') (s2 : Sub F' H') (st : Stay [] H H') (nw : ∀ a, F a = none → F' a ≠ none → H a = none) : Rel K B G ρ σ τ vs F' H' := by
  obtain ⟨fs, ft, a, b, c, d⟩ := r.ex
  have k : ∀ p ∈ ft ++ fs, H' p = H p := fun p hp => by
    rcases List.mem_append.mp hp with q | q
    · exact st.get (b.there p q)
    · exact st.get (a.there p q)
  have ne : ∀ p ∈ ft ++ fs, H p ≠ none := fun p hp => by
    rcases List.mem_append.mp hp with q | q
    · exact b.there p q
    · exact a.there p q
  refine ⟨⟨fs, ft, a.mono s1 fun p hp => k p (by simp [hp]), b.mono s1 fun p hp => k p (by simp [hp]), c, fun p hp => ⟨?_, (d p hp).2⟩⟩, s2, r.stay.trans st.nil, r.base.trans s1, fun p h1 h2 => ?_⟩
  · cases e : F' p with
    | none => rfl
    | some o => exact absurd (nw p (d p hp).1 (by rw [e]; simp)) (ne p hp)
  · by_cases e : F p = none
    · exact .inl (r.stay.old _ (nw p e h2))
    · exact r.new p h1 e
theorem Rel.lowF (r : Rel K B G ρ σ τ vs F H) : Rel K B F ρ σ τ vs F H := ⟨r.ex, r.sub, r.stay, ⟨r.base.1, Sub.refl F⟩, r.new⟩
theorem Rel.toG {G' : Hp} (r : Rel K B G ρ σ τ vs F H) (s : Sub G' G) : Rel K B G' ρ σ τ vs F H := ⟨r.ex, r.sub, r.stay, ⟨r.base.1, s.trans r.base.2⟩, r.new⟩
/-- a new frozen object -/
theorem Rel.laid {q : Addr} {o : HO} (r : Rel K B G ρ σ τ vs F H) (n : H q = none) : Rel K B G ρ σ τ vs (upd F q o) (upd H q o) :=
  r.grow (Sub.new (Sub.refl F) (r.sub.none n)) r.sub.upd (Stay.new (Stay.refl _ _) n) fun a h1 h2 => by
    by_cases z : a = q
    · rw [z]; exact n
    · rw [upd_ne z] at h2; exact absurd h1 h2
theorem Rel.noise {q : Addr} {o : HO} (r : Rel K B G ρ σ τ vs F H) (n : H q = none) : Rel K B G ρ σ τ vs F (upd H q o) :=
  r.grow (Sub.refl F) (Sub.new r.sub (r.sub.none n)) (Stay.new (Stay.refl _ _) n) fun a h1 h2 => absurd h1 h2
/-- a value with an own footprint, new -/
theorem Rel.pushW {w : W} {u : V} {f : List Addr} (r : Rel K B G ρ σ τ vs F H) (h : RW K F H w u f) (nd : f.Nodup) (n : ∀ p ∈ f, F p = none ∧ B.H p = none)
    (aw : ∀ fs ft, RS K F H ρ σ fs → RT K ρ σ F H τ vs ft → ∀ p ∈ ft ++ fs, p ∉ f) : Rel K B G ρ σ (.w w :: τ) (u :: vs) F H := by
  obtain ⟨fs, ft, a, b, c, d⟩ := r.ex
  refine ⟨⟨fs, f ++ ft, a, .w h b, ?_, fun p hp => ?_⟩, r.sub, r.stay, r.base, r.new⟩
  · rw [List.append_assoc, List.nodup_append]
    exact ⟨nd, c, fun p hp q hq e => aw fs ft a b q hq (e ▸ hp)⟩
  · rw [List.append_assoc] at hp
    rcases List.mem_append.mp hp with q | q
    · exact ⟨(n p q).1, .inr (n p q).2⟩
    · exact d p q
theorem Rel.lst {q : Addr} {us : List V} {xs : List PyData} (r : Rel K B G ρ σ τ vs F H) (n : H q = none) (h : DqAll K F us xs) : Rel K B G ρ σ (.w (.l xs) :: τ) (.ref q :: vs) F (upd H q (.lst us)) := by
  have r' := r.noise (o := .lst us) n
  obtain ⟨fs, ft, a, b, c, d⟩ := r.ex
  refine ⟨⟨fs, [q] ++ ft, a.mono (Sub.refl F) fun p hp => upd_ne fun z => a.there p hp (z ▸ n), .w (f := [q]) ⟨q, us, rfl, rfl, upd_same, h⟩ (b.mono (Sub.refl F) fun p hp => upd_ne fun z => b.there p hp (z ▸ n)), ?_, fun p hp => ?_⟩, r'.sub, r'.stay, r'.base, r'.new⟩
  · show (q :: (ft ++ fs)).Nodup
    rw [List.nodup_cons]
    refine ⟨fun hq => ?_, c⟩
    rcases List.mem_append.mp hq with z | z
    · exact b.there q z n
    · exact a.there q z n
  · have hp' : p = q ∨ p ∈ ft ++ fs := by simpa [List.append_assoc] using hp
    rcases hp' with rfl | hp'
    · exact ⟨r.sub.none n, .inr (r.stay.old _ n)⟩
    · exact d p hp'
theorem Rel.dct {q : Addr} {ys : List (Key × V)} {kvs : List (Key × PyData)} (r : Rel K B G ρ σ τ vs F H) (n : H q = none) (h : RK K F kvs ys) : Rel K B G ρ σ (.w (.m kvs) :: τ) (.ref q :: vs) F (upd H q (.dK ys)) := by
  have r' := r.noise (o := .dK ys) n
  obtain ⟨fs, ft, a, b, c, d⟩ := r.ex
  refine ⟨⟨fs, [q] ++ ft, a.mono (Sub.refl F) fun p hp => upd_ne fun z => a.there p hp (z ▸ n), .w (f := [q]) ⟨q, ys, rfl, rfl, upd_same, h⟩ (b.mono (Sub.refl F) fun p hp => upd_ne fun z => b.there p hp (z ▸ n)), ?_, fun p hp => ?_⟩, r'.sub, r'.stay, r'.base, r'.new⟩
  · show (q :: (ft ++ fs)).Nodup
    rw [List.nodup_cons]
    refine ⟨fun hq => ?_, c⟩
    rcases List.mem_append.mp hq with z | z
    · exact b.there q z n
    · exact a.there q z n
  · have hp' : p = q ∨ p ∈ ft ++ fs := by simpa [List.append_assoc] using hp
    rcases hp' with rfl | hp'
    · exact ⟨r.sub.none n, .inr (r.stay.old _ n)⟩
    · exact d p hp'
theorem Rel.top {w : W} {u : V} (r : Rel K B G ρ σ (.w w :: τ) (u :: vs) F H) : ∃ f, RW K F H w u f := by
  obtain ⟨fs, ft, a, b, c, d⟩ := r.ex
  cases b with
  | w e g => exact ⟨_, e⟩
theorem Rel.topD {x : PyData} {u : V} (r : Rel K B G ρ σ (.w (.d x) :: τ) (u :: vs) F H) : Dq K F u x := by
  obtain ⟨f, h⟩ := r.top
  exact h.2
theorem Rel.topV {x u : V} (r : Rel K B G ρ σ (.w (.v x) :: τ) (u :: vs) F H) : u = x := by
  obtain ⟨f, h⟩ := r.top
  exact h.2
theorem Rel.frz {xs : List PyData} {u : V} (r : Rel K B G ρ σ (.w (.l xs) :: τ) (u :: vs) F H) : ∃ F', Rel K B G ρ σ (.w (.d (.list xs)) :: τ) (u :: vs) F' H := by
  obtain ⟨fs, ft, a, b, c, d⟩ := r.ex
  cases b with
  | @w x u f τ vs fp e g =>
    obtain ⟨p, us, rfl, rfl, hp, hd⟩ := e
    have dp := d p (by simp)
    have s1 : Sub F (upd F p (.lst us)) := Sub.new (Sub.refl F) dp.1
    have nn : p ∉ fp ++ fs := by
      have : (p :: (fp ++ fs)).Nodup := c
      exact (List.nodup_cons.mp this).1
    refine ⟨upd F p (.lst us), ⟨⟨fs, fp, a.mono s1 fun _ _ => rfl, .w (f := []) ⟨rfl, .lst upd_same (hd.sub s1)⟩ (g.mono s1 fun _ _ => rfl), ?_, fun q hq => ?_⟩, Sub.put r.sub hp, r.stay, r.base.trans s1, fun q h1 h2 => ?_⟩⟩
    · have : (p :: (fp ++ fs)).Nodup := c
      exact (List.nodup_cons.mp this).2
    · have := d q (by simp only [List.mem_append, List.mem_cons] at hq ⊢; rcases hq with hq | hq <;> simp [hq])
      exact ⟨by rw [upd_ne (fun z : q = p => nn (by rw [← z]; exact hq))]; exact this.1, this.2⟩
    · by_cases z : q = p
      · subst z
        exact dp.2.symm
      · rw [upd_ne z] at h2; exact r.new q h1 h2
end
end WD

set_option Elab.async false
set_option linter.all false
set_option maxRecDepth 100000
set_option maxHeartbeats 1000000
namespace WD
open PySem PySem.Spec PyProof.Rows L2
section
variable {K : PySem.W.Frag} {B : Base} {G : Hp} {ρ : Env} {σ : L2.St} {τ : List T} {vs : List V} {F H F' H' : Hp}
theorem List.set_same {α : Type} {l : List α} {i : Nat} {x : α} (h : l[i]? = some x) : l.set i x = l := by
  apply List.ext_getElem?
  intro j
  by_cases e : i = j
  · subst e
    have hi : i < l.length := (List.getElem?_eq_some_iff.mp h).1
    rw [List.getElem?_set_self hi, h]
  · rw [List.getElem?_set_ne e]
theorem Rel.slot {i : Nat} {w : W} (r : Rel K B G ρ σ τ vs F H) (h : ρ[i]? = some (some w)) : ∃ u f, σ[i]? = some (some u) ∧ RW K F H w u f := by
  obtain ⟨fs, ft, a, b, c, d⟩ := r.ex
  obtain ⟨u, f1, f, f2, e1, e2, rw', _⟩ := a.at h
  exact ⟨u, f, e1, rw'⟩
theorem RT.set {fp : List Addr} {i : Nat} {o : Option W} {s : Option V} (h : RT K ρ σ F H τ vs fp) (n : ∀ t ∈ τ, ∀ j, t = .p j → j ≠ i) : RT K (ρ.set i o) (σ.set i s) F H τ vs fp := by
  induction h with
  | nil => exact .nil
  | w r _ ih => exact .w r (ih fun t ht => n t (List.mem_cons_of_mem _ ht))
  | p a b c _ ih =>
    have ne := n _ List.mem_cons_self _ rfl
    exact .p (by rw [List.getElem?_set_ne (Ne.symm ne)]; exact a) (by rw [List.getElem?_set_ne (Ne.symm ne)]; exact b) c (ih fun t ht => n t (List.mem_cons_of_mem _ ht))
/-- slot i gets what is on top -/
theorem Rel.asg {i : Nat} {w : W} {u : V} (r : Rel K B G ρ σ (.w w :: τ) (u :: vs) F H) (hi : i < ρ.length) (n : ∀ t ∈ τ, ∀ j, t = .p j → j ≠ i) : Rel K B G (ρ.set i (some w)) (σ.set i (some u)) τ vs F H := by
  obtain ⟨fs, ft, a, b, c, d⟩ := r.ex
  cases b with
  | @w x u f τ vs fp e g =>
    obtain ⟨o, eo⟩ : ∃ o, ρ[i]? = some o := ⟨ρ[i], List.getElem?_eq_getElem hi⟩
    have fin : ∃ f1 f0 f2, fs = f1 ++ f0 ++ f2 ∧ RS K F H (ρ.set i (some w)) (σ.set i (some u)) (f1 ++ f ++ f2) := by
      cases o with
      | none =>
        obtain ⟨f1, f2, rfl, k⟩ := a.fill eo
        exact ⟨f1, [], f2, by simp, k (Sub.refl F) (fun _ _ => rfl) (.inr ⟨w, u, rfl, rfl, e⟩)⟩
      | some w0 =>
        obtain ⟨u0, f1, f0, f2, _, rfl, _, k⟩ := a.at eo
        exact ⟨f1, f0, f2, rfl, k (Sub.refl F) (fun _ _ => rfl) (.inr ⟨w, u, rfl, rfl, e⟩)⟩
    obtain ⟨f1, f0, f2, rfl, rs⟩ := fin
    refine ⟨⟨_, fp, rs, g.set n, ?_, fun p hp => d p ?_⟩, r.sub, r.stay, r.base, r.new⟩
    · have sl : (fp ++ (f1 ++ f ++ f2)).Perm (f ++ fp ++ (f1 ++ f2)) := by
        rw [List.perm_iff_count]
        intro x
        simp only [List.count_append]
        omega
      refine sl.nodup_iff.mpr (c.sublist ?_)
      refine List.Sublist.append (List.Sublist.refl _) ?_
      rw [List.append_assoc]
      exact List.Sublist.append (List.Sublist.refl _) (List.sublist_append_right _ _)
    · simp only [List.mem_append] at hp ⊢
      rcases hp with hp | (hp | hp) | hp <;> simp [hp]
theorem RT.setO {fp : List Addr} {i : Nat} {w : W} (h : RT K ρ σ F H τ vs fp) (hi : i < ρ.length) (o : w.lst = true) : RT K (ρ.set i (some w)) σ F H τ vs fp := by
  induction h with
  | nil => exact .nil
  | w r _ ih => exact .w r ih
  | @p j x u τ vs fp a b c _ ih =>
    by_cases e : i = j
    · subst e
      exact .p a (List.getElem?_set_self hi) o ih
    · exact .p a (by rw [List.getElem?_set_ne e]; exact b) c ih
/-- slot i's own object is written -/
theorem Rel.mutG {i : Nat} {w w' : W} {u : V} {p : Addr} {o : HO} (r : Rel K B G ρ σ τ vs F H) (h : ρ[i]? = some (some w)) (e : σ[i]? = some (some u)) (c1 : ∀ f, RW K F H w u f → f = [p]) (ow : w'.lst = true)
    (hw : RW K F (upd H p o) w' u [p]) : Rel K B G (ρ.set i (some w')) σ τ vs F (upd H p o) := by
  obtain ⟨fs, ft, a, b, c, d⟩ := r.ex
  obtain ⟨u', f1, f, f2, e1, rfl, rw0, k⟩ := a.at h
  rw [e] at e1; cases e1
  have ef := c1 f rw0
  subst ef
  have hi : i < ρ.length := (List.getElem?_eq_some_iff.mp h).1
  have npf : p ∉ ft ++ (f1 ++ f2) := by
    have pm : (ft ++ (f1 ++ [p] ++ f2)).Perm (p :: (ft ++ (f1 ++ f2))) := by
      rw [List.perm_iff_count]
      intro x
      simp only [List.count_append, List.count_cons, List.count_nil]
      omega
    have := pm.nodup_iff.mp c
    exact (List.nodup_cons.mp this).1
  have dp := d p (by simp)
  have keep : ∀ q ∈ ft ++ (f1 ++ f2), upd H p o q = H q := fun q hq => upd_ne fun z => npf (by rw [← z]; exact hq)
  have rs := k (F' := F) (H' := upd H p o) (o := some w') (s := some u) (g := [p]) (Sub.refl F) (fun q hq => keep q (by simp only [List.mem_append] at hq ⊢; exact .inr hq)) (.inr ⟨w', u, rfl, rfl, hw⟩)
  rw [List.set_same e] at rs
  refine ⟨⟨_, ft, rs, (b.mono (Sub.refl F) fun q hq => keep q (by simp [hq])).setO hi ow, c, d⟩, ?_, ?_, r.base, r.new⟩
  · intro q x hq
    rw [upd_ne (fun z => by rw [z, dp.1] at hq; cases hq)]
    exact r.sub q x hq
  · rcases dp.2 with z | z
    · exact r.stay.upd z
    · exact r.stay.new z
theorem Rel.mutL {i : Nat} {xs xs' : List PyData} {us us' : List V} {p : Addr} (r : Rel K B G ρ σ τ vs F H) (h : ρ[i]? = some (some (.l xs))) (e : σ[i]? = some (some (.ref p))) (hd : DqAll K F us' xs') :
    Rel K B G (ρ.set i (some (.l xs'))) σ τ vs F (upd H p (.lst us')) :=
  r.mutG h e (fun f hf => by obtain ⟨q, _, z, rfl, _⟩ := hf; cases z; rfl) rfl ⟨p, us', rfl, rfl, upd_same, hd⟩
theorem Rel.mutM {i : Nat} {kvs kvs' : List (Key × PyData)} {ys' : List (Key × V)} {p : Addr} (r : Rel K B G ρ σ τ vs F H) (h : ρ[i]? = some (some (.m kvs))) (e : σ[i]? = some (some (.ref p))) (hd : RK K F kvs' ys') :
    Rel K B G (ρ.set i (some (.m kvs'))) σ τ vs F (upd H p (.dK ys')) :=
  r.mutG h e (fun f hf => by obtain ⟨q, _, z, rfl, _⟩ := hf; cases z; rfl) rfl ⟨p, ys', rfl, rfl, upd_same, hd⟩
theorem Rel.listAt {i : Nat} {xs : List PyData} (r : Rel K B G ρ σ τ vs F H) (h : ρ[i]? = some (some (.l xs))) : ∃ p us, σ[i]? = some (some (.ref p)) ∧ H p = some (.lst us) ∧ DqAll K F us xs := by
  obtain ⟨u, f, e, p, us, rfl, _, h1, h2⟩ := r.slot h
  exact ⟨p, us, e, h1, h2⟩
/-- a row: a list of one's own, with or without its address -/
def W.row : W → Option (List PyData)
  | .l xs => some xs
  | .r _ xs => some xs
  | _ => none
def W.put : W → List PyData → W
  | .l _, ys => .l ys
  | .r p _, ys => .r p ys
  | w, _ => w
theorem Rel.rowAt {i : Nat} {w : W} {xs : List PyData} (r : Rel K B G ρ σ τ vs F H) (h : ρ[i]? = some (some w)) (e : w.row = some xs) : ∃ p us, σ[i]? = some (some (.ref p)) ∧ H p = some (.lst us) ∧ DqAll K F us xs := by
  obtain ⟨u, f, e1, rw0⟩ := r.slot h
  cases w with
  | l ys => cases e; obtain ⟨p, us, rfl, _, h1, h2⟩ := rw0; exact ⟨p, us, e1, h1, h2⟩
  | r p ys => cases e; obtain ⟨rfl, _, us, h1, h2⟩ := rw0; exact ⟨p, us, e1, h1, h2⟩
  | _ => cases e
theorem Rel.mutR {i : Nat} {w : W} {xs xs' : List PyData} {us us' : List V} {p : Addr} (r : Rel K B G ρ σ τ vs F H) (h : ρ[i]? = some (some w)) (ew : w.row = some xs) (e : σ[i]? = some (some (.ref p))) (hd : DqAll K F us' xs') :
    Rel K B G (ρ.set i (some (w.put xs'))) σ τ vs F (upd H p (.lst us')) := by
  cases w with
  | l ys => exact r.mutL (us := us) h e hd
  | r q ys =>
    obtain ⟨u, f, e1, rw0⟩ := r.slot h
    rw [e] at e1; cases e1
    obtain ⟨z, _⟩ := rw0; cases z
    exact r.mutG (w' := .r p xs') h e (fun f hf => hf.2.1) rfl ⟨rfl, rfl, us', upd_same, hd⟩
  | _ => cases ew
theorem Rel.dictAt {i : Nat} {xs : List (Key × PyData)} (r : Rel K B G ρ σ τ vs F H) (h : ρ[i]? = some (some (.m xs))) : ∃ p us, σ[i]? = some (some (.ref p)) ∧ H p = some (.dK us) ∧ RK K F xs us := by
  obtain ⟨u, f, e, p, us, rfl, _, h1, h2⟩ := r.slot h
  exact ⟨p, us, e, h1, h2⟩
/-- slot i's own list is frozen -/
theorem Rel.frzAt {i : Nat} {xs : List PyData} (r : Rel K B G ρ σ τ vs F H) (h : ρ[i]? = some (some (.l xs))) : ∃ F', Rel K B G (ρ.set i (some (.d (.list xs)))) σ τ vs F' H := by
  obtain ⟨fs, ft, a, b, c, d⟩ := r.ex
  obtain ⟨u, f1, f, f2, e1, rfl, rw0, k⟩ := a.at h
  obtain ⟨p, us, rfl, rfl, hp, hd⟩ := rw0
  have hi : i < ρ.length := (List.getElem?_eq_some_iff.mp h).1
  have pm : (ft ++ (f1 ++ [p] ++ f2)).Perm (p :: (ft ++ (f1 ++ f2))) := by
    rw [List.perm_iff_count]
    intro x
    simp only [List.count_append, List.count_cons, List.count_nil]
    omega
  have nd := List.nodup_cons.mp (pm.nodup_iff.mp c)
  have dp := d p (by simp)
  have s1 : Sub F (upd F p (.lst us)) := Sub.new (Sub.refl F) dp.1
  have rs := k (F' := upd F p (.lst us)) (H' := H) (o := some (.d (.list xs))) (s := some (.ref p)) (g := []) s1 (fun _ _ => rfl) (.inr ⟨_, _, rfl, rfl, rfl, .lst upd_same (hd.sub s1)⟩)
  rw [List.set_same e1] at rs
  refine ⟨upd F p (.lst us), ⟨⟨_, ft, rs, (b.mono s1 fun _ _ => rfl).setO hi rfl, by simpa using nd.2, fun q hq => ?_⟩, Sub.put r.sub hp, r.stay, r.base.trans s1, fun q h1 h2 => ?_⟩⟩
  · have hq' : q ∈ ft ++ (f1 ++ f2) := by simpa using hq
    have := d q (by simp only [List.mem_append] at hq' ⊢; rcases hq' with z | z | z <;> simp [z])
    exact ⟨by rw [upd_ne (fun z : q = p => nd.1 (by rw [← z]; exact hq'))]; exact this.1, this.2⟩
  · by_cases z : q = p
    · subst z; exact dp.2.symm
    · rw [upd_ne z] at h2; exact r.new q h1 h2
/-- what may be lent to a def: its objects -/
def W.lent : W → Bool
  | .pool _ _ => true
  | .r _ _ => true
  | _ => false
def W.foot : W → List Addr
  | .pool a b => [a, b]
  | .r p _ => [p]
  | _ => []
def W.adr : W → V
  | .pool a _ => .ref a
  | .r p _ => .ref p
  | _ => .non
theorem RW.lent {w : W} {u : V} {f : List Addr} (h : RW K F H w u f) (e : w.lent = true) : u = w.adr ∧ f = w.foot := by
  cases w with
  | pool a l => exact ⟨h.1, h.2.1⟩
  | r p xs => exact ⟨h.1, h.2.1⟩
  | _ => cases e
theorem RW.foot_nd {w : W} {u : V} {f : List Addr} (h : RW K F H w u f) (e : w.lent = true) : w.foot.Nodup := by
  cases w with
  | pool a l =>
    obtain ⟨_, _, _, _, ne⟩ := h.2.2.ex
    simp [W.foot, ne]
  | r p xs => simp [W.foot]
  | _ => cases e
/-- behind a call that was lent what slot i holds -/
theorem Rel.pooled {i : Nat} {w : W} (r : Rel K B G ρ σ τ vs F H) (h : ρ[i]? = some (some w)) (lw : w.lent = true) (s1 : Sub F F') (s2 : Sub F' H') (st : Stay w.foot H H') (nw : ∀ b, F b = none → F' b ≠ none → H b = none) (pl : RW K F' H' w w.adr w.foot) : Rel K B G ρ σ τ vs F' H' := by
  obtain ⟨fs, ft, ra, b, c, d⟩ := r.ex
  obtain ⟨u, f1, f, f2, e1, rfl, rw0, k⟩ := ra.at h
  obtain ⟨rfl, rfl⟩ := rw0.lent lw
  have pm : (ft ++ (f1 ++ w.foot ++ f2)).Perm (w.foot ++ (ft ++ (f1 ++ f2))) := by
    rw [List.perm_iff_count]
    intro x
    simp only [List.count_append]
    omega
  have nd := pm.nodup_iff.mp c
  have nn : ∀ q ∈ ft ++ (f1 ++ f2), q ∉ w.foot := fun q hq z => (List.nodup_append.mp nd).2.2 q z q hq rfl
  have th : ∀ q ∈ ft ++ (f1 ++ w.foot ++ f2), H q ≠ none := fun q hq => by
    rcases List.mem_append.mp hq with z | z
    · exact b.there q z
    · exact ra.there q z
  have keep : ∀ q ∈ ft ++ (f1 ++ f2), H' q = H q := fun q hq => st.getS (th q (by simp only [List.mem_append] at hq ⊢; rcases hq with hq | hq | hq <;> simp [hq])) (nn q hq)
  have rs := k (F' := F') (H' := H') (o := some w) (s := some w.adr) (g := w.foot) s1 (fun q hq => keep q (by simp only [List.mem_append] at hq ⊢; exact .inr hq)) (.inr ⟨_, _, rfl, rfl, pl⟩)
  rw [List.set_same e1, List.set_same h] at rs
  have free : ∀ q ∈ ft ++ (f1 ++ w.foot ++ f2), F' q = none := fun q hq => by
    cases e : F' q with
    | none => rfl
    | some o => exact absurd (nw q (d q hq).1 (by rw [e]; simp)) (th q hq)
  refine ⟨⟨_, ft, rs, b.mono s1 fun q hq => keep q (by simp [hq]), c, fun q hq => ⟨free q hq, (d q hq).2⟩⟩, s2, ?_, r.base.trans s1, fun q h1 h2 => ?_⟩
  · refine ⟨fun q o eq nq => ?_, fun q eq => r.stay.old q (st.old q eq)⟩
    have e1 := r.stay.keep q o eq nq
    refine st.keep q o e1 fun z => ?_
    have := d q (by simp only [List.mem_append]; exact .inr (.inl (.inr z)))
    rcases this.2 with y | y
    · exact nq y
    · rw [y] at eq; cases eq
  · by_cases e : F q = none
    · exact .inl (r.stay.old q (nw q e h2))
    · exact r.new q h1 e
/-- a list of one's own, by its address; and back -/
theorem Rel.lend {i : Nat} {xs : List PyData} (r : Rel K B G ρ σ τ vs F H) (h : ρ[i]? = some (some (.l xs))) : ∃ p, Rel K B G (ρ.set i (some (.r p xs))) σ τ vs F H := by
  obtain ⟨fs, ft, a, b, c, d⟩ := r.ex
  obtain ⟨u, f1, f, f2, e1, rfl, rw0, k⟩ := a.at h
  obtain ⟨p, us, rfl, rfl, hp, hd⟩ := rw0
  have hi : i < ρ.length := (List.getElem?_eq_some_iff.mp h).1
  have rs := k (F' := F) (H' := H) (o := some (.r p xs)) (s := some (.ref p)) (g := [p]) (Sub.refl F) (fun _ _ => rfl) (.inr ⟨_, _, rfl, rfl, rfl, rfl, us, hp, hd⟩)
  rw [List.set_same e1] at rs
  exact ⟨p, ⟨⟨_, ft, rs, b.setO hi rfl, c, d⟩, r.sub, r.stay, r.base, r.new⟩⟩
theorem Rel.unlend {i : Nat} {p : Addr} {xs : List PyData} (r : Rel K B G ρ σ τ vs F H) (h : ρ[i]? = some (some (.r p xs))) : Rel K B G (ρ.set i (some (.l xs))) σ τ vs F H := by
  obtain ⟨fs, ft, a, b, c, d⟩ := r.ex
  obtain ⟨u, f1, f, f2, e1, rfl, rw0, k⟩ := a.at h
  obtain ⟨rfl, rfl, us, hp, hd⟩ := rw0
  have hi : i < ρ.length := (List.getElem?_eq_some_iff.mp h).1
  have rs := k (F' := F) (H' := H) (o := some (.l xs)) (s := some (.ref p)) (g := [p]) (Sub.refl F) (fun _ _ => rfl) (.inr ⟨_, _, rfl, rfl, p, us, rfl, rfl, hp, hd⟩)
  rw [List.set_same e1] at rs
  exact ⟨⟨_, ft, rs, b.setO hi rfl, c, d⟩, r.sub, r.stay, r.base, r.new⟩
/-- lists of one's own list, each frozen with it -/
theorem HI.frz {F0 : Hp} {qs : List Addr} {xss : List (List PyData)} (h : HI K F0 H qs xss) : ∀ {F : Hp}, Sub F0 F → (∀ q ∈ qs, F q = none) → qs.Nodup → Sub F H → ∃ F', Sub F F' ∧ Sub F' H ∧ (∀ a, F a = none → F' a ≠ none → a ∈ qs) ∧ DqAll K F' (qs.map V.ref) (xss.map PyData.list) := by
  induction h with
  | nil => intro F _ _ _ s; exact ⟨F, Sub.refl F, s, fun a h1 h2 => absurd h1 h2, .nil⟩
  | @cons q vs xs qs xss a b _ ih =>
    intro F s0 n nd s
    obtain ⟨n1, n2⟩ := List.nodup_cons.mp nd
    have nq := n q List.mem_cons_self
    have s1 : Sub F (upd F q (.lst vs)) := Sub.new (Sub.refl F) nq
    obtain ⟨F', t1, t2, t3, t4⟩ := ih (F := upd F q (.lst vs)) (s0.trans s1) (fun r m => by rw [upd_ne (fun z => n1 (by rw [← z]; exact m))]; exact n r (List.mem_cons_of_mem _ m)) n2 (Sub.put s a)
    refine ⟨F', s1.trans t1, t2, fun c h1 h2 => ?_, .cons (.lst (t1 _ _ upd_same) (b.sub (s0.trans (s1.trans t1)))) t4⟩
    by_cases z : c = q
    · rw [z]; exact List.mem_cons_self
    · exact List.mem_cons_of_mem _ (t3 c (by rw [upd_ne z]; exact h1) h2)
theorem frzH {p : Addr} {qs : List Addr} {xss : List (List PyData)} {u : V} {f : List Addr} (h : RW K F H (.hl p qs xss) u f) (n : ∀ q ∈ f, F q = none) (nd : f.Nodup) (s : Sub F H) : ∃ F', Sub F F' ∧ Sub F' H ∧ (∀ a, F a = none → F' a ≠ none → a ∈ f) ∧ Dq K F' u (.list (xss.map PyData.list)) := by
  obtain ⟨rfl, rfl, h1, h2⟩ := h
  obtain ⟨n1, n2⟩ := List.nodup_cons.mp nd
  obtain ⟨F', t1, t2, t3, t4⟩ := h2.frz (Sub.refl F) (fun q m => n q (List.mem_cons_of_mem _ m)) n2 s
  have np : F' p = none := by
    cases e : F' p with
    | none => rfl
    | some o => exact absurd (t3 p (n p List.mem_cons_self) (by rw [e]; simp)) n1
  have s1 : Sub F' (upd F' p (.lst (qs.map V.ref))) := Sub.new (Sub.refl _) np
  refine ⟨upd F' p (.lst (qs.map V.ref)), t1.trans s1, Sub.put t2 h1, fun a h1 h2 => ?_, .lst upd_same (t4.sub s1)⟩
  by_cases z : a = p
  · rw [z]; exact List.mem_cons_self
  · exact List.mem_cons_of_mem _ (t3 a h1 (by rw [upd_ne z] at h2; exact h2))
theorem Rel.frzH {p : Addr} {qs : List Addr} {xss : List (List PyData)} {u : V} (r : Rel K B G ρ σ (.w (.hl p qs xss) :: τ) (u :: vs) F H) : ∃ F', Rel K B G ρ σ (.w (.d (.list (xss.map PyData.list))) :: τ) (u :: vs) F' H := by
  obtain ⟨fs, ft, a, b, c, d⟩ := r.ex
  cases b with
  | @w x u f τ vs fp e g =>
    rw [List.append_assoc] at c
    obtain ⟨c1, c2, c3⟩ := List.nodup_append.mp c
    obtain ⟨F', t1, t2, t3, t4⟩ := WD.frzH e (fun q m => (d q (by simp [m])).1) c1 r.sub
    refine ⟨F', ⟨⟨fs, fp, a.mono t1 fun _ _ => rfl, .w (f := []) ⟨rfl, t4⟩ (g.mono t1 fun _ _ => rfl), c2, fun q hq => ?_⟩, t2, r.stay, r.base.trans t1, fun q h1 h2 => ?_⟩⟩
    · have dq := d q (by rw [List.append_assoc]; exact List.mem_append_right _ hq)
      refine ⟨?_, dq.2⟩
      cases e : F' q with
      | none => rfl
      | some o => exact absurd rfl (c3 q (t3 q dq.1 (by rw [e]; simp)) q hq)
    · by_cases z : F q = none
      · exact ((d q (by simp [t3 q z h2])).2).symm
      · exact r.new q h1 z
theorem Rel.frzAtH {i : Nat} {p : Addr} {qs : List Addr} {xss : List (List PyData)} (r : Rel K B G ρ σ τ vs F H) (h : ρ[i]? = some (some (.hl p qs xss))) : ∃ F', Rel K B G (ρ.set i (some (.d (.list (xss.map PyData.list))))) σ τ vs F' H := by
  obtain ⟨fs, ft, a, b, c, d⟩ := r.ex
  obtain ⟨u, f1, f, f2, e1, rfl, rw0, k⟩ := a.at h
  have hi : i < ρ.length := (List.getElem?_eq_some_iff.mp h).1
  have pm : (ft ++ (f1 ++ f ++ f2)).Perm (f ++ (ft ++ (f1 ++ f2))) := by
    rw [List.perm_iff_count]
    intro x
    simp only [List.count_append]
    omega
  obtain ⟨c1, c2, c3⟩ := List.nodup_append.mp (pm.nodup_iff.mp c)
  obtain ⟨F', t1, t2, t3, t4⟩ := WD.frzH rw0 (fun q m => (d q (by simp [m])).1) c1 r.sub
  have rs := k (F' := F') (H' := H) (o := some (.d (.list (xss.map PyData.list)))) (s := some u) (g := []) t1 (fun _ _ => rfl) (.inr ⟨_, _, rfl, rfl, rfl, t4⟩)
  rw [List.set_same e1] at rs
  refine ⟨F', ⟨⟨_, ft, rs, (b.mono t1 fun _ _ => rfl).setO hi rfl, by simpa using c2, fun q hq => ?_⟩, t2, r.stay, r.base.trans t1, fun q h1 h2 => ?_⟩⟩
  · have hq' : q ∈ ft ++ (f1 ++ f2) := by simpa using hq
    have dq := d q (by simp only [List.mem_append] at hq' ⊢; rcases hq' with z | z | z <;> simp [z])
    refine ⟨?_, dq.2⟩
    cases e : F' q with
    | none => rfl
    | some o => exact absurd rfl (c3 q (t3 q dq.1 (by rw [e]; simp)) q hq')
  · by_cases z : F q = none
    · exact ((d q (by simp [t3 q z h2])).2).symm
    · exact r.new q h1 z
/-- an inner list of slot i's own list is written -/
theorem Rel.mutH {i j : Nat} {p q : Addr} {qs : List Addr} {xss : List (List PyData)} {xs' : List PyData} {us' : List V} (r : Rel K B G ρ σ τ vs F H) (h : ρ[i]? = some (some (.hl p qs xss))) (e : qs[j]? = some q) (hd : DqAll K F us' xs') : Rel K B G (ρ.set i (some (.hl p qs (xss.set j xs')))) σ τ vs F (upd H q (.lst us')) := by
  obtain ⟨fs, ft, a, b, c, d⟩ := r.ex
  obtain ⟨u, f1, f, f2, e1, rfl, rw0, k⟩ := a.at h
  obtain ⟨rfl, rfl, h1, h2⟩ := rw0
  have mq : q ∈ qs := List.mem_of_getElem? e
  have hi : i < ρ.length := (List.getElem?_eq_some_iff.mp h).1
  have pm : (ft ++ (f1 ++ (p :: qs) ++ f2)).Perm ((p :: qs) ++ (ft ++ (f1 ++ f2))) := by
    rw [List.perm_iff_count]
    intro x
    simp only [List.count_append]
    omega
  obtain ⟨c1, c2, c3⟩ := List.nodup_append.mp (pm.nodup_iff.mp c)
  obtain ⟨n1, n2⟩ := List.nodup_cons.mp c1
  have npf : q ∉ ft ++ (f1 ++ f2) := fun z => c3 q (List.mem_cons_of_mem _ mq) q z rfl
  have dp := d q (by simp [mq])
  have keep : ∀ x ∈ ft ++ (f1 ++ f2), upd H q (.lst us') x = H x := fun x hx => upd_ne fun z => npf (by rw [← z]; exact hx)
  have hw : RW K F (upd H q (.lst us')) (.hl p qs (xss.set j xs')) (.ref p) (p :: qs) := ⟨rfl, rfl, by rw [upd_ne (fun z => n1 (by rw [z]; exact mq))]; exact h1, h2.put n2 e hd⟩
  have rs := k (F' := F) (H' := upd H q (.lst us')) (o := some (.hl p qs (xss.set j xs'))) (s := some (.ref p)) (g := p :: qs) (Sub.refl F) (fun x hx => keep x (by simp only [List.mem_append] at hx ⊢; exact .inr hx)) (.inr ⟨_, _, rfl, rfl, hw⟩)
  rw [List.set_same e1] at rs
  refine ⟨⟨_, ft, rs, (b.mono (Sub.refl F) fun x hx => keep x (by simp [hx])).setO hi rfl, c, d⟩, ?_, ?_, r.base, r.new⟩
  · intro x o hx
    rw [upd_ne (fun z => by rw [z, dp.1] at hx; cases hx)]
    exact r.sub x o hx
  · rcases dp.2 with z | z
    · exact r.stay.upd z
    · exact r.stay.new z
theorem Rel.hlAt {i j : Nat} {p q : Addr} {qs : List Addr} {xss : List (List PyData)} (r : Rel K B G ρ σ τ vs F H) (h : ρ[i]? = some (some (.hl p qs xss))) (e : qs[j]? = some q) : ∃ us xs, xss[j]? = some xs ∧ H q = some (.lst us) ∧ DqAll K F us xs := by
  obtain ⟨u, f, e1, rfl, rfl, h1, h2⟩ := r.slot h
  exact h2.get e
/-- the view of a value in flight as data -/
def W.view : W → Option PyData
  | .d x => some x
  | .l xs => some (.list xs)
  | .r _ xs => some (.list xs)
  | _ => none
def T.view (ρ : Env) : T → Option PyData
  | .w y => y.view
  | .p i => match ρ[i]? with
    | some (some y) => y.view
    | _ => none
theorem RW.view {w : W} {u : V} {f : List Addr} {x : PyData} (h : RW K F H w u f) (s : Sub F H) (e : w.view = some x) : Dq K H u x := by
  cases w with
  | d y => cases e; exact h.2.sub s
  | v y => cases e
  | l xs => cases e; obtain ⟨p, us, rfl, _, h1, h2⟩ := h; exact .lst h1 (h2.sub s)
  | r p xs => cases e; obtain ⟨rfl, _, us, h1, h2⟩ := h; exact .lst h1 (h2.sub s)
  | _ => cases e
theorem Rel.view {t : T} {u : V} {x : PyData} (r : Rel K B G ρ σ (t :: τ) (u :: vs) F H) (e : t.view ρ = some x) : Dq K H u x := by
  obtain ⟨fs, ft, a, b, c, d⟩ := r.ex
  cases b with
  | @w w u f τ vs fp h g => exact h.view r.sub e
  | @p i w u τ vs fp e1 e2 e3 g =>
    simp only [T.view, e2] at e
    obtain ⟨u', f1, f, f2, e4, _, rw0, _⟩ := a.at e2
    rw [e1] at e4; cases e4
    exact rw0.view r.sub e
end
end WD

set_option Elab.async false
set_option linter.all false
set_option maxRecDepth 100000
set_option maxHeartbeats 1000000
namespace WD
open PySem PySem.Spec PyProof.Rows L2
section
variable (K : PySem.W.Frag) (B : Base)
def J (te : TE) (ρ : Env) (Φ : T → Env → Prop) : Prop := ∀ (G : Hp) (τ : List T) (vs : List V) (σ : L2.St) (F H : Hp) (Q : VK), Rel K B G ρ σ τ vs F H →
  (∀ t u ρ' F' H', Rel K B G ρ' σ (t :: τ) (u :: vs) F' H' → Φ t ρ' → Q u H') → te σ H Q
def JT (tt : TT) (ρ : Env) (Φ : Bool → Env → Prop) : Prop := ∀ (G : Hp) (τ : List T) (vs : List V) (σ : L2.St) (F H : Hp) (Q : Bool → Hp → Prop), Rel K B G ρ σ τ vs F H →
  (∀ b ρ' F' H', Rel K B G ρ' σ τ vs F' H' → Φ b ρ' → Q b H') → tt σ H Q
def JA (ta : TA) (ρ : Env) (Φ : List T → Env → Prop) : Prop := ∀ (G : Hp) (τ : List T) (vs : List V) (σ : L2.St) (F H : Hp) (Q : List V → Hp → Prop), Rel K B G ρ σ τ vs F H →
  (∀ ts us ρ' F' H', ts.length = us.length → Rel K B G ρ' σ (ts.reverse ++ τ) (us.reverse ++ vs) F' H' → Φ ts ρ' → Q us H') → ta σ H Q
def W.isOwn : Option (Option W) → Bool
  | some none => false
  | some (some w) => w.lst
  | none => true
/-- b: nothing is in flight -/
def JG (b : Bool) (g : TG) (t : T) (ρ : Env) (Φ : Env → Prop) : Prop := ∀ (G : Hp) (τ : List T) (vs : List V) (u : V) (σ : L2.St) (F H : Hp) (Q : L2.St → Hp → Prop), (b = true → τ = []) → Rel K B G ρ σ (t :: τ) (u :: vs) F H →
  (∀ σ' ρ' F' H', Rel K B G ρ' σ' τ vs F' H' → Φ ρ' → Q σ' H') → g u σ H Q
def JGs (b : Bool) (g : TGs) (xs : List PyData) (ρ : Env) (Φ : Env → Prop) : Prop := ∀ (G : Hp) (τ : List T) (vs us : List V) (σ : L2.St) (F H : Hp) (Q : L2.St → Hp → Prop), (b = true → τ = []) → Rel K B G ρ σ τ vs F H → DqAll K F us xs →
  (∀ σ' ρ' F' H', Rel K B G ρ' σ' τ vs F' H' → Φ ρ' → Q σ' H') → g us σ H Q
structure JE where
  nx : Env → Prop
  rt : W → Env → Prop
  bk : Env → Prop := fun _ => False
  ct : Env → Prop := fun _ => False
structure EndsOk (G : Hp) (E : JE) (D : Ends) : Prop where
  nx : ∀ ρ σ F H, Rel K B G ρ σ [] [] F H → E.nx ρ → D.nx σ H
  rt : ∀ w u ρ σ F H, Rel K B G ρ σ [.w w] [u] F H → E.rt w ρ → D.rt u H
  bk : ∀ ρ σ F H, Rel K B G ρ σ [] [] F H → E.bk ρ → D.bk σ H
  ct : ∀ ρ σ F H, Rel K B G ρ σ [] [] F H → E.ct ρ → D.ct σ H
def JS (ts : TS) (ρ : Env) (E : JE) : Prop := ∀ (G : Hp) (σ : L2.St) (F H : Hp) (D : Ends), Rel K B G ρ σ [] [] F H → EndsOk K B G E D → ts D σ H
/-- what is wished of an exception -/
def WOk (W : WX) (Ξ : Addr → PyData → Env → Prop) : Prop := ∀ (G : Hp) (ρ : Env) (σ : L2.St) (F H : Hp) (C : Addr) (x : PyData) (u : V) (d : Addr), Rel K B G ρ σ [] [] F H → F d = some (.xd [(("what" : Str), u)]) → Dq K F u x → Ξ C x ρ → W (.ref C) (some d) σ H
end
section
variable {K : PySem.W.Frag} {B : Base} {G : Hp} {ρ : Env} {Φ : T → Env → Prop} {E : JE} {ta tb tc te : TE} {t u : TS} {tt tt' : TT} {i : Nat} {ΦB : Bool → Env → Prop} {ΦL : List T → Env → Prop} {ΦE : Env → Prop}
-- statements
theorem J_seq (h : JS K B t ρ { E with nx := fun ρ1 => JS K B u ρ1 E }) : JS K B (tSeq t u) ρ E := fun G σ F H D r e =>
  h _ σ F H { D with nx := u D } r ⟨fun ρ' σ' F' H' r' q => q _ σ' F' H' D r' e, e.rt, e.bk, e.ct⟩
theorem J_next (h : E.nx ρ) : JS K B tNext ρ E := fun G σ F H D r e => e.nx _ _ _ _ r h
theorem J_brk (h : E.bk ρ) : JS K B tBreak ρ E := fun G σ F H D r e => e.bk _ _ _ _ r h
theorem J_cont (h : E.ct ρ) : JS K B tCont ρ E := fun G σ F H D r e => e.ct _ _ _ _ r h
theorem J_ifS (h : JT K B tt ρ fun b ρ1 => if b = true then JS K B t ρ1 E else JS K B u ρ1 E) : JS K B (tIfS tt t u) ρ E := fun G σ F H D r e =>
  h _ [] [] σ F H _ r fun b ρ' F' H' r' q => by
    cases b with
    | true => rw [if_pos rfl] at q ⊢; exact q _ σ F' H' D r' e
    | false => rw [if_neg Bool.false_ne_true] at q ⊢; exact q _ σ F' H' D r' e
theorem J_asg {g : TG} (h : J K B te ρ fun t ρ1 => JG K B true g t ρ1 E.nx) : JS K B (tAsg te g) ρ E := fun G σ F H D r e =>
  h _ [] [] σ F H _ r fun t u ρ' F' H' r' q => q _ [] [] u σ F' H' D.nx (fun _ => rfl) r' fun σ' ρ2 F2 H2 r2 q2 => e.nx _ _ _ _ r2 q2
theorem J_drop (h : J K B te ρ fun _ ρ1 => E.nx ρ1) : JS K B (tDrop te) ρ E := fun G σ F H D r e =>
  h _ [] [] σ F H _ r fun t u ρ' F' H' r' q => e.nx _ _ _ _ r'.pop q
theorem Rel.takeP {σ : L2.St} {F H : Hp} {w : W} {u : V} (r : Rel K B G ρ σ [.p i] [u] F H) (h : ρ[i]? = some (some w)) : ∃ σ', Rel K B G (ρ.set i none) σ' [.w w] [u] F H := by
  obtain ⟨fs, ft, a, b, c, d⟩ := r.ex
  cases b with
  | p e1 e2 e3 g =>
    cases g
    rw [h] at e2; cases e2
    obtain ⟨u', f1, f, f2, e4, rfl, rw0, k⟩ := a.at h
    rw [e1] at e4; cases e4
    refine ⟨σ.set i none, ⟨⟨f1 ++ [] ++ f2, f ++ [], k (Sub.refl F) (fun _ _ => rfl) (.inl ⟨rfl, rfl⟩), .w rw0 .nil, ?_, fun p hp => d p ?_⟩, r.sub, r.stay, r.base, r.new⟩⟩
    · have pm : (f ++ [] ++ (f1 ++ [] ++ f2)).Perm ([] ++ (f1 ++ f ++ f2)) := by
        rw [List.perm_iff_count]
        intro x
        simp only [List.count_append, List.count_nil]
        omega
      exact pm.nodup_iff.mpr c
    · simp only [List.mem_append, List.not_mem_nil, false_or, or_false] at hp ⊢
      rcases hp with hp | hp | hp <;> simp [hp]
def RetQ (E : JE) : T → Env → Prop
  | .w y, ρ => E.rt y ρ
  | .p i, ρ => ∃ y, ρ[i]? = some (some y) ∧ E.rt y (ρ.set i none)
theorem J_ret (h : J K B te ρ (RetQ E)) : JS K B (tRet te) ρ E := fun G σ F H D r e =>
  h _ [] [] σ F H _ r fun t u ρ' F' H' r' q => by
    cases t with
    | w y => exact e.rt _ _ _ _ _ _ r' q
    | p i =>
      obtain ⟨y, h1, h2⟩ := q
      obtain ⟨σ', r2⟩ := r'.takeP h1
      exact e.rt _ _ _ _ _ _ r2 h2
theorem J_retW {y : W} (h : E.rt y ρ) : RetQ E (.w y) ρ := h
theorem J_retP {y : W} {ρ' : Env} (e1 : ρ[i]? = some (some y)) (e2 : ρ.set i none = ρ') (h : E.rt y ρ') : RetQ E (.p i) ρ := ⟨y, e1, by rw [e2]; exact h⟩
theorem J_retN (h : E.rt (.d .none) ρ) : JS K B tRetN ρ E := fun G σ F H D r e => e.rt _ _ _ _ _ _ (r.push (x := .none) (u := .non) .non) h
-- targets
theorem J_gName {b : Bool} {y : W} {ρ' : Env} (e : ρ.set i (some y) = ρ') (l : i < ρ.length) (o : b = true ∨ W.isOwn ρ[i]? = false) (h : ΦE ρ') : JG K B b (gName i) (.w y) ρ ΦE := fun G τ vs u σ F H Q hb r k => by
  subst e
  refine k _ _ _ _ (r.asg l fun t ht j ej => ?_) h
  subst ej
  rcases o with o | o
  · rw [hb o] at ht; simp at ht
  · rintro rfl
    obtain ⟨fs, ft, a, b, c, d⟩ := r.ex
    cases b with
    | w _ g =>
      have : ∀ {τ : List T} {vs : List V} {fp : List Addr}, RT K ρ σ F H τ vs fp → T.p j ∈ τ → W.isOwn ρ[j]? = true := by
        intro τ vs fp g ht
        induction g with
        | nil => cases ht
        | w _ _ ih =>
          rcases List.mem_cons.mp ht with z | z
          · cases z
          · exact ih z
        | p e1 e2 e3 _ ih =>
          rcases List.mem_cons.mp ht with z | z
          · cases z; rw [e2]; exact e3
          · exact ih z
      have := this g ht
      rw [o] at this; cases this
theorem J_gTup {b : Bool} {n : Nat} {g : TGs} {xs : List PyData} (l : xs.length = n) (h : JGs K B b g xs ρ ΦE) : JG K B b (gTup K n g) (.w (.d (.tuple xs))) ρ ΦE := fun G τ vs u σ F H Q hb r k => by
  have d := r.topD
  cases d with
  | @tup a us _ h1 h2 => exact ⟨a, us, rfl, h1.sub r.sub, by rw [h2.len]; exact l, h _ τ vs us σ F H Q hb r.pop h2 fun σ' ρ' F' H' r' q => k σ' ρ' F' H' r' q⟩
theorem J_gCons {b : Bool} {g : TG} {gs : TGs} {x : PyData} {xs : List PyData} (h : JG K B b g (.w (.d x)) ρ fun ρ' => JGs K B b gs xs ρ' ΦE) : JGs K B b (gCons g gs) (x :: xs) ρ ΦE := fun G τ vs us σ F H Q hb r d k => by
  cases d with
  | @cons v vr _ _ h1 h2 =>
    refine ⟨v, vr, rfl, h _ τ vs v σ F H _ hb (r.lowF.push h1) fun σ1 ρ1 F1 H1 r1 q1 => ?_⟩
    exact q1 _ τ vs vr σ1 F1 H1 Q hb (r1.toG r.base.2) (h2.sub r1.base.2) k
theorem J_gNil {b : Bool} (h : ΦE ρ) : JGs K B b gNil [] ρ ΦE := fun G τ vs us σ F H Q hb r d k => by
  cases d
  exact ⟨rfl, k _ _ _ _ r h⟩
-- expressions
theorem J_var {x : PyData} (e : ρ[i]? = some (some (.d x))) (h : Φ (.w (.d x)) ρ) : J K B (tVar i) ρ Φ := fun G τ vs σ F H Q r k => by
  obtain ⟨u, f, e1, h1⟩ := r.slot e
  exact ⟨u, e1, k _ _ _ _ _ (r.push h1.2) h⟩
theorem J_varV {x : V} (e : ρ[i]? = some (some (.v x))) (h : Φ (.w (.v x)) ρ) : J K B (tVar i) ρ Φ := fun G τ vs σ F H Q r k => by
  obtain ⟨u, f, e1, h1⟩ := r.slot e
  obtain ⟨_, rfl⟩ := h1
  exact ⟨u, e1, k _ _ _ _ _ r.pushV h⟩
theorem J_varX {a d : Addr} {x : PyData} (e : ρ[i]? = some (some (.ex a d x))) (h : Φ (.w (.ex a d x)) ρ) : J K B (tVar i) ρ Φ := fun G τ vs σ F H Q r k => by
  obtain ⟨u, f, e1, h1⟩ := r.slot e
  obtain ⟨rfl, rfl, _⟩ := id h1
  refine ⟨_, e1, k _ _ _ _ _ (r.pushW (f := []) h1 List.nodup_nil (by simp) (by simp)) h⟩
theorem J_varO {x : W} (e : ρ[i]? = some (some x)) (o : x.lst = true) (h : Φ (.p i) ρ) : J K B (tVar i) ρ Φ := fun G τ vs σ F H Q r k => by
  obtain ⟨u, f, e1, h1⟩ := r.slot e
  exact ⟨u, e1, k _ _ _ _ _ (r.pushP e o e1) h⟩
theorem J_cI {i : Int} (h : Φ (.w (.d (.int i))) ρ) : J K B (tC (.int i)) ρ Φ := fun G τ vs σ F H Q r k => k _ _ _ _ _ (r.push (.int i)) h
theorem J_cS {x : Str} (h : Φ (.w (.d (.str x))) ρ) : J K B (tC (.str x)) ρ Φ := fun G τ vs σ F H Q r k => k _ _ _ _ _ (r.push (.str x)) h
theorem J_cB {b : Bool} (h : Φ (.w (.d (.bool b))) ρ) : J K B (tC (.bl b)) ρ Φ := fun G τ vs σ F H Q r k => k _ _ _ _ _ (r.push (.bl b)) h
theorem J_cN (h : Φ (.w (.d .none)) ρ) : J K B (tC .non) ρ Φ := fun G τ vs σ F H Q r k => k _ _ _ _ _ (r.push .non) h
theorem J_cV {u : V} (h : Φ (.w (.v u)) ρ) : J K B (tC u) ρ Φ := fun G τ vs σ F H Q r k => k _ _ _ _ _ r.pushV h

-- operators: what their operands in flight must be
def PI2 (C : Int → Int → Prop) (g : Int → Int → PyData) (t u : T) (ρ : Env) (Φ : T → Env → Prop) : Prop := ∃ i j, t = .w (.d (.int i)) ∧ u = .w (.d (.int j)) ∧ C i j ∧ Φ (.w (.d (g i j))) ρ
def PS2 (C : Str → Str → Prop) (g : Str → Str → PyData) (t u : T) (ρ : Env) (Φ : T → Env → Prop) : Prop := ∃ i j, t = .w (.d (.str i)) ∧ u = .w (.d (.str j)) ∧ C i j ∧ Φ (.w (.d (g i j))) ρ
def PD2 (C : PyData → PyData → Prop) (g : PyData → PyData → PyData) (t u : T) (ρ : Env) (Φ : T → Env → Prop) : Prop := ∃ d e, t.view ρ = some d ∧ u.view ρ = some e ∧ C d e ∧ Φ (.w (.d (g d e))) ρ
def PW2 (C : PyData → PyData → Prop) (g : PyData → PyData → W) (t u : T) (ρ : Env) (Φ : T → Env → Prop) : Prop := ∃ d e, t.view ρ = some d ∧ u.view ρ = some e ∧ C d e ∧ Φ (.w (g d e)) ρ
theorem x_PI2 {C : Int → Int → Prop} {g : Int → Int → PyData} {i j : Int} (c : C i j) (h : Φ (.w (.d (g i j))) ρ) : PI2 C g (.w (.d (.int i))) (.w (.d (.int j))) ρ Φ := ⟨i, j, rfl, rfl, c, h⟩
theorem x_PS2 {C : Str → Str → Prop} {g : Str → Str → PyData} {i j : Str} (c : C i j) (h : Φ (.w (.d (g i j))) ρ) : PS2 C g (.w (.d (.str i))) (.w (.d (.str j))) ρ Φ := ⟨i, j, rfl, rfl, c, h⟩
theorem x_PD2 {C : PyData → PyData → Prop} {g : PyData → PyData → PyData} {t u : T} {d e : PyData} (h1 : t.view ρ = some d) (h2 : u.view ρ = some e) (c : C d e) (h : Φ (.w (.d (g d e))) ρ) : PD2 C g t u ρ Φ := ⟨d, e, h1, h2, c, h⟩
theorem x_PW2 {C : PyData → PyData → Prop} {g : PyData → PyData → W} {t u : T} {d e : PyData} (h1 : t.view ρ = some d) (h2 : u.view ρ = some e) (c : C d e) (h : Φ (.w (g d e)) ρ) : PW2 C g t u ρ Φ := ⟨d, e, h1, h2, c, h⟩
/-- a rule for an operator by its operands in flight -/
def OpJ (K : PySem.W.Frag) (B : Base) (r : R2) (R : T → T → Env → (T → Env → Prop) → Prop) : Prop := ∀ {G : Hp} {τ : List T} {vs : List V} {σ : L2.St} {F H : Hp} {ρ : Env} {t u : T} {x y : V} {Q : VK} {Φ : T → Env → Prop}, Rel K B G ρ σ (u :: t :: τ) (y :: x :: vs) F H → R t u ρ Φ →
  (∀ w v ρ' F' H', Rel K B G ρ' σ (w :: τ) (v :: vs) F' H' → Φ w ρ' → Q v H') → r x y H Q
theorem J_op {r : R2} {R : T → T → Env → (T → Env → Prop) → Prop} (o : OpJ K B r R) (h : J K B ta ρ fun t ρ1 => J K B tb ρ1 fun u ρ2 => R t u ρ2 Φ) : J K B (tOp r ta tb) ρ Φ := fun G τ vs σ F H Q rl k =>
  h _ τ vs σ F H _ rl fun t x ρ1 F1 H1 r1 q1 => q1 _ _ _ σ F1 H1 _ r1 fun u y ρ2 F2 H2 r2 q2 => o r2 q2 k
theorem Rel.int2 {τ : List T} {vs : List V} {σ : L2.St} {F H : Hp} {i j : Int} {x y : V} (r : Rel K B G ρ σ (.w (.d (.int j)) :: .w (.d (.int i)) :: τ) (y :: x :: vs) F H) : x = .int i ∧ y = .int j := by
  have h1 := r.topD
  have h2 := r.pop.topD
  cases h1; cases h2; exact ⟨rfl, rfl⟩
theorem Rel.str2 {τ : List T} {vs : List V} {σ : L2.St} {F H : Hp} {i j : Str} {x y : V} (r : Rel K B G ρ σ (.w (.d (.str j)) :: .w (.d (.str i)) :: τ) (y :: x :: vs) F H) : x = .str i ∧ y = .str j := by
  have h1 := r.topD
  have h2 := r.pop.topD
  cases h1; cases h2; exact ⟨rfl, rfl⟩
theorem oj_I0i {f : Int → Int → Int} : OpJ K B (rI0 fun i j => .int (f i j)) (PI2 (fun _ _ => True) fun i j => .int (f i j)) := by
  rintro G τ vs σ F H ρ t u x y Q Φ r ⟨i, j, rfl, rfl, _, h⟩ k
  obtain ⟨rfl, rfl⟩ := r.int2
  exact ⟨i, j, rfl, rfl, k _ _ _ _ _ (r.pop.pop.push (.int _)) h⟩
theorem oj_I0b {f : Int → Int → Bool} : OpJ K B (rI0 fun i j => .bl (f i j)) (PI2 (fun _ _ => True) fun i j => .bool (f i j)) := by
  rintro G τ vs σ F H ρ t u x y Q Φ r ⟨i, j, rfl, rfl, _, h⟩ k
  obtain ⟨rfl, rfl⟩ := r.int2
  exact ⟨i, j, rfl, rfl, k _ _ _ _ _ (r.pop.pop.push (.bl _)) h⟩
theorem oj_Ii {C : Int → Int → Prop} {f : Int → Int → Int} : OpJ K B (rI C fun i j => .int (f i j)) (PI2 C fun i j => .int (f i j)) := by
  rintro G τ vs σ F H ρ t u x y Q Φ r ⟨i, j, rfl, rfl, c, h⟩ k
  obtain ⟨rfl, rfl⟩ := r.int2
  exact ⟨i, j, rfl, rfl, c, k _ _ _ _ _ (r.pop.pop.push (.int _)) h⟩
/-- plain data, told apart by their values -/
def dV : PyData → Option V
  | .none => some .non
  | .bool b => some (.bl b)
  | .int i => some (.int i)
  | .str s => some (.str s)
  | _ => none
theorem Dq.dV {H : Hp} {v : V} {d : PyData} {x : V} (h : Dq K H v d) (e : WD.dV d = some x) : v = x := by
  cases h <;> simp [WD.dV] at e <;> exact e
def PQ2 (neg : Bool) (t u : T) (ρ : Env) (Φ : T → Env → Prop) : Prop := ∃ d e x y, t = .w (.d d) ∧ u = .w (.d e) ∧ dV d = some x ∧ dV e = some y ∧ scal x y = true ∧ Φ (.w (.d (.bool (neg ^^ decide (x = y))))) ρ
theorem x_PQ2i {i j : Int} (h : Φ (.w (.d (.bool (decide (i = j))))) ρ) : PQ2 false (.w (.d (.int i))) (.w (.d (.int j))) ρ Φ := ⟨_, _, _, _, rfl, rfl, rfl, rfl, rfl, by
  have : (false ^^ decide (V.int i = V.int j)) = decide (i = j) := by simp
  rw [this]; exact h⟩
theorem x_PQ2iN {i j : Int} (h : Φ (.w (.d (.bool (!decide (i = j))))) ρ) : PQ2 true (.w (.d (.int i))) (.w (.d (.int j))) ρ Φ := ⟨_, _, _, _, rfl, rfl, rfl, rfl, rfl, by
  have : (true ^^ decide (V.int i = V.int j)) = !decide (i = j) := by simp
  rw [this]; exact h⟩
theorem x_PQ2s {i j : Str} (h : Φ (.w (.d (.bool (decide (i = j))))) ρ) : PQ2 false (.w (.d (.str i))) (.w (.d (.str j))) ρ Φ := ⟨_, _, _, _, rfl, rfl, rfl, rfl, rfl, by
  have : (false ^^ decide (V.str i = V.str j)) = decide (i = j) := by simp
  rw [this]; exact h⟩
theorem x_PQ2sN {i j : Str} (h : Φ (.w (.d (.bool (!decide (i = j))))) ρ) : PQ2 true (.w (.d (.str i))) (.w (.d (.str j))) ρ Φ := ⟨_, _, _, _, rfl, rfl, rfl, rfl, rfl, by
  have : (true ^^ decide (V.str i = V.str j)) = !decide (i = j) := by simp
  rw [this]; exact h⟩
theorem x_PQ2b {i j : Bool} (h : Φ (.w (.d (.bool (i == j)))) ρ) : PQ2 false (.w (.d (.bool i))) (.w (.d (.bool j))) ρ Φ := ⟨_, _, _, _, rfl, rfl, rfl, rfl, rfl, by
  have : (false ^^ decide (V.bl i = V.bl j)) = (i == j) := by cases i <;> cases j <;> rfl
  rw [this]; exact h⟩
theorem x_PQ2bN {i j : Bool} (h : Φ (.w (.d (.bool (i != j)))) ρ) : PQ2 true (.w (.d (.bool i))) (.w (.d (.bool j))) ρ Φ := ⟨_, _, _, _, rfl, rfl, rfl, rfl, rfl, by
  have : (true ^^ decide (V.bl i = V.bl j)) = (i != j) := by cases i <;> cases j <;> rfl
  rw [this]; exact h⟩
theorem x_PQ2 {neg : Bool} {d e : PyData} {x y : V} (h1 : dV d = some x) (h2 : dV e = some y) (h3 : scal x y = true) (h : Φ (.w (.d (.bool (neg ^^ decide (x = y))))) ρ) : PQ2 neg (.w (.d d)) (.w (.d e)) ρ Φ := ⟨_, _, _, _, rfl, rfl, h1, h2, h3, h⟩
theorem oj_eq : OpJ K B rEq (PQ2 false) := by
  rintro G τ vs σ F H ρ t u x y Q Φ r ⟨d, e, a, b, rfl, rfl, ea, eb, sc, h⟩ k
  cases Dq.dV r.topD eb
  cases Dq.dV r.pop.topD ea
  refine ⟨sc, k _ _ _ _ _ (r.pop.pop.push (.bl _)) ?_⟩
  rw [Bool.false_xor] at h; exact h
theorem oj_ne : OpJ K B rNe (PQ2 true) := by
  rintro G τ vs σ F H ρ t u x y Q Φ r ⟨d, e, a, b, rfl, rfl, ea, eb, sc, h⟩ k
  cases Dq.dV r.topD eb
  cases Dq.dV r.pop.topD ea
  refine ⟨sc, k _ _ _ _ _ (r.pop.pop.push (.bl _)) ?_⟩
  rw [Bool.true_xor] at h; exact h
/-- data that may be compared at any depth -/
abbrev Shp (d : PyData) : Prop := SeqAt.shaped d = true
theorem oj_eqD : OpJ K B (rEqD K) (PD2 (fun d e => Shp d ∧ Shp e) fun d e => .bool (PyData.eqv d e)) := by
  rintro G τ vs σ F H ρ t u x y Q Φ r ⟨d, e, h1, h2, ⟨s1, s2⟩, h⟩ k
  exact ⟨d, e, (r.pop.view h1).dp, (r.view h2).dp, s1, s2, k _ _ _ _ _ (r.pop.pop.push (.bl _)) h⟩
theorem oj_neD : OpJ K B (rNeD K) (PD2 (fun d e => Shp d ∧ Shp e) fun d e => .bool (!PyData.eqv d e)) := by
  rintro G τ vs σ F H ρ t u x y Q Φ r ⟨d, e, h1, h2, ⟨s1, s2⟩, h⟩ k
  exact ⟨d, e, (r.pop.view h1).dp, (r.view h2).dp, s1, s2, k _ _ _ _ _ (r.pop.pop.push (.bl _)) h⟩
def isNoneD : PyData → Bool
  | .none => true
  | _ => false
theorem oj_isN : OpJ K B (fun x y H Q => y = .non ∧ Q (.bl (decide (x = .non))) H) (fun t u ρ Φ => u = .w (.d .none) ∧ ((∃ d, t.view ρ = some d ∧ Φ (.w (.d (.bool (isNoneD d)))) ρ) ∨ ∃ v, t = .w (.v v) ∧ v ≠ .non ∧ Φ (.w (.d (.bool false))) ρ)) := by
  rintro G τ vs σ F H ρ t u x y Q Φ r ⟨rfl, h⟩ k
  have hy := r.topD
  cases hy
  rcases h with ⟨d, h1, h⟩ | ⟨v, rfl, n, h⟩
  · have hd := r.pop.view h1
    have : decide (x = V.non) = isNoneD d := by cases hd <;> simp [isNoneD]
    exact ⟨rfl, by rw [this]; exact k _ _ _ _ _ (r.pop.pop.push (.bl _)) h⟩
  · have := r.pop.topV
    subst this
    exact ⟨rfl, by rw [decide_eq_false n]; exact k _ _ _ _ _ (r.pop.pop.push (.bl _)) h⟩
theorem oj_notN : OpJ K B (fun x y H Q => y = .non ∧ Q (.bl (!decide (x = .non))) H) (fun t u ρ Φ => u = .w (.d .none) ∧ ((∃ d, t.view ρ = some d ∧ Φ (.w (.d (.bool (!isNoneD d)))) ρ) ∨ ∃ v, t = .w (.v v) ∧ v ≠ .non ∧ Φ (.w (.d (.bool true))) ρ)) := by
  rintro G τ vs σ F H ρ t u x y Q Φ r ⟨rfl, h⟩ k
  have hy := r.topD
  cases hy
  rcases h with ⟨d, h1, h⟩ | ⟨v, rfl, n, h⟩
  · have hd := r.pop.view h1
    have : (!decide (x = V.non)) = !isNoneD d := by cases hd <;> simp [isNoneD]
    exact ⟨rfl, by rw [this]; exact k _ _ _ _ _ (r.pop.pop.push (.bl _)) h⟩
  · have := r.pop.topV
    subst this
    exact ⟨rfl, by rw [decide_eq_false n]; exact k _ _ _ _ _ (r.pop.pop.push (.bl _)) h⟩
-- lists, tuples, texts: the place asked for
theorem RW.viewL {F H : Hp} {w : W} {u : V} {f : List Addr} {xs : List PyData} (h : RW K F H w u f) (s : Sub F H) (e : w.view = some (.list xs)) : ∃ p us, u = .ref p ∧ H p = some (.lst us) ∧ DqAll K F us xs := by
  cases w with
  | d y =>
    cases e
    have := h.2
    cases this with
    | lst h1 h2 => exact ⟨_, _, rfl, s _ _ h1, h2⟩
  | v y => cases e
  | l xs => cases e; obtain ⟨p, us, rfl, _, h1, h2⟩ := h; exact ⟨p, us, rfl, h1, h2⟩
  | r p xs => cases e; obtain ⟨rfl, _, us, h1, h2⟩ := h; exact ⟨p, us, rfl, h1, h2⟩
  | _ => cases e
theorem Rel.viewL {τ : List T} {vs : List V} {σ : L2.St} {F H : Hp} {t : T} {u : V} {xs : List PyData} (r : Rel K B G ρ σ (t :: τ) (u :: vs) F H) (e : t.view ρ = some (.list xs)) : ∃ p us, u = .ref p ∧ H p = some (.lst us) ∧ DqAll K F us xs := by
  obtain ⟨fs, ft, a, b, c, d⟩ := r.ex
  cases b with
  | @w w u f τ vs fp h g => exact h.viewL r.sub e
  | @p i w u τ vs fp e1 e2 e3 g =>
    simp only [T.view, e2] at e
    obtain ⟨u', f1, f, f2, e4, _, rw0, _⟩ := a.at e2
    rw [e1] at e4; cases e4
    exact rw0.viewL r.sub e
theorem T.tup {t : T} {xs : List PyData} {τ : List T} {vs : List V} {σ : L2.St} {F H : Hp} {u : V} (r : Rel K B G ρ σ (t :: τ) (u :: vs) F H) (e : t.view ρ = some (.tuple xs)) : ∃ p us, u = .ref p ∧ SqT K F p us ∧ DqAll K F us xs := by
  obtain ⟨fs, ft, a, b, c, d⟩ := r.ex
  have go : ∀ {w : W} {u : V} {f : List Addr}, RW K F H w u f → w.view = some (.tuple xs) → ∃ p us, u = .ref p ∧ SqT K F p us ∧ DqAll K F us xs := by
    intro w u f h e
    cases w with
    | d y =>
      cases e
      have := h.2
      cases this with
      | tup h1 h2 => exact ⟨_, _, rfl, h1, h2⟩
    | _ => cases e
  cases b with
  | @w w u f τ vs fp h g => exact go h e
  | @p i w u τ vs fp e1 e2 e3 g =>
    simp only [T.view, e2] at e
    obtain ⟨u', f1, f, f2, e4, _, rw0, _⟩ := a.at e2
    rw [e1] at e4; cases e4
    exact go rw0 e
theorem atI_len {α β : Type} {xs : List α} {ys : List β} {i : Int} {x : α} (l : xs.length = ys.length) (h : atI xs i = some x) : ∃ j, ixN xs.length i = some j ∧ xs[j]? = some x ∧ ∀ y, ys[j]? = some y → atI ys i = some y := by
  unfold atI at h ⊢
  cases e : ixN xs.length i with
  | none => rw [e] at h; simp at h
  | some j =>
    rw [e] at h
    refine ⟨j, rfl, by simpa using h, fun y hy => ?_⟩
    rw [← l, e]; simpa using hy
theorem atI_dp {F : Hp} {us : List V} {xs : List PyData} {i : Int} {x : PyData} (d : DqAll K F us xs) (h : atI xs i = some x) : ∃ v, atI us i = some v ∧ Dq K F v x := by
  obtain ⟨j, e1, e2, e3⟩ := atI_len d.len.symm h
  obtain ⟨v, e4, e5⟩ := d.get e2
  exact ⟨v, e3 v e4, e5⟩
def QIx (f : List PyData → PyData) (t u : T) (ρ : Env) (Φ : T → Env → Prop) : Prop := ∃ xs i x, t.view ρ = some (f xs) ∧ u = .w (.d (.int i)) ∧ atI xs i = some x ∧ Φ (.w (.d x)) ρ
theorem oj_ixL : OpJ K B (rIxL K) (QIx .list) := by
  rintro G τ vs σ F H ρ t u x y Q Φ r ⟨xs, i, z, h1, rfl, h2, h⟩ k
  have hy := r.topD
  cases hy
  obtain ⟨p, us, rfl, g1, g2⟩ := r.pop.viewL h1
  obtain ⟨v, g3, g4⟩ := atI_dp g2 h2
  exact ⟨p, us, i, v, rfl, rfl, SqL.of g1, g3, k _ _ _ _ _ (r.pop.pop.push g4) h⟩
theorem oj_ixT : OpJ K B (rIxT K) (QIx .tuple) := by
  rintro G τ vs σ F H ρ t u x y Q Φ r ⟨xs, i, z, h1, rfl, h2, h⟩ k
  have hy := r.topD
  cases hy
  obtain ⟨p, us, rfl, g1, g2⟩ := T.tup r.pop h1
  obtain ⟨v, g3, g4⟩ := atI_dp g2 h2
  exact ⟨p, us, i, v, rfl, rfl, g1.sub r.sub, g3, k _ _ _ _ _ (r.pop.pop.push g4) h⟩
def QIxS (t u : T) (ρ : Env) (Φ : T → Env → Prop) : Prop := ∃ z i c, t = .w (.d (.str z)) ∧ u = .w (.d (.int i)) ∧ z.length ≤ sizeLine ∧ atI z.cps.toList i = some c ∧ Φ (.w (.d (.str ⟨#[c]⟩))) ρ
theorem oj_ixS : OpJ K B rIxS QIxS := by
  rintro G τ vs σ F H ρ t u x y Q Φ r ⟨z, i, c, rfl, rfl, l, h2, h⟩ k
  have hy := r.topD
  cases hy
  have hx := r.pop.topD
  cases hx
  exact ⟨z, i, c, rfl, rfl, l, h2, k _ _ _ _ _ (r.pop.pop.push (.str _)) h⟩
theorem oj_ix : OpJ K B (rIx K) (fun t u ρ Φ => QIx .list t u ρ Φ ∨ QIx .tuple t u ρ Φ ∨ QIxS t u ρ Φ) := by
  rintro G τ vs σ F H ρ t u x y Q Φ r h k
  rcases h with h | h | h
  · exact .inl (oj_ixL r h k)
  · exact .inr (.inl (oj_ixT r h k))
  · exact .inr (.inr (oj_ixS r h k))
theorem OpJ.or {r r' : R2} {R R' : T → T → Env → (T → Env → Prop) → Prop} (h : OpJ K B r R) (h' : OpJ K B r' R') : OpJ K B (fun x y H Q => r x y H Q ∨ r' x y H Q) (fun t u ρ Φ => R t u ρ Φ ∨ R' t u ρ Φ) := by
  rintro G τ vs σ F H ρ t u x y Q Φ r z k
  rcases z with z | z
  · exact .inl (h r z k)
  · exact .inr (h' r z k)
-- +
theorem oj_addS : OpJ K B (fun x y H Q => ∃ i j, x = .str i ∧ y = .str j ∧ i.length + j.length ≤ sizeLine ∧ Q (.str (i ++ j)) H) (PS2 (fun i j => i.length + j.length ≤ sizeLine) fun i j => .str (i ++ j)) := by
  rintro G τ vs σ F H ρ t u x y Q Φ r ⟨i, j, rfl, rfl, c, h⟩ k
  obtain ⟨rfl, rfl⟩ := r.str2
  exact ⟨i, j, rfl, rfl, c, k _ _ _ _ _ (r.pop.pop.push (.str _)) h⟩
def QCat (f : List PyData → PyData) (g : List PyData → W) (t u : T) (ρ : Env) (Φ : T → Env → Prop) : Prop := ∃ xs ys, t.view ρ = some (f xs) ∧ u.view ρ = some (f ys) ∧ xs.length + ys.length ≤ sizeLine ∧ Φ (.w (g (xs ++ ys))) ρ
theorem oj_catA : OpJ K B (rCatA K) (QCat .tuple fun xs => .d (.tuple xs)) := by
  rintro G τ vs σ F H ρ t u x y Q Φ r ⟨xs, ys, h1, h2, l, h⟩ k
  obtain ⟨p, us, rfl, g1, g2⟩ := T.tup r.pop h1
  obtain ⟨q, ws, rfl, g3, g4⟩ := T.tup r h2
  refine ⟨p, q, us, ws, rfl, rfl, g1.sub r.sub, g3.sub r.sub, by rw [g2.len, g4.len]; exact l, fun e => ?_, fun _ e => ?_, fun _ _ a na => ?_⟩
  · subst e
    cases g2
    exact k _ _ _ _ _ (r.pop.pop.push (.tup g3 g4)) h
  · subst e
    cases g4
    rw [List.append_nil] at h
    exact k _ _ _ _ _ (r.pop.pop.push (.tup g1 g2)) h
  · have r2 := r.pop.pop.laid (o := .tup (us ++ ws)) na
    have s1 : Sub F (upd F a (.tup (us ++ ws))) := Sub.new (Sub.refl F) (r.sub.none na)
    exact k _ _ _ _ _ (r2.push (.tup (SqT.of upd_same) ((g2.app g4).sub s1))) h
theorem oj_cat : OpJ K B rCat (QCat .list .l) := by
  rintro G τ vs σ F H ρ t u x y Q Φ r ⟨xs, ys, h1, h2, l, h⟩ k
  obtain ⟨p, us, rfl, g1, g2⟩ := r.pop.viewL h1
  obtain ⟨q, ws, rfl, g3, g4⟩ := r.viewL h2
  exact ⟨p, q, us, ws, rfl, rfl, g1, g3, by rw [g2.len, g4.len]; exact l, fun a na => k _ _ _ _ _ (r.pop.pop.lst na (g2.app g4)) h⟩
theorem _root_.L2.DqAll.flat {F : Hp} {us : List V} {xs : List PyData} (h : DqAll K F us xs) (n : Nat) : DqAll K F (List.replicate n us).flatten (List.replicate n xs).flatten := by
  induction n with
  | zero => exact .nil
  | succ n ih => rw [List.replicate_succ, List.replicate_succ, List.flatten_cons, List.flatten_cons]; exact h.app ih
def QRep (t u : T) (ρ : Env) (Φ : T → Env → Prop) : Prop := ∃ xs k, t.view ρ = some (.list xs) ∧ u = .w (.d (.int k)) ∧ (-(2 ^ 63) ≤ k ∧ k < 2 ^ 63 ∧ xs.length * k.toNat ≤ sizeLine) ∧ Φ (.w (.l (List.replicate k.toNat xs).flatten)) ρ
theorem oj_rep : OpJ K B rRep QRep := by
  rintro G τ vs σ F H ρ t u x y Q Φ r ⟨xs, n, h1, rfl, ⟨l1, l2, l3⟩, h⟩ k
  have hy := r.topD
  cases hy
  obtain ⟨p, us, rfl, g1, g2⟩ := r.pop.viewL h1
  exact ⟨p, n, us, rfl, rfl, g1, l1, l2, by rw [g2.len]; exact l3, fun a na => k _ _ _ _ _ (r.pop.pop.lst na (g2.flat _)) h⟩
end
end WD

set_option Elab.async false
set_option linter.all false
set_option maxRecDepth 100000
set_option maxHeartbeats 1000000
namespace WD
open PySem PySem.Spec PyProof.Rows L2
section
variable {K : PySem.W.Frag} {B : Base} {G : Hp} {ρ : Env} {Φ : T → Env → Prop} {E : JE} {ta tb tc te : TE} {t u : TS} {tt tt' : TT} {i : Nat} {ΦB : Bool → Env → Prop} {ΦL : List T → Env → Prop} {ΦE : Env → Prop} {tr : TA}
/-- a bool in flight -/
def QB (ΦB : Bool → Env → Prop) (t : T) (ρ : Env) : Prop := ∃ b, t = .w (.d (.bool b)) ∧ ΦB b ρ
theorem x_QB {b : Bool} (h : ΦB b ρ) : QB ΦB (.w (.d (.bool b))) ρ := ⟨b, rfl, h⟩
theorem JT_B (h : J K B te ρ (QB ΦB)) : JT K B (tB te) ρ ΦB := fun G τ vs σ F H Q r k => h _ τ vs σ F H _ r fun t u ρ' F' H' r' ⟨b, e, q⟩ => by
  subst e
  have := r'.topD
  cases this
  exact ⟨b, rfl, k b _ _ _ r'.pop q⟩
theorem JT_test (h : J K B te ρ (QB ΦB)) : JT K B (tTest te) ρ ΦB := JT_B h
theorem JT_and (h : JT K B tt ρ fun b ρ1 => if b = true then JT K B tt' ρ1 ΦB else ΦB false ρ1) : JT K B (tAnd tt tt') ρ ΦB := fun G τ vs σ F H Q r k => h _ τ vs σ F H _ r fun b ρ' F' H' r' q => by
  cases b with
  | true => rw [if_pos rfl] at q ⊢; exact q _ τ vs σ F' H' Q r' k
  | false => rw [if_neg Bool.false_ne_true] at q ⊢; exact k _ _ _ _ r' q
theorem JT_or (h : JT K B tt ρ fun b ρ1 => if b = true then ΦB true ρ1 else JT K B tt' ρ1 ΦB) : JT K B (tOr tt tt') ρ ΦB := fun G τ vs σ F H Q r k => h _ τ vs σ F H _ r fun b ρ' F' H' r' q => by
  cases b with
  | true => rw [if_pos rfl] at q ⊢; exact k _ _ _ _ r' q
  | false => rw [if_neg Bool.false_ne_true] at q ⊢; exact q _ τ vs σ F' H' Q r' k
theorem JT_not (h : JT K B tt ρ fun b ρ1 => ΦB (!b) ρ1) : JT K B (tNot tt) ρ ΦB := fun G τ vs σ F H Q r k => h _ τ vs σ F H _ r fun b ρ' F' H' r' q => k _ _ _ _ r' q
theorem JT_yes (h : ΦB true ρ) : JT K B tYes ρ ΦB := fun G τ vs σ F H Q r k => k _ _ _ _ r h
theorem J_notV (h : J K B te ρ (QB fun b ρ1 => Φ (.w (.d (.bool !b))) ρ1)) : J K B (tNotV te) ρ Φ := fun G τ vs σ F H Q r k => h _ τ vs σ F H _ r fun t u ρ' F' H' r' ⟨b, e, q⟩ => by
  subst e
  have := r'.topD
  cases this
  exact ⟨b, rfl, k _ _ _ _ _ (r'.pop.push (.bl _)) q⟩
theorem J_andV (h : J K B ta ρ (QB fun b ρ1 => if b = true then J K B tb ρ1 Φ else Φ (.w (.d (.bool false))) ρ1)) : J K B (tAndV ta tb) ρ Φ := fun G τ vs σ F H Q r k => h _ τ vs σ F H _ r fun t u ρ' F' H' r' ⟨b, e, q⟩ => by
  subst e
  have := r'.topD
  cases this
  refine ⟨b, rfl, ?_⟩
  cases b with
  | true => rw [if_pos rfl] at q ⊢; exact q _ τ vs σ F' H' Q r'.pop k
  | false => rw [if_neg Bool.false_ne_true] at q ⊢; exact k _ _ _ _ _ (r'.pop.push (.bl _)) q
theorem J_orV (h : J K B ta ρ (QB fun b ρ1 => if b = true then Φ (.w (.d (.bool true))) ρ1 else J K B tb ρ1 Φ)) : J K B (tOrV ta tb) ρ Φ := fun G τ vs σ F H Q r k => h _ τ vs σ F H _ r fun t u ρ' F' H' r' ⟨b, e, q⟩ => by
  subst e
  have := r'.topD
  cases this
  refine ⟨b, rfl, ?_⟩
  cases b with
  | true => rw [if_pos rfl] at q ⊢; exact k _ _ _ _ _ (r'.pop.push (.bl _)) q
  | false => rw [if_neg Bool.false_ne_true] at q ⊢; exact q _ τ vs σ F' H' Q r'.pop k
theorem J_if (h : JT K B tt ρ fun b ρ1 => if b = true then J K B ta ρ1 Φ else J K B tb ρ1 Φ) : J K B (tIf tt ta tb) ρ Φ := fun G τ vs σ F H Q r k => h _ τ vs σ F H _ r fun b ρ' F' H' r' q => by
  cases b with
  | true => rw [if_pos rfl] at q ⊢; exact q _ τ vs σ F' H' Q r' k
  | false => rw [if_neg Bool.false_ne_true] at q ⊢; exact q _ τ vs σ F' H' Q r' k
theorem J_unI {f : Int → Int} (h : J K B ta ρ fun t ρ1 => ∃ i, t = .w (.d (.int i)) ∧ Φ (.w (.d (.int (f i)))) ρ1) : J K B (tUn (rU fun i => .int (f i)) ta) ρ Φ := fun G τ vs σ F H Q r k => h _ τ vs σ F H _ r fun t u ρ' F' H' r' ⟨i, e, q⟩ => by
  subst e
  have := r'.topD
  cases this
  exact ⟨i, rfl, k _ _ _ _ _ (r'.pop.push (.int _)) q⟩
theorem Rel.dup {τ : List T} {vs : List V} {σ : L2.St} {F H : Hp} {t : T} {e : PyData} {x y : V} (r : Rel K B G ρ σ (.w (.d e) :: t :: τ) (y :: x :: vs) F H) : Rel K B G ρ σ (.w (.d e) :: t :: .w (.d e) :: τ) (y :: x :: y :: vs) F H := by
  obtain ⟨fs, ft, a, b, c, d⟩ := r.ex
  refine ⟨⟨fs, ft, a, ?_, c, d⟩, r.sub, r.stay, r.base, r.new⟩
  cases b with
  | w e1 g =>
    obtain ⟨rfl, hd⟩ := id e1
    refine .w e1 ?_
    cases g with
    | w e2 g2 => exact .w e2 (RT.w (f := []) ⟨rfl, hd⟩ g2)
    | p h1 h2 h3 g2 => exact .p h1 h2 h3 (RT.w (f := []) ⟨rfl, hd⟩ g2)
def QCh (K : PySem.W.Frag) (B : Base) (R R' : T → T → Env → (T → Env → Prop) → Prop) (tc : TE) (t u : T) (ρ : Env) (Φ : T → Env → Prop) : Prop :=
  (∃ e, u = .w (.d e)) ∧ R t u ρ (QB fun b ρ3 => if b = true then J K B tc ρ3 fun w' ρ4 => R' u w' ρ4 Φ else Φ (.w (.d (.bool false))) ρ3)
theorem x_QCh {R R' : T → T → Env → (T → Env → Prop) → Prop} {t : T} {e : PyData} (h : R t (.w (.d e)) ρ (QB fun b ρ3 => if b = true then J K B tc ρ3 fun w' ρ4 => R' (.w (.d e)) w' ρ4 Φ else Φ (.w (.d (.bool false))) ρ3)) : QCh K B R R' tc t (.w (.d e)) ρ Φ := ⟨⟨e, rfl⟩, h⟩
/-- a < b < c -/
theorem J_chain {r r' : R2} {R R' : T → T → Env → (T → Env → Prop) → Prop} (o : OpJ K B r R) (o' : OpJ K B r' R')
    (h : J K B ta ρ fun t ρ1 => J K B tb ρ1 fun u ρ2 => QCh K B R R' tc t u ρ2 Φ) : J K B (tChain r r' ta tb tc) ρ Φ := fun G τ vs σ F H Q rl k => by
  refine h _ τ vs σ F H _ rl fun t x ρ1 F1 H1 r1 q1 => q1 _ _ _ σ F1 H1 _ r1 fun u y ρ2 F2 H2 r2 q2 => ?_
  obtain ⟨⟨e, rfl⟩, q2⟩ := q2
  refine o r2.dup q2 fun w v ρ3 F3 H3 r3 q3 => ?_
  obtain ⟨b, rfl, q3⟩ := q3
  have hv := r3.topD
  cases hv
  refine ⟨b, rfl, ?_⟩
  cases b with
  | true =>
    rw [if_pos rfl] at q3 ⊢
    exact q3 _ _ _ σ F3 H3 _ r3.pop fun w' z ρ4 F4 H4 r4 q4 => o' r4 q4 k
  | false =>
    rw [if_neg Bool.false_ne_true] at q3 ⊢
    exact k _ _ _ _ _ (r3.pop.pop.push (.bl _)) q3
-- arguments
def T.frz : T → T
  | .w (.l xs) => .w (.d (.list xs))
  | .w (.hl _ _ xss) => .w (.d (.list (xss.map PyData.list)))
  | t => t
theorem J_frz (h : J K B te ρ fun t ρ1 => Φ t.frz ρ1) : J K B te ρ Φ := fun G τ vs σ F H Q r k => h _ τ vs σ F H _ r fun t u ρ' F' H' r' q => by
  have same : t.frz = t → Q u H' := fun e => k t u ρ' F' H' r' (by have q' : Φ t.frz ρ' := q; rw [e] at q'; exact q')
  cases t with
  | p i => exact same rfl
  | w y =>
    cases y with
    | l xs =>
      obtain ⟨F2, r2⟩ := r'.frz
      exact k _ u ρ' F2 H' r2 q
    | hl p qs xss =>
      obtain ⟨F2, r2⟩ := r'.frzH
      exact k _ u ρ' F2 H' r2 q
    | _ => exact same rfl
/-- a slot's own list is frozen where it is handed on -/
def FzP (Φ : T → Env → Prop) (i : Nat) (ρ : Env) : Option (Option W) → Prop
  | some (some (.l xs)) => Φ (.w (.d (.list xs))) (ρ.set i (some (.d (.list xs))))
  | some (some (.hl _ _ xss)) => Φ (.w (.d (.list (xss.map PyData.list)))) (ρ.set i (some (.d (.list (xss.map PyData.list)))))
  | _ => Φ (.p i) ρ
def QFz (Φ : T → Env → Prop) : T → Env → Prop
  | .w y, ρ => Φ (T.w y).frz ρ
  | .p i, ρ => FzP Φ i ρ ρ[i]?
theorem QFz.imp {Φ Ψ : T → Env → Prop} (im : ∀ t ρ, Φ t ρ → Ψ t ρ) {t : T} {ρ : Env} (h : QFz Φ t ρ) : QFz Ψ t ρ := by
  cases t with
  | w y => exact im _ _ h
  | p i =>
    have h' : FzP Φ i ρ ρ[i]? := h
    show FzP Ψ i ρ ρ[i]?
    unfold FzP at h' ⊢
    split at h' <;> exact im _ _ h'
theorem x_FzW {y : W} (h : Φ (T.w y).frz ρ) : QFz Φ (.w y) ρ := h
theorem x_FzL {xs : List PyData} {ρ' : Env} (e : ρ[i]? = some (some (.l xs))) (e2 : ρ.set i (some (.d (.list xs))) = ρ') (h : Φ (.w (.d (.list xs))) ρ') : QFz Φ (.p i) ρ := by
  subst e2
  show FzP Φ i _ _; rw [e]; exact h
theorem x_FzP {a l : Addr} (e : ρ[i]? = some (some (.pool a l))) (h : Φ (.p i) ρ) : QFz Φ (.p i) ρ := by
  show FzP Φ i _ _; rw [e]; exact h
theorem x_FzR {p : Addr} {xs : List PyData} (e : ρ[i]? = some (some (.r p xs))) (h : Φ (.p i) ρ) : QFz Φ (.p i) ρ := by
  show FzP Φ i _ _; rw [e]; exact h
theorem x_FzH {p : Addr} {qs : List Addr} {xss : List (List PyData)} {ρ' : Env} (e : ρ[i]? = some (some (.hl p qs xss))) (e2 : ρ.set i (some (.d (.list (xss.map PyData.list)))) = ρ') (h : Φ (.w (.d (.list (xss.map PyData.list)))) ρ') : QFz Φ (.p i) ρ := by
  subst e2
  show FzP Φ i _ _; rw [e]; exact h
theorem Rel.pVal {τ : List T} {vs : List V} {σ : L2.St} {F H : Hp} {u : V} {x : PyData} (r : Rel K B G ρ σ (.p i :: τ) (u :: vs) F H) (h : ρ[i]? = some (some (.d x))) : Dq K F u x := by
  obtain ⟨fs, ft, a, b, c, d⟩ := r.ex
  cases b with
  | p z1 z2 z3 g =>
    obtain ⟨u', f1, f, f2, e4, _, rw0, _⟩ := a.at h
    rw [z1] at e4; cases e4
    exact rw0.2
theorem J_fz (h : J K B te ρ (QFz Φ)) : J K B te ρ Φ := fun G τ vs σ F H Q r k => by
  refine J_frz (Φ := fun t ρ1 => QFz Φ t ρ1) (te := te) (ρ := ρ) ?_ G τ vs σ F H Q r fun t u ρ' F' H' r' q => ?_
  · intro G τ vs σ F H Q r k
    refine h _ _ _ _ _ _ _ r fun t u ρ' F' H' r' q => ?_
    refine k t u ρ' F' H' r' ?_
    cases t with
    | p i => exact q
    | w y => cases y <;> exact q
  · cases t with
    | w y =>
      cases y with
      | l xs =>
        obtain ⟨F2, r2⟩ := r'.frz
        exact k _ u ρ' F2 H' r2 q
      | hl p qs xss =>
        obtain ⟨F2, r2⟩ := r'.frzH
        exact k _ u ρ' F2 H' r2 q
      | _ => exact k _ u ρ' F' H' r' q
    | p i =>
      have q2 : FzP Φ i ρ' ρ'[i]? := q
      unfold FzP at q2
      split at q2
      · rename_i xs e
        obtain ⟨F2, r2⟩ := r'.frzAt e
        have hi : i < ρ'.length := (List.getElem?_eq_some_iff.mp e).1
        exact k _ u _ F2 H' (r2.pop.push (r2.pVal (List.getElem?_set_self hi))) q2
      · rename_i p qs xss e
        obtain ⟨F2, r2⟩ := r'.frzAtH e
        have hi : i < ρ'.length := (List.getElem?_eq_some_iff.mp e).1
        exact k _ u _ F2 H' (r2.pop.push (r2.pVal (List.getElem?_set_self hi))) q2
      · exact k _ u ρ' F' H' r' q2
theorem JA_nil (h : ΦL [] ρ) : JA K B tNil ρ ΦL := fun G τ vs σ F H Q r k => k [] [] _ _ _ rfl r h
theorem JA_cons0 (h : J K B ta ρ fun t ρ1 => JA K B tr ρ1 fun ts ρ2 => ΦL (t :: ts) ρ2) : JA K B (tCons ta tr) ρ ΦL := fun G τ vs σ F H Q r k =>
  h _ τ vs σ F H _ r fun t x ρ1 F1 H1 r1 q1 => q1 _ _ _ σ F1 H1 _ r1 fun ts us ρ2 F2 H2 l r2 q2 => k (t :: ts) (x :: us) ρ2 F2 H2 (by simp [l]) (by simpa using r2) q2
theorem JA_cons (h : J K B ta ρ (QFz fun t ρ1 => JA K B tr ρ1 fun ts ρ2 => ΦL (t :: ts) ρ2)) : JA K B (tCons ta tr) ρ ΦL := JA_cons0 (J_fz h)
/-- arguments of builtins: nothing is frozen -/
def JN (K : PySem.W.Frag) (B : Base) (ta : TA) (ρ : Env) (Φ : List T → Env → Prop) : Prop := JA K B ta ρ Φ
theorem JN_nil (h : ΦL [] ρ) : JN K B tNil ρ ΦL := JA_nil h
theorem JN_cons (h : J K B ta ρ fun t ρ1 => JN K B tr ρ1 fun ts ρ2 => ΦL (t :: ts) ρ2) : JN K B (tCons ta tr) ρ ΦL := JA_cons0 h
/-- the values in flight, one by one -/
def Elt (K : PySem.W.Frag) (ρ : Env) (σ : L2.St) (F H : Hp) : T → V → Prop
  | .w y, u => ∃ f, RW K F H y u f
  | .p i, u => σ[i]? = some (some u) ∧ ∃ x, ρ[i]? = some (some x)
theorem RT.elts {τ : List T} {vs : List V} {σ : L2.St} {F H : Hp} {fp : List Addr} (h : RT K ρ σ F H τ vs fp) : Paired (Elt K ρ σ F H) τ vs := by
  induction h with
  | nil => exact .nil
  | w r _ ih => exact .cons ⟨_, r⟩ ih
  | p a b c _ ih => exact .cons ⟨a, _, b⟩ ih
theorem Paired.app {α β : Type} {R : α → β → Prop} : ∀ {xs ys : List α} {us ws : List β}, Paired R xs us → Paired R ys ws → Paired R (xs ++ ys) (us ++ ws)
  | _, _, _, _, .nil, g => g
  | _, _, _, _, .cons h t, g => .cons h (Paired.app t g)
theorem Paired.rev {α β : Type} {R : α → β → Prop} : ∀ {xs : List α} {us : List β}, Paired R xs us → Paired R xs.reverse us.reverse
  | _, _, .nil => .nil
  | _, _, .cons h t => by rw [List.reverse_cons, List.reverse_cons]; exact Paired.app (Paired.rev t) (.cons h .nil)
theorem Paired.left {α β : Type} {R : α → β → Prop} : ∀ {xs ys : List α} {us ws : List β}, xs.length = us.length → Paired R (xs ++ ys) (us ++ ws) → Paired R xs us
  | [], _, us, _, l, _ => by cases us with
    | nil => exact .nil
    | cons _ _ => simp at l
  | _ :: _, _, us, _, l, h => by cases us with
    | nil => simp at l
    | cons u us => cases h with | cons a b => exact .cons a (Paired.left (by simpa using l) b)
theorem Rel.elts {ts τ : List T} {us vs : List V} {σ : L2.St} {F H : Hp} (r : Rel K B G ρ σ (ts.reverse ++ τ) (us.reverse ++ vs) F H) (l : ts.length = us.length) : Paired (Elt K ρ σ F H) ts us := by
  obtain ⟨fs, ft, a, b, c, d⟩ := r.ex
  have := Paired.rev (Paired.left (by simpa using l) b.elts)
  simpa using this
theorem Rel.popsR {ts τ : List T} {us vs : List V} {σ : L2.St} {F H : Hp} (r : Rel K B G ρ σ (ts.reverse ++ τ) (us.reverse ++ vs) F H) (l : ts.length = us.length) : Rel K B G ρ σ τ vs F H := r.pops (by simpa using l)
def T.data : T → Option PyData
  | .w (.d x) => some x
  | _ => none
def datas : List T → Option (List PyData)
  | [] => some []
  | t :: r => t.data.bind fun x => (datas r).map fun xs => x :: xs
theorem Elt.datas {σ : L2.St} {F H : Hp} : ∀ {ts : List T} {us : List V} {xs : List PyData}, Paired (Elt K ρ σ F H) ts us → WD.datas ts = some xs → DqAll K F us xs
  | _, _, _, .nil, e => by cases e; exact .nil
  | _, _, _, .cons (a := t) h g, e => by
    cases t with
    | p i => simp [WD.datas, T.data] at e
    | w y =>
      cases y with
      | d z =>
        simp only [WD.datas, T.data, Option.bind_some, Option.map_eq_some_iff] at e
        obtain ⟨zs, e1, rfl⟩ := e
        obtain ⟨f, _, hd⟩ := h
        exact .cons hd (Elt.datas g e1)
      | _ => simp [WD.datas, T.data] at e
/-- a tuple, a list of data in flight -/
def QTup (Φ : T → Env → Prop) (ts : List T) (ρ : Env) : Prop := ∃ xs, datas ts = some xs ∧ ts.length ≤ sizeLine ∧ Φ (.w (.d (.tuple xs))) ρ
def QLst (Φ : T → Env → Prop) (ts : List T) (ρ : Env) : Prop := ∃ xs, datas ts = some xs ∧ ts.length ≤ sizeLine ∧ Φ (.w (.l xs)) ρ
theorem x_QTup {ts : List T} {xs : List PyData} (e : datas ts = some xs) (l : ts.length ≤ sizeLine) (h : Φ (.w (.d (.tuple xs))) ρ) : QTup Φ ts ρ := ⟨xs, e, l, h⟩
theorem x_QLst {ts : List T} {xs : List PyData} (e : datas ts = some xs) (l : ts.length ≤ sizeLine) (h : Φ (.w (.l xs)) ρ) : QLst Φ ts ρ := ⟨xs, e, l, h⟩
theorem J_tup (h : JA K B tr ρ (QTup Φ)) : J K B (tTup tr) ρ Φ := fun G τ vs σ F H Q r k => h _ τ vs σ F H _ r fun ts us ρ' F' H' l r' ⟨xs, e, z, q⟩ => by
  refine ⟨by rw [← l]; exact z, fun p np => ?_⟩
  have d := Elt.datas (r'.elts l) e
  have r2 := (r'.popsR l).laid (o := .tup us) np
  exact k _ _ _ _ _ (r2.push (.tup (SqT.of upd_same) (d.sub (Sub.new (Sub.refl F') (r'.sub.none np))))) q
theorem J_lst (h : JA K B tr ρ (QLst Φ)) : J K B (tLst tr) ρ Φ := fun G τ vs σ F H Q r k => h _ τ vs σ F H _ r fun ts us ρ' F' H' l r' ⟨xs, e, z, q⟩ => by
  refine ⟨by rw [← l]; exact z, fun p np => ?_⟩
  exact k _ _ _ _ _ ((r'.popsR l).lst np (Elt.datas (r'.elts l) e)) q
end
end WD

set_option Elab.async false
set_option linter.all false
set_option maxRecDepth 100000
set_option maxHeartbeats 1000000
namespace WD
open PySem PySem.Spec PyProof.Rows L2
/-! defs: what is promised of one, its body, its calls -/
abbrev PSp := List W → (W → Prop) → (Addr → PyData → Prop) → Prop
structure Post (fp : List Addr) (F H F' H' : Hp) : Prop where
  sub : Sub F F'
  subH : Sub F' H'
  new : ∀ a, F a = none → F' a ≠ none → H a = none
  stay : Stay fp H H'
def W.argOk : W → Bool
  | .d _ => true
  | .v _ => true
  | .pool _ _ => true
  | .r _ _ => true
  | _ => false
/-- how many are lent -/
def npool : List W → Nat
  | [] => 0
  | .pool _ _ :: r => npool r + 1
  | .r _ _ :: r => npool r + 1
  | _ :: r => npool r
theorem npool_cons {w : W} {ws : List W} : npool (w :: ws) = if w.lent = true then npool ws + 1 else npool ws := by cases w <;> rfl
def SP (K : PySem.W.Frag) (psp : PSp) : Sp := fun vs H Q E => ∃ F ws fp Φ Ξ, Sub F H ∧ ws.all W.argOk = true ∧ RT K [] [] F H (ws.map T.w) vs fp ∧ fp.Nodup ∧ (∀ p ∈ fp, F p = none) ∧ psp ws Φ Ξ ∧
  (∀ w u F' H' f, Post fp F H F' H' → RT K [] [] F' H' (ws.map T.w) vs fp → RW K F' H' w u f → (f ++ fp).Nodup → (∀ p ∈ f ++ fp, F' p = none) → (∀ p ∈ f, H p = none) → Φ w → Q u H') ∧
  (∀ C x u d F' H', Post fp F H F' H' → RT K [] [] F' H' (ws.map T.w) vs fp → (∀ p ∈ fp, F' p = none) → F' d = some (.xd [(("what" : Str), u)]) → Dq K F' u x → Ξ C x → E (.ref C) (some d) H')
def Keep : List W → Env → Prop
  | [], _ => True
  | .pool a l :: ws, ρ => ρ.head? = some (some (.pool a l)) ∧ Keep ws ρ.tail
  | .r p xs :: ws, ρ => ρ.head? = some (some (.r p xs)) ∧ Keep ws ρ.tail
  | _ :: ws, ρ => Keep ws ρ.tail
theorem Keep.at : ∀ {ws : List W} {ρ : Env} {i : Nat} {w : W}, Keep ws ρ → ws[i]? = some w → w.lent = true → ρ[i]? = some (some w)
  | [], _, _, _, _, e, _ => by simp at e
  | w :: ws, ρ, 0, w', k, e, l => by
    simp at e; subst e
    have : ρ.head? = some (some w) := by cases w <;> first | exact k.1 | cases l
    cases ρ with
    | nil => simp at this
    | cons o ρ => simpa using this
  | w :: ws, ρ, i + 1, w', k, e, l => by
    have k' : Keep ws ρ.tail := by
      cases w <;> first | exact k | exact k.2
    have := Keep.at k' (by simpa using e) l
    cases ρ with
    | nil => simp at this
    | cons o ρ => simpa using this
section
variable {K : PySem.W.Frag} {B : Base} {G : Hp} {ρ : Env} {Φ : T → Env → Prop} {E : JE} {ta tb tc te : TE} {t u : TS} {tt tt' : TT} {i : Nat} {ΦB : Bool → Env → Prop} {ΦL : List T → Env → Prop} {ΦE : Env → Prop} {tr : TA}
/-- an argument: lent, or without an object of its own -/
theorem RW.arg {w : W} {u : V} {F H : Hp} {f : List Addr} (r : RW K F H w u f) (ok : w.argOk = true) : w.lent = true ∨ f = [] ∧ w.lent = false ∧ ∀ {F' H' : Hp}, Sub F F' → RW K F' H' w u [] := by
  cases w with
  | d x => exact .inr ⟨r.1, rfl, fun s => ⟨rfl, r.2.sub s⟩⟩
  | v x => exact .inr ⟨r.1, rfl, fun s => ⟨rfl, r.2⟩⟩
  | pool a l => exact .inl rfl
  | r p xs => exact .inl rfl
  | _ => cases ok
theorem RT.pools {ws : List W} {vs : List V} {F H : Hp} {fp : List Addr} (h : RT K [] [] F H (ws.map T.w) vs fp) (ok : ws.all W.argOk = true) : ∀ p ∈ fp, ∃ (i : Nat) (w : W), ws[i]? = some w ∧ w.lent = true ∧ p ∈ w.foot := by
  induction ws generalizing vs fp with
  | nil => cases h; simp
  | cons w ws ih =>
    cases h with
    | w r g =>
      simp only [List.all_cons, Bool.and_eq_true] at ok
      intro p hp
      rcases List.mem_append.mp hp with q | q
      · rcases r.arg ok.1 with l | ⟨e, _⟩
        · rw [(r.lent l).2] at q
          exact ⟨0, w, rfl, l, q⟩
        · rw [e] at q; simp at q
      · obtain ⟨i, w', e, l, m⟩ := ih g ok.2 p q
        exact ⟨i + 1, w', by simpa using e, l, m⟩
theorem RT.again {ws : List W} {vs : List V} {F H F' H' : Hp} {fp : List Addr} (h : RT K [] [] F H (ws.map T.w) vs fp) (ok : ws.all W.argOk = true) (s : Sub F F') (pl : ∀ (i : Nat) (w : W), ws[i]? = some w → w.lent = true → RW K F' H' w w.adr w.foot) : RT K [] [] F' H' (ws.map T.w) vs fp := by
  induction ws generalizing vs fp with
  | nil => cases h; exact .nil
  | cons w ws ih =>
    cases h with
    | w r g =>
      simp only [List.all_cons, Bool.and_eq_true] at ok
      refine .w ?_ (ih g ok.2 fun i w e => pl (i + 1) w (by simpa using e))
      rcases r.arg ok.1 with l | ⟨e, _, k⟩
      · obtain ⟨rfl, rfl⟩ := r.lent l
        exact pl 0 w rfl l
      · rw [e]; exact k s
theorem RS.ofRT {ws : List W} {vs : List V} {F H : Hp} {fp : List Addr} (n : Nat) (h : RT K [] [] F H (ws.map T.w) vs fp) : RS K F H (ws.map some ++ List.replicate n none) (vs.map some ++ List.replicate n none) fp := by
  induction ws generalizing vs fp with
  | nil =>
    cases h
    induction n with
    | zero => exact .nil
    | succ n ih => exact .no ih
  | cons w ws ih => cases h with | w r g => exact .so r (ih g)
theorem Post.of {F H : Hp} {S : List Addr} {σ : L2.St} {τ : List T} {vs : List V} {F' H' : Hp} (r : Rel K ⟨H, S, F⟩ G ρ σ τ vs F' H') (n : ∀ p ∈ S, F' p = none) : Post S F H F' H' :=
  ⟨r.base.1, r.sub, fun a h1 h2 => by
    rcases r.new a h1 h2 with z | z
    · exact z
    · exact absurd (n a z) h2, r.stay⟩
theorem RW.uniq {F H F' H' : Hp} {w : W} {u : V} {f f' : List Addr} (h : RW K F H w u f) (h' : RW K F' H' w u f') : f = f' := by
  cases w with
  | d _ => rw [h.1, h'.1]
  | v _ => rw [h.1, h'.1]
  | l _ => obtain ⟨p, _, rfl, rfl, _⟩ := h; obtain ⟨q, _, e, rfl, _⟩ := h'; cases e; rfl
  | m _ => obtain ⟨p, _, rfl, rfl, _⟩ := h; obtain ⟨q, _, e, rfl, _⟩ := h'; cases e; rfl
  | pool _ _ => rw [h.2.1, h'.2.1]
  | ex _ _ _ => rw [h.1, h'.1]
  | r _ _ => rw [h.2.1, h'.2.1]
  | hl _ _ _ => rw [h.2.1, h'.2.1]
  | hm _ _ _ _ => rw [h.2.1, h'.2.1]
theorem RS.uniq {F H F' H' : Hp} {σ : L2.St} {f f' : List Addr} (h : RS K F H ρ σ f) (h' : RS K F' H' ρ σ f') : f = f' := by
  induction h generalizing f' with
  | nil => cases h'; rfl
  | no _ ih => cases h' with | no g => exact ih g
  | so r _ ih => cases h' with | so r' g => rw [r.uniq r', ih g]
theorem RT.uniq {F H F' H' : Hp} {σ : L2.St} {τ : List T} {vs : List V} {f f' : List Addr} (h : RT K ρ σ F H τ vs f) (h' : RT K ρ σ F' H' τ vs f') : f = f' := by
  induction h generalizing f' with
  | nil => cases h'; rfl
  | w r _ ih => cases h' with | w r' g => rw [r.uniq r', ih g]
  | p _ _ _ _ ih => cases h' with | p _ _ _ g => exact ih g
/-- a def's body, from its promise -/
theorem SP.run {psp : PSp} {vs : List V} {H : Hp} {Q : VK} {X : XK} {N : List Str} {ts : TS} (h : SP K psp vs H Q X)
    (body : ∀ ws Φ Ξ B, psp ws Φ Ξ → WOk K B (fun c d _ H => X c d H) (fun C x ρ => Ξ C x ∧ Keep ws ρ) → JS K B ts (ws.map some ++ List.replicate (N.length - ws.length) none) { nx := fun ρ => Φ (.d .none) ∧ Keep ws ρ, rt := fun w ρ => Φ w ∧ Keep ws ρ }) :
    ts { nx := fun _ H' => Q .non H', rt := Q } (L2.start N vs) H := by
  obtain ⟨F, ws, fp, Φ, Ξ, s0, ok, rt, nd, fn, hp, q1, q2⟩ := h
  have hl : ws.length = vs.length := by have := rt.len; simpa using this
  have inFs : ∀ {ρ σ F' H' fs}, Keep ws ρ → RS K F' H' ρ σ fs → ∀ p ∈ fp, p ∈ fs := fun {ρ σ F' H' fs} k rs p m => by
    obtain ⟨i, w, e, l, m2⟩ := rt.pools ok p m
    obtain ⟨u, f1, f, f2, _, rfl, rw0, _⟩ := rs.at (k.at e l)
    rw [(rw0.lent l).2]
    simp only [List.mem_append]; exact .inl (.inr m2)
  have back : ∀ {G ρ σ τ us F' H'}, Keep ws ρ → Rel K ⟨H, fp, F⟩ G ρ σ τ us F' H' → RT K [] [] F' H' (ws.map T.w) vs fp := fun {G ρ σ τ us F' H'} k r => by
    refine rt.again ok r.base.1 fun i w e l => ?_
    obtain ⟨u, f, _, rw0⟩ := r.slot (k.at e l)
    obtain ⟨rfl, rfl⟩ := rw0.lent l
    exact rw0
  have free : ∀ {G ρ σ τ us F' H'}, Keep ws ρ → Rel K ⟨H, fp, F⟩ G ρ σ τ us F' H' → ∀ p ∈ fp, F' p = none := fun {G ρ σ τ us F' H'} k r p m => by
    obtain ⟨fs, ft, a, b, c, d⟩ := r.ex
    exact (d p (List.mem_append_right _ (inFs k a p m))).1
  have ret : ∀ {G w u ρ σ F' H'}, Rel K ⟨H, fp, F⟩ G ρ σ [.w w] [u] F' H' → Φ w ∧ Keep ws ρ → Q u H' := fun {G w u ρ σ F' H'} r ⟨hw, k⟩ => by
    obtain ⟨fs, ft, a, b, c, d⟩ := r.ex
    cases b with
    | @w _ _ f _ _ fp2 e g =>
      cases g
      have dis : ∀ p ∈ f, p ∉ fp := fun p m1 m2 => by
        rw [List.append_nil, List.nodup_append] at c
        exact c.2.2 p m1 p (inFs k a p m2) rfl
      refine q1 w u F' H' f (Post.of r (free k r)) (back k r) e ?_ (fun p m => ?_) (fun p m => ?_) hw
      · rw [List.nodup_append]
        refine ⟨?_, nd, fun p m1 q m2 z => dis p m1 (z ▸ m2)⟩
        rw [List.append_nil, List.nodup_append] at c
        exact c.1
      · rcases List.mem_append.mp m with m | m
        · exact (d p (by simp [m])).1
        · exact free k r p m
      · rcases (d p (by simp [m])).2 with z | z
        · exact absurd z (dis p m)
        · exact z
  have r0 : Rel K ⟨H, fp, F⟩ F (ws.map some ++ List.replicate (N.length - ws.length) none) (L2.start N vs) [] [] F H := by
    refine ⟨⟨fp, [], ?_, .nil, nd, fun p m => ⟨fn p m, .inl m⟩⟩, s0, Stay.refl _ _, ⟨Sub.refl F, Sub.refl F⟩, fun a h1 h2 => absurd h1 h2⟩
    unfold L2.start
    rw [← hl]
    exact RS.ofRT _ rt
  refine body ws Φ Ξ ⟨H, fp, F⟩ hp ?_ _ _ F H _ r0 ⟨fun ρ σ F' H' r q => ?_, fun w u ρ σ F' H' r q => ret r q, fun _ _ _ _ _ q => q.elim, fun _ _ _ _ _ q => q.elim⟩
  · intro G ρ σ F' H' C x u d r hd dq ⟨hx, k⟩
    exact q2 C x u d F' H' (Post.of r (free k r)) (back k r) (free k r) hd dq hx
  · exact ret (r.push (x := .none) (u := .non) .non) q
def argW (ρ : Env) : T → Option W
  | .w (.d x) => some (.d x)
  | .w (.v x) => some (.v x)
  | .p i => match ρ[i]? with
    | some (some (.pool a l)) => some (.pool a l)
    | some (some (.r p xs)) => some (.r p xs)
    | _ => none
  | _ => none
def argsW (ρ : Env) : List T → Option (List W)
  | [] => some []
  | t :: r => (argW ρ t).bind fun x => (argsW ρ r).map fun xs => x :: xs
theorem npool_at {w : W} (l : w.lent = true) : ∀ {ws : List W} {j : Nat}, ws[j]? = some w → 0 < npool ws
  | [], _, e => by simp at e
  | w' :: ws, 0, e => by
    simp at e; subst e
    rw [npool_cons, if_pos l]; omega
  | w' :: ws, j + 1, e => by
    have := npool_at l (ws := ws) (j := j) (by simpa using e)
    rw [npool_cons]; split <;> omega
theorem Elt.args {σ : L2.St} {F H : Hp} : ∀ {ts : List T} {us : List V} {ws : List W}, Paired (Elt K ρ σ F H) ts us → argsW ρ ts = some ws → (∀ (i : Nat) (w : W), ρ[i]? = some (some w) → w.lent = true → σ[i]? = some (some w.adr) ∧ RW K F H w w.adr w.foot) → npool ws ≤ 1 →
    ∃ fp, RT K [] [] F H (ws.map T.w) us fp ∧ ws.all W.argOk = true ∧ ((fp = [] ∧ npool ws = 0) ∨ ∃ (i : Nat) (w : W), ρ[i]? = some (some w) ∧ w.lent = true ∧ fp = w.foot ∧ ∃ j : Nat, ws[j]? = some w)
  | _, _, _, .nil, e, _, _ => by cases e; exact ⟨[], .nil, rfl, .inl ⟨rfl, rfl⟩⟩
  | _, _ :: us', _, .cons (a := t) (b := u) h g, e, pl, np => by
    simp only [argsW, Option.bind_eq_some_iff, Option.map_eq_some_iff] at e
    obtain ⟨w, e1, ws, e2, rfl⟩ := e
    have next : npool ws ≤ 1 → _ := fun np => Elt.args g e2 pl np
    have data : ∀ {f : List Addr}, RW K F H w u f → f = [] → w.argOk = true → npool (w :: ws) = npool ws → ∃ fp, RT K [] [] F H ((w :: ws).map T.w) (u :: us') fp ∧ (w :: ws).all W.argOk = true ∧ ((fp = [] ∧ npool (w :: ws) = 0) ∨ ∃ (i : Nat) (w' : W), ρ[i]? = some (some w') ∧ w'.lent = true ∧ fp = w'.foot ∧ ∃ j : Nat, (w :: ws)[j]? = some w') := by
      intro f r z ok en
      subst z
      rw [en] at np
      obtain ⟨fp, r2, ok2, c⟩ := next np
      refine ⟨[] ++ fp, .w r r2, by simp [ok, ok2], ?_⟩
      rcases c with ⟨rfl, c⟩ | ⟨i, w', c1, l, c2, j, c3⟩
      · exact .inl ⟨rfl, by rw [en]; exact c⟩
      · exact .inr ⟨i, w', c1, l, c2, j + 1, by simpa using c3⟩
    have lnt : ∀ {i : Nat}, ρ[i]? = some (some w) → σ[i]? = some (some u) → w.lent = true → w.argOk = true → ∃ fp, RT K [] [] F H ((w :: ws).map T.w) (u :: us') fp ∧ (w :: ws).all W.argOk = true ∧ ((fp = [] ∧ npool (w :: ws) = 0) ∨ ∃ (i : Nat) (w' : W), ρ[i]? = some (some w') ∧ w'.lent = true ∧ fp = w'.foot ∧ ∃ j : Nat, (w :: ws)[j]? = some w') := by
      intro i ey es l ok
      obtain ⟨p1, p2⟩ := pl i w ey l
      rw [es] at p1; cases p1
      have np0 : npool ws = 0 := by rw [npool_cons, if_pos l] at np; omega
      obtain ⟨fp, r2, ok2, c⟩ := next (by omega)
      rcases c with ⟨rfl, c⟩ | ⟨i', w', c1, l', c2, j, c3⟩
      · exact ⟨w.foot ++ [], .w p2 r2, by simp [ok, ok2], .inr ⟨i, w, ey, l, by simp, 0, rfl⟩⟩
      · exfalso
        have := npool_at l' c3
        omega
    cases t with
    | w y =>
      cases y with
      | d x => cases e1; obtain ⟨f, r⟩ := h; exact data r r.1 rfl rfl
      | v x => cases e1; obtain ⟨f, r⟩ := h; exact data r r.1 rfl rfl
      | _ => cases e1
    | p i =>
      obtain ⟨es, y, ey⟩ := h
      simp only [argW, ey] at e1
      cases y with
      | pool a l => cases e1; exact lnt ey es rfl rfl
      | r p xs => cases e1; exact lnt ey es rfl rfl
      | _ => cases e1
def QCall (psp : PSp) (Ξ : Addr → PyData → Env → Prop) (Φ : T → Env → Prop) (ts : List T) (ρ : Env) : Prop := ∃ ws, argsW ρ ts = some ws ∧ npool ws ≤ 1 ∧ psp ws (fun w => Φ (.w w) ρ) (fun C x => Ξ C x ρ)
theorem x_QCall {psp : PSp} {Ξ : Addr → PyData → Env → Prop} {ts : List T} {ws : List W} (e : argsW ρ ts = some ws) (n : npool ws ≤ 1) (h : psp ws (fun w => Φ (.w w) ρ) (fun C x => Ξ C x ρ)) : QCall psp Ξ Φ ts ρ := ⟨ws, e, n, h⟩
theorem sp_call {psp : PSp} {Ξ : Addr → PyData → Env → Prop} {σ : L2.St} {τ : List T} {vs : List V} {F H : Hp} {Q : VK} {X : XK} {W0 : WX} {ts : List T} {us : List V} (hW : WOk K B W0 Ξ) (hX : ∀ C d H, W0 C d σ H → X C d H)
    (l : ts.length = us.length) (r : Rel K B G ρ σ (ts.reverse ++ τ) (us.reverse ++ vs) F H) (q : QCall psp Ξ Φ ts ρ) (k : ∀ t u ρ' F' H', Rel K B G ρ' σ (t :: τ) (u :: vs) F' H' → Φ t ρ' → Q u H') : SP K psp us H Q X := by
  obtain ⟨ws, e, np, hp⟩ := q
  have r0 := r.popsR l
  have el := r.elts l
  have pl : ∀ (i : Nat) (w : W), ρ[i]? = some (some w) → w.lent = true → σ[i]? = some (some w.adr) ∧ RW K F H w w.adr w.foot := fun i w h l => by
    obtain ⟨u, f, e1, p⟩ := r.slot h
    obtain ⟨rfl, rfl⟩ := p.lent l
    exact ⟨e1, p⟩
  obtain ⟨fp, rt, ok, c⟩ := Elt.args el e pl np
  have fpc : fp.Nodup ∧ (∀ p ∈ fp, F p = none) ∧ (∀ {F' H'}, Post fp F H F' H' → RT K [] [] F' H' (ws.map T.w) us fp → Rel K B G ρ σ τ vs F' H') := by
    rcases c with ⟨rfl, _⟩ | ⟨i, w, c1, lw, rfl, j, c3⟩
    · exact ⟨List.nodup_nil, by simp, fun po _ => r0.grow po.sub po.subH po.stay po.new⟩
    · obtain ⟨fs, ft, ra, b, c, d⟩ := r0.ex
      obtain ⟨u, f1, f, f2, e1, rfl, rw0, _⟩ := ra.at c1
      obtain ⟨rfl, rfl⟩ := rw0.lent lw
      refine ⟨rw0.foot_nd lw, fun p m => (d p (by simp only [List.mem_append]; exact .inr (.inl (.inr m)))).1, fun po rt' => ?_⟩
      refine r0.pooled c1 lw po.sub po.subH po.stay po.new ?_
      rename_i F' H'
      have : ∀ {ws : List W} {us : List V} {fp : List Addr} {j : Nat}, RT K [] [] F' H' (ws.map T.w) us fp → ws[j]? = some w → RW K F' H' w w.adr w.foot := by
        intro ws us fp j rt e
        induction ws generalizing us fp j with
        | nil => simp at e
        | cons w' ws ih =>
          cases rt with
          | w r g =>
            cases j with
            | zero =>
              simp at e; subst e
              obtain ⟨rfl, rfl⟩ := r.lent lw
              exact r
            | succ j => exact ih g (by simpa using e)
      exact this rt' c3
  obtain ⟨nd, fn, go⟩ := fpc
  refine ⟨F, ws, fp, _, _, r.sub, ok, rt, nd, fn, hp, fun w u F' H' f po rt' rw' nd' fr nw hw => ?_, fun C x u d F' H' po rt' fr hd dq hx => ?_⟩
  · have r1 := go po rt'
    refine k _ u ρ F' H' (r1.pushW rw' ?_ (fun p m => ⟨fr p (by simp [m]), r.stay.old p (nw p m)⟩) fun fs ft a b p m z => ?_) hw
    · rw [List.nodup_append] at nd'
      exact nd'.1
    · obtain ⟨fs0, ft0, a0, b0, _, _⟩ := r0.ex
      rw [a.uniq a0, b.uniq b0] at m
      rcases List.mem_append.mp m with y | y
      · exact b0.there p y (nw p z)
      · exact a0.there p y (nw p z)
  · have r1 := go po rt'
    have r2 : Rel K B G ρ σ [] [] F' H' := by
      have e1 : τ.length = vs.length := by obtain ⟨fs, ft, a, b, c, d⟩ := r1.ex; exact b.len
      exact Rel.pops (τ := []) (vs := []) e1 (by simpa using r1)
    exact hX _ _ _ (hW _ ρ σ F' H' C x u d r2 hd dq hx)
end
end WD

set_option Elab.async false
set_option linter.all false
set_option maxRecDepth 100000
set_option maxHeartbeats 1000000
namespace WD
open PySem PySem.Spec PyProof.Rows L2
section
variable {K : PySem.W.Frag} {B : Base} {G : Hp} {ρ : Env} {Φ : T → Env → Prop} {E : JE} {ta tb tc te : TE} {t u : TS} {tt tt' : TT} {i : Nat} {ΦB : Bool → Env → Prop} {ΦL : List T → Env → Prop} {ΦE : Env → Prop} {tr : TA}
theorem WOk.no : WOk K B (fun _ _ _ _ => False) (fun _ _ _ => False) := fun _ _ _ _ _ _ _ _ _ _ _ _ h => h
-- calls of defs
theorem J_call {psp : PSp} {X : XK} {Ξ : Addr → PyData → Env → Prop} (hW : WOk K B (fun c d _ H => X c d H) Ξ) (h : JA K B tr ρ (QCall psp Ξ Φ)) : J K B (tCall (SP K psp) [] X tr) ρ Φ := fun G τ vs σ F H Q r k => by
  show tr σ H fun vs H1 => SP K psp (vs ++ []) H1 Q X
  refine h _ τ vs σ F H _ r fun ts us ρ' F' H' l r' q => ?_
  rw [List.append_nil]
  exact sp_call hW (fun _ _ _ h => h) l r' q k
theorem J_callN {psp : PSp} {X : XK} (h : JA K B tr ρ (QCall psp (fun _ _ _ => False) Φ)) : J K B (tCall (SP K psp) [] X tr) ρ Φ := fun G τ vs σ F H Q r k => by
  show tr σ H fun vs H1 => SP K psp (vs ++ []) H1 Q X
  refine h _ τ vs σ F H _ r fun ts us ρ' F' H' l r' q => ?_
  rw [List.append_nil]
  exact sp_call (W0 := fun _ _ _ _ => False) (fun _ _ _ _ _ _ _ _ _ _ _ _ h => h) (fun _ _ _ h => h.elim) l r' q k
theorem J_callS {psp : PSp} {W0 : WX} {Ξ : Addr → PyData → Env → Prop} (hW : WOk K B W0 Ξ) (h : JA K B tr ρ (QCall psp Ξ Φ)) : J K B (tCallS (SP K psp) (fun σ c d H => W0 c d σ H) tr) ρ Φ := fun G τ vs σ F H Q r k => by
  show tr σ H fun vs H1 => SP K psp vs H1 Q (fun c d H => W0 c d σ H)
  refine h _ τ vs σ F H _ r fun ts us ρ' F' H' l r' q => ?_
  refine sp_call (W0 := fun c d s H => s = σ → W0 c d s H) (fun G ρ2 s F2 H2 C x u d r2 hd dq hx es => hW G ρ2 s F2 H2 C x u d r2 hd dq hx) (fun _ _ _ h => h rfl) l r' q k
-- builtins
def CallJ (K : PySem.W.Frag) (B : Base) (r : List V → Hp → VK → Prop) (R : List T → Env → (T → Env → Prop) → Prop) : Prop := ∀ {G : Hp} {τ : List T} {vs : List V} {σ : L2.St} {F H : Hp} {ρ : Env} {ts : List T} {us : List V} {Q : VK} {Φ : T → Env → Prop}, ts.length = us.length →
  Rel K B G ρ σ (ts.reverse ++ τ) (us.reverse ++ vs) F H → R ts ρ Φ → (∀ w v ρ' F' H', Rel K B G ρ' σ (w :: τ) (v :: vs) F' H' → Φ w ρ' → Q v H') → r us H Q
theorem J_cb {r : List V → Hp → VK → Prop} {R : List T → Env → (T → Env → Prop) → Prop} (o : CallJ K B r R) (h : JN K B tr ρ fun ts ρ1 => R ts ρ1 Φ) : J K B (tCB r tr) ρ Φ := fun G τ vs σ F H Q rl k =>
  h _ τ vs σ F H _ rl fun ts us ρ1 F1 H1 l r1 q1 => o l r1 q1 k
theorem one_arg {ts : List T} {us : List V} {t : T} (l : ts.length = us.length) (e : ts = [t]) : ∃ u, us = [u] := by
  subst e
  cases us with
  | nil => simp at l
  | cons u us => cases us with
    | nil => exact ⟨u, rfl⟩
    | cons _ _ => simp at l
theorem two_args {ts : List T} {us : List V} {t t' : T} (l : ts.length = us.length) (e : ts = [t, t']) : ∃ u u', us = [u, u'] := by
  subst e
  cases us with
  | nil => simp at l
  | cons u us => cases us with
    | nil => simp at l
    | cons u' us => cases us with
      | nil => exact ⟨u, u', rfl⟩
      | cons _ _ => simp at l
def lenD : PyData → Option Nat
  | .list xs => some xs.length
  | .tuple xs => some xs.length
  | .str z => if z.length ≤ sizeLine then some z.length else none
  | _ => none
def QLen (ts : List T) (ρ : Env) (Φ : T → Env → Prop) : Prop := ∃ t d n, ts = [t] ∧ t.view ρ = some d ∧ lenD d = some n ∧ Φ (.w (.d (.int (n : Nat)))) ρ
theorem x_lenL' {t : T} {xs : List PyData} (e : t.view ρ = some (.list xs)) (h : Φ (.w (.d (.int (xs.length : Nat)))) ρ) : QLen [t] ρ Φ := ⟨t, _, _, rfl, e, rfl, h⟩
theorem x_lenT' {t : T} {xs : List PyData} (e : t.view ρ = some (.tuple xs)) (h : Φ (.w (.d (.int (xs.length : Nat)))) ρ) : QLen [t] ρ Φ := ⟨t, _, _, rfl, e, rfl, h⟩
theorem x_lenS' {t : T} {z : Str} (e : t.view ρ = some (.str z)) (l : z.length ≤ sizeLine) (h : Φ (.w (.d (.int (z.length : Nat)))) ρ) : QLen [t] ρ Φ := ⟨t, _, _, rfl, e, if_pos l, h⟩
theorem cj_len : CallJ K B (fun xs H Q => ∃ x n, xs = [x] ∧ LenV K x H n ∧ Q (.int n) H) QLen := by
  rintro G τ vs σ F H ρ ts us Q Φ l r ⟨t, d, n, rfl, h1, h2, h⟩ k
  obtain ⟨u, rfl⟩ := one_arg l rfl
  have hd := Rel.view (by simpa using r) h1
  refine ⟨u, n, rfl, ?_, k _ _ _ _ _ ((Rel.pop (by simpa using r)).push (.int _)) h⟩
  cases hd with
  | str z =>
    simp only [lenD] at h2
    split at h2
    · cases h2; exact ⟨by assumption, rfl⟩
    · cases h2
  | lst a b => cases h2; exact .inl ⟨_, SqL.of a, b.len.symm⟩
  | tup a b => cases h2; exact .inr ⟨_, a, b.len.symm⟩
  | _ => cases h2
/-- tuple(x), list(x) -/
def seqD : PyData → Option (List PyData)
  | .list xs => some xs
  | .tuple xs => some xs
  | _ => none
def QTupOf (ts : List T) (ρ : Env) (Φ : T → Env → Prop) : Prop := ∃ t d xs, ts = [t] ∧ t.view ρ = some d ∧ seqD d = some xs ∧ Φ (.w (.d (.tuple xs))) ρ
def QLstOf (ts : List T) (ρ : Env) (Φ : T → Env → Prop) : Prop := ∃ t d xs, ts = [t] ∧ t.view ρ = some d ∧ seqD d = some xs ∧ Φ (.w (.l xs)) ρ
theorem x_tupOf {t : T} {d : PyData} {xs : List PyData} (e : t.view ρ = some d) (e2 : seqD d = some xs) (h : Φ (.w (.d (.tuple xs))) ρ) : QTupOf [t] ρ Φ := ⟨t, d, xs, rfl, e, e2, h⟩
theorem x_lstOf {t : T} {d : PyData} {xs : List PyData} (e : t.view ρ = some d) (e2 : seqD d = some xs) (h : Φ (.w (.l xs)) ρ) : QLstOf [t] ρ Φ := ⟨t, d, xs, rfl, e, e2, h⟩
theorem cj_tupOf : CallJ K B (rTupleOf K) QTupOf := by
  rintro G τ vs σ F H ρ ts us Q Φ l r ⟨t, d, xs, rfl, h1, h2, h⟩ k
  obtain ⟨u, rfl⟩ := one_arg l rfl
  have r1 : Rel K B G ρ σ (t :: τ) (u :: vs) F H := by simpa using r
  cases d with
  | list ys =>
    cases h2
    obtain ⟨p, us, rfl, g1, g2⟩ := r1.viewL h1
    refine ⟨p, us, rfl, .inl ⟨SqL.of g1, fun a na => k _ _ _ _ _ ((r1.pop.laid (o := .tup us) na).push (.tup (SqT.of upd_same) (g2.sub (Sub.new (Sub.refl F) (r.sub.none na))))) h⟩⟩
  | tuple ys =>
    cases h2
    obtain ⟨p, us, rfl, g1, g2⟩ := T.tup r1 h1
    exact ⟨p, us, rfl, .inr ⟨g1.sub r.sub, k _ _ _ _ _ (r1.pop.push (.tup g1 g2)) h⟩⟩
  | _ => cases h2
theorem cj_lstOf : CallJ K B (rListOf K) QLstOf := by
  rintro G τ vs σ F H ρ ts us Q Φ l r ⟨t, d, xs, rfl, h1, h2, h⟩ k
  obtain ⟨u, rfl⟩ := one_arg l rfl
  have r1 : Rel K B G ρ σ (t :: τ) (u :: vs) F H := by simpa using r
  cases d with
  | list ys =>
    cases h2
    obtain ⟨p, us, rfl, g1, g2⟩ := r1.viewL h1
    exact ⟨p, us, rfl, .inl (SqL.of g1), fun a na => k _ _ _ _ _ (r1.pop.lst na g2) h⟩
  | tuple ys =>
    cases h2
    obtain ⟨p, us, rfl, g1, g2⟩ := T.tup r1 h1
    exact ⟨p, us, rfl, .inr (g1.sub r.sub), fun a na => k _ _ _ _ _ (r1.pop.lst na g2) h⟩
  | _ => cases h2
def QInt1 (ts : List T) (ρ : Env) (Φ : T → Env → Prop) : Prop := (∃ i, ts = [.w (.d (.int i))] ∧ Φ (.w (.d (.int i))) ρ) ∨ ∃ b, ts = [.w (.d (.bool b))] ∧ Φ (.w (.d (.int (if b = true then 1 else 0)))) ρ
theorem cj_int1 : CallJ K B (fun xs H Q => (∃ i, xs = [.int i] ∧ Q (.int i) H) ∨ ∃ k, xs = [.bl k] ∧ Q (.int (if k then 1 else 0)) H) QInt1 := by
  rintro G τ vs σ F H ρ ts us Q Φ l r h k
  rcases h with ⟨i, rfl, h⟩ | ⟨b, rfl, h⟩
  · obtain ⟨u, rfl⟩ := one_arg l rfl
    have r1 : Rel K B G ρ σ (.w (.d (.int i)) :: τ) (u :: vs) F H := by simpa using r
    have := r1.topD; cases this
    exact .inl ⟨i, rfl, k _ _ _ _ _ r1 h⟩
  · obtain ⟨u, rfl⟩ := one_arg l rfl
    have r1 : Rel K B G ρ σ (.w (.d (.bool b)) :: τ) (u :: vs) F H := by simpa using r
    have := r1.topD; cases this
    exact .inr ⟨b, rfl, k _ _ _ _ _ (r1.pop.push (.int _)) h⟩
def QI2 (f : Int → Int → Int) (ts : List T) (ρ : Env) (Φ : T → Env → Prop) : Prop := ∃ i j, ts = [.w (.d (.int i)), .w (.d (.int j))] ∧ Φ (.w (.d (.int (f i j)))) ρ
theorem x_QI2 {f : Int → Int → Int} {i j : Int} (h : Φ (.w (.d (.int (f i j)))) ρ) : QI2 f [.w (.d (.int i)), .w (.d (.int j))] ρ Φ := ⟨i, j, rfl, h⟩
theorem cj_I2 {f : Int → Int → Int} : CallJ K B (fun xs H Q => ∃ i j, xs = [.int i, .int j] ∧ Q (.int (f i j)) H) (QI2 f) := by
  rintro G τ vs σ F H ρ ts us Q Φ l r ⟨i, j, rfl, h⟩ k
  obtain ⟨u, u', rfl⟩ := two_args l rfl
  have r1 : Rel K B G ρ σ (.w (.d (.int j)) :: .w (.d (.int i)) :: τ) (u' :: u :: vs) F H := by simpa using r
  obtain ⟨rfl, rfl⟩ := r1.int2
  exact ⟨i, j, rfl, k _ _ _ _ _ (r1.pop.pop.push (.int _)) h⟩
def QSum (ts : List T) (ρ : Env) (Φ : T → Env → Prop) : Prop := ∃ (t : T) (ns : List Int), ts = [t] ∧ t.view ρ = some (.list (ns.map PyData.int)) ∧ Φ (.w (.d (.int ns.sum))) ρ
theorem cj_sum : CallJ K B (rSum K) QSum := by
  rintro G τ vs σ F H ρ ts us Q Φ l r ⟨t, ns, rfl, h1, h⟩ k
  obtain ⟨u, rfl⟩ := one_arg l rfl
  have r1 : Rel K B G ρ σ (t :: τ) (u :: vs) F H := by simpa using r
  obtain ⟨p, us, rfl, g1, g2⟩ := r1.viewL h1
  exact ⟨p, ns, rfl, by rw [← g2.ints]; exact SqL.of g1, k _ _ _ _ _ (r1.pop.push (.int _)) h⟩
/-- the name of a datum's class -/
def tyN : PyData → String
  | .none => "NoneType"
  | .bool _ => "bool"
  | .int _ => "int"
  | .str _ => "str"
  | .list _ => "list"
  | .tuple _ => "tuple"
  | .dict _ => "dict"
theorem tyN_k (d : PyData) : tyN d ∈ kinds7 := by cases d <;> simp [tyN, kinds7]
theorem _root_.L2.Dq.ty {H : Hp} {u : V} {d : PyData} (h : Dq K H u d) : Ty1 K H u (tyN d) := by
  refine ⟨?_, tyN_k d⟩
  cases h with
  | non => exact (Ty1.non).ty
  | bl b => exact (Ty1.bl b).ty
  | int i => exact (Ty1.int i).ty
  | str x => exact (Ty1.str x).ty
  | lst a b => exact (Ty1.lst a).ty
  | tup a b =>
    rcases a with (a | ⟨o, a⟩) | ⟨o, its, n, a1, a2, _⟩
    · exact (Ty1.tup a).ty
    · exact .fTuple a
    · exact .kTuple a1 a2
def QIsi (ts : List T) (ρ : Env) (Φ : T → Env → Prop) : Prop := ∃ t d c, ts = [t, .w (.v (.ty c))] ∧ t.view ρ = some d ∧ c ∈ kinds7 ∧ Φ (.w (.d (.bool (isT (tyN d) c)))) ρ
theorem x_QIsi {t : T} {d : PyData} {c : String} (e : t.view ρ = some d) (m : c ∈ kinds7) (h : Φ (.w (.d (.bool (isT (tyN d) c)))) ρ) : QIsi [t, .w (.v (.ty c))] ρ Φ := ⟨t, d, c, rfl, e, m, h⟩
theorem cj_isi : CallJ K B (rIsi K) QIsi := by
  rintro G τ vs σ F H ρ ts us Q Φ l r ⟨t, d, c, rfl, h1, h2, h⟩ k
  obtain ⟨u, u', rfl⟩ := two_args l rfl
  have r1 : Rel K B G ρ σ (.w (.v (.ty c)) :: t :: τ) (u' :: u :: vs) F H := by simpa using r
  have := r1.topV; subst this
  exact x_isi (r1.pop.view h1).ty h2 (k _ _ _ _ _ (r1.pop.pop.push (.bl _)) h)
-- ranges made lists, tuples
def rgD (a b : Int) : List PyData := (List.range (b - a).toNat).map fun i => PyData.int (a + (i : Nat))
theorem dq_rg (F : Hp) (a b : Int) : DqAll K F (rgV a b) (rgD a b) := by
  unfold rgV rgD
  induction List.range (b - a).toNat with
  | nil => exact .nil
  | cons n r ih => exact .cons (.int _) ih
def JRg (K : PySem.W.Frag) (B : Base) (tg : L2.St → Hp → (Int → Int → Hp → Prop) → Prop) (ρ : Env) (Ψ : Int → Int → Env → Prop) : Prop := ∀ (G : Hp) (τ : List T) (vs : List V) (σ : L2.St) (F H : Hp) (Q : Int → Int → Hp → Prop), Rel K B G ρ σ τ vs F H →
  (∀ a b ρ' F' H', Rel K B G ρ' σ τ vs F' H' → Ψ a b ρ' → Q a b H') → tg σ H Q
theorem J_rg1 {Ψ : Int → Int → Env → Prop} (h : J K B ta ρ fun t ρ1 => ∃ i, t = .w (.d (.int i)) ∧ Ψ 0 i ρ1) : JRg K B (tRg1 ta) ρ Ψ := fun G τ vs σ F H Q r k => h _ τ vs σ F H _ r fun t u ρ' F' H' r' ⟨i, e, q⟩ => by
  subst e
  have := r'.topD; cases this
  exact ⟨i, rfl, k _ _ _ _ _ r'.pop q⟩
theorem J_rg2 {Ψ : Int → Int → Env → Prop} (h : J K B ta ρ fun t ρ1 => J K B tb ρ1 fun u ρ2 => ∃ i j, t = .w (.d (.int i)) ∧ u = .w (.d (.int j)) ∧ Ψ i j ρ2) : JRg K B (tRg2 ta tb) ρ Ψ := fun G τ vs σ F H Q r k =>
  h _ τ vs σ F H _ r fun t x ρ1 F1 H1 r1 q1 => q1 _ _ _ σ F1 H1 _ r1 fun u y ρ2 F2 H2 r2 ⟨i, j, e1, e2, q⟩ => by
    subst e1; subst e2
    obtain ⟨rfl, rfl⟩ := r2.int2
    exact ⟨i, j, rfl, rfl, k _ _ _ _ _ r2.pop.pop q⟩
theorem J_lstRg {tg : L2.St → Hp → (Int → Int → Hp → Prop) → Prop} (h : JRg K B tg ρ fun a b ρ1 => RgOk a b ∧ Φ (.w (.l (rgD a b))) ρ1) : J K B (tLstRg tg) ρ Φ := fun G τ vs σ F H Q r k => h _ τ vs σ F H _ r fun a b ρ' F' H' r' ⟨o, q⟩ =>
  ⟨o, fun p np => k _ _ _ _ _ (r'.lst np (dq_rg F' a b)) q⟩
theorem J_tupRg {tg : L2.St → Hp → (Int → Int → Hp → Prop) → Prop} (h : JRg K B tg ρ fun a b ρ1 => RgOk a b ∧ Φ (.w (.d (.tuple (rgD a b)))) ρ1) : J K B (tTupRg tg) ρ Φ := fun G τ vs σ F H Q r k => h _ τ vs σ F H _ r fun a b ρ' F' H' r' ⟨o, q⟩ =>
  ⟨o, fun p np => k _ _ _ _ _ ((r'.laid (o := .tup (rgV a b)) np).push (.tup (SqT.of upd_same) (dq_rg _ a b))) q⟩
-- methods of lists
theorem Rel.pAt {τ : List T} {vs : List V} {σ : L2.St} {F H : Hp} {u : V} {w : W} {xs : List PyData} (r : Rel K B G ρ σ (.p i :: τ) (u :: vs) F H) (h : ρ[i]? = some (some w)) (ew : w.row = some xs) : ∃ p ys, u = .ref p ∧ σ[i]? = some (some (.ref p)) ∧ H p = some (.lst ys) ∧ DqAll K F ys xs := by
  obtain ⟨p, ys, e1, e2, e3⟩ := r.rowAt h ew
  obtain ⟨fs, ft, a, b, c, d⟩ := r.ex
  cases b with
  | p z1 z2 z3 g => rw [e1] at z1; cases z1; exact ⟨p, ys, rfl, e1, e2, e3⟩
/-- a method of a list of a slot's own: what becomes of the list, what is returned -/
def QNrm (i : Nat) (Φ : T → Env → Prop) (ρ2 : Env) (w : W) (xs' : List PyData) (x : PyData) : Prop := ∃ ρ', ρ2.set i (some (w.put xs')) = ρ' ∧ Φ (.w (.d x)) ρ'
def QMr (R : List T → List PyData → (List PyData → PyData → Prop) → Prop) (Φ : T → Env → Prop) (i : Nat) (ts : List T) (ρ2 : Env) : Prop := ∃ w xs, ρ2[i]? = some (some w) ∧ w.row = some xs ∧ R ts xs (QNrm i Φ ρ2 w)
def QMt (K : PySem.W.Frag) (B : Base) (tr : TA) (R : List T → List PyData → (List PyData → PyData → Prop) → Prop) (Φ : T → Env → Prop) (t : T) (ρ1 : Env) : Prop :=
  ∃ i w0 xs0, t = .p i ∧ ρ1[i]? = some (some w0) ∧ w0.row = some xs0 ∧ JA K B tr ρ1 (QMr R Φ i)
theorem x_QMt {R : List T → List PyData → (List PyData → PyData → Prop) → Prop} {w : W} {xs0 : List PyData} (e : ρ[i]? = some (some w)) (ew : w.row = some xs0) (h : JA K B tr ρ (QMr R Φ i)) : QMt K B tr R Φ (.p i) ρ := ⟨i, w, xs0, rfl, e, ew, h⟩
def MtJ (K : PySem.W.Frag) (B : Base) (r : V → List V → Hp → VK → Prop) (R : List T → List PyData → (List PyData → PyData → Prop) → Prop) : Prop :=
  ∀ {G : Hp} {τ : List T} {vs : List V} {σ : L2.St} {F H : Hp} {ρ : Env} {ts : List T} {us : List V} {Q : VK} {p : Addr} {ys : List V} {xs : List PyData} {P : List PyData → PyData → Prop}, ts.length = us.length → Rel K B G ρ σ (ts.reverse ++ τ) (us.reverse ++ vs) F H →
    H p = some (.lst ys) → DqAll K F ys xs → R ts xs P → (∀ xs' ys' x v, P xs' x → DqAll K F ys' xs' → Dq K F v x → Q v (upd H p (.lst ys'))) → r (.ref p) us H Q
theorem J_mt {r : V → List V → Hp → VK → Prop} {R : List T → List PyData → (List PyData → PyData → Prop) → Prop} (o : MtJ K B r R) (h : J K B te ρ (QMt K B tr R Φ)) : J K B (tBM K "list" r te tr) ρ Φ := fun G τ vs σ F H Q rl k => by
  refine h _ τ vs σ F H _ rl fun t u ρ1 F1 H1 r1 ⟨i, w0, xs0, e, hi0, ew0, q1⟩ => ?_
  subst e
  obtain ⟨p, ys, rfl, e1, e2, e3⟩ := r1.pAt hi0 ew0
  refine ⟨.inl ⟨rfl, ys, SqL.of e2⟩, q1 _ _ _ σ F1 H1 _ r1 fun ts us ρ2 F2 H2 l r2 ⟨w, xs, hi, ew, q⟩ => ?_⟩
  have r3 := r2.popsR l
  obtain ⟨p', zs, ep, e5, e6, e7⟩ := r3.pAt hi ew
  cases ep
  refine o l r2 e6 e7 q fun xs' ys' x v hP hd hv => ?_
  obtain ⟨ρ', rfl, hP⟩ := hP
  exact k _ _ _ _ _ (((r3.pop).mutR (us := zs) hi ew e5 hd).push hv) hP
theorem J_mt0 {r : V → List V → Hp → VK → Prop} {R : List T → List PyData → (List PyData → PyData → Prop) → Prop} (o : MtJ K B r R) (h : J K B te ρ (QMt K B tNil R Φ)) : J K B (tBM0 K "list" r te) ρ Φ := fun G τ vs σ F H Q rl k => by
  have := J_mt (tr := tNil) o h G τ vs σ F H Q rl k
  exact this
def RApp (ts : List T) (xs : List PyData) (P : List PyData → PyData → Prop) : Prop := ∃ x, ts = [.w (.d x)] ∧ xs.length < sizeLine ∧ P (xs ++ [x]) .none
theorem x_RApp {x : PyData} {xs : List PyData} {P : List PyData → PyData → Prop} (l : xs.length < sizeLine) (h : P (xs ++ [x]) .none) : RApp [.w (.d x)] xs P := ⟨x, rfl, l, h⟩
theorem mj_append : MtJ K B rAppend RApp := by
  rintro G τ vs σ F H ρ ts us Q p ys xs P l r h1 h2 ⟨x, rfl, hz, hP⟩ k
  obtain ⟨y, rfl⟩ := one_arg l rfl
  have r1 : Rel K B G ρ σ (.w (.d x) :: τ) (y :: vs) F H := by simpa using r
  exact ⟨p, ys, y, rfl, rfl, h1, by rw [h2.len]; exact hz, k _ _ _ _ hP (h2.app (.one r1.topD)) .non⟩
def RPop (ts : List T) (xs : List PyData) (P : List PyData → PyData → Prop) : Prop := ∃ x, ts = [] ∧ xs[xs.length - 1]? = some x ∧ P xs.dropLast x
theorem DqAll.dropLast {F : Hp} {vs : List V} {xs : List PyData} (h : DqAll K F vs xs) : DqAll K F vs.dropLast xs.dropLast := by
  rw [List.dropLast_eq_take, List.dropLast_eq_take, h.len]
  exact h.take _
theorem mj_pop : MtJ K B rPop RPop := by
  rintro G τ vs σ F H ρ ts us Q p ys xs P l r h1 h2 ⟨x, rfl, hx, hP⟩ k
  cases us with
  | cons _ _ => simp at l
  | nil =>
    obtain ⟨v, e1, e2⟩ := h2.get hx
    exact ⟨p, ys, v, rfl, rfl, h1, by rw [h2.len]; exact e1, k _ _ _ _ hP (DqAll.dropLast h2) e2⟩
def RPopAt (ts : List T) (xs : List PyData) (P : List PyData → PyData → Prop) : Prop := ∃ i j x, ts = [.w (.d (.int i))] ∧ (-(2 ^ 63) ≤ i ∧ i < 2 ^ 63) ∧ seqIndex? i xs.length = some j ∧ xs[j]? = some x ∧ P (xs.eraseIdx j) x
theorem mj_popAt : MtJ K B rPopAt RPopAt := by
  rintro G τ vs σ F H ρ ts us Q p ys xs P l r h1 h2 ⟨n, j, x, rfl, ⟨l1, l2⟩, hj, hx, hP⟩ k
  obtain ⟨y, rfl⟩ := one_arg l rfl
  have r1 : Rel K B G ρ σ (.w (.d (.int n)) :: τ) (y :: vs) F H := by simpa using r
  have := r1.topD; cases this
  obtain ⟨v, e1, e2⟩ := h2.get hx
  exact ⟨p, ys, n, j, v, rfl, rfl, h1, l1, l2, by rw [h2.len]; exact hj, e1, k _ _ _ _ hP (h2.erase j) e2⟩
def RExt (ts : List T) (xs : List PyData) (P : List PyData → PyData → Prop) : Prop := ∃ zs, ts = [.w (.d (.list zs))] ∧ xs.length + zs.length ≤ sizeLine ∧ P (xs ++ zs) .none
theorem mj_extend : MtJ K B rExtend RExt := by
  rintro G τ vs σ F H ρ ts us Q p ys xs P l r h1 h2 ⟨zs, rfl, hz, hP⟩ k
  obtain ⟨y, rfl⟩ := one_arg l rfl
  have r1 : Rel K B G ρ σ (.w (.d (.list zs)) :: τ) (y :: vs) F H := by simpa using r
  have := r1.topD
  cases this with
  | lst g1 g2 => exact ⟨p, _, ys, _, rfl, rfl, h1, r1.sub _ _ g1, by rw [h2.len, g2.len]; exact hz, k _ _ _ _ hP (h2.app g2) .non⟩
-- o[i] = e, name += e, o[i] += e
def QSetR (x : PyData) (ΦE : Env → Prop) (o k : T) (ρ2 : Env) : Prop := ∃ i w xs n j, o = .p i ∧ k = .w (.d (.int n)) ∧ ρ2[i]? = some (some w) ∧ w.row = some xs ∧ ixN xs.length n = some j ∧ ΦE (ρ2.set i (some (w.put (xs.set j x))))
/-- in an inner list -/
def QSetH (x : PyData) (ΦE : Env → Prop) (o k : T) (ρ2 : Env) : Prop := ∃ i p qs xss q j xs n m, o = .w (.v (.ref q)) ∧ k = .w (.d (.int n)) ∧ ρ2[i]? = some (some (.hl p qs xss)) ∧ qs[j]? = some q ∧ xss[j]? = some xs ∧ ixN xs.length n = some m ∧ ΦE (ρ2.set i (some (.hl p qs (xss.set j (xs.set m x)))))
def QSet (x : PyData) (ΦE : Env → Prop) (o k : T) (ρ2 : Env) : Prop := QSetR x ΦE o k ρ2 ∨ QSetH x ΦE o k ρ2
theorem x_QSet {x : PyData} {n : Int} {j : Nat} {w : W} {xs : List PyData} {ρ' : Env} (e0 : ρ[i]? = some (some w)) (ew : w.row = some xs) (hj : ixN xs.length n = some j) (e : ρ.set i (some (w.put (xs.set j x))) = ρ') (h : ΦE ρ') : QSet x ΦE (.p i) (.w (.d (.int n))) ρ := .inl ⟨i, w, xs, n, j, rfl, rfl, e0, ew, hj, by rw [e]; exact h⟩
theorem x_QSetH {x : PyData} {p q : Addr} {qs : List Addr} {xss : List (List PyData)} {xs : List PyData} {n : Int} {j m : Nat} {ρ' : Env} (e0 : ρ[i]? = some (some (.hl p qs xss))) (eq : qs[j]? = some q) (ex : xss[j]? = some xs) (hm : ixN xs.length n = some m) (e : ρ.set i (some (.hl p qs (xss.set j (xs.set m x)))) = ρ') (h : ΦE ρ') : QSet x ΦE (.w (.v (.ref q))) (.w (.d (.int n))) ρ := .inr ⟨i, p, qs, xss, q, j, xs, n, m, rfl, rfl, e0, eq, ex, hm, by rw [e]; exact h⟩
theorem J_gSub {b : Bool} {to ti : TE} {x : PyData} (h : J K B to ρ fun o ρ1 => J K B ti ρ1 (QSet x ΦE o)) :
    JG K B b (gSub to ti rSetL) (.w (.d x)) ρ ΦE := fun G τ vs u σ F H Q hb r k => by
  refine h _ _ _ σ F H _ r fun o y ρ1 F1 H1 r1 q1 => q1 _ _ _ σ F1 H1 _ r1 fun z y2 ρ2 F2 H2 r2 q => ?_
  rcases q with ⟨i, w, xs, n, j, e1, e2, hi, ew, hj, q⟩ | ⟨i, p, qs, xss, q0, j, xs, n, m, e1, e2, hi, eq, ex, hm, q⟩
  · subst e1; subst e2
    have := r2.topD; cases this
    obtain ⟨p, ys, rfl, e5, e6, e7⟩ := r2.pop.pAt hi ew
    have dx := r2.pop.pop.topD
    refine ⟨p, ys, n, j, rfl, rfl, e6, by rw [e7.len]; exact hj, ?_⟩
    exact k _ _ _ _ ((r2.pop.pop.pop).mutR (us := ys) hi ew e5 (e7.set dx j)) q
  · subst e1; subst e2
    have := r2.topD; cases this
    have := r2.pop.topV; subst this
    have dx := r2.pop.pop.topD
    obtain ⟨us, xs', ex', e6, e7⟩ := r2.pop.pop.pop.hlAt hi eq
    rw [ex] at ex'; cases ex'
    refine ⟨q0, us, n, m, rfl, rfl, e6, by rw [e7.len]; exact hm, ?_⟩
    exact k _ _ _ _ ((r2.pop.pop.pop).mutH hi eq (e7.set dx m)) q
/-- value = a fresh list: frozen first -/
theorem J_asgF {g : TG} (h : J K B te ρ (QFz fun t ρ1 => JG K B true g t ρ1 E.nx)) : JS K B (tAsg te g) ρ E := J_asg (J_fz h)
end
end WD

set_option Elab.async false
set_option linter.all false
set_option maxRecDepth 100000
set_option maxHeartbeats 1000000
namespace WD
open PySem PySem.Spec PyProof.Rows L2
section
variable {K : PySem.W.Frag} {B : Base} {G : Hp} {ρ : Env} {Φ : T → Env → Prop} {E : JE} {ta tb tc te : TE} {t u : TS} {tt tt' : TT} {i : Nat} {ΦB : Bool → Env → Prop} {ΦL : List T → Env → Prop} {ΦE : Env → Prop} {tr : TA}
-- name += e
def QAug (f : Int → Int → Int) (i : Nat) (a : Int) (ΦE : Env → Prop) (t : T) (ρ : Env) : Prop := ∃ b, t = .w (.d (.int b)) ∧ i < ρ.length ∧ ΦE (ρ.set i (some (.d (.int (f a b)))))
theorem x_QAug {f : Int → Int → Int} {a b : Int} {ρ' : Env} (e : ρ.set i (some (.d (.int (f a b)))) = ρ') (l : i < ρ.length) (h : ΦE ρ') : QAug f i a ΦE (.w (.d (.int b))) ρ := ⟨b, rfl, l, by rw [e]; exact h⟩
theorem J_aug {f : Int → Int → Int} {a : Int} (e : ρ[i]? = some (some (.d (.int a)))) (h : J K B te ρ (QAug f i a E.nx)) : JS K B (tAug i te (ipI f)) ρ E := fun G σ F H D r ed => by
  obtain ⟨u, fp, e1, rw0⟩ := r.slot e
  have := rw0.2; cases this
  refine ⟨.int a, e1, h _ [] [] σ F H _ r fun t y ρ1 F1 H1 r1 ⟨b, e2, hl, q⟩ => ?_⟩
  subst e2
  have := r1.topD; cases this
  exact ⟨a, b, rfl, rfl, ed.nx _ _ _ _ (((r1.pop).push (.int (f a b))).asg hl (by simp)) q⟩
def QAugE (f : Int → Int → Int) (i : Nat) (xs : List PyData) (j : Nat) (a : Int) (ΦE : Env → Prop) (y : T) (ρ3 : Env) : Prop := ∃ b w, y = .w (.d (.int b)) ∧ ρ3[i]? = some (some w) ∧ w.row = some xs ∧ ΦE (ρ3.set i (some (w.put (xs.set j (.int (f a b))))))
def QAugS (K : PySem.W.Frag) (B : Base) (te : TE) (f : Int → Int → Int) (ΦE : Env → Prop) (o k : T) (ρ2 : Env) : Prop := ∃ i n w xs j a, o = .p i ∧ k = .w (.d (.int n)) ∧ 0 ≤ n ∧ ρ2[i]? = some (some w) ∧ w.row = some xs ∧ ixN xs.length n = some j ∧ xs[j]? = some (.int a) ∧
  J K B te ρ2 (QAugE f i xs j a ΦE)
theorem x_QAugS {f : Int → Int → Int} {n : Int} {j : Nat} {w : W} {xs : List PyData} {a : Int} (l : 0 ≤ n) (e0 : ρ[i]? = some (some w)) (ew : w.row = some xs) (hj : ixN xs.length n = some j) (hx : xs[j]? = some (.int a))
    (h : J K B te ρ (QAugE f i xs j a ΦE)) : QAugS K B te f ΦE (.p i) (.w (.d (.int n))) ρ := ⟨i, n, w, xs, j, a, rfl, rfl, l, e0, ew, hj, hx, h⟩
theorem J_augS {to ti : TE} {f : Int → Int → Int} (h : J K B to ρ fun o ρ1 => J K B ti ρ1 fun k ρ2 => QAugS K B te f E.nx o k ρ2) : JS K B (tAugS to ti te (rGetL K) (ipI f) rSetL) ρ E := fun G σ F H D r ed => by
  refine h _ [] [] σ F H _ r fun o y ρ1 F1 H1 r1 q1 => q1 _ _ _ σ F1 H1 _ r1 fun z y2 ρ2 F2 H2 r2 ⟨i, n, w, xs, j, a, e1, e2, l0, hi, ew, hj, hx, q2⟩ => ?_
  subst e1; subst e2
  have := r2.topD; cases this
  obtain ⟨p, ys, rfl, e5, e6, e7⟩ := r2.pop.pAt hi ew
  obtain ⟨v, g1, g2⟩ := e7.get hx
  have hat : atI ys n = some v := by unfold atI; rw [e7.len, hj]; exact g1
  cases g2
  refine ⟨p, ys, n, .int a, rfl, rfl, l0, SqL.of e6, hat, q2 _ _ _ σ F2 H2 _ r2 fun t3 y3 ρ3 F3 H3 r3 ⟨b, w3, e3, hi3, ew3, q⟩ => ?_⟩
  subst e3
  have := r3.topD; cases this
  obtain ⟨p', zs, ep, e8, e9, e10⟩ := r3.pop.pop.pAt hi3 ew3
  cases ep
  refine ⟨a, b, rfl, rfl, p, zs, n, j, rfl, rfl, e9, by rw [e10.len]; exact hj, ?_⟩
  exact ed.nx _ _ _ _ ((r3.pop.pop.pop).mutR (us := zs) hi3 ew3 e8 (e10.set (.int _) j)) q
-- slices
def JO (K : PySem.W.Frag) (B : Base) (to : TO) (ρ : Env) (Φ : Option Int → Env → Prop) : Prop := ∀ (G : Hp) (τ : List T) (vs : List V) (σ : L2.St) (F H : Hp) (Q : Option Int → Hp → Prop), Rel K B G ρ σ τ vs F H →
  (∀ o ρ' F' H', Rel K B G ρ' σ τ vs F' H' → Φ o ρ' → Q o H') → to σ H Q
theorem JO_no {ΦO : Option Int → Env → Prop} (h : ΦO none ρ) : JO K B tNoPart ρ ΦO := fun G τ vs σ F H Q r k => k _ _ _ _ r h
theorem JO_some {ΦO : Option Int → Env → Prop} (h : J K B te ρ fun t ρ1 => ∃ i, t = .w (.d (.int i)) ∧ ΦO (some i) ρ1) : JO K B (tPart te) ρ ΦO := fun G τ vs σ F H Q r k => h _ τ vs σ F H _ r fun t u ρ' F' H' r' ⟨i, e, q⟩ => by
  subst e
  have := r'.topD; cases this
  exact ⟨i, rfl, k _ _ _ _ r'.pop q⟩
/-- a row cut, as cutV cuts it -/
def cutD (xs : List PyData) (lo hi : Option Int) : List PyData := (xs.drop (HT.sIx xs.length 0 lo)).take (HT.sIx xs.length xs.length hi - HT.sIx xs.length 0 lo)
theorem dq_cut {F : Hp} {vs : List V} {xs : List PyData} (h : DqAll K F vs xs) (lo hi : Option Int) : DqAll K F (cutV vs lo hi) (cutD xs lo hi) := by
  unfold cutV cutD
  rw [h.len]
  exact (h.drop _).take _
def SlJ (K : PySem.W.Frag) (B : Base) (r : V → Option Int → Option Int → Hp → VK → Prop) (R : T → Option Int → Option Int → Env → (T → Env → Prop) → Prop) : Prop := ∀ {G : Hp} {τ : List T} {vs : List V} {σ : L2.St} {F H : Hp} {ρ : Env} {t : T} {x : V} {lo hi : Option Int} {Q : VK} {Φ : T → Env → Prop}, Rel K B G ρ σ (t :: τ) (x :: vs) F H → R t lo hi ρ Φ →
  (∀ w v ρ' F' H', Rel K B G ρ' σ (w :: τ) (v :: vs) F' H' → Φ w ρ' → Q v H') → r x lo hi H Q
theorem J_sl {r : V → Option Int → Option Int → Hp → VK → Prop} {R : T → Option Int → Option Int → Env → (T → Env → Prop) → Prop} {tl th : TO} (o : SlJ K B r R) (h : J K B te ρ fun t ρ1 => JO K B tl ρ1 fun lo ρ2 => JO K B th ρ2 fun hi ρ3 => R t lo hi ρ3 Φ) : J K B (tSl r te tl th) ρ Φ := fun G τ vs σ F H Q rl k =>
  h _ τ vs σ F H _ rl fun t x ρ1 F1 H1 r1 q1 => q1 _ _ _ σ F1 H1 _ r1 fun lo ρ2 F2 H2 r2 q2 => q2 _ _ _ σ F2 H2 _ r2 fun hi ρ3 F3 H3 r3 q3 => o r3 q3 k
def QSlL (t : T) (lo hi : Option Int) (ρ : Env) (Φ : T → Env → Prop) : Prop := ∃ xs, t.view ρ = some (.list xs) ∧ Φ (.w (.l (cutD xs lo hi))) ρ
def QSlT (t : T) (lo hi : Option Int) (ρ : Env) (Φ : T → Env → Prop) : Prop := ∃ xs, t.view ρ = some (.tuple xs) ∧ Φ (.w (.d (.tuple (cutD xs lo hi)))) ρ
def QSlS (t : T) (lo hi : Option Int) (ρ : Env) (Φ : T → Env → Prop) : Prop := ∃ z, t = .w (.d (.str z)) ∧ z.length ≤ sizeLine ∧ Φ (.w (.d (.str (cutS z lo hi)))) ρ
theorem sj_L : SlJ K B (rSlL K) QSlL := by
  rintro G τ vs σ F H ρ t x lo hi Q Φ r ⟨xs, h1, h⟩ k
  obtain ⟨p, us, rfl, g1, g2⟩ := r.viewL h1
  exact ⟨p, us, rfl, SqL.of g1, fun a na => k _ _ _ _ _ (r.pop.lst na (dq_cut g2 lo hi)) h⟩
theorem cutD_all {xs : List PyData} {lo hi : Option Int} (h : HT.sIx xs.length 0 lo = 0 ∧ HT.sIx xs.length xs.length hi = xs.length) : cutD xs lo hi = xs := by
  unfold cutD; rw [h.1, h.2]; simp
theorem sj_T : SlJ K B (rSlA K) QSlT := by
  rintro G τ vs σ F H ρ t x lo hi Q Φ r ⟨xs, h1, h⟩ k
  obtain ⟨p, us, rfl, g1, g2⟩ := T.tup r h1
  refine ⟨p, us, rfl, g1.sub r.sub, fun e => ?_, fun _ a na => ?_⟩
  · rw [g2.len] at e
    rw [cutD_all e] at h
    exact k _ _ _ _ _ (r.pop.push (.tup g1 g2)) h
  · exact k _ _ _ _ _ ((r.pop.laid (o := .tup (cutV us lo hi)) na).push (.tup (SqT.of upd_same) ((dq_cut g2 lo hi).sub (Sub.new (Sub.refl F) (r.sub.none na))))) h
theorem sj_S : SlJ K B rSlS QSlS := by
  rintro G τ vs σ F H ρ t x lo hi Q Φ r ⟨z, rfl, l, h⟩ k
  have := r.topD; cases this
  exact ⟨z, rfl, l, k _ _ _ _ _ (r.pop.push (.str _)) h⟩
theorem SlJ.or {r r' : V → Option Int → Option Int → Hp → VK → Prop} {R R' : T → Option Int → Option Int → Env → (T → Env → Prop) → Prop} (h : SlJ K B r R) (h' : SlJ K B r' R') : SlJ K B (fun x lo hi H Q => r x lo hi H Q ∨ r' x lo hi H Q) (fun t lo hi ρ Φ => R t lo hi ρ Φ ∨ R' t lo hi ρ Φ) := by
  rintro G τ vs σ F H ρ t x lo hi Q Φ r z k
  rcases z with z | z
  · exact .inl (h r z k)
  · exact .inr (h' r z k)
-- raise
theorem J_raise {W0 : WX} {Ξ : Addr → PyData → Env → Prop} {mg : Str → Option Value} {nm : Str} {C fI : Addr} (hW : WOk K B W0 Ξ) (X : ExT K mg nm C fI) (h : JA K B tr ρ fun ts ρ1 => ∃ x, ts = [.w (.d x)] ∧ Ξ C x ρ1) :
    JS K B (fun _ σ H => tMkO C (sp_Refused___init__ K) [] tr σ H fun cls d H' => W0 cls d σ H') ρ E := fun G σ F H D r ed => by
  refine x_mkO (h _ [] [] σ F H _ r fun ts us ρ1 F1 H1 l r1 ⟨x, e, q⟩ => ?_)
  subst e
  obtain ⟨u, rfl⟩ := one_arg l rfl
  have r2 : Rel K B G ρ1 σ [.w (.d x)] [u] F1 H1 := by simpa using r1
  refine x_rz X fun d nd => ?_
  have r3 := (r2.laid (o := .xd [(("what" : Str), u)]) nd)
  exact hW _ ρ1 σ _ _ C x u d r3.pop upd_same r3.topD q
-- what a for goes over
structure ItOk (K : PySem.W.Frag) (Jt : It) (xs : List PyData) (F : Hp) : Prop where
  goes : ∀ F' H' i, Sub F F' → Sub F' H' → i < xs.length → Jt.go i H'
  stops : ∀ F' H', Sub F F' → Sub F' H' → Jt.stop xs.length H'
  yields : ∀ F' H' i x u H'', Sub F F' → Sub F' H' → xs[i]? = some x → Jt.yld i H' u H'' → ∃ F'', Sub F' F'' ∧ Sub F'' H'' ∧ Stay [] H' H'' ∧ (∀ a, F' a = none → F'' a ≠ none → H' a = none) ∧ Dq K F'' u x
def JI (K : PySem.W.Frag) (B : Base) (wi : TI) (ρ : Env) (Ψ : List PyData → Env → Prop) : Prop := ∀ (G : Hp) (τ : List T) (vs : List V) (σ : L2.St) (F H : Hp) (R : It → Hp → Prop), Rel K B G ρ σ τ vs F H →
  (∀ Jt xs ρ' F' H', Rel K B G ρ' σ τ vs F' H' → ItOk K Jt xs F' → Ψ xs ρ' → R Jt H') → wi σ H R
def QFor (K : PySem.W.Frag) (B : Base) (g : TG) (tb : TS) (E : JE) (xs : List PyData) (ρ : Env) : Prop := ∃ Inv : Nat → Env → Prop, Inv 0 ρ ∧ (∀ i x ρ2, xs[i]? = some x → Inv i ρ2 → JG K B true g (.w (.d x)) ρ2 fun ρ3 => JS K B tb ρ3 { nx := Inv (i + 1), ct := Inv (i + 1), rt := E.rt, bk := E.nx }) ∧ ∀ ρ2, Inv xs.length ρ2 → E.nx ρ2
theorem x_QFor {g : TG} {tb : TS} {xs : List PyData} (Inv : Nat → Env → Prop) (h0 : Inv 0 ρ) (hs : ∀ i x ρ2, xs[i]? = some x → Inv i ρ2 → JG K B true g (.w (.d x)) ρ2 fun ρ3 => JS K B tb ρ3 { nx := Inv (i + 1), ct := Inv (i + 1), rt := E.rt, bk := E.nx }) (hd : ∀ ρ2, Inv xs.length ρ2 → E.nx ρ2) : QFor K B g tb E xs ρ := ⟨Inv, h0, hs, hd⟩
theorem J_for {wi : TI} {g : TG} {tb : TS} (h : JI K B wi ρ (QFor K B g tb E)) : JS K B (tFor wi g tb) ρ E := fun G σ F H D r ed => by
  refine h _ [] [] σ F H _ r fun Jt xs ρ1 F1 H1 r1 it ⟨Iv, h0, hs, hd⟩ => ?_
  have sG : Sub G F1 := r1.base.2
  refine ⟨fun i m σ H => m = xs.length - i ∧ i ≤ xs.length ∧ ∃ ρ F, Rel K B F1 ρ σ [] [] F H ∧ Iv i ρ, ⟨xs.length, by simp, Nat.zero_le _, ρ1, F1, r1.lowF, h0⟩, ?_⟩
  rintro i m σ2 H2 ⟨rfl, hi, ρ2, F2, r2, p⟩
  by_cases hlt : i < xs.length
  · refine .inr ⟨it.goes F2 H2 i r2.base.2 r2.sub hlt, fun σ H => ∃ ρ F, Rel K B F1 ρ σ [] [] F H ∧ Iv (i + 1) ρ, fun σ' H' p' => ⟨xs.length - (i + 1), by omega, rfl, hlt, p'⟩, fun u H' y => ?_⟩
    obtain ⟨F3, s1, s2, st, nw, dq⟩ := it.yields F2 H2 i xs[i] u H' r2.base.2 r2.sub (List.getElem?_eq_getElem hlt) y
    have r3 := (r2.grow s1 s2 st nw).push dq
    refine hs i xs[i] ρ2 (List.getElem?_eq_getElem hlt) p _ [] [] u σ2 F3 H' _ (fun _ => rfl) r3 fun σ4 ρ4 F4 H4 r4 q4 => ?_
    refine q4 _ σ4 F4 H4 _ r4 ⟨fun ρ5 σ5 F5 H5 r5 q5 => ⟨ρ5, F5, r5, q5⟩, fun w u ρ5 σ5 F5 H5 r5 q5 => ed.rt w u ρ5 σ5 F5 H5 (r5.toG sG) q5, fun ρ5 σ5 F5 H5 r5 q5 => ed.nx _ _ _ _ (r5.toG sG) q5, fun ρ5 σ5 F5 H5 r5 q5 => ⟨ρ5, F5, r5, q5⟩⟩
  · have e : i = xs.length := by omega
    subst e
    exact .inl ⟨it.stops F2 H2 r2.base.2 r2.sub, ed.nx _ _ _ _ (r2.toG sG) (hd _ p)⟩
theorem it_list {a : Addr} {us : List V} {xs : List PyData} {F : Hp} (h : F a = some (.lst us)) (d : DqAll K F us xs) : ItOk K (Itl K a) xs F := by
  have w : Walk (Itl K a) us.length (fun H => SqL K H a us) (YAt us) := walk_list
  refine ⟨fun F' H' i s1 s2 hi => w.goes i H' (by rw [d.len]; exact hi) (SqL.of (s2 _ _ (s1 _ _ h))), fun F' H' s1 s2 => by rw [← d.len]; exact w.stops H' (SqL.of (s2 _ _ (s1 _ _ h))), fun F' H' i x u H'' s1 s2 e y => ?_⟩
  have hi : i < us.length := by rw [d.len]; exact (List.getElem?_eq_some_iff.mp e).1
  obtain ⟨rfl, eu⟩ := w.yields i H' u H'' hi (SqL.of (s2 _ _ (s1 _ _ h))) y
  obtain ⟨v, e1, e2⟩ := d.get e
  rw [eu] at e1; cases e1
  exact ⟨F', Sub.refl _, s2, Stay.refl _ _, fun _ h g => absurd h g, e2.sub s1⟩
theorem it_tup {a : Addr} {us : List V} {xs : List PyData} {F : Hp} (h : SqT K F a us) (d : DqAll K F us xs) : ItOk K (Itt K a) xs F := by
  have w : Walk (Itt K a) us.length (fun H => SqT K H a us) (YAt us) := walk_tup
  refine ⟨fun F' H' i s1 s2 hi => w.goes i H' (by rw [d.len]; exact hi) ((h.sub s1).sub s2), fun F' H' s1 s2 => by rw [← d.len]; exact w.stops H' ((h.sub s1).sub s2), fun F' H' i x u H'' s1 s2 e y => ?_⟩
  have hi : i < us.length := by rw [d.len]; exact (List.getElem?_eq_some_iff.mp e).1
  obtain ⟨rfl, eu⟩ := w.yields i H' u H'' hi ((h.sub s1).sub s2) y
  obtain ⟨v, e1, e2⟩ := d.get e
  rw [eu] at e1; cases e1
  exact ⟨F', Sub.refl _, s2, Stay.refl _ _, fun _ h g => absurd h g, e2.sub s1⟩
theorem rgD_get {a b : Int} {i : Nat} {x : PyData} (e : (rgD a b)[i]? = some x) : i < (b - a).toNat ∧ x = .int (a + (i : Nat)) := by
  unfold rgD at e
  rw [List.getElem?_map, Option.map_eq_some_iff] at e
  obtain ⟨j, e1, e2⟩ := e
  have := List.getElem?_eq_some_iff.mp e1
  obtain ⟨h1, h2⟩ := this
  rw [List.length_range] at h1
  rw [List.getElem_range] at h2
  subst h2
  exact ⟨h1, e2.symm⟩
theorem rgD_len (a b : Int) : (rgD a b).length = (b - a).toNat := by unfold rgD; simp
theorem it_range {lo hi : Int} {F : Hp} : ItOk K (Itr lo (hi - lo).toNat) (rgD lo hi) F := by
  have w : Walk (Itr lo (hi - lo).toNat) (hi - lo).toNat (fun _ => True) (YFn fun i => .int (lo + i)) := walk_range
  refine ⟨fun F' H' i s1 s2 hi => w.goes i H' (by rw [rgD_len] at hi; exact hi) trivial, fun F' H' s1 s2 => by rw [rgD_len]; exact w.stops H' trivial, fun F' H' i x u H'' s1 s2 e y => ?_⟩
  obtain ⟨h1, rfl⟩ := rgD_get e
  obtain ⟨rfl, rfl⟩ := w.yields i H' u H'' h1 trivial y
  exact ⟨F', Sub.refl _, s2, Stay.refl _ _, fun _ h g => absurd h g, .int _⟩
theorem it_rangeC {lo c : Int} {n : Nat} {F : Hp} : ItOk K (Itc lo c n) ((List.range n).map fun i => PyData.int (lo + (i : Nat) * c)) F := by
  have w : Walk (Itc lo c n) n (fun _ => True) (YFn fun i => .int (lo + (i : Nat) * c)) := walk_rangeC
  refine ⟨fun F' H' i s1 s2 hi => w.goes i H' (by simpa using hi) trivial, fun F' H' s1 s2 => by rw [List.length_map, List.length_range]; exact w.stops H' trivial, fun F' H' i x u H'' s1 s2 e y => ?_⟩
  rw [List.getElem?_map, Option.map_eq_some_iff] at e
  obtain ⟨j, e1, rfl⟩ := e
  obtain ⟨h1, h2⟩ := List.getElem?_eq_some_iff.mp e1
  rw [List.length_range] at h1
  rw [List.getElem_range] at h2
  subst h2
  obtain ⟨rfl, rfl⟩ := w.yields i H' u H'' h1 trivial y
  exact ⟨F', Sub.refl _, s2, Stay.refl _ _, fun _ h g => absurd h g, .int _⟩
theorem it_str {z : Str} {F : Hp} : ItOk K (Its z) (z.cps.toList.map fun c => PyData.str ⟨#[c]⟩) F := by
  have w : Walk (Its z) z.cps.size (fun _ => True) (fun i H v H' => H' = H ∧ ∃ c, z.cps[i]? = some c ∧ v = .str ⟨#[c]⟩) := walk_str
  refine ⟨fun F' H' i s1 s2 hi => w.goes i H' (by simpa using hi) trivial, fun F' H' s1 s2 => by rw [List.length_map, Array.length_toList]; exact w.stops H' trivial, fun F' H' i x u H'' s1 s2 e y => ?_⟩
  rw [List.getElem?_map, Option.map_eq_some_iff] at e
  obtain ⟨c, e1, rfl⟩ := e
  have hi : i < z.cps.size := by simpa using (List.getElem?_eq_some_iff.mp e1).1
  obtain ⟨rfl, c', e2, rfl⟩ := w.yields i H' u H'' hi trivial y
  rw [Array.getElem?_toList, e2] at e1; cases e1
  exact ⟨F', Sub.refl _, s2, Stay.refl _ _, fun _ h g => absurd h g, .str _⟩
theorem yld_pair {F' H' H'' : Hp} {T : Addr} {x y : V} {d e : PyData} (s2 : Sub F' H') (n : H' T = none) (h : H'' = upd H' T (.tup [x, y])) (dx : Dq K F' x d) (dy : Dq K F' y e) :
    ∃ F'', Sub F' F'' ∧ Sub F'' H'' ∧ Stay [] H' H'' ∧ (∀ a, F' a = none → F'' a ≠ none → H' a = none) ∧ Dq K F'' (.ref T) (.tuple [d, e]) := by
  subst h
  have s1 : Sub F' (upd F' T (.tup [x, y])) := Sub.new (Sub.refl _) (s2.none n)
  refine ⟨upd F' T (.tup [x, y]), s1, s2.upd, Stay.new (Stay.refl _ _) n, fun a h1 h2 => ?_, .tup (SqT.of upd_same) (.cons (dx.sub s1) (.cons (dy.sub s1) .nil))⟩
  by_cases z : a = T
  · rw [z]; exact n
  · rw [upd_ne z] at h2; exact absurd h1 h2
/-- the pairs of two rows -/
def zipD : List PyData → List PyData → List PyData
  | x :: xs, y :: ys => .tuple [x, y] :: zipD xs ys
  | _, _ => []
theorem zipD_get : ∀ {xs ys : List PyData} {i : Nat} {z : PyData}, (zipD xs ys)[i]? = some z → ∃ x y, xs[i]? = some x ∧ ys[i]? = some y ∧ z = .tuple [x, y]
  | [], _, _, _, e => by simp [zipD] at e
  | _ :: _, [], _, _, e => by simp [zipD] at e
  | x :: xs, y :: ys, 0, z, e => by simp [zipD] at e; exact ⟨x, y, rfl, rfl, e.symm⟩
  | x :: xs, y :: ys, i + 1, z, e => by
    obtain ⟨a, b, h1, h2, h3⟩ := zipD_get (xs := xs) (ys := ys) (i := i) (by simpa [zipD] using e)
    exact ⟨a, b, by simpa using h1, by simpa using h2, h3⟩
theorem zipD_len : ∀ (xs ys : List PyData), (zipD xs ys).length = min xs.length ys.length
  | [], _ => by simp [zipD]
  | _ :: _, [] => by simp [zipD]
  | x :: xs, y :: ys => by simp [zipD, zipD_len xs ys]
def enumD (c0 : Int) (xs : List PyData) : List PyData := zipD (rgD c0 (c0 + xs.length)) xs
theorem enumD_len (c0 : Int) (xs : List PyData) : (enumD c0 xs).length = xs.length := by unfold enumD; rw [zipD_len, rgD_len]; omega
theorem enumD_get {c0 : Int} {xs : List PyData} {i : Nat} {z : PyData} (e : (enumD c0 xs)[i]? = some z) : ∃ x, xs[i]? = some x ∧ z = .tuple [.int (c0 + (i : Nat)), x] := by
  obtain ⟨a, b, h1, h2, rfl⟩ := zipD_get e
  obtain ⟨_, rfl⟩ := rgD_get h1
  exact ⟨b, h2, rfl⟩
theorem it_enum {a : Addr} {us : List V} {xs : List PyData} {F : Hp} (h : F a = some (.lst us)) (d : DqAll K F us xs) : ItOk K (Ite K a) (enumD 0 xs) F := by
  have w : Walk (Ite K a) us.length (fun H => SqL K H a us) (YPair (fun i => some (.int (i : Nat))) (fun i => us[i]?)) := walk_enum
  refine ⟨fun F' H' i s1 s2 hi => w.goes i H' (by rw [enumD_len] at hi; rw [d.len]; exact hi) (SqL.of (s2 _ _ (s1 _ _ h))), fun F' H' s1 s2 => by rw [enumD_len, ← d.len]; exact w.stops H' (SqL.of (s2 _ _ (s1 _ _ h))), fun F' H' i x u H'' s1 s2 e y => ?_⟩
  obtain ⟨x, e1, rfl⟩ := enumD_get e
  have hi : i < us.length := by rw [d.len]; exact (List.getElem?_eq_some_iff.mp e1).1
  obtain ⟨T, p, q, rfl, n, eh, e2, e3⟩ := w.yields i H' u H'' hi (SqL.of (s2 _ _ (s1 _ _ h))) y
  cases e2
  obtain ⟨v, e4, e5⟩ := d.get e1
  have e3' : us[i]? = some q := e3
  rw [e3'] at e4; cases e4
  rw [Int.zero_add]
  exact yld_pair s2 n eh (.int _) (e5.sub s1)
theorem it_zip {a b : Addr} {us ws : List V} {xs ys : List PyData} {F : Hp} (ha : F a = some (.lst us)) (hb : F b = some (.lst ws)) (d : DqAll K F us xs) (d2 : DqAll K F ws ys) : ItOk K (Itz K a b) (zipD xs ys) F := by
  have w : Walk (Itz K a b) (min us.length ws.length) (fun H => SqL K H a us ∧ SqL K H b ws) (YPair (fun i => us[i]?) (fun i => ws[i]?)) := walk_zip rfl
  refine ⟨fun F' H' i s1 s2 hi => w.goes i H' (by rw [zipD_len] at hi; rw [d.len, d2.len]; exact hi) ⟨SqL.of (s2 _ _ (s1 _ _ ha)), SqL.of (s2 _ _ (s1 _ _ hb))⟩, fun F' H' s1 s2 => by rw [zipD_len, ← d.len, ← d2.len]; exact w.stops H' ⟨SqL.of (s2 _ _ (s1 _ _ ha)), SqL.of (s2 _ _ (s1 _ _ hb))⟩, fun F' H' i x u H'' s1 s2 e y => ?_⟩
  obtain ⟨x, z, e1, e2, rfl⟩ := zipD_get e
  have hi : i < us.length := by rw [d.len]; exact (List.getElem?_eq_some_iff.mp e1).1
  have hi2 : i < ws.length := by rw [d2.len]; exact (List.getElem?_eq_some_iff.mp e2).1
  obtain ⟨T, p, q, rfl, n, eh, e3, e4⟩ := w.yields i H' u H'' (by omega) ⟨SqL.of (s2 _ _ (s1 _ _ ha)), SqL.of (s2 _ _ (s1 _ _ hb))⟩ y
  obtain ⟨v, e5, e6⟩ := d.get e1
  obtain ⟨v', e7, e8⟩ := d2.get e2
  have e3' : us[i]? = some p := e3
  have e4' : ws[i]? = some q := e4
  rw [e3'] at e5; cases e5
  rw [e4'] at e7; cases e7
  exact yld_pair s2 n eh (e6.sub s1) (e8.sub s1)
end
end WD

set_option Elab.async false
set_option linter.all false
set_option maxRecDepth 100000
set_option maxHeartbeats 1000000
namespace WD
open PySem PySem.Spec PyProof.Rows L2
section
variable {K : PySem.W.Frag} {B : Base} {G : Hp} {ρ : Env} {Φ : T → Env → Prop} {E : JE} {ta tb tc te : TE} {t u : TS} {tt tt' : TT} {i : Nat} {ΦB : Bool → Env → Prop} {ΦL : List T → Env → Prop} {ΦE : Env → Prop} {tr : TA} {Ψ : List PyData → Env → Prop}
-- what a loop goes over
def QIL (Ψ : List PyData → Env → Prop) (t : T) (ρ : Env) : Prop := ∃ xs, t = .w (.d (.list xs)) ∧ Ψ xs ρ
def QIT (Ψ : List PyData → Env → Prop) (t : T) (ρ : Env) : Prop := ∃ xs, t = .w (.d (.tuple xs)) ∧ Ψ xs ρ
theorem x_QIL {xs : List PyData} (h : Ψ xs ρ) : QIL Ψ (.w (.d (.list xs))) ρ := ⟨xs, rfl, h⟩
theorem x_QIT {xs : List PyData} (h : Ψ xs ρ) : QIT Ψ (.w (.d (.tuple xs))) ρ := ⟨xs, rfl, h⟩
theorem JI_list (h : J K B te ρ (QFz (QIL Ψ))) : JI K B (iList K te) ρ Ψ := fun G τ vs σ F H R r k => J_fz h _ τ vs σ F H _ r fun t u ρ' F' H' r' ⟨xs, e, q⟩ => by
  subst e
  have := r'.topD
  cases this with
  | lst g1 g2 => exact ⟨_, rfl, ⟨_, SqL.of (r'.sub _ _ g1)⟩, k _ _ _ _ _ r'.pop (it_list g1 g2) q⟩
theorem JI_tup (h : J K B te ρ (QIT Ψ)) : JI K B (iTup K te) ρ Ψ := fun G τ vs σ F H R r k => h _ τ vs σ F H _ r fun t u ρ' F' H' r' ⟨xs, e, q⟩ => by
  subst e
  have := r'.topD
  cases this with
  | tup g1 g2 => exact ⟨_, rfl, ⟨_, g1.sub r'.sub⟩, k _ _ _ _ _ r'.pop (it_tup g1 g2) q⟩
def QR1 (Ψ : List PyData → Env → Prop) (ts : List T) (ρ : Env) : Prop := ∃ j, ts = [.w (.d (.int j))] ∧ (-(2 ^ 62) ≤ j ∧ j < 2 ^ 62) ∧ Ψ (rgD 0 j) ρ
def QR2 (Ψ : List PyData → Env → Prop) (ts : List T) (ρ : Env) : Prop := ∃ i j, ts = [.w (.d (.int i)), .w (.d (.int j))] ∧ (-(2 ^ 62) ≤ i ∧ i < 2 ^ 62 ∧ -(2 ^ 62) ≤ j ∧ j < 2 ^ 62) ∧ Ψ (rgD i j) ρ
theorem x_QR1 {j : Int} (c : -(2 ^ 62) ≤ j ∧ j < 2 ^ 62) (h : Ψ (rgD 0 j) ρ) : QR1 Ψ [.w (.d (.int j))] ρ := ⟨j, rfl, c, h⟩
theorem x_QR2 {i j : Int} (c : -(2 ^ 62) ≤ i ∧ i < 2 ^ 62 ∧ -(2 ^ 62) ≤ j ∧ j < 2 ^ 62) (h : Ψ (rgD i j) ρ) : QR2 Ψ [.w (.d (.int i)), .w (.d (.int j))] ρ := ⟨i, j, rfl, c, h⟩
theorem JI_r1 (h : JN K B tr ρ (QR1 Ψ)) : JI K B (iRng1 tr) ρ Ψ := fun G τ vs σ F H R r k => h _ τ vs σ F H _ r fun ts us ρ' F' H' l r' ⟨j, e, ⟨c1, c2⟩, q⟩ => by
  subst e
  obtain ⟨u, rfl⟩ := one_arg l rfl
  have r1 : Rel K B G ρ' σ (.w (.d (.int j)) :: τ) (u :: vs) F' H' := by simpa using r'
  have := r1.topD; cases this
  have it : ItOk K (Itr 0 j.toNat) (rgD 0 j) F' := by have := it_range (K := K) (lo := 0) (hi := j) (F := F'); rwa [Int.sub_zero] at this
  exact ⟨j, rfl, c1, c2, k _ _ _ _ _ r1.pop it q⟩
theorem JI_r2 (h : JN K B tr ρ (QR2 Ψ)) : JI K B (iRng2 tr) ρ Ψ := fun G τ vs σ F H R r k => h _ τ vs σ F H _ r fun ts us ρ' F' H' l r' ⟨i, j, e, c, q⟩ => by
  subst e
  obtain ⟨u, u', rfl⟩ := two_args l rfl
  have r1 : Rel K B G ρ' σ (.w (.d (.int j)) :: .w (.d (.int i)) :: τ) (u' :: u :: vs) F' H' := by simpa using r'
  obtain ⟨rfl, rfl⟩ := r1.int2
  exact ⟨i, j, rfl, c, k _ _ _ _ _ r1.pop.pop it_range q⟩
def QIS (Ψ : List PyData → Env → Prop) (t : T) (ρ : Env) : Prop := ∃ z, t = .w (.d (.str z)) ∧ Ψ (z.cps.toList.map fun c => PyData.str ⟨#[c]⟩) ρ
theorem JI_str (h : J K B te ρ (QIS Ψ)) : JI K B (iStr te) ρ Ψ := fun G τ vs σ F H R r k => h _ τ vs σ F H _ r fun t u ρ' F' H' r' ⟨z, e, q⟩ => by
  subst e
  have := r'.topD; cases this
  exact ⟨z, rfl, k _ _ _ _ _ r'.pop it_str q⟩
/-- one list, two lists handed over to enumerate, zip -/
def QI1 (Ψ : List PyData → Env → Prop) (ts : List T) (ρ : Env) : Prop := ∃ xs, ts = [.w (.d (.list xs))] ∧ Ψ (enumD 0 xs) ρ
def QI2L (Ψ : List PyData → Env → Prop) (ts : List T) (ρ : Env) : Prop := ∃ xs ys, ts = [.w (.d (.list xs)), .w (.d (.list ys))] ∧ Ψ (zipD xs ys) ρ
def QIE (k : Int) (Ψ : List PyData → Env → Prop) (ts : List T) (ρ : Env) : Prop := ∃ xs, ts = [.w (.d (.tuple xs))] ∧ Ψ (enumD k xs) ρ
theorem x_QI1 {xs : List PyData} (h : Ψ (enumD 0 xs) ρ) : QI1 Ψ [.w (.d (.list xs))] ρ := ⟨xs, rfl, h⟩
theorem x_QI2L {xs ys : List PyData} (h : Ψ (zipD xs ys) ρ) : QI2L Ψ [.w (.d (.list xs)), .w (.d (.list ys))] ρ := ⟨xs, ys, rfl, h⟩
theorem x_QIE {k : Int} {xs : List PyData} (h : Ψ (enumD k xs) ρ) : QIE k Ψ [.w (.d (.tuple xs))] ρ := ⟨xs, rfl, h⟩
theorem JI_enum (h : JA K B tr ρ (QI1 Ψ)) : JI K B (iEnum K tr) ρ Ψ := fun G τ vs σ F H R r k => h _ τ vs σ F H _ r fun ts us ρ' F' H' l r' ⟨xs, e, q⟩ => by
  subst e
  obtain ⟨u, rfl⟩ := one_arg l rfl
  have r1 : Rel K B G ρ' σ (.w (.d (.list xs)) :: τ) (u :: vs) F' H' := by simpa using r'
  have := r1.topD
  cases this with
  | lst g1 g2 => exact ⟨_, _, rfl, SqL.of (r1.sub _ _ g1), k _ _ _ _ _ r1.pop (it_enum g1 g2) q⟩
theorem JI_zip (h : JA K B tr ρ (QI2L Ψ)) : JI K B (iZip K tr) ρ Ψ := fun G τ vs σ F H R r k => h _ τ vs σ F H _ r fun ts us ρ' F' H' l r' ⟨xs, ys, e, q⟩ => by
  subst e
  obtain ⟨u, u', rfl⟩ := two_args l rfl
  have r1 : Rel K B G ρ' σ (.w (.d (.list ys)) :: .w (.d (.list xs)) :: τ) (u' :: u :: vs) F' H' := by simpa using r'
  have h1 := r1.topD
  have h2 := r1.pop.topD
  cases h1 with
  | lst g1 g2 => cases h2 with | lst g3 g4 => exact ⟨_, _, _, _, rfl, SqL.of (r1.sub _ _ g3), SqL.of (r1.sub _ _ g1), k _ _ _ _ _ r1.pop.pop (it_zip g3 g1 g4 g2) q⟩
theorem it_enumT {a : Addr} {us : List V} {xs : List PyData} {F : Hp} {c0 : Int} (h : SqT K F a us) (d : DqAll K F us xs) : ItOk K (IteT K a c0) (enumD c0 xs) F := by
  refine ⟨fun F' H' i s1 s2 hi => ?_, fun F' H' s1 s2 => ⟨us, (h.sub s1).sub s2, by rw [enumD_len, d.len]; exact Nat.le_refl _⟩, fun F' H' i x u H'' s1 s2 e y => ?_⟩
  · have hi2 : i < us.length := by rw [d.len]; rw [enumD_len] at hi; exact hi
    exact ⟨us, us[i], (h.sub s1).sub s2, List.getElem?_eq_getElem hi2⟩
  · obtain ⟨x, e1, rfl⟩ := enumD_get e
    obtain ⟨T, p, rfl, n, eh, e3⟩ := y
    obtain ⟨v, e4, e5⟩ := d.get e1
    have e6 := e3 us ((h.sub s1).sub s2)
    rw [e6] at e4; cases e4
    exact yld_pair s2 n eh (.int _) (e5.sub s1)
theorem JI_enumS {c0 : Int} (h : JA K B tr ρ (QIE c0 Ψ)) : JI K B (iEnumS K tr c0) ρ Ψ := fun G τ vs σ F H R r k => h _ τ vs σ F H _ r fun ts us ρ' F' H' l r' ⟨xs, e, q⟩ => by
  subst e
  obtain ⟨u, rfl⟩ := one_arg l rfl
  have r1 : Rel K B G ρ' σ (.w (.d (.tuple xs)) :: τ) (u :: vs) F' H' := by simpa using r'
  have := r1.topD
  cases this with
  | tup g1 g2 => exact ⟨_, _, rfl, g1.sub r1.sub, k _ _ _ _ _ r1.pop (it_enumT g1 g2) q⟩
-- comprehensions
def wipeE (ρ : Env) : List Nat → Env
  | [] => ρ
  | v :: vs => (wipeE ρ vs).set v none
/-- nothing of one's own in the slots that a comprehension takes -/
def NoOwn (ρ : Env) : List Nat → Prop
  | [] => True
  | v :: vs => (match ρ[v]? with
    | some (some w) => w.lst = false
    | some none => True
    | none => False) ∧ NoOwn ρ vs
theorem RS.wipe1 {σ : L2.St} {F H : Hp} {fs : List Addr} {v : Nat} (h : RS K F H ρ σ fs) (n : match ρ[v]? with | some (some w) => w.own = false | some none => True | none => False) : RS K F H (ρ.set v none) (σ.set v none) fs := by
  induction h generalizing v with
  | nil => simp at n
  | @no ρ s σ fp h ih =>
    cases v with
    | zero => exact .no h
    | succ v => exact .no (ih (by simpa using n))
  | @so w u f ρ σ fp r h ih =>
    cases v with
    | zero =>
      have n' : w.own = false := by simpa using n
      have : f = [] := by
        cases w with
        | d _ => exact r.1
        | v _ => exact r.1
        | ex _ _ _ => exact r.1
        | _ => cases n'
      subst this
      exact .no h
    | succ v => exact .so r (ih (by simpa using n))
/-- what the comprehension's slots held is held again -/
theorem RS.unwipe1 {σ : L2.St} {F H F' H' : Hp} {fs fs' : List Addr} {v : Nat} (h : RS K F H ρ σ fs) (s : Sub F F') (n : match ρ[v]? with | some (some w) => w.lst = false | some none => True | none => False) (g : RS K F' H' (ρ.set v none) (σ.set v none) fs') : RS K F' H' ρ σ fs' := by
  induction h generalizing v fs' with
  | nil => simp at n
  | @no ρ s0 σ fp h ih =>
    cases v with
    | zero => cases g with | no g => exact .no g
    | succ v => cases g with | no g => exact .no (ih (by simpa using n) g)
  | @so w u f ρ σ fp r h ih =>
    cases v with
    | zero =>
      have n' : w.lst = false := by simpa using n
      cases g with
      | no g =>
        refine RS.so (f := []) ?_ g
        cases w with
        | d _ => exact ⟨rfl, r.2.sub s⟩
        | v _ => exact ⟨rfl, r.2⟩
        | ex _ _ _ => obtain ⟨_, e, v, h1, h2⟩ := r; exact ⟨rfl, e, v, s _ _ h1, h2.sub s⟩
        | _ => cases n'
    | succ v => cases g with | so r' g => exact .so r' (ih (by simpa using n) g)
theorem own_of_lst {w : W} (h : w.lst = false) : w.own = false := by
  cases w with
  | d x => rfl
  | v _ => rfl
  | ex _ _ _ => rfl
  | _ => cases h
theorem wipe_at (σ : L2.St) (j : Nat) : ∀ vs : List Nat, (wipe σ vs)[j]? = if j ∈ vs then σ[j]?.map (fun _ => none) else σ[j]?
  | [] => by simp [wipe]
  | v :: vs => by
    have ih := wipe_at σ j vs
    show ((wipe σ vs).set v none)[j]? = _
    by_cases e : j = v
    · subst e
      by_cases l : j < σ.length
      · rw [List.getElem?_set_self (by rw [wipe_length]; exact l)]
        simp [List.getElem?_eq_getElem l]
      · have l' : σ.length ≤ j := by omega
        rw [List.getElem?_eq_none (by rw [List.length_set, wipe_length]; exact l')]
        simp [List.getElem?_eq_none l']
    · rw [List.getElem?_set_ne (Ne.symm e), ih]
      simp [e]
theorem wipe_set {σ : L2.St} {i : Nat} {s : Option V} {vs : List Nat} (h : i ∈ vs) : wipe (σ.set i s) vs = wipe σ vs := by
  apply List.ext_getElem?
  intro j
  rw [wipe_at, wipe_at]
  by_cases e : j ∈ vs
  · rw [if_pos e, if_pos e]
    by_cases z : i = j
    · subst z
      by_cases l : i < σ.length
      · rw [List.getElem?_set_self l, List.getElem?_eq_getElem l]; rfl
      · rw [List.set_eq_of_length_le (by omega)]
    · rw [List.getElem?_set_ne z]
  · rw [if_neg e, if_neg e]
    rw [List.getElem?_set_ne (fun z => e (by rw [← z]; exact h))]
theorem wipe_wipe (σ : L2.St) (vs : List Nat) : wipe (wipe σ vs) vs = wipe σ vs := by
  apply List.ext_getElem?
  intro j
  rw [wipe_at, wipe_at]
  by_cases e : j ∈ vs
  · rw [if_pos e, if_pos e, Option.map_map]; rfl
  · rw [if_neg e, if_neg e]
theorem wipeE_at (ρ : Env) (j : Nat) : ∀ vs : List Nat, (wipeE ρ vs)[j]? = if j ∈ vs then ρ[j]?.map (fun _ => none) else ρ[j]?
  | [] => by simp [wipeE]
  | v :: vs => by
    have ih := wipeE_at ρ j vs
    have len : ∀ vs : List Nat, (wipeE ρ vs).length = ρ.length := fun vs => by
      induction vs with
      | nil => rfl
      | cons v vs ih => show ((wipeE ρ vs).set v none).length = _; rw [List.length_set, ih]
    show ((wipeE ρ vs).set v none)[j]? = _
    by_cases e : j = v
    · subst e
      by_cases l : j < ρ.length
      · rw [List.getElem?_set_self (by rw [len]; exact l)]
        simp [List.getElem?_eq_getElem l]
      · have l' : ρ.length ≤ j := by omega
        rw [List.getElem?_eq_none (by rw [List.length_set, len]; exact l')]
        simp [List.getElem?_eq_none l']
    · rw [List.getElem?_set_ne (Ne.symm e), ih]
      simp [e]
def NoOwn1 (ρ : Env) (vs : List Nat) : Prop := ∀ v ∈ vs, match ρ[v]? with
    | some (some w) => w.own = false
    | some none => True
    | none => False
theorem NoOwn.at {ρ : Env} : ∀ {vs : List Nat}, NoOwn ρ vs → ∀ v ∈ vs, match ρ[v]? with
    | some (some w) => w.lst = false
    | some none => True
    | none => False
  | [], _, _, m => by cases m
  | v :: vs, n, u, m => by
    rcases List.mem_cons.mp m with rfl | m
    · exact n.1
    · exact NoOwn.at n.2 u m
theorem NoOwn1.wipe {ρ : Env} {vs : List Nat} {v : Nat} {ws : List Nat} (n : NoOwn1 ρ (v :: vs)) : match (wipeE ρ ws)[v]? with
    | some (some w) => w.own = false
    | some none => True
    | none => False := by
  have := n v List.mem_cons_self
  rw [wipeE_at]
  by_cases e : v ∈ ws
  · rw [if_pos e]
    cases o : ρ[v]? with
    | none => rw [o] at this; exact this
    | some o => simp
  · rw [if_neg e]; exact this
theorem NoOwn.wipe {ρ : Env} {vs : List Nat} {v : Nat} {ws : List Nat} (n : NoOwn ρ (v :: vs)) : match (wipeE ρ ws)[v]? with
    | some (some w) => w.lst = false
    | some none => True
    | none => False := by
  have := n.1
  rw [wipeE_at]
  by_cases e : v ∈ ws
  · rw [if_pos e]
    cases o : ρ[v]? with
    | none => rw [o] at this; exact this
    | some o => simp
  · rw [if_neg e]; exact this
theorem RS.wipe {σ : L2.St} {F H : Hp} {fs : List Addr} (h : RS K F H ρ σ fs) : ∀ {vs : List Nat}, NoOwn1 ρ vs → RS K F H (wipeE ρ vs) (L2.wipe σ vs) fs
  | [], _ => h
  | v :: vs, n => (RS.wipe h (vs := vs) fun u m => n u (List.mem_cons_of_mem _ m)).wipe1 n.wipe
theorem RS.unwipe {σ : L2.St} {F H F' H' : Hp} {fs fs' : List Addr} (h : RS K F H ρ σ fs) (s : Sub F F') : ∀ {vs : List Nat}, NoOwn ρ vs → RS K F' H' (wipeE ρ vs) (L2.wipe σ vs) fs' → RS K F' H' ρ σ fs'
  | [], _, g => g
  | v :: vs, n, g => by
    have n1 : NoOwn1 ρ vs := fun u m => by
      have := NoOwn.at n.2 u m
      revert this
      cases ρ[u]? with
      | none => exact id
      | some o => cases o with
        | none => exact id
        | some w => exact own_of_lst
    exact RS.unwipe h s n.2 (RS.unwipe1 (RS.wipe h n1) s n.wipe g)
/-- nothing in flight is slot v's -/
theorem RT.nop {σ : L2.St} {τ : List T} {us : List V} {F H : Hp} {ft : List Addr} {v : Nat} (h : RT K ρ σ F H τ us ft) (n : ∀ w, ρ[v]? = some (some w) → w.lst = false) : ∀ t ∈ τ, ∀ j, t = .p j → j ≠ v := by
  induction h with
  | nil => simp
  | w _ _ ih =>
    intro t m j e
    rcases List.mem_cons.mp m with z | z
    · subst z; cases e
    · exact ih t z j e
  | @p i x u τ us fp a b c _ ih =>
    intro t m j e
    rcases List.mem_cons.mp m with z | z
    · subst z; cases e
      rintro rfl
      have := n x b
      rw [this] at c; cases c
    · exact ih t z j e
theorem RT.wipe {σ : L2.St} {τ : List T} {us : List V} {F H : Hp} {ft : List Addr} (h : RT K ρ σ F H τ us ft) : ∀ {vs : List Nat}, (∀ v ∈ vs, ∀ t ∈ τ, ∀ j, t = .p j → j ≠ v) → RT K (wipeE ρ vs) (L2.wipe σ vs) F H τ us ft
  | [], _ => h
  | v :: vs, n => (RT.wipe h (vs := vs) fun u m => n u (List.mem_cons_of_mem _ m)).set (n v List.mem_cons_self)
theorem RT.unwipe {σ : L2.St} {τ : List T} {us : List V} {F H : Hp} {ft : List Addr} {vs : List Nat} (h : RT K (wipeE ρ vs) (L2.wipe σ vs) F H τ us ft) : RT K ρ σ F H τ us ft := by
  induction h with
  | nil => exact .nil
  | w r _ ih => exact .w r ih
  | @p i x u τ us fp a b c _ ih =>
    rw [wipe_at] at a
    rw [wipeE_at] at b
    by_cases e : i ∈ vs
    · rw [if_pos e] at b
      cases o : ρ[i]? with
      | none => rw [o] at b; cases b
      | some o => rw [o] at b; cases b
    · rw [if_neg e] at a b
      exact .p a b c ih
theorem Rel.wiped {σ : L2.St} {τ : List T} {us : List V} {F H : Hp} {vs : List Nat} (r : Rel K B G ρ σ τ us F H) (n1 : NoOwn1 ρ vs) (n2 : ∀ v ∈ vs, ∀ t ∈ τ, ∀ j, t = .p j → j ≠ v) : Rel K B G (wipeE ρ vs) (wipe σ vs) τ us F H := by
  obtain ⟨fs, ft, a, b, c, d⟩ := r.ex
  exact ⟨⟨fs, ft, a.wipe n1, b.wipe n2, c, d⟩, r.sub, r.stay, r.base, r.new⟩
/-- the list in flight on top is written -/
theorem Rel.mutT {σ : L2.St} {τ : List T} {vs : List V} {F H : Hp} {xs xs' : List PyData} {us' : List V} {p : Addr} (r : Rel K B G ρ σ (.w (.l xs) :: τ) (.ref p :: vs) F H) (hd : DqAll K F us' xs') : Rel K B G ρ σ (.w (.l xs') :: τ) (.ref p :: vs) F (upd H p (.lst us')) := by
  obtain ⟨fs, ft, a, b, c, d⟩ := r.ex
  cases b with
  | @w _ _ f _ _ fp e g =>
    obtain ⟨q, us, eq, rfl, hp, _⟩ := e
    cases eq
    have nn : p ∉ fp ++ fs := (List.nodup_cons.mp (show (p :: (fp ++ fs)).Nodup from c)).1
    have dp := d p (by simp)
    have keep : ∀ q ∈ fp ++ fs, upd H p (.lst us') q = H q := fun q hq => upd_ne fun z => nn (by rw [← z]; exact hq)
    refine ⟨⟨fs, [p] ++ fp, a.mono (Sub.refl F) fun q hq => keep q (by simp [hq]), .w (f := [p]) ⟨p, us', rfl, rfl, upd_same, hd⟩ (g.mono (Sub.refl F) fun q hq => keep q (by simp [hq])), c, d⟩, ?_, ?_, r.base, r.new⟩
    · intro q x hq
      rw [upd_ne (fun z => by rw [z, dp.1] at hq; cases hq)]
      exact r.sub q x hq
    · rcases dp.2 with z | z
      · exact r.stay.upd z
      · exact r.stay.new z
/-- a comprehension's targets -/
def JH (K : PySem.W.Frag) (B : Base) (vs : List Nat) (g : TG) (x : PyData) (ρ : Env) (Φ : Env → Prop) : Prop := ∀ (G : Hp) (τ : List T) (us : List V) (u : V) (σ : L2.St) (F H : Hp) (Q : L2.St → Hp → Prop), Rel K B G ρ σ τ us F H → Dq K F u x →
  (∀ σ' ρ', Rel K B G ρ' σ' τ us F H → wipe σ' vs = wipe σ vs → Φ ρ' → Q σ' H) → g u σ H Q
def JHs (K : PySem.W.Frag) (B : Base) (vs : List Nat) (g : TGs) (xs : List PyData) (ρ : Env) (Φ : Env → Prop) : Prop := ∀ (G : Hp) (τ : List T) (us ws : List V) (σ : L2.St) (F H : Hp) (Q : L2.St → Hp → Prop), Rel K B G ρ σ τ us F H → DqAll K F ws xs →
  (∀ σ' ρ', Rel K B G ρ' σ' τ us F H → wipe σ' vs = wipe σ vs → Φ ρ' → Q σ' H) → g ws σ H Q
theorem JH_name {vs : List Nat} {x : PyData} {ρ' : Env} (m : i ∈ vs) (e : ρ.set i (some (.d x)) = ρ') (o : W.isOwn ρ[i]? = false) (h : ΦE ρ') : JH K B vs (gName i) x ρ ΦE := fun G τ us u σ F H Q r d k => by
  have li : i < ρ.length := by
    cases q : ρ[i]? with
    | none => rw [q] at o; cases o
    | some _ => exact (List.getElem?_eq_some_iff.mp q).1
  refine k _ _ ?_ (wipe_set m) h
  rw [← e]
  refine (r.push d).asg li fun t ht j ej => ?_
  obtain ⟨fs, ft, a, b, c, dd⟩ := r.ex
  refine b.nop (fun w hw => ?_) t ht j ej
  rw [hw] at o; exact o
theorem JH_tup {vs : List Nat} {n : Nat} {g : TGs} {xs : List PyData} (l : xs.length = n) (h : JHs K B vs g xs ρ ΦE) : JH K B vs (gTup K n g) (.tuple xs) ρ ΦE := fun G τ us u σ F H Q r d k => by
  cases d with
  | @tup a ws _ h1 h2 => exact ⟨a, ws, rfl, h1.sub r.sub, by rw [h2.len]; exact l, h _ τ us ws σ F H Q r h2 k⟩
theorem JH_cons {vs : List Nat} {g : TG} {gs : TGs} {x : PyData} {xs : List PyData} (h : JH K B vs g x ρ fun ρ' => JHs K B vs gs xs ρ' ΦE) : JHs K B vs (gCons g gs) (x :: xs) ρ ΦE := fun G τ us ws σ F H Q r d k => by
  cases d with
  | @cons v vr _ _ h1 h2 =>
    refine ⟨v, vr, rfl, h _ τ us v σ F H _ r h1 fun σ1 ρ1 r1 e1 q1 => ?_⟩
    exact q1 _ τ us vr σ1 F H Q r1 h2 fun σ2 ρ2 r2 e2 q2 => k σ2 ρ2 r2 (e2.trans e1) q2
theorem JH_nil {vs : List Nat} (h : ΦE ρ) : JHs K B vs gNil [] ρ ΦE := fun G τ us ws σ F H Q r d k => by
  cases d
  exact ⟨rfl, k _ _ r rfl h⟩
/-- one turn: the row so far, what the test and the element make of it -/
def QTurn (K : PySem.W.Frag) (B : Base) (tt : TT) (te : TE) (vs : List Nat) (ρ1 : Env) (acc : List PyData) (P : List PyData → Prop) (ρ2 : Env) : Prop :=
  wipeE ρ2 vs = ρ1 ∧ NoOwn1 ρ2 vs ∧ JT K B tt ρ2 fun b ρ3 => if b = true then J K B te ρ3 (QFz fun t ρ4 => ∃ y, t = .w (.d y) ∧ wipeE ρ4 vs = ρ1 ∧ NoOwn1 ρ4 vs ∧ acc.length < sizeLine ∧ P (acc ++ [y])) else wipeE ρ3 vs = ρ1 ∧ NoOwn1 ρ3 vs ∧ P acc
def QLc (K : PySem.W.Frag) (B : Base) (g : TG) (tt : TT) (te : TE) (vs : List Nat) (Φ : T → Env → Prop) (xs : List PyData) (ρ : Env) : Prop :=
  NoOwn ρ vs ∧ ∃ Iv : Nat → List PyData → Prop, Iv 0 [] ∧ (∀ i x acc, xs[i]? = some x → Iv i acc → JH K B vs g x (wipeE ρ vs) (QTurn K B tt te vs (wipeE ρ vs) acc (Iv (i + 1)))) ∧ ∀ acc, Iv xs.length acc → Φ (.w (.l acc)) ρ
theorem lc_rest {g : TG} {vs : List Nat} {τ : List T} {us : List V} {σ : L2.St} {F1 H1 : Hp} {ρ1 : Env} {Q : VK} {Jt : It} {xs : List PyData} (r1 : Rel K B G ρ1 σ τ us F1 H1) (it : ItOk K Jt xs F1) (q : QLc K B g tt te vs Φ xs ρ1) (k : ∀ t u ρ' F' H', Rel K B G ρ' σ (t :: τ) (u :: us) F' H' → Φ t ρ' → Q u H') : tLc (fun _ _ R => R Jt H1) g tt te vs σ H1 Q := by
  obtain ⟨no, Iv, h0, hs, hd⟩ := q
  intro D nD
  have no1 : NoOwn1 ρ1 vs := fun u m => by
    have := no.at u m
    revert this
    cases ρ1[u]? with
    | none => exact id
    | some o => cases o with
      | none => exact id
      | some w => exact own_of_lst
  obtain ⟨fs1, ft1, a1, b1, _, _⟩ := r1.ex
  have np : ∀ v ∈ vs, ∀ t ∈ τ, ∀ j, t = .p j → j ≠ v := fun v m => b1.nop fun w hw => by
    have := no.at v m
    rw [hw] at this; exact this
  have np2 : ∀ acc : List PyData, ∀ v ∈ vs, ∀ t ∈ (T.w (.l acc) :: τ), ∀ j, t = .p j → j ≠ v := fun acc v m t ht j e => by
    rcases List.mem_cons.mp ht with z | z
    · subst z; cases e
    · exact np v m t z j e
  have sG : Sub G F1 := r1.base.2
  refine ⟨fun i m H => m = xs.length - i ∧ i ≤ xs.length ∧ ∃ F acc, Rel K B F1 (wipeE ρ1 vs) (wipe σ vs) (.w (.l acc) :: τ) (.ref D :: us) F H ∧ Iv i acc, ⟨xs.length, by simp, Nat.zero_le _, F1, [], ((r1.lowF.lst nD .nil).wiped no1 (np2 [])), h0⟩, ?_⟩
  rintro i m H2 ⟨rfl, hi, F2, acc, r2, p⟩
  by_cases hlt : i < xs.length
  · refine .inr ⟨it.goes F2 H2 i r2.base.2 r2.sub hlt, fun H => ∃ F acc, Rel K B F1 (wipeE ρ1 vs) (wipe σ vs) (.w (.l acc) :: τ) (.ref D :: us) F H ∧ Iv (i + 1) acc, fun H' p' => ⟨xs.length - (i + 1), by omega, rfl, hlt, p'⟩, fun u H' y => ?_⟩
    obtain ⟨F3, s1, s2, st, nw, dq⟩ := it.yields F2 H2 i xs[i] u H' r2.base.2 r2.sub (List.getElem?_eq_getElem hlt) y
    refine hs i xs[i] acc (List.getElem?_eq_getElem hlt) p _ _ _ u _ F3 H' _ (r2.grow s1 s2 st nw) dq fun σ2 ρ2 r4 ew q4 => ?_
    rw [wipe_wipe] at ew
    obtain ⟨e2, n2, q4⟩ := q4
    refine ⟨ew, q4 _ _ _ σ2 F3 H' _ r4 fun b ρ3 F4 H4 r5 q5 => ?_⟩
    cases b with
    | false =>
      rw [if_neg Bool.false_ne_true] at q5 ⊢
      obtain ⟨e3, n3, q5⟩ := q5
      have := r5.wiped n3 (np2 acc)
      rw [e3, ew] at this
      exact ⟨F4, acc, this, q5⟩
    | true =>
      rw [if_pos rfl] at q5 ⊢
      refine J_fz q5 _ _ _ σ2 F4 H4 _ r5 fun t v ρ4 F5 H5 r6 ⟨z, et, e4, n4, hz, q6⟩ => ?_
      subst et
      have dz := r6.topD
      have r7 := r6.pop
      obtain ⟨f, pp, ws, eq, _, hD, dw⟩ := r7.top
      cases eq
      refine ⟨ws, hD, by rw [dw.len]; exact hz, ?_⟩
      have := (r7.mutT (us' := ws ++ [v]) (xs' := acc ++ [z]) (dw.app (.one dz))).wiped n4 (np2 _)
      rw [e4, ew] at this
      exact ⟨F5, acc ++ [z], this, q6⟩
  · have e : i = xs.length := by omega
    subst e
    refine .inl ⟨it.stops F2 H2 r2.base.2 r2.sub, ?_⟩
    obtain ⟨fs2, ft2, a2, b2, c2, d2⟩ := r2.ex
    have : Rel K B F1 ρ1 σ (.w (.l acc) :: τ) (.ref D :: us) F2 H2 := ⟨⟨fs2, ft2, RS.unwipe a1 r2.base.2 no a2, b2.unwipe, c2, d2⟩, r2.sub, r2.stay, r2.base, r2.new⟩
    exact k _ _ _ _ _ (this.toG sG) (hd acc p)
/-- a comprehension whose items are lists of their own -/
def QTurnH (K : PySem.W.Frag) (B : Base) (tt : TT) (te : TE) (vs : List Nat) (ρ1 : Env) (acc : List (List PyData)) (P : List (List PyData) → Prop) (ρ2 : Env) : Prop :=
  wipeE ρ2 vs = ρ1 ∧ NoOwn1 ρ2 vs ∧ JT K B tt ρ2 fun b ρ3 => if b = true then J K B te ρ3 (fun t ρ4 => ∃ ys, t = .w (.l ys) ∧ wipeE ρ4 vs = ρ1 ∧ NoOwn1 ρ4 vs ∧ acc.length < sizeLine ∧ P (acc ++ [ys])) else wipeE ρ3 vs = ρ1 ∧ NoOwn1 ρ3 vs ∧ P acc
def QLcH (K : PySem.W.Frag) (B : Base) (g : TG) (tt : TT) (te : TE) (vs : List Nat) (Φ : T → Env → Prop) (xs : List PyData) (ρ : Env) : Prop :=
  NoOwn ρ vs ∧ ∃ Iv : Nat → List (List PyData) → Prop, Iv 0 [] ∧ (∀ i x acc, xs[i]? = some x → Iv i acc → JH K B vs g x (wipeE ρ vs) (QTurnH K B tt te vs (wipeE ρ vs) acc (Iv (i + 1)))) ∧ ∀ p qs acc, qs.length = acc.length → Iv xs.length acc → Φ (.w (.hl p qs acc)) ρ
/-- an own list in flight goes behind the rows -/
theorem Rel.addH {σ : L2.St} {τ : List T} {us : List V} {F H : Hp} {p : Addr} {qs : List Addr} {acc : List (List PyData)} {ys : List PyData} {v u : V} (r : Rel K B G ρ σ (.w (.l ys) :: .w (.hl p qs acc) :: τ) (v :: u :: us) F H) : ∃ q, v = .ref q ∧ u = .ref p ∧ H p = some (.lst (qs.map V.ref)) ∧ Rel K B G ρ σ (.w (.hl p (qs ++ [q]) (acc ++ [ys])) :: τ) (u :: us) F (upd H p (.lst (qs.map V.ref ++ [v]))) := by
  obtain ⟨fs, ft, a, b, c, d⟩ := r.ex
  cases b with
  | @w _ _ f1 _ _ fp1 e1 g1 =>
    cases g1 with
    | @w _ _ f2 _ _ fp2 e2 g2 =>
      obtain ⟨q, vs, rfl, rfl, hq, dq⟩ := e1
      obtain ⟨rfl, rfl, hp, hi⟩ := e2
      have c' : (q :: p :: (qs ++ (fp2 ++ fs))).Nodup := by simpa using c
      obtain ⟨n1, c2⟩ := List.nodup_cons.mp c'
      obtain ⟨n2, c3⟩ := List.nodup_cons.mp c2
      have qp : q ≠ p := fun z => n1 (by rw [z]; exact List.mem_cons_self)
      have keep : ∀ x, x ∈ qs ++ (fp2 ++ fs) → upd H p (.lst (qs.map V.ref ++ [V.ref q])) x = H x := fun x hx => upd_ne fun z => n2 (by rw [← z]; exact hx)
      refine ⟨q, rfl, rfl, hp, ⟨⟨fs, (p :: (qs ++ [q])) ++ fp2, a.mono (Sub.refl F) fun x hx => keep x (by simp [hx]), .w ⟨rfl, rfl, by rw [upd_same]; simp, ?_⟩ (g2.mono (Sub.refl F) fun x hx => keep x (by simp [hx])), ?_, fun x hx => d x ?_⟩, ?_, ?_, r.base, r.new⟩⟩
      · exact HI.app (hi.mono (Sub.refl F) fun x hx => keep x (by simp [hx])) (.cons (by rw [upd_ne qp]; exact hq) dq .nil)
      · refine (List.Perm.nodup_iff ?_).mpr c'
        rw [List.perm_iff_count]
        intro x
        simp only [List.count_append, List.count_cons, List.count_nil, List.cons_append]
        omega
      · simp only [List.mem_append, List.mem_cons, List.not_mem_nil, or_false] at hx ⊢
        rcases hx with ((hx | hx | hx) | hx) | hx <;> simp [hx]
      · intro x o hx
        rw [upd_ne (fun z => by rw [z, (d p (by simp)).1] at hx; cases hx)]
        exact r.sub x o hx
      · rcases (d p (by simp)).2 with z | z
        · exact r.stay.upd z
        · exact r.stay.new z
theorem Rel.lstH {σ : L2.St} {τ : List T} {us : List V} {F H : Hp} {q : Addr} (r : Rel K B G ρ σ τ us F H) (n : H q = none) : Rel K B G ρ σ (.w (.hl q [] []) :: τ) (.ref q :: us) F (upd H q (.lst [])) := by
  have r1 := r.lst n (us := []) (xs := []) .nil
  obtain ⟨fs, ft, a, b, c, d⟩ := r1.ex
  cases b with
  | @w _ _ f _ _ fp e g =>
    obtain ⟨p, vs, e0, rfl, hp, _⟩ := e
    cases e0
    exact ⟨⟨fs, [q] ++ fp, a, .w (f := [q]) ⟨rfl, rfl, upd_same, .nil⟩ g, c, d⟩, r1.sub, r1.stay, r1.base, r1.new⟩
theorem lcH_rest {g : TG} {vs : List Nat} {τ : List T} {us : List V} {σ : L2.St} {F1 H1 : Hp} {ρ1 : Env} {Q : VK} {Jt : It} {xs : List PyData} (r1 : Rel K B G ρ1 σ τ us F1 H1) (it : ItOk K Jt xs F1) (q : QLcH K B g tt te vs Φ xs ρ1) (k : ∀ t u ρ' F' H', Rel K B G ρ' σ (t :: τ) (u :: us) F' H' → Φ t ρ' → Q u H') : tLc (fun _ _ R => R Jt H1) g tt te vs σ H1 Q := by
  obtain ⟨no, Iv, h0, hs, hd⟩ := q
  intro D nD
  have no1 : NoOwn1 ρ1 vs := fun u m => by
    have := no.at u m
    revert this
    cases ρ1[u]? with
    | none => exact id
    | some o => cases o with
      | none => exact id
      | some w => exact own_of_lst
  obtain ⟨fs1, ft1, a1, b1, _, _⟩ := r1.ex
  have np : ∀ v ∈ vs, ∀ t ∈ τ, ∀ j, t = .p j → j ≠ v := fun v m => b1.nop fun w hw => by
    have := no.at v m
    rw [hw] at this; exact this
  have np2 : ∀ (qs : List Addr) (acc : List (List PyData)), ∀ v ∈ vs, ∀ t ∈ (T.w (.hl D qs acc) :: τ), ∀ j, t = .p j → j ≠ v := fun qs acc v m t ht j e => by
    rcases List.mem_cons.mp ht with z | z
    · subst z; cases e
    · exact np v m t z j e
  have sG : Sub G F1 := r1.base.2
  refine ⟨fun i m H => m = xs.length - i ∧ i ≤ xs.length ∧ ∃ F qs acc, Rel K B F1 (wipeE ρ1 vs) (wipe σ vs) (.w (.hl D qs acc) :: τ) (.ref D :: us) F H ∧ qs.length = acc.length ∧ Iv i acc, ⟨xs.length, by simp, Nat.zero_le _, F1, [], [], ((r1.lowF.lstH nD).wiped no1 (np2 [] [])), rfl, h0⟩, ?_⟩
  rintro i m H2 ⟨rfl, hi, F2, qs, acc, r2, le, p⟩
  by_cases hlt : i < xs.length
  · refine .inr ⟨it.goes F2 H2 i r2.base.2 r2.sub hlt, fun H => ∃ F qs acc, Rel K B F1 (wipeE ρ1 vs) (wipe σ vs) (.w (.hl D qs acc) :: τ) (.ref D :: us) F H ∧ qs.length = acc.length ∧ Iv (i + 1) acc, fun H' p' => ⟨xs.length - (i + 1), by omega, rfl, hlt, p'⟩, fun u H' y => ?_⟩
    obtain ⟨F3, s1, s2, st, nw, dq⟩ := it.yields F2 H2 i xs[i] u H' r2.base.2 r2.sub (List.getElem?_eq_getElem hlt) y
    refine hs i xs[i] acc (List.getElem?_eq_getElem hlt) p _ _ _ u _ F3 H' _ (r2.grow s1 s2 st nw) dq fun σ2 ρ2 r4 ew q4 => ?_
    rw [wipe_wipe] at ew
    obtain ⟨e2, n2, q4⟩ := q4
    refine ⟨ew, q4 _ _ _ σ2 F3 H' _ r4 fun b ρ3 F4 H4 r5 q5 => ?_⟩
    cases b with
    | false =>
      rw [if_neg Bool.false_ne_true] at q5 ⊢
      obtain ⟨e3, n3, q5⟩ := q5
      have := r5.wiped n3 (np2 qs acc)
      rw [e3, ew] at this
      exact ⟨F4, qs, acc, this, le, q5⟩
    | true =>
      rw [if_pos rfl] at q5 ⊢
      refine q5 _ _ _ σ2 F4 H4 _ r5 fun t v ρ4 F5 H5 r6 ⟨z, et, e4, n4, hz, q6⟩ => ?_
      subst et
      obtain ⟨q, rfl, _, hD, r7⟩ := r6.addH
      refine ⟨qs.map V.ref, hD, by rw [List.length_map, le]; exact hz, ?_⟩
      have := r7.wiped n4 (np2 _ _)
      rw [e4, ew] at this
      exact ⟨F5, qs ++ [q], acc ++ [z], this, by simp [le], q6⟩
  · have e : i = xs.length := by omega
    subst e
    refine .inl ⟨it.stops F2 H2 r2.base.2 r2.sub, ?_⟩
    obtain ⟨fs2, ft2, a2, b2, c2, d2⟩ := r2.ex
    have : Rel K B F1 ρ1 σ (.w (.hl D qs acc) :: τ) (.ref D :: us) F2 H2 := ⟨⟨fs2, ft2, RS.unwipe a1 r2.base.2 no a2, b2.unwipe, c2, d2⟩, r2.sub, r2.stay, r2.base, r2.new⟩
    exact k _ _ _ _ _ (this.toG sG) (hd D qs acc le p)
def QLcU (K : PySem.W.Frag) (B : Base) (g : TG) (tt : TT) (te : TE) (vs : List Nat) (Φ : T → Env → Prop) (xs : List PyData) (ρ : Env) : Prop := QLc K B g tt te vs Φ xs ρ ∨ QLcH K B g tt te vs Φ xs ρ
theorem J_lc {wi : TI} {g : TG} {vs : List Nat} (h : JI K B wi ρ (QLcU K B g tt te vs Φ)) : J K B (tLc wi g tt te vs) ρ Φ := fun G τ us σ F H Q r k => by
  refine h _ τ us σ F H _ r fun Jt xs ρ1 F1 H1 r1 it q => ?_
  rcases q with q | q
  · exact lc_rest r1 it q k
  · exact lcH_rest r1 it q k
end
end WD

set_option Elab.async false
set_option linter.all false
set_option maxRecDepth 100000
set_option maxHeartbeats 1000000
namespace WD
open PySem PySem.Spec PyProof.Rows L2
/-! the drawing, the law, what the walk asks -/
def sp_pool (K : PySem.W.Frag) : Sp := fun vs H Q _ => ∃ (a : Addr) (ns : List Int), vs = [.ref a] ∧ SqL K H a (ns.map V.int) ∧ ∀ q l H', H q = none → H l = none → Pool H' q l → Stay [] H H' → Q (.ref q) H'
def sp_draw : Sp := fun vs H Q _ => ∃ (a l : Addr) (m : Int), vs = [.ref a, .int m] ∧ Pool H a l ∧ (0 < m ∧ m.natAbs.log2 < 9000) ∧ ∀ d H', 0 ≤ d → d < m → Pool H' a l → Stay [a, l] H H' → Q (.int d) H'
def sp_law (K : PySem.W.Frag) : Sp := fun vs H Q _ => ∃ (a : Addr) (ns : List Int), vs = [.ref a] ∧ SqL K H a (ns.map V.int) ∧ ∀ H', Q (.bl true) H'
section
variable {K : PySem.W.Frag} {B : Base} {G : Hp} {ρ : Env} {Φ : T → Env → Prop} {E : JE} {ta tb tc te : TE} {t u : TS} {tt tt' : TT} {i : Nat} {ΦB : Bool → Env → Prop} {ΦL : List T → Env → Prop} {ΦE : Env → Prop} {tr : TA} {Ψ : List PyData → Env → Prop}
def QDraw (Φ : T → Env → Prop) (ts : List T) (ρ : Env) : Prop := ∃ i a l m, ts = [.p i, .w (.d (.int m))] ∧ ρ[i]? = some (some (.pool a l)) ∧ (0 < m ∧ m.natAbs.log2 < 9000) ∧ ∀ d : Int, 0 ≤ d → d < m → Φ (.w (.d (.int d))) ρ
theorem x_QDraw {a l : Addr} {m : Int} (e : ρ[i]? = some (some (.pool a l))) (c : 0 < m ∧ m.natAbs.log2 < 9000) (h : ∀ d : Int, 0 ≤ d → d < m → Φ (.w (.d (.int d))) ρ) : QDraw Φ [.p i, .w (.d (.int m))] ρ := ⟨i, a, l, m, rfl, e, c, h⟩
theorem J_draw {X : XK} (h : JA K B tr ρ (QDraw Φ)) : J K B (tCall sp_draw [] X tr) ρ Φ := fun G τ vs σ F H Q r k => by
  show tr σ H fun vs H1 => sp_draw (vs ++ []) H1 Q X
  refine h _ τ vs σ F H _ r fun ts us ρ' F' H' l r' ⟨i, a, l', m, e, hi, c, q⟩ => ?_
  subst e
  obtain ⟨u, u', rfl⟩ := two_args l rfl
  have r1 : Rel K B G ρ' σ (.w (.d (.int m)) :: .p i :: τ) (u' :: u :: vs) F' H' := by simpa using r'
  have := r1.topD; cases this
  obtain ⟨v, f, e1, rfl, _, pl⟩ := r1.slot hi
  have eu : u = .ref a := by
    obtain ⟨fs, ft, _, b, _, _⟩ := r1.pop.ex
    cases b with
    | p z1 z2 z3 g => rw [e1] at z1; cases z1; rfl
  subst eu
  refine ⟨a, l', m, rfl, pl, c, fun d H2 d0 d1 pl2 st => ?_⟩
  have r2 : Rel K B G ρ' σ τ vs F' H2 := r1.pop.pop.pooled (w := .pool a l') hi rfl (Sub.refl F') (fun b o hb => ?_) st (fun b h1 h2 => absurd h1 h2) ⟨rfl, rfl, pl2⟩
  · exact k _ _ _ _ _ (r2.push (.int d)) (q d d0 d1)
  · refine st.keep b o (r1.sub b o hb) fun z => ?_
    obtain ⟨fs, ft, ra, _, _, dd⟩ := r1.ex
    obtain ⟨_, f1, f, f2, _, rfl, rw0, _⟩ := ra.at hi
    obtain ⟨_, rfl, _⟩ := rw0
    have := (dd b (by simp only [List.mem_append]; exact .inr (.inl (.inr z)))).1
    rw [this] at hb; cases hb
theorem J_pool {X : XK} {a : Addr} {ns : List Int} (hS : SqL K B.H a (ns.map V.int)) (e0 : B.S = []) (h : JA K B tr ρ fun ts ρ1 => ts = [.w (.v (.ref a))] ∧ ∀ q l, Φ (.w (.pool q l)) ρ1) : J K B (tCall (sp_pool K) [] X tr) ρ Φ := fun G τ vs σ F H Q r k => by
  show tr σ H fun vs H1 => sp_pool K (vs ++ []) H1 Q X
  refine h _ τ vs σ F H _ r fun ts us ρ' F' H' l r' ⟨e, q⟩ => ?_
  subst e
  obtain ⟨u, rfl⟩ := one_arg l rfl
  have r1 : Rel K B G ρ' σ (.w (.v (.ref a)) :: τ) (u :: vs) F' H' := by simpa using r'
  have := r1.topV; subst this
  have sub : Sub B.H H' := fun b o hb => r1.stay.keep b o hb (by rw [e0]; simp)
  refine ⟨a, ns, rfl, hS.sub sub, fun p l' H2 np nl pl st => ?_⟩
  have r2 : Rel K B G ρ' σ τ vs F' H2 := r1.pop.grow (Sub.refl F') (fun b o hb => st.keep b o (r1.sub b o hb) nm0) st (fun b h1 h2 => absurd h1 h2)
  refine k _ _ _ _ _ (r2.pushW (w := .pool p l') (f := [p, l']) ⟨rfl, rfl, pl⟩ ?_ (fun b hb => ?_) fun fs ft a0 b0 b hb z => ?_) (q p l')
  · obtain ⟨_, _, _, _, ne⟩ := pl.ex
    simp [ne]
  · have hn : H' b = none := by
      simp only [List.mem_cons, List.not_mem_nil, or_false] at hb
      rcases hb with rfl | rfl
      · exact np
      · exact nl
    exact ⟨r1.sub.none hn, r1.stay.old b hn⟩
  · have hn : H' b = none := by
      simp only [List.mem_cons, List.not_mem_nil, or_false] at z
      rcases z with rfl | rfl
      · exact np
      · exact nl
    obtain ⟨fs1, ft1, a1, b1, _, _⟩ := r1.pop.ex
    rw [a0.uniq a1, b0.uniq b1] at hb
    rcases List.mem_append.mp hb with y | y
    · exact b1.there b y hn
    · exact a1.there b y hn
theorem J_law {ts : TS} {a : Addr} {ns : List Int} {H : Hp} {Q : VK} {N : List Str} (hS : SqL K H a (ns.map V.int)) (q : ∀ H', Q (.bl true) H')
    (body : JS K ⟨H, [], fun _ => none⟩ ts ([some (.v (.ref a))] ++ List.replicate (N.length - 1) none) { nx := fun _ => False, rt := fun w _ => w = .d (.bool true) }) : ts { nx := fun _ H' => Q .non H', rt := Q } (L2.start N [.ref a]) H := by
  refine body (fun _ => none) _ (fun _ => none) H _ ?_ ⟨fun _ _ _ _ _ q => q.elim, fun w u ρ σ F H' r e => ?_, fun _ _ _ _ _ q => q.elim, fun _ _ _ _ _ q => q.elim⟩
  · refine ⟨⟨[], [], ?_, .nil, List.nodup_nil, by simp⟩, fun _ _ h => by (cases h), Stay.refl _ _, ⟨Sub.refl _, Sub.refl _⟩, fun a _ h => absurd rfl h⟩
    unfold L2.start
    exact RS.ofRT (ws := [.v (.ref a)]) (fp := []) _ (.w (f := []) ⟨rfl, rfl⟩ .nil)
  · subst e
    have := r.topD; cases this
    exact q H'
theorem SP.len {psp : PSp} {vs : List V} {H : Hp} {Q : VK} {X : XK} {n : Nat} (h : SP K psp vs H Q X) (l : ∀ ws Φ Ξ, psp ws Φ Ξ → ws.length = n) : vs.length = n := by
  obtain ⟨F, ws, fp, Φ, Ξ, _, _, rt, _, _, hp, _⟩ := h
  have := rt.len
  rw [← l ws Φ Ξ hp]
  simpa using this.symm
-- what the walk asks, in the form in which it is met
theorem x_FzD {x : PyData} (h : Φ (.w (.d x)) ρ) : QFz Φ (.w (.d x)) ρ := h
theorem x_FzV {x : V} (h : Φ (.w (.v x)) ρ) : QFz Φ (.w (.v x)) ρ := h
theorem x_FzN {xs : List PyData} (h : Φ (.w (.d (.list xs))) ρ) : QFz Φ (.w (.l xs)) ρ := h
theorem x_FzO {a l : Addr} (h : Φ (.w (.pool a l)) ρ) : QFz Φ (.w (.pool a l)) ρ := h
theorem x_QIx {f : List PyData → PyData} {t : T} {xs : List PyData} {n : Int} {x : PyData} (h1 : t.view ρ = some (f xs)) (h2 : atI xs n = some x) (h : Φ (.w (.d x)) ρ) : QIx f t (.w (.d (.int n))) ρ Φ := ⟨xs, n, x, h1, rfl, h2, h⟩
theorem x_QIxS {z : Str} {n : Int} {c : Nat} (l : z.length ≤ sizeLine) (h2 : atI z.cps.toList n = some c) (h : Φ (.w (.d (.str ⟨#[c]⟩))) ρ) : QIxS (.w (.d (.str z))) (.w (.d (.int n))) ρ Φ := ⟨z, n, c, rfl, rfl, l, h2, h⟩
theorem x_QCat {f : List PyData → PyData} {g : List PyData → W} {t u : T} {xs ys : List PyData} (h1 : t.view ρ = some (f xs)) (h2 : u.view ρ = some (f ys)) (l : xs.length + ys.length ≤ sizeLine) (h : Φ (.w (g (xs ++ ys))) ρ) : QCat f g t u ρ Φ := ⟨xs, ys, h1, h2, l, h⟩
theorem x_QRep {t : T} {xs : List PyData} {k : Int} (h1 : t.view ρ = some (.list xs)) (c : -(2 ^ 63) ≤ k ∧ k < 2 ^ 63 ∧ xs.length * k.toNat ≤ sizeLine) (h : Φ (.w (.l (List.replicate k.toNat xs).flatten)) ρ) : QRep t (.w (.d (.int k))) ρ Φ := ⟨xs, k, h1, rfl, c, h⟩
theorem x_QInt {n : Int} (h : Φ (.w (.d (.int n))) ρ) : QInt1 [.w (.d (.int n))] ρ Φ := .inl ⟨n, rfl, h⟩
theorem x_QIntB {b : Bool} (h : Φ (.w (.d (.int (if b = true then 1 else 0)))) ρ) : QInt1 [.w (.d (.bool b))] ρ Φ := .inr ⟨b, rfl, h⟩
theorem x_QSum {t : T} {ns : List Int} (e : t.view ρ = some (.list (ns.map PyData.int))) (h : Φ (.w (.d (.int ns.sum))) ρ) : QSum [t] ρ Φ := ⟨t, ns, rfl, e, h⟩
theorem x_nrm {w : Option W} {ρ' : Env} {P : Env → Prop} (e : ρ.set i w = ρ') (h : P ρ') : ∃ ρ', ρ.set i w = ρ' ∧ P ρ' := ⟨ρ', e, h⟩
theorem x_MtR {xs : List PyData} {P : List PyData → Prop} (e : ρ[i]? = some (some (.l xs))) (h : P xs) : ∃ xs, ρ[i]? = some (some (.l xs)) ∧ P xs := ⟨xs, e, h⟩
theorem x_RPop {x : PyData} {xs : List PyData} {P : List PyData → PyData → Prop} (e : xs[xs.length - 1]? = some x) (h : P xs.dropLast x) : RPop [] xs P := ⟨x, rfl, e, h⟩
theorem x_RPopAt {n : Int} {j : Nat} {x : PyData} {xs : List PyData} {P : List PyData → PyData → Prop} (c : -(2 ^ 63) ≤ n ∧ n < 2 ^ 63) (e : seqIndex? n xs.length = some j) (e2 : xs[j]? = some x) (h : P (xs.eraseIdx j) x) : RPopAt [.w (.d (.int n))] xs P := ⟨n, j, x, rfl, c, e, e2, h⟩
theorem x_RExt {zs xs : List PyData} {P : List PyData → PyData → Prop} (l : xs.length + zs.length ≤ sizeLine) (h : P (xs ++ zs) .none) : RExt [.w (.d (.list zs))] xs P := ⟨zs, rfl, l, h⟩
theorem x_isNj {d : PyData} {t : T} (e : t.view ρ = some d) (h : Φ (.w (.d (.bool (isNoneD d)))) ρ) : T.w (.d .none) = .w (.d .none) ∧ ((∃ d, t.view ρ = some d ∧ Φ (.w (.d (.bool (isNoneD d)))) ρ) ∨ ∃ v, t = .w (.v v) ∧ v ≠ .non ∧ Φ (.w (.d (.bool false))) ρ) := ⟨rfl, .inl ⟨d, e, h⟩⟩
theorem x_notNj {d : PyData} {t : T} (e : t.view ρ = some d) (h : Φ (.w (.d (.bool (!isNoneD d)))) ρ) : T.w (.d .none) = .w (.d .none) ∧ ((∃ d, t.view ρ = some d ∧ Φ (.w (.d (.bool (!isNoneD d)))) ρ) ∨ ∃ v, t = .w (.v v) ∧ v ≠ .non ∧ Φ (.w (.d (.bool true))) ρ) := ⟨rfl, .inl ⟨d, e, h⟩⟩
theorem x_I1 {n : Int} {P : Int → Prop} (h : P n) : ∃ i, T.w (.d (.int n)) = .w (.d (.int i)) ∧ P i := ⟨n, rfl, h⟩
theorem x_I2 {n m : Int} {P : Int → Int → Prop} (h : P n m) : ∃ i j, T.w (.d (.int n)) = .w (.d (.int i)) ∧ T.w (.d (.int m)) = .w (.d (.int j)) ∧ P i j := ⟨n, m, rfl, rfl, h⟩
theorem x_X1 {x : PyData} {P : PyData → Prop} (h : P x) : ∃ y, [T.w (.d x)] = [.w (.d y)] ∧ P y := ⟨x, rfl, h⟩
theorem x_SlL {t : T} {lo hi : Option Int} {xs : List PyData} (e : t.view ρ = some (.list xs)) (h : Φ (.w (.l (cutD xs lo hi))) ρ) : QSlL t lo hi ρ Φ := ⟨xs, e, h⟩
theorem x_SlT {t : T} {lo hi : Option Int} {xs : List PyData} (e : t.view ρ = some (.tuple xs)) (h : Φ (.w (.d (.tuple (cutD xs lo hi)))) ρ) : QSlT t lo hi ρ Φ := ⟨xs, e, h⟩
theorem x_SlS {z : Str} {lo hi : Option Int} (l : z.length ≤ sizeLine) (h : Φ (.w (.d (.str (cutS z lo hi)))) ρ) : QSlS (.w (.d (.str z))) lo hi ρ Φ := ⟨z, rfl, l, h⟩
theorem x_IS {z : Str} (h : Ψ (z.cps.toList.map fun c => PyData.str ⟨#[c]⟩) ρ) : QIS Ψ (.w (.d (.str z))) ρ := ⟨z, rfl, h⟩
/-- x in xs, of plain items -/
def flatD : PyData → Bool
  | .none => true | .bool _ => true | .int _ => true | .str _ => true
  | _ => false
theorem _root_.L2.Dq.flat {H : Hp} {v : V} {d : PyData} (h : Dq K H v d) (f : flatD d = true) : dV d = some v := by
  cases h <;> first | rfl | cases f
def inD (x : PyData) (xs : List PyData) : Bool := xs.any fun y => PyData.eqv y x
theorem eqv_flat {x y : PyData} {a b : V} (h1 : dV x = some a) (h2 : dV y = some b) (f : flatV a = true) (g : flatV b = true) : eqV b a = PyData.eqv y x := by
  cases x <;> simp [dV] at h1 <;> subst h1 <;> cases y <;> simp [dV] at h2 <;> subst h2 <;> first | rfl | simp [eqV, PyData.eqv]
theorem in_flat {H : Hp} {x : PyData} {a : V} {xs : List PyData} {us : List V} (h1 : Dq K H a x) (fx : flatD x = true) (h2 : DqAll K H us xs) (fs : xs.all flatD = true) : flatV a = true ∧ us.all flatV = true ∧ inV a us = inD x xs := by
  have fl : ∀ {d : PyData} {v : V}, dV d = some v → flatD d = true → flatV v = true := by
    intro d v e f
    cases d <;> simp [dV] at e <;> subst e <;> rfl
  have e1 := h1.flat fx
  refine ⟨fl e1 fx, ?_⟩
  induction us generalizing xs with
  | nil => cases h2; exact ⟨rfl, rfl⟩
  | cons u us ih =>
    cases h2 with
    | @cons _ _ d ds q r =>
      simp only [List.all_cons, Bool.and_eq_true] at fs
      obtain ⟨i1, i2⟩ := ih r fs.2
      have e2 := q.flat fs.1
      refine ⟨by simp [fl e2 fs.1, i1], ?_⟩
      have e3 := eqv_flat e1 e2 (fl e1 fx) (fl e2 fs.1)
      unfold inV inD at i2 ⊢
      rw [List.any_cons, List.any_cons, i2, e3]
def QIn (neg : Bool) (t u : T) (ρ : Env) (Φ : T → Env → Prop) : Prop := ∃ x d xs, t = .w (.d x) ∧ u.view ρ = some d ∧ seqD d = some xs ∧ flatD x = true ∧ xs.all flatD = true ∧ Φ (.w (.d (.bool (neg ^^ inD x xs)))) ρ
theorem x_QIn {x d : PyData} {u : T} {xs : List PyData} (e : u.view ρ = some d) (e2 : seqD d = some xs) (f : flatD x = true) (g : xs.all flatD = true) (h : Φ (.w (.d (.bool (inD x xs)))) ρ) : QIn false (.w (.d x)) u ρ Φ := ⟨x, d, xs, rfl, e, e2, f, g, by rw [Bool.false_xor]; exact h⟩
theorem x_QInN {x d : PyData} {u : T} {xs : List PyData} (e : u.view ρ = some d) (e2 : seqD d = some xs) (f : flatD x = true) (g : xs.all flatD = true) (h : Φ (.w (.d (.bool (!inD x xs)))) ρ) : QIn true (.w (.d x)) u ρ Φ := ⟨x, d, xs, rfl, e, e2, f, g, by rw [Bool.true_xor]; exact h⟩
theorem oj_in {neg : Bool} : OpJ K B (rIn K neg) (QIn neg) := by
  rintro G τ vs σ F H ρ t u x y Q Φ r ⟨d, e, xs, rfl, h1, h2, f, g, h⟩ k
  have hx := r.pop.topD
  have fin : ∀ {p us}, y = .ref p → (SqL K H p us ∨ SqT K H p us) → DqAll K F us xs → rIn K neg x y H Q := by
    rintro p us rfl hs hd
    obtain ⟨f1, f2, f3⟩ := in_flat hx f hd g
    refine ⟨p, us, rfl, hs, f1, f2, ?_⟩
    rw [f3]
    have := k _ _ _ _ _ (r.pop.pop.push (.bl (neg ^^ inD d xs))) h
    cases neg <;> simpa using this
  cases e with
  | list ys => cases h2; obtain ⟨p, us, e1, g1, g2⟩ := r.viewL h1; exact fin e1 (.inl (SqL.of g1)) g2
  | tuple ys => cases h2; obtain ⟨p, us, e1, g1, g2⟩ := T.tup r h1; exact fin e1 (.inr (g1.sub r.sub)) g2
  | _ => cases h2
-- comprehensions without effects
theorem x_LcMap {g : TG} {vs : List Nat} {xs : List PyData} (f : PyData → PyData) (no : NoOwn ρ vs) (l : xs.length ≤ sizeLine)
    (hs : ∀ x, x ∈ xs → JH K B vs g x (wipeE ρ vs) fun ρ2 => wipeE ρ2 vs = wipeE ρ vs ∧ NoOwn1 ρ2 vs ∧ J K B te ρ2 (QFz fun t ρ4 => t = .w (.d (f x)) ∧ wipeE ρ4 vs = wipeE ρ vs ∧ NoOwn1 ρ4 vs)) (hd : Φ (.w (.l (xs.map f))) ρ) : QLcU K B g tYes te vs Φ xs ρ := by
  refine .inl ⟨no, fun i acc => acc = (xs.take i).map f, rfl, fun i x acc e h => ?_, fun acc h => by rw [h, List.take_length]; exact hd⟩
  have hi := (List.getElem?_eq_some_iff.mp e).1
  intro G τ us u σ F H Q r d k
  refine hs x (List.mem_of_getElem? e) G τ us u σ F H Q r d fun σ' ρ' r' ew ⟨a, b, c⟩ => k σ' ρ' r' ew ⟨a, b, JT_yes ?_⟩
  rw [if_pos rfl]
  intro G τ us σ F H Q r k
  refine c G τ us σ F H Q r fun t u ρ4 F4 H4 r4 q => k t u ρ4 F4 H4 r4 ?_
  revert q
  have im : ∀ t ρx, (t = T.w (.d (f x)) ∧ wipeE ρx vs = wipeE ρ vs ∧ NoOwn1 ρx vs) → ∃ y, t = T.w (.d y) ∧ wipeE ρx vs = wipeE ρ vs ∧ NoOwn1 ρx vs ∧ acc.length < sizeLine ∧ acc ++ [y] = (xs.take (i + 1)).map f := fun t ρx ⟨e1, e2, e3⟩ => by
    refine ⟨f x, e1, e2, e3, ?_, ?_⟩
    · rw [h, List.length_map, List.length_take]; omega
    · rw [h, List.take_succ, e]; simp
  exact QFz.imp im
/-- which items stay, what becomes of them -/
theorem x_LcFil {g : TG} {vs : List Nat} {xs : List PyData} (b : PyData → Bool) (f : PyData → PyData) (no : NoOwn ρ vs) (l : xs.length ≤ sizeLine)
    (hs : ∀ x, x ∈ xs → JH K B vs g x (wipeE ρ vs) fun ρ2 => wipeE ρ2 vs = wipeE ρ vs ∧ NoOwn1 ρ2 vs ∧ JT K B tt ρ2 fun c ρ3 => c = b x ∧ wipeE ρ3 vs = wipeE ρ vs ∧ NoOwn1 ρ3 vs ∧ (b x = true → J K B te ρ3 (QFz fun t ρ4 => t = .w (.d (f x)) ∧ wipeE ρ4 vs = wipeE ρ vs ∧ NoOwn1 ρ4 vs))) (hd : Φ (.w (.l ((xs.filter b).map f))) ρ) : QLcU K B g tt te vs Φ xs ρ := by
  refine .inl ⟨no, fun i acc => acc = ((xs.take i).filter b).map f, rfl, fun i x acc e h => ?_, fun acc h => by rw [h, List.take_length]; exact hd⟩
  have hi := (List.getElem?_eq_some_iff.mp e).1
  have hl : acc.length ≤ i := by
    rw [h, List.length_map]
    exact Nat.le_trans (List.length_filter_le _ _) (by rw [List.length_take]; omega)
  have hstep : ((xs.take (i + 1)).filter b).map f = acc ++ (if b x = true then [f x] else []) := by
    rw [h, List.take_succ, e, Option.toList_some, List.filter_append, List.map_append]
    congr 1
    by_cases c : b x = true
    · rw [if_pos c]; simp [c]
    · rw [if_neg c]; simp [c]
  intro G τ us u σ F H Q r d k
  refine hs x (List.mem_of_getElem? e) G τ us u σ F H Q r d fun σ' ρ' r' ew ⟨a, n, c⟩ => k σ' ρ' r' ew ⟨a, n, ?_⟩
  intro G τ us σ F H Q r k
  refine c G τ us σ F H Q r fun c ρ3 F3 H3 r3 ⟨ec, e3, n3, q3⟩ => k c ρ3 F3 H3 r3 ?_
  cases c with
  | false =>
    rw [if_neg Bool.false_ne_true]
    refine ⟨e3, n3, ?_⟩
    show acc = ((xs.take (i + 1)).filter b).map f
    rw [hstep, ← ec]; simp
  | true =>
    rw [if_pos rfl]
    intro G τ us σ F H Q r k
    refine q3 ec.symm G τ us σ F H Q r fun t u ρ4 F4 H4 r4 q => k t u ρ4 F4 H4 r4 ?_
    revert q
    have im : ∀ t ρx, (t = T.w (.d (f x)) ∧ wipeE ρx vs = wipeE ρ vs ∧ NoOwn1 ρx vs) → ∃ y, t = T.w (.d y) ∧ wipeE ρx vs = wipeE ρ vs ∧ NoOwn1 ρx vs ∧ acc.length < sizeLine ∧ acc ++ [y] = ((xs.take (i + 1)).filter b).map f := fun t ρx ⟨e1, e2, e3⟩ => by
      refine ⟨f x, e1, e2, e3, by omega, ?_⟩
      rw [hstep, ← ec]; simp
    exact QFz.imp im
end
end WD

set_option Elab.async false
set_option linter.all false
set_option maxRecDepth 100000
set_option maxHeartbeats 1000000
namespace WD
open PySem PySem.Spec PyProof.Rows L2 RZ
/-! one reading for all kinds of operands -/
section
variable {X : L2.Cx}
def rAddA (K : PySem.W.Frag) : R2 := fun x y H Q => rI0 (fun i j => .int (i + j)) x y H Q ∨ (∃ i j, x = .str i ∧ y = .str j ∧ i.length + j.length ≤ sizeLine ∧ Q (.str (i ++ j)) H) ∨ rCat x y H Q ∨ rCatA K x y H Q
theorem op_addA : OpR X (binaryOp .Add) (rAddA X.K) := op_add.or (op_add_str.or (op_cat.or op_catA))
def rMulA : R2 := fun x y H Q => rI CMulX (fun i j => .int (i * j)) x y H Q ∨ rRep x y H Q ∨ (∃ z k, x = .str z ∧ y = .int k ∧ (0 ≤ k ∧ k ≤ 1000 ∧ z.length ≤ 1000) ∧ Q (.str (rep z k.toNat)) H)
theorem op_mulA : OpR X (binaryOp .Mult) rMulA := op_mulX.or (op_rep.or op_strmul)
def rEqA (K : PySem.W.Frag) : R2 := fun x y H Q => rEq x y H Q ∨ rEqD K x y H Q
def rNeA (K : PySem.W.Frag) : R2 := fun x y H Q => rNe x y H Q ∨ rNeD K x y H Q
theorem op_eqA (hu : X.A.units + 64 < cLine) : OpR X (compareOp .Eq) (rEqA X.K) := op_eq.or (op_eqD hu)
theorem op_neA (hu : X.A.units + 64 < cLine) : OpR X (compareOp .NotEq) (rNeA X.K) := op_ne.or (op_neD hu)
def rSlU (K : PySem.W.Frag) : V → Option Int → Option Int → Hp → VK → Prop := fun x lo hi H Q => rSlL K x lo hi H Q ∨ rSlA K x lo hi H Q ∨ rSlS x lo hi H Q
theorem sl_any : SlR X (rSlU X.K) := sl_list.or (sl_tupA.or sl_str)
def rLtA (K : PySem.W.Frag) : R2 := fun x y H Q => rI0 (fun i j => .bl (decide (i < j))) x y H Q ∨ (∃ i j, x = .str i ∧ y = .str j ∧ Q (.bl (decide (i.cps.toList < j.cps.toList))) H)
def rLeA (K : PySem.W.Frag) : R2 := fun x y H Q => rI0 (fun i j => .bl (decide (i ≤ j))) x y H Q ∨ (∃ i j, x = .str i ∧ y = .str j ∧ Q (.bl (!decide (j.cps.toList < i.cps.toList))) H)
def rGtA (K : PySem.W.Frag) : R2 := fun x y H Q => rI0 (fun i j => .bl (decide (j < i))) x y H Q ∨ (∃ i j, x = .str i ∧ y = .str j ∧ Q (.bl (decide (j.cps.toList < i.cps.toList))) H)
def rGeA (K : PySem.W.Frag) : R2 := fun x y H Q => rI0 (fun i j => .bl (decide (j ≤ i))) x y H Q ∨ (∃ i j, x = .str i ∧ y = .str j ∧ Q (.bl (!decide (i.cps.toList < j.cps.toList))) H)
theorem op_ltA : OpR X (compareOp .Lt) (rLtA X.K) := op_lt.or op_lt_str
theorem op_leA : OpR X (compareOp .LtE) (rLeA X.K) := op_le.or op_le_str
theorem op_gtA : OpR X (compareOp .Gt) (rGtA X.K) := op_gt.or op_gt_str
theorem op_geA : OpR X (compareOp .GtE) (rGeA X.K) := op_ge.or op_ge_str
/-- a loop over a list, a tuple, a text -/
def qAny (K : PySem.W.Frag) (R : It → Hp → Prop) : VK := fun x H1 => (∃ a, x = .ref a ∧ (∃ xs, SqL K H1 a xs) ∧ R (Itl K a) H1) ∨ (∃ a, x = .ref a ∧ (∃ xs, SqT K H1 a xs) ∧ R (Itt K a) H1) ∨ ∃ z, x = .str z ∧ R (Its z) H1
def iAny (K : PySem.W.Frag) (tl : TE) : TI := fun σ H R => tl σ H (qAny K R)
theorem pi_any {tg l : Expr} {tl : TE} (hl : PE X l tl) : PI X tg l (iAny X.K tl) := by
  refine ⟨fun pins s σ H R I h => ?_⟩
  refine thn (hl.run pins s σ H _ I h) fun v s1 ⟨x, H1, I1, r1, q1⟩ => ?_
  rcases q1 with ⟨a, e, ⟨xs, hq⟩, q⟩ | ⟨a, e, ⟨xs, hq⟩, q⟩ | ⟨z, e, q⟩
  · subst e
    cases r1
    obtain ⟨its, rv, p, hz⟩ := I1.list hq
    refine wpAny_pyIter_list p.isList ?_
    refine ⟨s1.heap.objs.size, [s1.heap.objs.size], _, _, H1, rfl, I1.kept (t' := s1.toks) fun b o e => Heap.get?_push_of_some _ e, turn_list a _, ⟨_, Heap.get?_push_size _ rfl, rfl, rfl⟩, fun b hb => ?_, q⟩
    have e : b = s1.heap.objs.size := by simpa using hb
    subst e
    exact I1.fpOk (Nat.le_refl _) (I1.hok.fresh (Nat.le_refl _))
  · subst e
    cases r1
    obtain ⟨its, rv, p, hz⟩ := I1.tuple hq
    refine wpAny_pyIter_tuple (show s1.heap.IsTuple a its.toArray from p) ?_
    refine ⟨s1.heap.objs.size, [s1.heap.objs.size], _, _, H1, rfl, I1.kept (t' := s1.toks) fun b o e => Heap.get?_push_of_some _ e, turn_tuple a _, ⟨_, Heap.get?_push_size _ rfl, rfl, rfl⟩, fun b hb => ?_, q⟩
    have e : b = s1.heap.objs.size := by simpa using hb
    subst e
    exact I1.fpOk (Nat.le_refl _) (I1.hok.fresh (Nat.le_refl _))
  · subst e
    obtain ⟨t, rfl⟩ := r1
    cases ha : z.cps.all (· < 128)
    · exact wpAny_pyIter_wide ha (pi_one (tk := s1.toks) I1 _ (turn_str _ z t "str_iterator" (.inr rfl)) ⟨_, Heap.get?_push_size _ rfl, rfl, rfl⟩ q)
    · exact wpAny_pyIter_ascii ha (pi_one (tk := s1.toks) I1 _ (turn_str _ z t "str_ascii_iterator" (.inl rfl)) ⟨_, Heap.get?_push_size _ rfl, rfl, rfl⟩ q)
end
section
variable {K : PySem.W.Frag} {B : Base} {G : Hp} {ρ : Env} {Φ : T → Env → Prop} {E : JE} {ta tb tc te : TE} {t u : TS} {tt tt' : TT} {i : Nat} {ΦB : Bool → Env → Prop} {ΦL : List T → Env → Prop} {ΦE : Env → Prop} {tr : TA} {Ψ : List PyData → Env → Prop}
def QOr (R R' : T → T → Env → (T → Env → Prop) → Prop) (t u : T) (ρ : Env) (Φ : T → Env → Prop) : Prop := R t u ρ Φ ∨ R' t u ρ Φ
theorem OpJ.or' {r r' : R2} {R R' : T → T → Env → (T → Env → Prop) → Prop} (h : OpJ K B r R) (h' : OpJ K B r' R') : OpJ K B (fun x y H Q => r x y H Q ∨ r' x y H Q) (QOr R R') := by
  rintro G τ vs σ F H ρ t u x y Q Φ r z k
  rcases z with z | z
  · exact .inl (h r z k)
  · exact .inr (h' r z k)
-- +
def QAddA := QOr (PI2 (fun _ _ => True) fun i j => .int (i + j)) (QOr (PS2 (fun i j => i.length + j.length ≤ sizeLine) fun i j => .str (i ++ j)) (QOr (QCat .list .l) (QCat .tuple fun xs => .d (.tuple xs))))
theorem oj_addA : OpJ K B (rAddA K) QAddA := OpJ.or' oj_I0i (OpJ.or' oj_addS (OpJ.or' oj_cat oj_catA))
theorem x_addI {n m : Int} (h : Φ (.w (.d (.int (n + m)))) ρ) : QAddA (.w (.d (.int n))) (.w (.d (.int m))) ρ Φ := .inl ⟨n, m, rfl, rfl, trivial, h⟩
theorem x_addS' {n m : Str} (l : n.length + m.length ≤ sizeLine) (h : Φ (.w (.d (.str (n ++ m)))) ρ) : QAddA (.w (.d (.str n))) (.w (.d (.str m))) ρ Φ := .inr (.inl ⟨n, m, rfl, rfl, l, h⟩)
theorem x_addL {t u : T} {xs ys : List PyData} (h1 : t.view ρ = some (.list xs)) (h2 : u.view ρ = some (.list ys)) (l : xs.length + ys.length ≤ sizeLine) (h : Φ (.w (.l (xs ++ ys))) ρ) : QAddA t u ρ Φ := .inr (.inr (.inl ⟨xs, ys, h1, h2, l, h⟩))
theorem x_addT {t u : T} {xs ys : List PyData} (h1 : t.view ρ = some (.tuple xs)) (h2 : u.view ρ = some (.tuple ys)) (l : xs.length + ys.length ≤ sizeLine) (h : Φ (.w (.d (.tuple (xs ++ ys)))) ρ) : QAddA t u ρ Φ := .inr (.inr (.inr ⟨xs, ys, h1, h2, l, h⟩))
-- *
theorem oj_strmul : OpJ K B (fun x y H Q => ∃ z k, x = .str z ∧ y = .int k ∧ (0 ≤ k ∧ k ≤ 1000 ∧ z.length ≤ 1000) ∧ Q (.str (rep z k.toNat)) H) (fun t u ρ Φ => ∃ z k, t = .w (.d (.str z)) ∧ u = .w (.d (.int k)) ∧ (0 ≤ k ∧ k ≤ 1000 ∧ z.length ≤ 1000) ∧ Φ (.w (.d (.str (rep z k.toNat)))) ρ) := by
  rintro G τ vs σ F H ρ t u x y Q Φ r ⟨z, n, rfl, rfl, c, h⟩ k
  have h1 := r.topD
  cases h1
  have h2 := r.pop.topD
  cases h2
  exact ⟨z, n, rfl, rfl, c, k _ _ _ _ _ (r.pop.pop.push (.str _)) h⟩
def QMulA := QOr (PI2 CMulX fun i j => .int (i * j)) (QOr QRep (fun t u ρ Φ => ∃ z k, t = .w (.d (.str z)) ∧ u = .w (.d (.int k)) ∧ (0 ≤ k ∧ k ≤ 1000 ∧ z.length ≤ 1000) ∧ Φ (.w (.d (.str (rep z k.toNat)))) ρ))
theorem oj_mulA : OpJ K B rMulA QMulA := OpJ.or' oj_Ii (OpJ.or' oj_rep oj_strmul)
theorem x_mulI {n m : Int} (c : CMulX n m) (h : Φ (.w (.d (.int (n * m)))) ρ) : QMulA (.w (.d (.int n))) (.w (.d (.int m))) ρ Φ := .inl ⟨n, m, rfl, rfl, c, h⟩
theorem x_mulL {t : T} {xs : List PyData} {k : Int} (h1 : t.view ρ = some (.list xs)) (c : -(2 ^ 63) ≤ k ∧ k < 2 ^ 63 ∧ xs.length * k.toNat ≤ sizeLine) (h : Φ (.w (.l (List.replicate k.toNat xs).flatten)) ρ) : QMulA t (.w (.d (.int k))) ρ Φ := .inr (.inl ⟨xs, k, h1, rfl, c, h⟩)
theorem x_mulL1 {t : T} {x : PyData} {k : Int} (h1 : t.view ρ = some (.list [x])) (c : 0 ≤ k ∧ k ≤ 16777216) (h : Φ (.w (.l (List.replicate k.toNat x))) ρ) : QMulA t (.w (.d (.int k))) ρ Φ := by
  refine x_mulL h1 ⟨by omega, by omega, ?_⟩ ?_
  · have := sizeLine_eq; simp; omega
  · have : ∀ n : Nat, (List.replicate n [x]).flatten = List.replicate n x := fun n => by
      induction n with
      | zero => rfl
      | succ n ih => rw [List.replicate_succ, List.replicate_succ, List.flatten_cons, ih]; rfl
    rw [this]; exact h
theorem x_mulS {z : Str} {k : Int} (c : 0 ≤ k ∧ k ≤ 1000 ∧ z.length ≤ 1000) (h : Φ (.w (.d (.str (rep z k.toNat)))) ρ) : QMulA (.w (.d (.str z))) (.w (.d (.int k))) ρ Φ := .inr (.inr ⟨z, k, rfl, rfl, c, h⟩)
-- ==, !=
def QEqA := QOr (PQ2 false) (PD2 (fun d e => Shp d ∧ Shp e) fun d e => .bool (PyData.eqv d e))
def QNeA := QOr (PQ2 true) (PD2 (fun d e => Shp d ∧ Shp e) fun d e => .bool (!PyData.eqv d e))
theorem oj_eqA : OpJ K B (rEqA K) QEqA := OpJ.or' oj_eq oj_eqD
theorem oj_neA : OpJ K B (rNeA K) QNeA := OpJ.or' oj_ne oj_neD
theorem x_eqI {n m : Int} (h : Φ (.w (.d (.bool (decide (n = m))))) ρ) : QEqA (.w (.d (.int n))) (.w (.d (.int m))) ρ Φ := .inl (x_PQ2i h)
theorem x_neI {n m : Int} (h : Φ (.w (.d (.bool (!decide (n = m))))) ρ) : QNeA (.w (.d (.int n))) (.w (.d (.int m))) ρ Φ := .inl (x_PQ2iN h)
theorem x_eqS {n m : Str} (h : Φ (.w (.d (.bool (decide (n = m))))) ρ) : QEqA (.w (.d (.str n))) (.w (.d (.str m))) ρ Φ := .inl (x_PQ2s h)
theorem x_neS {n m : Str} (h : Φ (.w (.d (.bool (!decide (n = m))))) ρ) : QNeA (.w (.d (.str n))) (.w (.d (.str m))) ρ Φ := .inl (x_PQ2sN h)
theorem x_eqB {n m : Bool} (h : Φ (.w (.d (.bool (n == m)))) ρ) : QEqA (.w (.d (.bool n))) (.w (.d (.bool m))) ρ Φ := .inl (x_PQ2b h)
theorem x_neB {n m : Bool} (h : Φ (.w (.d (.bool (n != m)))) ρ) : QNeA (.w (.d (.bool n))) (.w (.d (.bool m))) ρ Φ := .inl (x_PQ2bN h)
theorem x_eqA {t u : T} {d e : PyData} (h1 : t.view ρ = some d) (h2 : u.view ρ = some e) (s1 : Shp d) (s2 : Shp e) (h : Φ (.w (.d (.bool (PyData.eqv d e)))) ρ) : QEqA t u ρ Φ := .inr ⟨d, e, h1, h2, ⟨s1, s2⟩, h⟩
theorem x_neA {t u : T} {d e : PyData} (h1 : t.view ρ = some d) (h2 : u.view ρ = some e) (s1 : Shp d) (s2 : Shp e) (h : Φ (.w (.d (.bool (!PyData.eqv d e)))) ρ) : QNeA t u ρ Φ := .inr ⟨d, e, h1, h2, ⟨s1, s2⟩, h⟩
-- <, <=, >, >=
theorem oj_S0b {f : Str → Str → Bool} : OpJ K B (fun x y H Q => ∃ i j, x = .str i ∧ y = .str j ∧ Q (.bl (f i j)) H) (PS2 (fun _ _ => True) fun i j => .bool (f i j)) := by
  rintro G τ vs σ F H ρ t u x y Q Φ r ⟨i, j, rfl, rfl, _, h⟩ k
  obtain ⟨rfl, rfl⟩ := r.str2
  exact ⟨i, j, rfl, rfl, k _ _ _ _ _ (r.pop.pop.push (.bl _)) h⟩
def QCmp (f : Int → Int → Bool) (g : Str → Str → Bool) := QOr (PI2 (fun _ _ => True) fun i j => .bool (f i j)) (PS2 (fun _ _ => True) fun i j => .bool (g i j))
theorem oj_cmpA (f : Int → Int → Bool) (g : Str → Str → Bool) : OpJ K B (fun x y H Q => rI0 (fun i j => .bl (f i j)) x y H Q ∨ (∃ i j, x = .str i ∧ y = .str j ∧ Q (.bl (g i j)) H)) (QCmp f g) := OpJ.or' (oj_I0b (f := f)) (oj_S0b (f := g))
theorem oj_ltA : OpJ K B (rLtA K) (QCmp (fun i j => decide (i < j)) fun i j => decide (i.cps.toList < j.cps.toList)) := oj_cmpA _ _
theorem oj_leA : OpJ K B (rLeA K) (QCmp (fun i j => decide (i ≤ j)) fun i j => !decide (j.cps.toList < i.cps.toList)) := oj_cmpA _ _
theorem oj_gtA : OpJ K B (rGtA K) (QCmp (fun i j => decide (j < i)) fun i j => decide (j.cps.toList < i.cps.toList)) := oj_cmpA _ _
theorem oj_geA : OpJ K B (rGeA K) (QCmp (fun i j => decide (j ≤ i)) fun i j => !decide (i.cps.toList < j.cps.toList)) := oj_cmpA _ _
theorem x_cmpI {f : Int → Int → Bool} {g : Str → Str → Bool} {n m : Int} (h : Φ (.w (.d (.bool (f n m)))) ρ) : QCmp f g (.w (.d (.int n))) (.w (.d (.int m))) ρ Φ := .inl ⟨n, m, rfl, rfl, trivial, h⟩
theorem x_cmpS {f : Int → Int → Bool} {g : Str → Str → Bool} {n m : Str} (h : Φ (.w (.d (.bool (g n m)))) ρ) : QCmp f g (.w (.d (.str n))) (.w (.d (.str m))) ρ Φ := .inr ⟨n, m, rfl, rfl, trivial, h⟩
-- o[i]
/-- an inner list, an item of an inner list, the pool's number -/
def QIxH (t u : T) (ρ : Env) (Φ : T → Env → Prop) : Prop := ∃ (i : Nat) (p : Addr) (qs : List Addr) (xss : List (List PyData)) (n : Int) (j : Nat), t = .p i ∧ u = .w (.d (.int n)) ∧ ρ[i]? = some (some (.hl p qs xss)) ∧ ixN xss.length n = some j ∧ ∀ q, qs[j]? = some q → Φ (.w (.v (.ref q))) ρ
def QIxQ (t u : T) (ρ : Env) (Φ : T → Env → Prop) : Prop := ∃ (i : Nat) (p : Addr) (qs : List Addr) (xss : List (List PyData)) (q : Addr) (j : Nat) (xs : List PyData) (n : Int) (x : PyData), t = .w (.v (.ref q)) ∧ u = .w (.d (.int n)) ∧ ρ[i]? = some (some (.hl p qs xss)) ∧ qs[j]? = some q ∧ xss[j]? = some xs ∧ atI xs n = some x ∧ Φ (.w (.d x)) ρ
def QIxP (t u : T) (ρ : Env) (Φ : T → Env → Prop) : Prop := ∃ (i : Nat) (a l : Addr), t = .p i ∧ u = .w (.d (.int 0)) ∧ ρ[i]? = some (some (.pool a l)) ∧ ∀ p0 : Int, 0 ≤ p0 → Φ (.w (.d (.int p0))) ρ
theorem oj_ixH : OpJ K B (rIxL K) QIxH := by
  rintro G τ vs σ F H ρ t u x y Q Φ r ⟨i, p, qs, xss, n, j, rfl, rfl, hi, hj, h⟩ k
  have := r.topD; cases this
  obtain ⟨u, f, e1, rfl, rfl, h1, h2⟩ := r.slot hi
  have ex : x = .ref p := by
    obtain ⟨fs, ft, _, b, _, _⟩ := r.pop.ex
    cases b with
    | p z1 z2 z3 g => rw [e1] at z1; cases z1; rfl
  subst ex
  have hjl : j < qs.length := by
    rw [h2.len]
    unfold ixN at hj
    split at hj
    · split at hj
      · cases hj; omega
      · cases hj
    · split at hj
      · cases hj; omega
      · cases hj
  have e2 : qs[j]? = some qs[j] := List.getElem?_eq_getElem hjl
  exact ⟨p, _, n, .ref qs[j], rfl, rfl, SqL.of h1, by unfold atI; rw [List.length_map, h2.len, hj]; show (List.map V.ref qs)[j]? = _; rw [List.getElem?_map, e2]; rfl, k _ _ _ _ _ (r.pop.pop.pushV) (h _ e2)⟩
theorem oj_ixQ : OpJ K B (rIxL K) QIxQ := by
  rintro G τ vs σ F H ρ t u x y Q Φ r ⟨i, p, qs, xss, q, j, xs, n, z, rfl, rfl, hi, hq, hx, ha, h⟩ k
  have := r.topD; cases this
  have := r.pop.topV; subst this
  obtain ⟨us, xs', hx', h1, h2⟩ := r.pop.pop.hlAt hi hq
  rw [hx] at hx'; cases hx'
  obtain ⟨v, g3, g4⟩ := atI_dp h2 ha
  exact ⟨q, us, n, v, rfl, rfl, SqL.of h1, g3, k _ _ _ _ _ (r.pop.pop.push g4) h⟩
theorem oj_ixP : OpJ K B (rIxL K) QIxP := by
  rintro G τ vs σ F H ρ t u x y Q Φ r ⟨i, a, l, rfl, rfl, hi, h⟩ k
  have := r.topD; cases this
  obtain ⟨u, f, e1, rfl, rfl, p0, p1, ns, h1, h2, h3, h4, _⟩ := r.slot hi
  have ex : x = .ref a := by
    obtain ⟨fs, ft, _, b, _, _⟩ := r.pop.ex
    cases b with
    | p z1 z2 z3 g => rw [e1] at z1; cases z1; rfl
  subst ex
  exact ⟨a, _, 0, .int p0, rfl, rfl, SqL.of h1, at0, k _ _ _ _ _ (r.pop.pop.push (.int p0)) (h p0 h4)⟩
def QIxA := QOr (QOr (QIx .list) (QOr QIxH (QOr QIxQ QIxP))) (QOr (QIx .tuple) QIxS)
theorem OpJ.or1 {r : R2} {R R' : T → T → Env → (T → Env → Prop) → Prop} (h : OpJ K B r R) (h' : OpJ K B r R') : OpJ K B r (QOr R R') := by
  rintro G τ vs σ F H ρ t u x y Q Φ r z k
  rcases z with z | z
  · exact h r z k
  · exact h' r z k
theorem oj_ixA : OpJ K B (rIx K) QIxA := OpJ.or' (OpJ.or1 oj_ixL (OpJ.or1 oj_ixH (OpJ.or1 oj_ixQ oj_ixP))) (OpJ.or' oj_ixT oj_ixS)
theorem x_ixH {p : Addr} {qs : List Addr} {xss : List (List PyData)} {n : Int} {j : Nat} (e : ρ[i]? = some (some (.hl p qs xss))) (e2 : ixN xss.length n = some j) (h : ∀ q, qs[j]? = some q → Φ (.w (.v (.ref q))) ρ) : QIxA (.p i) (.w (.d (.int n))) ρ Φ := .inl (.inr (.inl ⟨i, p, qs, xss, n, j, rfl, rfl, e, e2, h⟩))
theorem x_ixQ {p q : Addr} {qs : List Addr} {xss : List (List PyData)} {xs : List PyData} {n : Int} {j : Nat} {x : PyData} (e : ρ[i]? = some (some (.hl p qs xss))) (e2 : qs[j]? = some q) (e3 : xss[j]? = some xs) (e4 : atI xs n = some x) (h : Φ (.w (.d x)) ρ) : QIxA (.w (.v (.ref q))) (.w (.d (.int n))) ρ Φ := .inl (.inr (.inr (.inl ⟨i, p, qs, xss, q, j, xs, n, x, rfl, rfl, e, e2, e3, e4, h⟩)))
theorem x_ixP {a l : Addr} (e : ρ[i]? = some (some (.pool a l))) (h : ∀ p0 : Int, 0 ≤ p0 → Φ (.w (.d (.int p0))) ρ) : QIxA (.p i) (.w (.d (.int 0))) ρ Φ := .inl (.inr (.inr (.inr ⟨i, a, l, rfl, rfl, e, h⟩)))
theorem x_ixAL {t : T} {xs : List PyData} {n : Int} {x : PyData} (h1 : t.view ρ = some (.list xs)) (h2 : atI xs n = some x) (h : Φ (.w (.d x)) ρ) : QIxA t (.w (.d (.int n))) ρ Φ := .inl (.inl (x_QIx h1 h2 h))
theorem x_ixAT {t : T} {xs : List PyData} {n : Int} {x : PyData} (h1 : t.view ρ = some (.tuple xs)) (h2 : atI xs n = some x) (h : Φ (.w (.d x)) ρ) : QIxA t (.w (.d (.int n))) ρ Φ := .inr (.inl (x_QIx h1 h2 h))
theorem x_ixAS {z : Str} {n : Int} {c : Nat} (l : z.length ≤ sizeLine) (h2 : atI z.cps.toList n = some c) (h : Φ (.w (.d (.str ⟨#[c]⟩))) ρ) : QIxA (.w (.d (.str z))) (.w (.d (.int n))) ρ Φ := .inr (.inr (x_QIxS l h2 h))
-- o[a:b]
def QSlU (t : T) (lo hi : Option Int) (ρ : Env) (Φ : T → Env → Prop) : Prop := QSlL t lo hi ρ Φ ∨ QSlT t lo hi ρ Φ ∨ QSlS t lo hi ρ Φ
theorem sj_U : SlJ K B (rSlU K) QSlU := by
  rintro G τ vs σ F H ρ t x lo hi Q Φ r z k
  rcases z with z | z | z
  · exact .inl (sj_L r z k)
  · exact .inr (.inl (sj_T r z k))
  · exact .inr (.inr (sj_S r z k))
theorem x_slL' {t : T} {lo hi : Option Int} {xs : List PyData} (e : t.view ρ = some (.list xs)) (h : Φ (.w (.l (cutD xs lo hi))) ρ) : QSlU t lo hi ρ Φ := .inl ⟨xs, e, h⟩
theorem x_slT' {t : T} {lo hi : Option Int} {xs : List PyData} (e : t.view ρ = some (.tuple xs)) (h : Φ (.w (.d (.tuple (cutD xs lo hi)))) ρ) : QSlU t lo hi ρ Φ := .inr (.inl ⟨xs, e, h⟩)
theorem x_slS' {z : Str} {lo hi : Option Int} (l : z.length ≤ sizeLine) (h : Φ (.w (.d (.str (cutS z lo hi)))) ρ) : QSlU (.w (.d (.str z))) lo hi ρ Φ := .inr (.inr ⟨z, rfl, l, h⟩)
-- for
def QIA (Ψ : List PyData → Env → Prop) (t : T) (ρ : Env) : Prop := (∃ xs, t = .w (.d (.list xs)) ∧ Ψ xs ρ) ∨ (∃ xs, t = .w (.d (.tuple xs)) ∧ Ψ xs ρ) ∨ ∃ z, t = .w (.d (.str z)) ∧ Ψ (z.cps.toList.map fun c => PyData.str ⟨#[c]⟩) ρ
theorem JI_any (h : J K B te ρ (QFz (QIA Ψ))) : JI K B (iAny K te) ρ Ψ := fun G τ vs σ F H R r k => J_fz h _ τ vs σ F H _ r fun t u ρ' F' H' r' q => by
  rcases q with ⟨xs, e, q⟩ | ⟨xs, e, q⟩ | ⟨z, e, q⟩
  · subst e
    have := r'.topD
    cases this with
    | lst g1 g2 => exact .inl ⟨_, rfl, ⟨_, SqL.of (r'.sub _ _ g1)⟩, k _ _ _ _ _ r'.pop (it_list g1 g2) q⟩
  · subst e
    have := r'.topD
    cases this with
    | tup g1 g2 => exact .inr (.inl ⟨_, rfl, ⟨_, g1.sub r'.sub⟩, k _ _ _ _ _ r'.pop (it_tup g1 g2) q⟩)
  · subst e
    have := r'.topD
    cases this
    exact .inr (.inr ⟨z, rfl, k _ _ _ _ _ r'.pop it_str q⟩)
theorem x_IAL {xs : List PyData} (h : Ψ xs ρ) : QIA Ψ (.w (.d (.list xs))) ρ := .inl ⟨xs, rfl, h⟩
theorem x_IAT {xs : List PyData} (h : Ψ xs ρ) : QIA Ψ (.w (.d (.tuple xs))) ρ := .inr (.inl ⟨xs, rfl, h⟩)
theorem x_IAS {z : Str} (h : Ψ (z.cps.toList.map fun c => PyData.str ⟨#[c]⟩) ρ) : QIA Ψ (.w (.d (.str z))) ρ := .inr (.inr ⟨z, rfl, h⟩)
def QI2A (Ψ : List PyData → Env → Prop) (ts : List T) (ρ : Env) : Prop := ∃ xs ys, (ts = [.w (.d (.list xs)), .w (.d (.list ys))] ∨ ts = [.w (.d (.tuple xs)), .w (.d (.tuple ys))]) ∧ Ψ (zipD xs ys) ρ
theorem x_QI2AL {xs ys : List PyData} (h : Ψ (zipD xs ys) ρ) : QI2A Ψ [.w (.d (.list xs)), .w (.d (.list ys))] ρ := ⟨xs, ys, .inl rfl, h⟩
theorem x_QI2AT {xs ys : List PyData} (h : Ψ (zipD xs ys) ρ) : QI2A Ψ [.w (.d (.tuple xs)), .w (.d (.tuple ys))] ρ := ⟨xs, ys, .inr rfl, h⟩
theorem it_zipT {a b : Addr} {us ws : List V} {xs ys : List PyData} {F : Hp} (ha : SqT K F a us) (hb : SqT K F b ws) (d : DqAll K F us xs) (d2 : DqAll K F ws ys) : ItOk K (ItzT K a b) (zipD xs ys) F := by
  refine ⟨fun F' H' i s1 s2 hi => ?_, fun F' H' s1 s2 => ⟨us, ws, (ha.sub s1).sub s2, (hb.sub s1).sub s2, by rw [zipD_len, d.len, d2.len]; omega⟩, fun F' H' i x u H'' s1 s2 e y => ?_⟩
  · rw [zipD_len] at hi
    have h1 : i < us.length := by rw [d.len]; omega
    have h2 : i < ws.length := by rw [d2.len]; omega
    exact ⟨us, ws, us[i], ws[i], (ha.sub s1).sub s2, (hb.sub s1).sub s2, List.getElem?_eq_getElem h1, List.getElem?_eq_getElem h2⟩
  · obtain ⟨x, z, e1, e2, rfl⟩ := zipD_get e
    obtain ⟨T, p, q, rfl, n, eh, e3, e4⟩ := y
    obtain ⟨v, e5, e6⟩ := d.get e1
    obtain ⟨v', e7, e8⟩ := d2.get e2
    rw [e3 us ((ha.sub s1).sub s2)] at e5; cases e5
    rw [e4 ws ((hb.sub s1).sub s2)] at e7; cases e7
    exact yld_pair s2 n eh (e6.sub s1) (e8.sub s1)
theorem JI_zipA (h : JA K B tr ρ (QI2A Ψ)) : JI K B (iZipA K tr) ρ Ψ := fun G τ vs σ F H R r k => h _ τ vs σ F H _ r fun ts us ρ' F' H' l r' ⟨xs, ys, e, q⟩ => by
  rcases e with e | e
  · subst e
    obtain ⟨u, u', rfl⟩ := two_args l rfl
    have r1 : Rel K B G ρ' σ (.w (.d (.list ys)) :: .w (.d (.list xs)) :: τ) (u' :: u :: vs) F' H' := by simpa using r'
    have h1 := r1.topD
    have h2 := r1.pop.topD
    cases h1 with
    | lst g1 g2 => cases h2 with | lst g3 g4 => exact ⟨_, _, _, _, rfl, .inl ⟨SqL.of (r1.sub _ _ g3), SqL.of (r1.sub _ _ g1), k _ _ _ _ _ r1.pop.pop (it_zip g3 g1 g4 g2) q⟩⟩
  · subst e
    obtain ⟨u, u', rfl⟩ := two_args l rfl
    have r1 : Rel K B G ρ' σ (.w (.d (.tuple ys)) :: .w (.d (.tuple xs)) :: τ) (u' :: u :: vs) F' H' := by simpa using r'
    have h1 := r1.topD
    have h2 := r1.pop.topD
    cases h1 with
    | tup g1 g2 => cases h2 with | tup g3 g4 => exact ⟨_, _, _, _, rfl, .inr ⟨g3.sub r1.sub, g1.sub r1.sub, k _ _ _ _ _ r1.pop.pop (it_zipT g3 g1 g4 g2) q⟩⟩
def QIEA (k : Int) (Ψ : List PyData → Env → Prop) (ts : List T) (ρ : Env) : Prop := ∃ xs, (ts = [.w (.d (.list xs))] ∨ ts = [.w (.d (.tuple xs))]) ∧ Ψ (enumD k xs) ρ
theorem it_enumL {a : Addr} {us : List V} {xs : List PyData} {F : Hp} {c0 : Int} (h : F a = some (.lst us)) (d : DqAll K F us xs) : ItOk K (IteL K a c0) (enumD c0 xs) F := by
  refine ⟨fun F' H' i s1 s2 hi => ?_, fun F' H' s1 s2 => ⟨us, SqL.of (s2 _ _ (s1 _ _ h)), by rw [enumD_len, d.len]; exact Nat.le_refl _⟩, fun F' H' i x u H'' s1 s2 e y => ?_⟩
  · have hi2 : i < us.length := by rw [d.len]; rw [enumD_len] at hi; exact hi
    exact ⟨us, us[i], SqL.of (s2 _ _ (s1 _ _ h)), List.getElem?_eq_getElem hi2⟩
  · obtain ⟨x, e1, rfl⟩ := enumD_get e
    obtain ⟨T, p, rfl, n, eh, e3⟩ := y
    obtain ⟨v, e4, e5⟩ := d.get e1
    have e6 := e3 us (SqL.of (s2 _ _ (s1 _ _ h)))
    rw [e6] at e4; cases e4
    exact yld_pair s2 n eh (.int _) (e5.sub s1)
theorem JI_enumA {c0 : Int} (h : JA K B tr ρ (QIEA c0 Ψ)) : JI K B (iEnumA K tr c0) ρ Ψ := fun G τ vs σ F H R r k => h _ τ vs σ F H _ r fun ts us ρ' F' H' l r' ⟨xs, e, q⟩ => by
  rcases e with e | e
  · subst e
    obtain ⟨u, rfl⟩ := one_arg l rfl
    have r1 : Rel K B G ρ' σ (.w (.d (.list xs)) :: τ) (u :: vs) F' H' := by simpa using r'
    have := r1.topD
    cases this with
    | lst g1 g2 => exact ⟨_, _, rfl, .inl ⟨SqL.of (r1.sub _ _ g1), k _ _ _ _ _ r1.pop (it_enumL g1 g2) q⟩⟩
  · subst e
    obtain ⟨u, rfl⟩ := one_arg l rfl
    have r1 : Rel K B G ρ' σ (.w (.d (.tuple xs)) :: τ) (u :: vs) F' H' := by simpa using r'
    have := r1.topD
    cases this with
    | tup g1 g2 => exact ⟨_, _, rfl, .inr ⟨g1.sub r1.sub, k _ _ _ _ _ r1.pop (it_enumT g1 g2) q⟩⟩
theorem x_IEL {c0 : Int} {xs : List PyData} (h : Ψ (enumD c0 xs) ρ) : QIEA c0 Ψ [.w (.d (.list xs))] ρ := ⟨xs, .inl rfl, h⟩
theorem x_IET {c0 : Int} {xs : List PyData} (h : Ψ (enumD c0 xs) ρ) : QIEA c0 Ψ [.w (.d (.tuple xs))] ρ := ⟨xs, .inr rfl, h⟩
def rLenA (K : PySem.W.Frag) : List V → Hp → VK → Prop := fun xs H Q => ∃ x n, xs = [x] ∧ LenV K x H n ∧ Q (.int n) H
theorem call_lenA {X : L2.Cx} : CallR X (.builtin "len") (rLenA X.K) := call_len
theorem cj_lenA : CallJ K B (rLenA K) QLen := cj_len
/-- targets unpacked from a tuple, a list -/
def gAny (K : PySem.W.Frag) (n : Nat) (t : TGs) : TG := fun v σ H Q => gTup K n t v σ H Q ∨ L2.gLst K n t v σ H Q
theorem pg_any {X : L2.Cx} {es : List Expr} {k : Nat} {t : TGs} {n : Nat} {pos : Pos} (hc : X.calm = true) (h : PGs X es t)
    (hn : (assignEach es X.env).length = n := by rfl) (hst : (assignEach es X.env).findIdx? (·.1) = none := by rfl) : PG X (.Tuple es k pos) (gAny X.K n t) := by
  refine ⟨fun pins s σ H v u Q I r hw => ?_⟩
  rcases hw with hw | hw
  · exact (pg_tup hc h hn hst).run pins s σ H v u Q I r hw
  · exact (L2.pg_lst hc h hn hst).run pins s σ H v u Q I r hw
theorem J_gAnyT {b : Bool} {n : Nat} {g : TGs} {xs : List PyData} (l : xs.length = n) (h : JGs K B b g xs ρ ΦE) : JG K B b (gAny K n g) (.w (.d (.tuple xs))) ρ ΦE := fun G τ vs u σ F H Q hb r k => .inl (J_gTup l h G τ vs u σ F H Q hb r k)
theorem J_gAnyL {b : Bool} {n : Nat} {g : TGs} {xs : List PyData} (l : xs.length = n) (h : JGs K B b g xs ρ ΦE) : JG K B b (gAny K n g) (.w (.l xs)) ρ ΦE := fun G τ vs u σ F H Q hb r k => .inr (by
  obtain ⟨f, p, us, rfl, rfl, h1, h2⟩ := r.top
  exact ⟨p, us, rfl, SqL.of h1, by rw [h2.len]; exact l, h _ τ vs us σ F H Q hb r.pop h2 fun σ' ρ' F' H' r' q => k σ' ρ' F' H' r' q⟩)
theorem J_gAnyD {b : Bool} {n : Nat} {g : TGs} {xs : List PyData} (l : xs.length = n) (h : JGs K B b g xs ρ ΦE) : JG K B b (gAny K n g) (.w (.d (.list xs))) ρ ΦE := fun G τ vs u σ F H Q hb r k => .inr (by
  have d := r.topD
  cases d with
  | @lst a us _ h1 h2 => exact ⟨a, us, rfl, SqL.of (r.sub _ _ h1), by rw [h2.len]; exact l, h _ τ vs us σ F H Q hb r.pop h2 fun σ' ρ' F' H' r' q => k σ' ρ' F' H' r' q⟩)
theorem JH_any {vs : List Nat} {n : Nat} {g : TGs} {xs : List PyData} (l : xs.length = n) (h : JHs K B vs g xs ρ ΦE) : JH K B vs (gAny K n g) (.tuple xs) ρ ΦE := fun G τ us u σ F H Q r d k => .inl (JH_tup l h G τ us u σ F H Q r d k)
theorem JH_anyL {vs : List Nat} {n : Nat} {g : TGs} {xs : List PyData} (l : xs.length = n) (h : JHs K B vs g xs ρ ΦE) : JH K B vs (gAny K n g) (.list xs) ρ ΦE := fun G τ us u σ F H Q r d k => .inr (by
  cases d with
  | @lst a ws _ h1 h2 => exact ⟨a, ws, rfl, SqL.of (r.sub _ _ h1), by rw [h2.len]; exact l, h _ τ us ws σ F H Q r h2 k⟩)
theorem own1 {a : Str} {i : Nat} : List.map (fun x : Str × Nat => x.2) [(a, i)] = [i] := rfl
theorem own2 {a b : Str} {i j : Nat} : List.map (fun x : Str × Nat => x.2) [(a, i), (b, j)] = [i, j] := rfl
theorem own3 {a b c : Str} {i j k : Nat} : List.map (fun x : Str × Nat => x.2) [(a, i), (b, j), (c, k)] = [i, j, k] := rfl
theorem J_lcO {wi : TI} {g : TG} {own : List (Str × Nat)} {vs : List Nat} (e : own.map (·.2) = vs) (h : JI K B wi ρ (QLcU K B g tt te vs Φ)) : J K B (tLc wi g tt te (own.map (·.2))) ρ Φ := by subst e; exact J_lc h
end
end WD

set_option Elab.async false
set_option linter.all false
set_option maxRecDepth 100000
set_option maxHeartbeats 1000000
namespace WD
open PySem PySem.Spec PyProof.Rows L2 RZ
/-! the steps of the walk, found by what stands in front -/
theorem ixN_nat' {n i : Nat} (h : i < n) : ixN n (i : Int) = some i := by
  unfold ixN
  rw [if_pos (by omega), if_pos (by omega)]; simp
class Stp (g : Prop) (h : outParam Prop) : Prop where
  imp : h → g
class SlotAt (ρ : Env) (i : Nat) (o : outParam (Option W)) : Prop where
  eq : ρ[i]? = some o
class SetAt (ρ : Env) (i : Nat) (o : Option W) (ρ' : outParam Env) : Prop where
  eq : ρ.set i o = ρ'
  lt : i < ρ.length
class Vw (t : T) (ρ : Env) (d : outParam PyData) : Prop where
  eq : t.view ρ = some d
instance {o : Option W} {ρ : Env} : SlotAt (o :: ρ) 0 o := ⟨rfl⟩
instance {o a : Option W} {ρ : Env} {i : Nat} [h : SlotAt ρ i o] : SlotAt (a :: ρ) (i + 1) o := ⟨by simpa using h.eq⟩
instance {o a : Option W} {ρ : Env} : SetAt (a :: ρ) 0 o (o :: ρ) := ⟨rfl, by simp⟩
instance {o a : Option W} {ρ ρ' : Env} {i : Nat} [h : SetAt ρ i o ρ'] : SetAt (a :: ρ) (i + 1) o (a :: ρ') := ⟨by rw [List.set_cons_succ, h.eq], by simpa using h.lt⟩
instance {x : PyData} {ρ : Env} : Vw (.w (.d x)) ρ x := ⟨rfl⟩
instance {xs : List PyData} {ρ : Env} : Vw (.w (.l xs)) ρ (.list xs) := ⟨rfl⟩
instance {i : Nat} {xs : List PyData} {ρ : Env} [h : SlotAt ρ i (some (.l xs))] : Vw (.p i) ρ (.list xs) := ⟨by simp only [T.view, h.eq]; rfl⟩
instance {i : Nat} {p : Addr} {xs : List PyData} {ρ : Env} [h : SlotAt ρ i (some (.r p xs))] : Vw (.p i) ρ (.list xs) := ⟨by simp only [T.view, h.eq]; rfl⟩
instance {i : Nat} {x : PyData} {ρ : Env} [h : SlotAt ρ i (some (.d x))] : Vw (.p i) ρ x := ⟨by simp only [T.view, h.eq]; rfl⟩
section
variable {K : PySem.W.Frag} {B : Base} {G : Hp} {ρ ρ' : Env} {Φ : T → Env → Prop} {E : JE} {ta tb tc te : TE} {t u : TS} {tt tt' : TT} {i : Nat} {ΦB : Bool → Env → Prop} {ΦL : List T → Env → Prop} {ΦE : Env → Prop} {tr : TA} {Ψ : List PyData → Env → Prop}
  {n b c : Env → Prop} {r : W → Env → Prop} {g : TG} {gs : TGs} {v w : T} {x y : PyData} {xs ys : List PyData} {k m : Int} {z s : Str} {p q : Bool}
-- statements
instance : Stp (JS K B (tSeq t u) ρ ⟨n, r, b, c⟩) (JS K B t ρ ⟨fun ρ1 => JS K B u ρ1 ⟨n, r, b, c⟩, r, b, c⟩) := ⟨J_seq (E := ⟨n, r, b, c⟩)⟩
instance : Stp (JS K B tNext ρ ⟨n, r, b, c⟩) (n ρ) := ⟨J_next (E := ⟨n, r, b, c⟩)⟩
instance : Stp (JS K B tBreak ρ ⟨n, r, b, c⟩) (b ρ) := ⟨J_brk (E := ⟨n, r, b, c⟩)⟩
instance : Stp (JS K B tCont ρ ⟨n, r, b, c⟩) (c ρ) := ⟨J_cont (E := ⟨n, r, b, c⟩)⟩
instance : Stp (JS K B (tIfS tt t u) ρ E) (JT K B tt ρ fun b ρ1 => if b = true then JS K B t ρ1 E else JS K B u ρ1 E) := ⟨J_ifS⟩
instance : Stp (JS K B (tAsg te g) ρ ⟨n, r, b, c⟩) (J K B te ρ fun t ρ1 => JG K B true g t ρ1 n) := ⟨J_asg (E := ⟨n, r, b, c⟩)⟩
instance : Stp (JS K B (tDrop te) ρ ⟨n, r, b, c⟩) (J K B te ρ fun _ ρ1 => n ρ1) := ⟨J_drop (E := ⟨n, r, b, c⟩)⟩
instance : Stp (JS K B (tRet te) ρ E) (J K B te ρ (RetQ E)) := ⟨J_ret⟩
instance {y : W} : Stp (RetQ ⟨n, r, b, c⟩ (.w y) ρ) (r y ρ) := ⟨J_retW (E := ⟨n, r, b, c⟩)⟩
instance {y : W} [h : SlotAt ρ i (some y)] [h2 : SetAt ρ i none ρ'] : Stp (RetQ ⟨n, r, b, c⟩ (.p i) ρ) (r y ρ') := ⟨J_retP (E := ⟨n, r, b, c⟩) h.eq h2.eq⟩
instance : Stp (JS K B tRetN ρ ⟨n, r, b, c⟩) (r (.d .none) ρ) := ⟨J_retN (E := ⟨n, r, b, c⟩)⟩
instance {wi : TI} {g : TG} {tb : TS} : Stp (JS K B (tFor wi g tb) ρ E) (JI K B wi ρ (QFor K B g tb E)) := ⟨J_for⟩
instance {f : Int → Int → Int} [h : SlotAt ρ i (some (.d (.int k)))] : Stp (JS K B (tAug i te (ipI f)) ρ ⟨n, r, b, c⟩) (J K B te ρ (QAug f i k n)) := ⟨J_aug (E := ⟨n, r, b, c⟩) h.eq⟩
instance {f : Int → Int → Int} [h : SetAt ρ i (some (.d (.int (f k m)))) ρ'] : Stp (QAug f i k ΦE (.w (.d (.int m))) ρ) (ΦE ρ') := ⟨x_QAug h.eq h.lt⟩
instance {to ti : TE} {f : Int → Int → Int} : Stp (JS K B (tAugS to ti te (rGetL K) (ipI f) rSetL) ρ ⟨n, r, b, c⟩) (J K B to ρ fun o ρ1 => J K B ti ρ1 fun k ρ2 => QAugS K B te f n o k ρ2) := ⟨J_augS (E := ⟨n, r, b, c⟩)⟩
-- targets
instance {y : W} [h : SetAt ρ i (some y) ρ'] : Stp (JG K B true (gName i) (.w y) ρ ΦE) (ΦE ρ') := ⟨J_gName h.eq h.lt (Or.inl rfl)⟩
instance {b : Bool} {x1 x2 : PyData} : Stp (JG K B b (gAny K 2 gs) (.w (.d (.tuple [x1, x2]))) ρ ΦE) (JGs K B b gs [x1, x2] ρ ΦE) := ⟨J_gAnyT rfl⟩
instance {b : Bool} {x1 x2 : PyData} : Stp (JG K B b (gAny K 2 gs) (.w (.d (.list [x1, x2]))) ρ ΦE) (JGs K B b gs [x1, x2] ρ ΦE) := ⟨J_gAnyD rfl⟩
instance {b : Bool} {x1 x2 : PyData} : Stp (JG K B b (gAny K 2 gs) (.w (.l [x1, x2])) ρ ΦE) (JGs K B b gs [x1, x2] ρ ΦE) := ⟨J_gAnyL rfl⟩
instance {b : Bool} {x1 x2 x3 : PyData} : Stp (JG K B b (gAny K 3 gs) (.w (.d (.tuple [x1, x2, x3]))) ρ ΦE) (JGs K B b gs [x1, x2, x3] ρ ΦE) := ⟨J_gAnyT rfl⟩
instance {b : Bool} {x1 x2 x3 : PyData} : Stp (JG K B b (gAny K 3 gs) (.w (.d (.list [x1, x2, x3]))) ρ ΦE) (JGs K B b gs [x1, x2, x3] ρ ΦE) := ⟨J_gAnyD rfl⟩
instance {b : Bool} {x1 x2 x3 : PyData} : Stp (JG K B b (gAny K 3 gs) (.w (.l [x1, x2, x3])) ρ ΦE) (JGs K B b gs [x1, x2, x3] ρ ΦE) := ⟨J_gAnyL rfl⟩
instance {b : Bool} {x1 x2 x3 x4 : PyData} : Stp (JG K B b (gAny K 4 gs) (.w (.d (.tuple [x1, x2, x3, x4]))) ρ ΦE) (JGs K B b gs [x1, x2, x3, x4] ρ ΦE) := ⟨J_gAnyT rfl⟩
instance {b : Bool} {x1 x2 x3 x4 : PyData} : Stp (JG K B b (gAny K 4 gs) (.w (.d (.list [x1, x2, x3, x4]))) ρ ΦE) (JGs K B b gs [x1, x2, x3, x4] ρ ΦE) := ⟨J_gAnyD rfl⟩
instance {b : Bool} {x1 x2 x3 x4 : PyData} : Stp (JG K B b (gAny K 4 gs) (.w (.l [x1, x2, x3, x4])) ρ ΦE) (JGs K B b gs [x1, x2, x3, x4] ρ ΦE) := ⟨J_gAnyL rfl⟩
instance {b : Bool} {x1 x2 x3 x4 x5 : PyData} : Stp (JG K B b (gAny K 5 gs) (.w (.d (.tuple [x1, x2, x3, x4, x5]))) ρ ΦE) (JGs K B b gs [x1, x2, x3, x4, x5] ρ ΦE) := ⟨J_gAnyT rfl⟩
instance {b : Bool} {x1 x2 x3 x4 x5 : PyData} : Stp (JG K B b (gAny K 5 gs) (.w (.d (.list [x1, x2, x3, x4, x5]))) ρ ΦE) (JGs K B b gs [x1, x2, x3, x4, x5] ρ ΦE) := ⟨J_gAnyD rfl⟩
instance {b : Bool} {x1 x2 x3 x4 x5 : PyData} : Stp (JG K B b (gAny K 5 gs) (.w (.l [x1, x2, x3, x4, x5])) ρ ΦE) (JGs K B b gs [x1, x2, x3, x4, x5] ρ ΦE) := ⟨J_gAnyL rfl⟩
instance {b : Bool} {x1 x2 x3 x4 x5 x6 : PyData} : Stp (JG K B b (gAny K 6 gs) (.w (.d (.tuple [x1, x2, x3, x4, x5, x6]))) ρ ΦE) (JGs K B b gs [x1, x2, x3, x4, x5, x6] ρ ΦE) := ⟨J_gAnyT rfl⟩
instance {b : Bool} {x1 x2 x3 x4 x5 x6 : PyData} : Stp (JG K B b (gAny K 6 gs) (.w (.d (.list [x1, x2, x3, x4, x5, x6]))) ρ ΦE) (JGs K B b gs [x1, x2, x3, x4, x5, x6] ρ ΦE) := ⟨J_gAnyD rfl⟩
instance {b : Bool} {x1 x2 x3 x4 x5 x6 : PyData} : Stp (JG K B b (gAny K 6 gs) (.w (.l [x1, x2, x3, x4, x5, x6])) ρ ΦE) (JGs K B b gs [x1, x2, x3, x4, x5, x6] ρ ΦE) := ⟨J_gAnyL rfl⟩
instance {b : Bool} {x1 x2 x3 x4 x5 x6 x7 : PyData} : Stp (JG K B b (gAny K 7 gs) (.w (.d (.tuple [x1, x2, x3, x4, x5, x6, x7]))) ρ ΦE) (JGs K B b gs [x1, x2, x3, x4, x5, x6, x7] ρ ΦE) := ⟨J_gAnyT rfl⟩
instance {b : Bool} {x1 x2 x3 x4 x5 x6 x7 : PyData} : Stp (JG K B b (gAny K 7 gs) (.w (.d (.list [x1, x2, x3, x4, x5, x6, x7]))) ρ ΦE) (JGs K B b gs [x1, x2, x3, x4, x5, x6, x7] ρ ΦE) := ⟨J_gAnyD rfl⟩
instance {b : Bool} {x1 x2 x3 x4 x5 x6 x7 : PyData} : Stp (JG K B b (gAny K 7 gs) (.w (.l [x1, x2, x3, x4, x5, x6, x7])) ρ ΦE) (JGs K B b gs [x1, x2, x3, x4, x5, x6, x7] ρ ΦE) := ⟨J_gAnyL rfl⟩
instance {b : Bool} {x1 x2 x3 x4 x5 x6 x7 x8 : PyData} : Stp (JG K B b (gAny K 8 gs) (.w (.d (.tuple [x1, x2, x3, x4, x5, x6, x7, x8]))) ρ ΦE) (JGs K B b gs [x1, x2, x3, x4, x5, x6, x7, x8] ρ ΦE) := ⟨J_gAnyT rfl⟩
instance {b : Bool} {x1 x2 x3 x4 x5 x6 x7 x8 : PyData} : Stp (JG K B b (gAny K 8 gs) (.w (.d (.list [x1, x2, x3, x4, x5, x6, x7, x8]))) ρ ΦE) (JGs K B b gs [x1, x2, x3, x4, x5, x6, x7, x8] ρ ΦE) := ⟨J_gAnyD rfl⟩
instance {b : Bool} {x1 x2 x3 x4 x5 x6 x7 x8 : PyData} : Stp (JG K B b (gAny K 8 gs) (.w (.l [x1, x2, x3, x4, x5, x6, x7, x8])) ρ ΦE) (JGs K B b gs [x1, x2, x3, x4, x5, x6, x7, x8] ρ ΦE) := ⟨J_gAnyL rfl⟩
instance {b : Bool} : Stp (JGs K B b (gCons g gs) (x :: xs) ρ ΦE) (JG K B b g (.w (.d x)) ρ fun ρ' => JGs K B b gs xs ρ' ΦE) := ⟨J_gCons⟩
instance {b : Bool} : Stp (JGs K B b gNil [] ρ ΦE) (ΦE ρ) := ⟨J_gNil⟩
instance {b : Bool} {to ti : TE} : Stp (JG K B b (gSub to ti rSetL) (.w (.d x)) ρ ΦE) (J K B to ρ fun o ρ1 => J K B ti ρ1 (QSet x ΦE o)) := ⟨J_gSub⟩
-- names, constants
instance [h : SlotAt ρ i (some (.d x))] : Stp (J K B (tVar i) ρ Φ) (Φ (.w (.d x)) ρ) := ⟨J_var h.eq⟩
instance {x : V} [h : SlotAt ρ i (some (.v x))] : Stp (J K B (tVar i) ρ Φ) (Φ (.w (.v x)) ρ) := ⟨J_varV h.eq⟩
instance [h : SlotAt ρ i (some (.l xs))] : Stp (J K B (tVar i) ρ Φ) (Φ (.p i) ρ) := ⟨J_varO h.eq rfl⟩
instance {a l : Addr} [h : SlotAt ρ i (some (.pool a l))] : Stp (J K B (tVar i) ρ Φ) (Φ (.p i) ρ) := ⟨J_varO h.eq rfl⟩
instance {a : Addr} [h : SlotAt ρ i (some (.r a xs))] : Stp (J K B (tVar i) ρ Φ) (Φ (.p i) ρ) := ⟨J_varO h.eq rfl⟩
instance {a : Addr} {qs : List Addr} {xss : List (List PyData)} [h : SlotAt ρ i (some (.hl a qs xss))] : Stp (J K B (tVar i) ρ Φ) (Φ (.p i) ρ) := ⟨J_varO h.eq rfl⟩
instance {a d : Addr} [h : SlotAt ρ i (some (.ex a d x))] : Stp (J K B (tVar i) ρ Φ) (Φ (.w (.ex a d x)) ρ) := ⟨J_varX h.eq⟩
instance {kvs : List (Key × PyData)} [h : SlotAt ρ i (some (.m kvs))] : Stp (J K B (tVar i) ρ Φ) (Φ (.p i) ρ) := ⟨J_varO h.eq rfl⟩
instance : Stp (J K B (tC (.int k)) ρ Φ) (Φ (.w (.d (.int k))) ρ) := ⟨J_cI⟩
instance : Stp (J K B (tC (.str z)) ρ Φ) (Φ (.w (.d (.str z))) ρ) := ⟨J_cS⟩
instance : Stp (J K B (tC (.bl p)) ρ Φ) (Φ (.w (.d (.bool p))) ρ) := ⟨J_cB⟩
instance : Stp (J K B (tC .non) ρ Φ) (Φ (.w (.d .none)) ρ) := ⟨J_cN⟩
instance {a : Addr} : Stp (J K B (tC (.ref a)) ρ Φ) (Φ (.w (.v (.ref a))) ρ) := ⟨J_cV⟩
instance {a : String} : Stp (J K B (tC (.ty a)) ρ Φ) (Φ (.w (.v (.ty a))) ρ) := ⟨J_cV⟩
-- operators
instance : Stp (J K B (tOp (rAddA K) ta tb) ρ Φ) (J K B ta ρ fun t ρ1 => J K B tb ρ1 fun u ρ2 => QAddA t u ρ2 Φ) := ⟨J_op oj_addA⟩
instance : Stp (J K B (tOp rMulA ta tb) ρ Φ) (J K B ta ρ fun t ρ1 => J K B tb ρ1 fun u ρ2 => QMulA t u ρ2 Φ) := ⟨J_op oj_mulA⟩
instance : Stp (J K B (tOp (rEqA K) ta tb) ρ Φ) (J K B ta ρ fun t ρ1 => J K B tb ρ1 fun u ρ2 => QEqA t u ρ2 Φ) := ⟨J_op oj_eqA⟩
instance : Stp (J K B (tOp (rNeA K) ta tb) ρ Φ) (J K B ta ρ fun t ρ1 => J K B tb ρ1 fun u ρ2 => QNeA t u ρ2 Φ) := ⟨J_op oj_neA⟩
instance : Stp (J K B (tOp (rIx K) ta tb) ρ Φ) (J K B ta ρ fun t ρ1 => J K B tb ρ1 fun u ρ2 => QIxA t u ρ2 Φ) := ⟨J_op oj_ixA⟩
instance {ng : Bool} : Stp (J K B (tOp (rIn K ng) ta tb) ρ Φ) (J K B ta ρ fun t ρ1 => J K B tb ρ1 fun u ρ2 => QIn ng t u ρ2 Φ) := ⟨J_op oj_in⟩
/-- a comparison by its outcome -/
class CmpR (K : PySem.W.Frag) (r : R2) (f : outParam (Int → Int → Bool)) (g : outParam (Str → Str → Bool)) : Prop where
  ok : ∀ {B}, OpJ K B r (QCmp f g)
instance : CmpR K (rLtA K) (fun i j => decide (i < j)) (fun i j => decide (i.cps.toList < j.cps.toList)) := ⟨oj_ltA⟩
instance : CmpR K (rLeA K) (fun i j => decide (i ≤ j)) (fun i j => !decide (j.cps.toList < i.cps.toList)) := ⟨oj_leA⟩
instance : CmpR K (rGtA K) (fun i j => decide (j < i)) (fun i j => decide (j.cps.toList < i.cps.toList)) := ⟨oj_gtA⟩
instance : CmpR K (rGeA K) (fun i j => decide (j ≤ i)) (fun i j => !decide (i.cps.toList < j.cps.toList)) := ⟨oj_geA⟩
instance {rr : R2} {f : Int → Int → Bool} {g : Str → Str → Bool} [h : CmpR K rr f g] : Stp (J K B (tOp rr ta tb) ρ Φ) (J K B ta ρ fun t ρ1 => J K B tb ρ1 fun u ρ2 => QCmp f g t u ρ2 Φ) := ⟨J_op h.ok⟩
instance {r1 r2 : R2} {f f' : Int → Int → Bool} {g g' : Str → Str → Bool} [h : CmpR K r1 f g] [h' : CmpR K r2 f' g'] : Stp (J K B (tChain r1 r2 ta tb tc) ρ Φ) (J K B ta ρ fun t ρ1 => J K B tb ρ1 fun u ρ2 => QCh K B (QCmp f g) (QCmp f' g') tc t u ρ2 Φ) := ⟨J_chain h.ok h'.ok⟩
instance {R R' : T → T → Env → (T → Env → Prop) → Prop} : Stp (QCh K B R R' tc v (.w (.d x)) ρ Φ) (R v (.w (.d x)) ρ (QB fun b ρ3 => if b = true then J K B tc ρ3 fun w' ρ4 => R' (.w (.d x)) w' ρ4 Φ else Φ (.w (.d (.bool false))) ρ3)) := ⟨x_QCh⟩
instance {f : Int → Int → Int} : Stp (J K B (tOp (rI0 fun i j => .int (f i j)) ta tb) ρ Φ) (J K B ta ρ fun t ρ1 => J K B tb ρ1 fun u ρ2 => PI2 (fun _ _ => True) (fun i j => .int (f i j)) t u ρ2 Φ) := ⟨J_op oj_I0i⟩
instance {C : Int → Int → Prop} {f : Int → Int → Int} : Stp (J K B (tOp (rI C fun i j => .int (f i j)) ta tb) ρ Φ) (J K B ta ρ fun t ρ1 => J K B tb ρ1 fun u ρ2 => PI2 C (fun i j => .int (f i j)) t u ρ2 Φ) := ⟨J_op oj_Ii⟩
instance {f : Int → Int → PyData} : Stp (PI2 (fun _ _ => True) f (.w (.d (.int k))) (.w (.d (.int m))) ρ Φ) (Φ (.w (.d (f k m))) ρ) := ⟨x_PI2 trivial⟩
instance : Stp (J K B (tOp (fun x y H Q => y = .non ∧ Q (.bl (decide (x = .non))) H) ta tb) ρ Φ) (J K B ta ρ fun t ρ1 => J K B tb ρ1 fun u ρ2 => u = .w (.d .none) ∧ ((∃ d, t.view ρ2 = some d ∧ Φ (.w (.d (.bool (isNoneD d)))) ρ2) ∨ ∃ v, t = .w (.v v) ∧ v ≠ .non ∧ Φ (.w (.d (.bool false))) ρ2)) := ⟨J_op oj_isN⟩
instance : Stp (J K B (tOp (fun x y H Q => y = .non ∧ Q (.bl (!decide (x = .non))) H) ta tb) ρ Φ) (J K B ta ρ fun t ρ1 => J K B tb ρ1 fun u ρ2 => u = .w (.d .none) ∧ ((∃ d, t.view ρ2 = some d ∧ Φ (.w (.d (.bool (!isNoneD d)))) ρ2) ∨ ∃ v, t = .w (.v v) ∧ v ≠ .non ∧ Φ (.w (.d (.bool true))) ρ2)) := ⟨J_op oj_notN⟩
instance : Stp (QAddA (.w (.d (.int k))) (.w (.d (.int m))) ρ Φ) (Φ (.w (.d (.int (k + m)))) ρ) := ⟨x_addI⟩
instance : Stp (QEqA (.w (.d (.int k))) (.w (.d (.int m))) ρ Φ) (Φ (.w (.d (.bool (decide (k = m))))) ρ) := ⟨x_eqI⟩
instance : Stp (QNeA (.w (.d (.int k))) (.w (.d (.int m))) ρ Φ) (Φ (.w (.d (.bool (!decide (k = m))))) ρ) := ⟨x_neI⟩
instance : Stp (QEqA (.w (.d (.str z))) (.w (.d (.str s))) ρ Φ) (Φ (.w (.d (.bool (decide (z = s))))) ρ) := ⟨x_eqS⟩
instance : Stp (QNeA (.w (.d (.str z))) (.w (.d (.str s))) ρ Φ) (Φ (.w (.d (.bool (!decide (z = s))))) ρ) := ⟨x_neS⟩
instance : Stp (QEqA (.w (.d (.bool p))) (.w (.d (.bool q))) ρ Φ) (Φ (.w (.d (.bool (p == q)))) ρ) := ⟨x_eqB⟩
instance : Stp (QNeA (.w (.d (.bool p))) (.w (.d (.bool q))) ρ Φ) (Φ (.w (.d (.bool (p != q)))) ρ) := ⟨x_neB⟩
instance {f : Int → Int → Bool} {g : Str → Str → Bool} : Stp (QCmp f g (.w (.d (.int k))) (.w (.d (.int m))) ρ Φ) (Φ (.w (.d (.bool (f k m)))) ρ) := ⟨x_cmpI⟩
instance {f : Int → Int → Bool} {g : Str → Str → Bool} : Stp (QCmp f g (.w (.d (.str z))) (.w (.d (.str s))) ρ Φ) (Φ (.w (.d (.bool (g z s)))) ρ) := ⟨x_cmpS⟩
instance {f : Int → Int} : Stp (J K B (tUn (rU fun i => .int (f i)) ta) ρ Φ) (J K B ta ρ fun t ρ1 => ∃ i, t = .w (.d (.int i)) ∧ Φ (.w (.d (.int (f i)))) ρ1) := ⟨J_unI⟩
instance {P : Int → Prop} : Stp (∃ i, T.w (.d (.int k)) = .w (.d (.int i)) ∧ P i) (P k) := ⟨x_I1⟩
instance {P : Int → Int → Prop} : Stp (∃ i j, T.w (.d (.int k)) = .w (.d (.int i)) ∧ T.w (.d (.int m)) = .w (.d (.int j)) ∧ P i j) (P k m) := ⟨x_I2⟩
-- tests
instance : Stp (JT K B (tTest te) ρ ΦB) (J K B te ρ (QB ΦB)) := ⟨JT_test⟩
instance : Stp (JT K B (tB te) ρ ΦB) (J K B te ρ (QB ΦB)) := ⟨JT_B⟩
instance : Stp (QB ΦB (.w (.d (.bool p))) ρ) (ΦB p ρ) := ⟨x_QB⟩
instance : Stp (JT K B (tAnd tt tt') ρ ΦB) (JT K B tt ρ fun b ρ1 => if b = true then JT K B tt' ρ1 ΦB else ΦB false ρ1) := ⟨JT_and⟩
instance : Stp (JT K B (tOr tt tt') ρ ΦB) (JT K B tt ρ fun b ρ1 => if b = true then ΦB true ρ1 else JT K B tt' ρ1 ΦB) := ⟨JT_or⟩
instance : Stp (JT K B (tNot tt) ρ ΦB) (JT K B tt ρ fun b ρ1 => ΦB (!b) ρ1) := ⟨JT_not⟩
instance : Stp (JT K B tYes ρ ΦB) (ΦB true ρ) := ⟨JT_yes⟩
instance : Stp (J K B (tNotV te) ρ Φ) (J K B te ρ (QB fun b ρ1 => Φ (.w (.d (.bool !b))) ρ1)) := ⟨J_notV⟩
instance : Stp (J K B (tAndV ta tb) ρ Φ) (J K B ta ρ (QB fun b ρ1 => if b = true then J K B tb ρ1 Φ else Φ (.w (.d (.bool false))) ρ1)) := ⟨J_andV⟩
instance : Stp (J K B (tOrV ta tb) ρ Φ) (J K B ta ρ (QB fun b ρ1 => if b = true then Φ (.w (.d (.bool true))) ρ1 else J K B tb ρ1 Φ)) := ⟨J_orV⟩
instance : Stp (J K B (tIf tt ta tb) ρ Φ) (JT K B tt ρ fun b ρ1 => if b = true then J K B ta ρ1 Φ else J K B tb ρ1 Φ) := ⟨J_if⟩
-- arguments, tuples, lists
instance : Stp (QFz Φ (.w (.d x)) ρ) (Φ (.w (.d x)) ρ) := ⟨x_FzD⟩
instance {x : V} : Stp (QFz Φ (.w (.v x)) ρ) (Φ (.w (.v x)) ρ) := ⟨x_FzV⟩
instance : Stp (QFz Φ (.w (.l xs)) ρ) (Φ (.w (.d (.list xs))) ρ) := ⟨x_FzN⟩
instance {a l : Addr} : Stp (QFz Φ (.w (.pool a l)) ρ) (Φ (.w (.pool a l)) ρ) := ⟨x_FzO⟩
instance [h : SlotAt ρ i (some (.l xs))] [h2 : SetAt ρ i (some (.d (.list xs))) ρ'] : Stp (QFz Φ (.p i) ρ) (Φ (.w (.d (.list xs))) ρ') := ⟨x_FzL h.eq h2.eq⟩
instance {a : Addr} [h : SlotAt ρ i (some (.r a xs))] : Stp (QFz Φ (.p i) ρ) (Φ (.p i) ρ) := ⟨x_FzR h.eq⟩
instance {a : Addr} {qs : List Addr} {xss : List (List PyData)} [h : SlotAt ρ i (some (.hl a qs xss))] [h2 : SetAt ρ i (some (.d (.list (xss.map PyData.list)))) ρ'] : Stp (QFz Φ (.p i) ρ) (Φ (.w (.d (.list (xss.map PyData.list)))) ρ') := ⟨x_FzH h.eq h2.eq⟩
instance {a : Addr} {qs : List Addr} {xss : List (List PyData)} : Stp (QFz Φ (.w (.hl a qs xss)) ρ) (Φ (.w (.d (.list (xss.map PyData.list)))) ρ) := ⟨fun h => h⟩
instance {a d : Addr} : Stp (QFz Φ (.w (.ex a d x)) ρ) (Φ (.w (.ex a d x)) ρ) := ⟨fun h => h⟩
instance {a l : Addr} [h : SlotAt ρ i (some (.pool a l))] : Stp (QFz Φ (.p i) ρ) (Φ (.p i) ρ) := ⟨x_FzP h.eq⟩
instance : Stp (JA K B (tCons ta tr) ρ ΦL) (J K B ta ρ (QFz fun t ρ1 => JA K B tr ρ1 fun ts ρ2 => ΦL (t :: ts) ρ2)) := ⟨JA_cons⟩
instance : Stp (JA K B tNil ρ ΦL) (ΦL [] ρ) := ⟨JA_nil⟩
instance : Stp (JN K B (tCons ta tr) ρ ΦL) (J K B ta ρ fun t ρ1 => JN K B tr ρ1 fun ts ρ2 => ΦL (t :: ts) ρ2) := ⟨JN_cons⟩
instance : Stp (JN K B tNil ρ ΦL) (ΦL [] ρ) := ⟨JN_nil⟩
instance : Stp (J K B (tTup tr) ρ Φ) (JA K B tr ρ (QTup Φ)) := ⟨J_tup⟩
instance : Stp (J K B (tLst tr) ρ Φ) (JA K B tr ρ (QLst Φ)) := ⟨J_lst⟩
class Dat (ts : List T) (xs : outParam (List PyData)) : Prop where
  eq : datas ts = some xs
instance : Dat [] [] := ⟨rfl⟩
instance {ts : List T} [h : Dat ts xs] : Dat (.w (.d x) :: ts) (x :: xs) := ⟨by simp [datas, T.data, h.eq]⟩
theorem small_le {α : Type} {l : List α} {n : Nat} (h : Nat.ble l.length 1000 = true) : l.length ≤ sizeLine := Nat.le_trans (Nat.le_of_ble_eq_true h) (by decide)
class Sml (ts : List T) : Prop where
  le : ts.length ≤ sizeLine
instance : Sml [] := ⟨Nat.zero_le _⟩
instance {a : T} : Sml [a] := ⟨small_le (n := 0) rfl⟩
instance {a b : T} : Sml [a, b] := ⟨small_le (n := 0) rfl⟩
instance {a b c : T} : Sml [a, b, c] := ⟨small_le (n := 0) rfl⟩
instance {a b c d : T} : Sml [a, b, c, d] := ⟨small_le (n := 0) rfl⟩
instance {a b c d e : T} : Sml [a, b, c, d, e] := ⟨small_le (n := 0) rfl⟩
instance {a b c d e f : T} : Sml [a, b, c, d, e, f] := ⟨small_le (n := 0) rfl⟩
instance {a b c d e f g : T} : Sml [a, b, c, d, e, f, g] := ⟨small_le (n := 0) rfl⟩
instance {a b c d e f g h : T} : Sml [a, b, c, d, e, f, g, h] := ⟨small_le (n := 0) rfl⟩
instance {a b c d e f g h i : T} : Sml [a, b, c, d, e, f, g, h, i] := ⟨small_le (n := 0) rfl⟩
instance {ts : List T} [h : Dat ts xs] [h2 : Sml ts] : Stp (QTup Φ ts ρ) (Φ (.w (.d (.tuple xs))) ρ) := ⟨x_QTup h.eq h2.le⟩
instance {ts : List T} [h : Dat ts xs] [h2 : Sml ts] : Stp (QLst Φ ts ρ) (Φ (.w (.l xs)) ρ) := ⟨x_QLst h.eq h2.le⟩
-- calls
class Arg0 (ρ : Env) (ts : List T) (ws : outParam (List W)) : Prop where
  eq : argsW ρ ts = some ws
  n : npool ws = 0
class Arg1 (ρ : Env) (ts : List T) (ws : outParam (List W)) : Prop where
  eq : argsW ρ ts = some ws
  n : npool ws ≤ 1
instance : Arg0 ρ [] [] := ⟨rfl, rfl⟩
instance {ts : List T} {ws : List W} [h : Arg0 ρ ts ws] : Arg0 ρ (.w (.d x) :: ts) (.d x :: ws) := ⟨by simp [argsW, argW, h.eq], h.n⟩
instance {x : V} {ts : List T} {ws : List W} [h : Arg0 ρ ts ws] : Arg0 ρ (.w (.v x) :: ts) (.v x :: ws) := ⟨by simp [argsW, argW, h.eq], h.n⟩
instance {ts : List T} {ws : List W} [h : Arg0 ρ ts ws] : Arg1 ρ ts ws := ⟨h.eq, by rw [h.n]; exact Nat.zero_le _⟩
instance {a l : Addr} {ts : List T} {ws : List W} [h : SlotAt ρ i (some (.pool a l))] [h2 : Arg0 ρ ts ws] : Arg1 ρ (.p i :: ts) (.pool a l :: ws) := ⟨by simp [argsW, argW, h.eq, h2.eq], by simp [npool, h2.n]⟩
instance {a : Addr} {ts : List T} {ws : List W} [h : SlotAt ρ i (some (.r a xs))] [h2 : Arg0 ρ ts ws] : Arg1 ρ (.p i :: ts) (.r a xs :: ws) := ⟨by simp [argsW, argW, h.eq, h2.eq], by simp [npool, h2.n]⟩
instance {ts : List T} {ws : List W} [h : Arg1 ρ ts ws] : Arg1 ρ (.w (.d x) :: ts) (.d x :: ws) := ⟨by simp [argsW, argW, h.eq], h.n⟩
instance {psp : PSp} {Ξ : Addr → PyData → Env → Prop} {ts : List T} {ws : List W} [h : Arg1 ρ ts ws] : Stp (QCall psp Ξ Φ ts ρ) (psp ws (fun w => Φ (.w w) ρ) (fun C x => Ξ C x ρ)) := ⟨x_QCall h.eq h.n⟩
instance {X : XK} : Stp (J K B (tCall sp_draw [] X tr) ρ Φ) (JA K B tr ρ (QDraw Φ)) := ⟨J_draw⟩
-- builtins
instance : Stp (J K B (tCB (rLenA K) tr) ρ Φ) (JN K B tr ρ fun ts ρ1 => QLen ts ρ1 Φ) := ⟨J_cb cj_lenA⟩
instance : Stp (J K B (tCB (rTupleOf K) tr) ρ Φ) (JN K B tr ρ fun ts ρ1 => QTupOf ts ρ1 Φ) := ⟨J_cb cj_tupOf⟩
instance : Stp (J K B (tCB (rListOf K) tr) ρ Φ) (JN K B tr ρ fun ts ρ1 => QLstOf ts ρ1 Φ) := ⟨J_cb cj_lstOf⟩
instance : Stp (J K B (tCB (rIsi K) tr) ρ Φ) (JN K B tr ρ fun ts ρ1 => QIsi ts ρ1 Φ) := ⟨J_cb cj_isi⟩
instance : Stp (J K B (tCB (rSum K) tr) ρ Φ) (JN K B tr ρ fun ts ρ1 => QSum ts ρ1 Φ) := ⟨J_cb cj_sum⟩
instance : Stp (J K B (tCB (fun xs H Q => (∃ i, xs = [.int i] ∧ Q (.int i) H) ∨ ∃ k, xs = [.bl k] ∧ Q (.int (if k then 1 else 0)) H) tr) ρ Φ) (JN K B tr ρ fun ts ρ1 => QInt1 ts ρ1 Φ) := ⟨J_cb cj_int1⟩
instance {f : Int → Int → Int} : Stp (J K B (tCB (fun xs H Q => ∃ i j, xs = [.int i, .int j] ∧ Q (.int (f i j)) H) tr) ρ Φ) (JN K B tr ρ fun ts ρ1 => QI2 f ts ρ1 Φ) := ⟨J_cb cj_I2⟩
instance [h : Vw v ρ (.list xs)] : Stp (QLen [v] ρ Φ) (Φ (.w (.d (.int (xs.length : Nat)))) ρ) := ⟨x_lenL' h.eq⟩
instance [h : Vw v ρ (.tuple xs)] : Stp (QLen [v] ρ Φ) (Φ (.w (.d (.int (xs.length : Nat)))) ρ) := ⟨x_lenT' h.eq⟩
instance [h : Vw v ρ (.list xs)] : Stp (QTupOf [v] ρ Φ) (Φ (.w (.d (.tuple xs))) ρ) := ⟨x_tupOf h.eq rfl⟩
instance [h : Vw v ρ (.tuple xs)] : Stp (QTupOf [v] ρ Φ) (Φ (.w (.d (.tuple xs))) ρ) := ⟨x_tupOf h.eq rfl⟩
instance [h : Vw v ρ (.list xs)] : Stp (QLstOf [v] ρ Φ) (Φ (.w (.l xs)) ρ) := ⟨x_lstOf h.eq rfl⟩
instance [h : Vw v ρ (.tuple xs)] : Stp (QLstOf [v] ρ Φ) (Φ (.w (.l xs)) ρ) := ⟨x_lstOf h.eq rfl⟩
instance : Stp (QInt1 [.w (.d (.int k))] ρ Φ) (Φ (.w (.d (.int k))) ρ) := ⟨x_QInt⟩
instance : Stp (QInt1 [.w (.d (.bool p))] ρ Φ) (Φ (.w (.d (.int (if p = true then 1 else 0)))) ρ) := ⟨x_QIntB⟩
instance {f : Int → Int → Int} : Stp (QI2 f [.w (.d (.int k)), .w (.d (.int m))] ρ Φ) (Φ (.w (.d (.int (f k m)))) ρ) := ⟨x_QI2⟩
class K7 (c : String) : Prop where
  mem : c ∈ kinds7
instance : K7 "int" := ⟨by decide⟩
instance : K7 "bool" := ⟨by decide⟩
instance : K7 "str" := ⟨by decide⟩
instance : K7 "tuple" := ⟨by decide⟩
instance : K7 "list" := ⟨by decide⟩
instance : K7 "dict" := ⟨by decide⟩
/-- isinstance of data -/
def isiD (d : PyData) (c : String) : Bool := isT (tyN d) c
instance {c : String} [h : Vw v ρ x] [h2 : K7 c] : Stp (QIsi [v, .w (.v (.ty c))] ρ Φ) (Φ (.w (.d (.bool (isiD x c)))) ρ) := ⟨x_QIsi h.eq h2.mem⟩
-- methods of lists
instance : Stp (J K B (tBM K "list" rAppend te tr) ρ Φ) (J K B te ρ (QMt K B tr RApp Φ)) := ⟨J_mt mj_append⟩
instance : Stp (J K B (tBM K "list" rPopAt te tr) ρ Φ) (J K B te ρ (QMt K B tr RPopAt Φ)) := ⟨J_mt mj_popAt⟩
instance : Stp (J K B (tBM0 K "list" rPop te) ρ Φ) (J K B te ρ (QMt K B tNil RPop Φ)) := ⟨J_mt0 mj_pop⟩
instance : Stp (J K B (tBM K "list" rExtend te tr) ρ Φ) (J K B te ρ (QMt K B tr RExt Φ)) := ⟨J_mt mj_extend⟩
instance {R : List T → List PyData → (List PyData → PyData → Prop) → Prop} [h : SlotAt ρ i (some (.l xs))] : Stp (QMt K B tr R Φ (.p i) ρ) (JA K B tr ρ (QMr R Φ i)) := ⟨x_QMt h.eq rfl⟩
instance {R : List T → List PyData → (List PyData → PyData → Prop) → Prop} {a : Addr} [h : SlotAt ρ i (some (.r a xs))] : Stp (QMt K B tr R Φ (.p i) ρ) (JA K B tr ρ (QMr R Φ i)) := ⟨x_QMt h.eq rfl⟩
instance {R : List T → List PyData → (List PyData → PyData → Prop) → Prop} {ts : List T} [h : SlotAt ρ i (some (.l xs))] : Stp (QMr R Φ i ts ρ) (R ts xs (QNrm i Φ ρ (.l xs))) := ⟨fun q => ⟨_, xs, h.eq, rfl, q⟩⟩
instance {R : List T → List PyData → (List PyData → PyData → Prop) → Prop} {a : Addr} {ts : List T} [h : SlotAt ρ i (some (.r a xs))] : Stp (QMr R Φ i ts ρ) (R ts xs (QNrm i Φ ρ (.r a xs))) := ⟨fun q => ⟨_, xs, h.eq, rfl, q⟩⟩
instance {xs' : List PyData} [h : SetAt ρ i (some (.l xs')) ρ'] : Stp (QNrm i Φ ρ (.l xs) xs' x) (Φ (.w (.d x)) ρ') := ⟨fun q => ⟨ρ', h.eq, q⟩⟩
instance {xs' : List PyData} {a : Addr} [h : SetAt ρ i (some (.r a xs')) ρ'] : Stp (QNrm i Φ ρ (.r a xs) xs' x) (Φ (.w (.d x)) ρ') := ⟨fun q => ⟨ρ', h.eq, q⟩⟩
/-- a row by its slot -/
class RowAt (ρ : Env) (i : Nat) (w : outParam W) (xs : outParam (List PyData)) : Prop where
  eq : ρ[i]? = some (some w)
  row : w.row = some xs
instance [h : SlotAt ρ i (some (.l xs))] : RowAt ρ i (.l xs) xs := ⟨h.eq, rfl⟩
instance {a : Addr} [h : SlotAt ρ i (some (.r a xs))] : RowAt ρ i (.r a xs) xs := ⟨h.eq, rfl⟩
class SetR (ρ : Env) (i : Nat) (w : W) (ys : List PyData) (ρ' : outParam Env) : Prop where
  eq : ρ.set i (some (w.put ys)) = ρ'
instance [h : SetAt ρ i (some (.l ys)) ρ'] : SetR ρ i (.l xs) ys ρ' := ⟨h.eq⟩
instance {a : Addr} [h : SetAt ρ i (some (.r a ys)) ρ'] : SetR ρ i (.r a xs) ys ρ' := ⟨h.eq⟩
/-- o[n] = x, o[n] += x: where n stands must be told -/
theorem x_QSetN {w : W} {n : Nat} [h : RowAt ρ i w xs] [h2 : SetR ρ i w (xs.set n x) ρ'] (hn : n < xs.length) (q : ΦE ρ') : QSet x ΦE (.p i) (.w (.d (.int (n : Int)))) ρ :=
  x_QSet h.eq h.row (ixN_nat' hn) h2.eq q
theorem x_augN {w : W} {f : Int → Int → Int} {n : Nat} {a : Int} [h : RowAt ρ i w xs] (hx : xs[n]? = some (.int a)) (q : J K B te ρ (QAugE f i xs n a ΦE)) : QAugS K B te f ΦE (.p i) (.w (.d (.int (n : Int)))) ρ :=
  x_QAugS (by omega) h.eq h.row (ixN_nat' (List.getElem?_eq_some_iff.mp hx).1) hx q
theorem x_augE {w : W} {f : Int → Int → Int} {j : Nat} {a b : Int} {ys : List PyData} [h : RowAt ρ i w xs] (e : xs = ys) [h2 : SetR ρ i w (ys.set j (.int (f a b))) ρ'] (q : ΦE ρ') : QAugE f i ys j a ΦE (.w (.d (.int b))) ρ := by
  subst e
  exact ⟨b, w, rfl, h.eq, h.row, by rw [h2.eq]; exact q⟩
-- slices
instance {tl th : TO} : Stp (J K B (tSl (rSlU K) te tl th) ρ Φ) (J K B te ρ fun t ρ1 => JO K B tl ρ1 fun lo ρ2 => JO K B th ρ2 fun hi ρ3 => QSlU t lo hi ρ3 Φ) := ⟨J_sl sj_U⟩
instance {ΦO : Option Int → Env → Prop} : Stp (JO K B tNoPart ρ ΦO) (ΦO none ρ) := ⟨JO_no⟩
instance {ΦO : Option Int → Env → Prop} : Stp (JO K B (tPart te) ρ ΦO) (J K B te ρ fun t ρ1 => ∃ i, t = .w (.d (.int i)) ∧ ΦO (some i) ρ1) := ⟨JO_some⟩
instance {lo hi : Option Int} [h : Vw v ρ (.list xs)] : Stp (QSlU v lo hi ρ Φ) (Φ (.w (.l (cutD xs lo hi))) ρ) := ⟨x_slL' h.eq⟩
instance {lo hi : Option Int} [h : Vw v ρ (.tuple xs)] : Stp (QSlU v lo hi ρ Φ) (Φ (.w (.d (.tuple (cutD xs lo hi)))) ρ) := ⟨x_slT' h.eq⟩
-- ranges, loops
instance {tg : L2.St → Hp → (Int → Int → Hp → Prop) → Prop} : Stp (J K B (tLstRg tg) ρ Φ) (JRg K B tg ρ fun a b ρ1 => RgOk a b ∧ Φ (.w (.l (rgD a b))) ρ1) := ⟨J_lstRg⟩
instance {tg : L2.St → Hp → (Int → Int → Hp → Prop) → Prop} : Stp (J K B (tTupRg tg) ρ Φ) (JRg K B tg ρ fun a b ρ1 => RgOk a b ∧ Φ (.w (.d (.tuple (rgD a b)))) ρ1) := ⟨J_tupRg⟩
instance {ΨR : Int → Int → Env → Prop} : Stp (JRg K B (tRg1 ta) ρ ΨR) (J K B ta ρ fun t ρ1 => ∃ i, t = .w (.d (.int i)) ∧ ΨR 0 i ρ1) := ⟨J_rg1⟩
instance {ΨR : Int → Int → Env → Prop} : Stp (JRg K B (tRg2 ta tb) ρ ΨR) (J K B ta ρ fun t ρ1 => J K B tb ρ1 fun u ρ2 => ∃ i j, t = .w (.d (.int i)) ∧ u = .w (.d (.int j)) ∧ ΨR i j ρ2) := ⟨J_rg2⟩
instance : Stp (JI K B (iAny K te) ρ Ψ) (J K B te ρ (QFz (QIA Ψ))) := ⟨JI_any⟩
instance : Stp (QIA Ψ (.w (.d (.list xs))) ρ) (Ψ xs ρ) := ⟨x_IAL⟩
instance : Stp (QIA Ψ (.w (.d (.tuple xs))) ρ) (Ψ xs ρ) := ⟨x_IAT⟩
instance : Stp (QIA Ψ (.w (.d (.str z))) ρ) (Ψ (z.cps.toList.map fun c => PyData.str ⟨#[c]⟩) ρ) := ⟨x_IAS⟩
instance : Stp (JI K B (iRng1 tr) ρ Ψ) (JN K B tr ρ (QR1 Ψ)) := ⟨JI_r1⟩
instance : Stp (JI K B (iRng2 tr) ρ Ψ) (JN K B tr ρ (QR2 Ψ)) := ⟨JI_r2⟩
instance : Stp (JI K B (iEnumA K tr k) ρ Ψ) (JA K B tr ρ (QIEA k Ψ)) := ⟨JI_enumA⟩
instance : Stp (JI K B (iZipA K tr) ρ Ψ) (JA K B tr ρ (QI2A Ψ)) := ⟨JI_zipA⟩
instance : Stp (QIEA k Ψ [.w (.d (.list xs))] ρ) (Ψ (enumD k xs) ρ) := ⟨x_IEL⟩
instance : Stp (QIEA k Ψ [.w (.d (.tuple xs))] ρ) (Ψ (enumD k xs) ρ) := ⟨x_IET⟩
instance : Stp (QI2A Ψ [.w (.d (.list xs)), .w (.d (.list ys))] ρ) (Ψ (zipD xs ys) ρ) := ⟨x_QI2AL⟩
instance : Stp (QI2A Ψ [.w (.d (.tuple xs)), .w (.d (.tuple ys))] ρ) (Ψ (zipD xs ys) ρ) := ⟨x_QI2AT⟩
-- comprehensions
class Owns (own : List (Str × Nat)) (vs : outParam (List Nat)) : Prop where
  eq : own.map (·.2) = vs
instance {a : Str} {i : Nat} : Owns [(a, i)] [i] := ⟨rfl⟩
instance {a b : Str} {i j : Nat} : Owns [(a, i), (b, j)] [i, j] := ⟨rfl⟩
instance {a b c : Str} {i j k : Nat} : Owns [(a, i), (b, j), (c, k)] [i, j, k] := ⟨rfl⟩
instance {wi : TI} {g : TG} {own : List (Str × Nat)} {vs : List Nat} [h : Owns own vs] : Stp (J K B (tLc wi g tt te (own.map (·.2))) ρ Φ) (JI K B wi ρ (QLcU K B g tt te vs Φ)) := ⟨J_lcO h.eq⟩
class Mem (i : Nat) (vs : List Nat) : Prop where
  mem : i ∈ vs
instance {i : Nat} {vs : List Nat} : Mem i (i :: vs) := ⟨List.mem_cons_self⟩
instance {i j : Nat} {vs : List Nat} [h : Mem i vs] : Mem i (j :: vs) := ⟨List.mem_cons_of_mem _ h.mem⟩
instance {vs : List Nat} [h : Mem i vs] [h1 : SlotAt ρ i none] [h2 : SetAt ρ i (some (.d x)) ρ'] : Stp (JH K B vs (gName i) x ρ ΦE) (ΦE ρ') := ⟨JH_name h.mem h2.eq (by rw [h1.eq]; rfl)⟩
instance {vs : List Nat} {x1 x2 : PyData} : Stp (JH K B vs (gAny K 2 gs) (.tuple [x1, x2]) ρ ΦE) (JHs K B vs gs [x1, x2] ρ ΦE) := ⟨JH_any rfl⟩
instance {vs : List Nat} {x1 x2 : PyData} : Stp (JH K B vs (gAny K 2 gs) (.list [x1, x2]) ρ ΦE) (JHs K B vs gs [x1, x2] ρ ΦE) := ⟨JH_anyL rfl⟩
instance {vs : List Nat} {x1 x2 x3 : PyData} : Stp (JH K B vs (gAny K 3 gs) (.tuple [x1, x2, x3]) ρ ΦE) (JHs K B vs gs [x1, x2, x3] ρ ΦE) := ⟨JH_any rfl⟩
instance {vs : List Nat} {x1 x2 x3 : PyData} : Stp (JH K B vs (gAny K 3 gs) (.list [x1, x2, x3]) ρ ΦE) (JHs K B vs gs [x1, x2, x3] ρ ΦE) := ⟨JH_anyL rfl⟩
instance {vs : List Nat} {x1 x2 x3 x4 : PyData} : Stp (JH K B vs (gAny K 4 gs) (.tuple [x1, x2, x3, x4]) ρ ΦE) (JHs K B vs gs [x1, x2, x3, x4] ρ ΦE) := ⟨JH_any rfl⟩
instance {vs : List Nat} {x1 x2 x3 x4 : PyData} : Stp (JH K B vs (gAny K 4 gs) (.list [x1, x2, x3, x4]) ρ ΦE) (JHs K B vs gs [x1, x2, x3, x4] ρ ΦE) := ⟨JH_anyL rfl⟩
instance {vs : List Nat} {x1 x2 x3 x4 x5 : PyData} : Stp (JH K B vs (gAny K 5 gs) (.tuple [x1, x2, x3, x4, x5]) ρ ΦE) (JHs K B vs gs [x1, x2, x3, x4, x5] ρ ΦE) := ⟨JH_any rfl⟩
instance {vs : List Nat} {x1 x2 x3 x4 x5 : PyData} : Stp (JH K B vs (gAny K 5 gs) (.list [x1, x2, x3, x4, x5]) ρ ΦE) (JHs K B vs gs [x1, x2, x3, x4, x5] ρ ΦE) := ⟨JH_anyL rfl⟩
instance {vs : List Nat} : Stp (JHs K B vs (gCons g gs) (x :: xs) ρ ΦE) (JH K B vs g x ρ fun ρ' => JHs K B vs gs xs ρ' ΦE) := ⟨JH_cons⟩
instance {vs : List Nat} : Stp (JHs K B vs gNil [] ρ ΦE) (ΦE ρ) := ⟨JH_nil⟩
class Wip (ρ : Env) (vs : List Nat) (ρ' : outParam Env) : Prop where
  eq : wipeE ρ vs = ρ'
instance : Wip ρ [] ρ := ⟨rfl⟩
instance {ρ ρ1 ρ2 : Env} {v : Nat} {vs : List Nat} [h : Wip ρ vs ρ1] [h2 : SetAt ρ1 v none ρ2] : Wip ρ (v :: vs) ρ2 := ⟨by show (wipeE ρ vs).set v none = ρ2; rw [h.eq, h2.eq]⟩
instance {vs ws : List Nat} [h : Wip ρ ws ρ'] : Stp (JH K B vs g x (wipeE ρ ws) ΦE) (JH K B vs g x ρ' ΦE) := ⟨fun q => by rw [h.eq]; exact q⟩
-- tests that are told
instance {A C : Prop} : Stp (if true = true then A else C) A := ⟨x_T⟩
instance {A C : Prop} : Stp (if false = true then A else C) C := ⟨x_F⟩
instance {A C : Prop} : Stp (if (!true) = true then A else C) C := ⟨x_nT⟩
instance {A C : Prop} : Stp (if (!false) = true then A else C) A := ⟨x_nF⟩
-- rules with their K named
theorem pi_anyK {X : L2.Cx} {K : PySem.W.Frag} {tg l : Expr} {tl : TE} (hK : X.K = K) (hl : PE X l tl) : PI X tg l (iAny K tl) := by subst hK; exact pi_any hl
theorem pi_zipAK {X : L2.Cx} {K : PySem.W.Frag} {e e2 : Expr} {ta : TA} {p pos tpos : Pos} {elts : List Expr} {kk : Nat} (hK : X.K = K) (hg : Gl X "zip") (hm : X.mg "zip" = none) (ha : PA X [e, e2] ta)
    (hs : starEach [e, e2] X.env = (false, eval e X.env) :: starEach [e2] X.env := by rfl) (hpl : (backTo pos (starEach [e2] X.env)).any (·.1) = false := by rfl) : PI X (.Tuple elts kk tpos) (.Call (.Name "zip" p) [e, e2] [] pos) (iZipA K ta) := by subst hK; exact pi_zipA hg hm ha hs hpl
theorem pi_enumK {X : L2.Cx} {K : PySem.W.Frag} {e : Expr} {ta : TA} {p pos tpos : Pos} {elts : List Expr} {kk : Nat} (hK : X.K = K) (hg : Gl X "enumerate") (hm : X.mg "enumerate" = none) (ha : PA X [e] ta) (hs : starEach [e] X.env = [(false, eval e X.env)] := by rfl) :
    PI X (.Tuple elts kk tpos) (.Call (.Name "enumerate" p) [e] [] pos) (iEnumA K ta 0) := by subst hK; exact pi_enumA hg hm ha hs
theorem pg_tupK {X : L2.Cx} {K : PySem.W.Frag} {es : List Expr} {k : Nat} {t : TGs} {n : Nat} {pos : Pos} (hK : X.K = K) (hc : X.calm = true) (h : PGs X es t) (hn : (assignEach es X.env).length = n := by rfl) (hst : (assignEach es X.env).findIdx? (·.1) = none := by rfl) : PG X (.Tuple es k pos) (gAny K n t) := by subst hK; exact pg_any hc h hn hst
theorem getLK {X : L2.Cx} {K : PySem.W.Frag} (hK : X.K = K) : PGet X (rGetL K) := by subst hK; exact getL
theorem pi_enumSK {X : L2.Cx} {K : PySem.W.Frag} {e : Expr} {ta : TA} {p pos tpos kp : Pos} {elts : List Expr} {kk : Nat} {k : Int} {ce : Expr} (hK : X.K = K) (hg : Gl X "enumerate") (hm : X.mg "enumerate" = none) (ha : PA X [e] ta) (hc : PE X ce (tC (.int k))) (hk : -(2 ^ 63) ≤ k ∧ k < 2 ^ 63)
    (hs : starEach [e] X.env = [(false, eval e X.env)] := by rfl) : PI X (.Tuple elts kk tpos) (.Call (.Name "enumerate" p) [e] [⟨some "start", ce, kp⟩] pos) (iEnumA K ta k) := by subst hK; exact pi_enumSA hg hm ha hc hk hs
theorem pe_bmK {X : L2.Cx} {K : PySem.W.Frag} {o e : Expr} {es : List Expr} {to : TE} {t : TA} {name : Str} {apos cpos : Pos} {T id : String} {r : V → List V → Hp → VK → Prop} (hK : X.K = K) (pa : PlainAttrs T) (slot : Slot T name id) (hty : typeOf (.builtin id) = pure (.type "method_descriptor")) (hm : MtR X id r) (ho : PE X o to) (ha : PA X (e :: es) t)
    (hbase : attributeBase o name X.env (eval o X.env) = eval o X.env := by rfl)
    (hfew : ((backTo cpos (starEach (e :: es) X.env)).all (fun x => !x.1) && (backToKw cpos (keywordEach [] X.env)).all (fun x => x.1.isSome)
      && decide ((e :: es).length + ([] : List Keyword).length + (if ([] : List Keyword).isEmpty then 0 else 1) < 30)) = true := by rfl)
    (hline : (apos.endLine == cpos.line) = true := by rfl) (hs : starEach (e :: es) X.env = (false, eval e X.env) :: starEach es X.env := by rfl) (hplain : (backTo cpos (starEach es X.env)).any (·.1) = false := by rfl) :
    PE X (.Call (.Attribute o name apos) (e :: es) [] cpos) (tBM K T r to t) := by subst hK; exact pe_bm pa slot hty hm ho ha hbase hfew hline hs hplain
theorem pe_bm0K {X : L2.Cx} {K : PySem.W.Frag} {o : Expr} {to : TE} {name : Str} {apos cpos : Pos} {T id : String} {r : V → List V → Hp → VK → Prop} (hK : X.K = K) (pa : PlainAttrs T) (slot : Slot T name id) (hty : typeOf (.builtin id) = pure (.type "method_descriptor")) (hm : MtR X id r) (ho : PE X o to)
    (hbase : attributeBase o name X.env (eval o X.env) = eval o X.env := by rfl) (hline : (apos.endLine == cpos.line) = true := by rfl) : PE X (.Call (.Attribute o name apos) [] [] cpos) (tBM0 K T r to) := by subst hK; exact pe_bm0 pa slot hty hm ho hbase hline
end
end WD

set_option Elab.async false
set_option linter.all false
set_option maxRecDepth 100000
set_option maxHeartbeats 1000000
namespace WD
open PySem PySem.Spec PyProof.Rows L2
/-! data of bare logs -/
abbrev natD (n : Nat) : PyData := .int (n : Int)
def natsD (ns : List Nat) : List PyData := ns.map natD
abbrev deedD (d : Deed) : PyData := .tuple [natD d.1, .tuple (natsD d.2)]
abbrev logD (P : Nat) (ds : List Deed) : PyData := .tuple [natD P, .tuple (ds.map deedD)]
theorem natsD_get {ns : List Nat} {i : Nat} {x : PyData} (e : (natsD ns)[i]? = some x) : ∃ n, ns[i]? = some n ∧ x = natD n := by
  unfold natsD at e
  rw [List.getElem?_map, Option.map_eq_some_iff] at e
  obtain ⟨n, h1, h2⟩ := e
  exact ⟨n, h1, h2.symm⟩
theorem natsD_len (ns : List Nat) : (natsD ns).length = ns.length := by unfold natsD; simp
theorem map_get {α : Type} {f : α → PyData} {l : List α} {i : Nat} {x : PyData} (e : (l.map f)[i]? = some x) : ∃ a, l[i]? = some a ∧ x = f a := by
  rw [List.getElem?_map, Option.map_eq_some_iff] at e
  obtain ⟨n, h1, h2⟩ := e
  exact ⟨n, h1, h2.symm⟩
theorem atI_nat {α : Type} {l : List α} {i : Nat} {x : α} (e : l[i]? = some x) : atI l (i : Int) = some x := by
  have hi := (List.getElem?_eq_some_iff.mp e).1
  unfold atI ixN
  rw [if_pos (by omega), if_pos (by omega)]
  simpa using e
theorem atI_last {α : Type} {l : List α} {x : α} (e : l.getLast? = some x) : atI l (-1) = some x := by
  rw [List.getLast?_eq_getElem?] at e
  have hi := (List.getElem?_eq_some_iff.mp e).1
  unfold atI ixN
  rw [if_neg (by decide), if_pos (by omega)]
  have : ((-1 : Int) + (l.length : Int)).toNat = l.length - 1 := by omega
  rw [Option.bind_some, this]; exact e
theorem ixN_nat {n i : Nat} (h : i < n) : ixN n (i : Int) = some i := by
  unfold ixN
  rw [if_pos (by omega), if_pos (by omega)]; simp
theorem rgD_nat (n : Nat) : rgD 0 (n : Int) = natsD (List.range n) := by
  unfold rgD natsD
  rw [Int.sub_zero, Int.toNat_natCast]
  apply List.map_congr_left
  intro i _
  simp
-- data that may be compared at any depth
theorem shp_iff {d : PyData} : Shp d ↔ d.canLay0 = true ∧ d.depth ≤ 64 := by
  show SeqAt.shaped d = true ↔ _
  unfold SeqAt.shaped
  rw [Bool.and_eq_true, decide_eq_true_iff]
/-- laid, and no deeper than n -/
def Dpt (n : Nat) (d : PyData) : Prop := d.canLay0 = true ∧ d.depth ≤ n
theorem Dpt.shp {d : PyData} {n : Nat} (h : Dpt n d) (l : n ≤ 64) : Shp d := shp_iff.mpr ⟨h.1, Nat.le_trans h.2 l⟩
theorem Dpt.mono {d : PyData} {n m : Nat} (h : Dpt n d) (l : n ≤ m) : Dpt m d := ⟨h.1, Nat.le_trans h.2 l⟩
theorem dpt_int (i : Int) : Dpt 0 (.int i) := ⟨rfl, Nat.le_of_eq rfl⟩
theorem dpt_none : Dpt 0 .none := ⟨rfl, Nat.le_of_eq rfl⟩
theorem dpt_bool (b : Bool) : Dpt 0 (.bool b) := ⟨rfl, Nat.le_of_eq rfl⟩
theorem dpt_str {x : Str} (h : PyData.strOk x = true) : Dpt 0 (.str x) := ⟨h, Nat.le_of_eq rfl⟩
theorem dpt_all {n : Nat} : ∀ {xs : List PyData}, (∀ x ∈ xs, Dpt n x) → PyData.canLayAll0 xs = true ∧ PyData.depthAll xs ≤ n
  | [], _ => ⟨rfl, Nat.zero_le _⟩
  | x :: xs, h => by
    obtain ⟨h1, h2⟩ := dpt_all (xs := xs) fun y m => h y (List.mem_cons_of_mem _ m)
    obtain ⟨g1, g2⟩ := h x List.mem_cons_self
    exact ⟨by show (x.canLay0 && PyData.canLayAll0 xs) = true; rw [g1, h1]; rfl, by show Nat.max _ _ ≤ n; exact Nat.max_le.mpr ⟨g2, h2⟩⟩
theorem dpt_tup {n : Nat} {xs : List PyData} (h : ∀ x ∈ xs, Dpt n x) : Dpt (n + 1) (.tuple xs) := ⟨(dpt_all h).1, Nat.succ_le_succ (dpt_all h).2⟩
theorem dpt_lst {n : Nat} {xs : List PyData} (h : ∀ x ∈ xs, Dpt n x) : Dpt (n + 1) (.list xs) := ⟨(dpt_all h).1, Nat.succ_le_succ (dpt_all h).2⟩
mutual
theorem eqv_self : ∀ {n : Nat} (d : PyData), d.canLay0 = true → PyData.eqv d d = true
  | _, .none, _ => rfl
  | _, .bool b, _ => by simp [PyData.eqv]
  | _, .int i, _ => by simp [PyData.eqv]
  | _, .str s, _ => by simp [PyData.eqv]
  | n, .list xs, h => by show PyData.eqvAll xs xs = true; exact eqv_selfAll (n := n) xs h
  | n, .tuple xs, h => by show PyData.eqvAll xs xs = true; exact eqv_selfAll (n := n) xs h
  | _, .dict _, h => by simp [PyData.canLay0] at h
theorem eqv_selfAll : ∀ {n : Nat} (ds : List PyData), PyData.canLayAll0 ds = true → PyData.eqvAll ds ds = true
  | _, [], _ => rfl
  | n, x :: xs, h => by
    have h' : (x.canLay0 && PyData.canLayAll0 xs) = true := h
    rw [Bool.and_eq_true] at h'
    show (PyData.eqv x x && PyData.eqvAll xs xs) = true
    rw [eqv_self (n := n) x h'.1, eqv_selfAll (n := n) xs h'.2]; rfl
end
end WD

set_option Elab.async false
set_option linter.all false
set_option maxRecDepth 100000
set_option maxHeartbeats 1000000
namespace WD
open PySem PySem.Spec PyProof.Rows L2
/-! a try, its clauses; lists that are lent -/
/-- a base further on -/
structure Up (B B' : Base) : Prop where
  h : B'.H = B.H
  s : B'.S = B.S
  f : Sub B.F B'.F
  n : ∀ a, B.F a = none → B'.F a ≠ none → B.H a = none ∨ a ∈ B.S
section
variable {K : PySem.W.Frag} {B B' : Base} {G : Hp} {ρ ρ' : Env} {Φ : T → Env → Prop} {E : JE} {ta tb tc te : TE} {t u : TS} {tt tt' : TT} {i : Nat} {ΦB : Bool → Env → Prop} {ΦL : List T → Env → Prop} {ΦE : Env → Prop} {tr : TA} {Ψ : List PyData → Env → Prop} {σ : L2.St} {τ : List T} {vs : List V} {F H F' H' : Hp}
theorem Up.refl (B : Base) : Up B B := ⟨rfl, rfl, Sub.refl _, fun a h1 h2 => absurd h1 h2⟩
theorem Up.of (r : Rel K B G ρ σ τ vs F H) : Up B ⟨B.H, B.S, F⟩ := ⟨rfl, rfl, r.base.1, r.new⟩
theorem Rel.up (r : Rel K B G ρ σ τ vs F H) : Rel K ⟨B.H, B.S, F⟩ F ρ σ τ vs F H := ⟨r.ex, r.sub, r.stay, ⟨Sub.refl F, Sub.refl F⟩, fun a h1 h2 => absurd h1 h2⟩
theorem Rel.down (u : Up B B') (r : Rel K B' G ρ σ τ vs F H) : Rel K B G ρ σ τ vs F H := by
  obtain ⟨fs, ft, a, b, c, d⟩ := r.ex
  refine ⟨⟨fs, ft, a, b, c, fun p m => ⟨(d p m).1, by rw [← u.s, ← u.h]; exact (d p m).2⟩⟩, r.sub, by rw [← u.s, ← u.h]; exact r.stay, ⟨u.f.trans r.base.1, r.base.2⟩, fun a h1 h2 => ?_⟩
  by_cases e : B'.F a = none
  · have := r.new a e h2
    rwa [u.s, u.h] at this
  · exact u.n a h1 e
theorem WOk.up {W0 : WX} {Ξ : Addr → PyData → Env → Prop} (u : Up B B') (h : WOk K B W0 Ξ) : WOk K B' W0 Ξ := fun G ρ σ F H C x v d r => h G ρ σ F H C x v d (r.down u)
theorem RS.clear {fs : List Addr} (h : RS K F H ρ σ fs) (i : Nat) : ∃ gs, RS K F H (ρ.set i none) (σ.set i none) gs ∧ List.Sublist gs fs := by
  induction h generalizing i with
  | nil => exact ⟨[], .nil, List.Sublist.refl _⟩
  | @no ρ s σ fp h ih =>
    cases i with
    | zero => exact ⟨fp, .no h, List.Sublist.refl _⟩
    | succ i => obtain ⟨gs, a, b⟩ := ih i; exact ⟨gs, .no a, b⟩
  | @so w u f ρ σ fp r h ih =>
    cases i with
    | zero => exact ⟨fp, .no h, List.sublist_append_right _ _⟩
    | succ i => obtain ⟨gs, a, b⟩ := ih i; exact ⟨f ++ gs, .so r a, List.Sublist.append (List.Sublist.refl _) b⟩
theorem Rel.clear (r : Rel K B G ρ σ [] [] F H) (i : Nat) : Rel K B G (ρ.set i none) (σ.set i none) [] [] F H := by
  obtain ⟨fs, ft, a, b, c, d⟩ := r.ex
  cases b
  obtain ⟨gs, a', s⟩ := a.clear i
  exact ⟨⟨gs, [], a', .nil, c.sublist s, fun p m => d p (s.subset m)⟩, r.sub, r.stay, r.base, r.new⟩
def enterE (ρ : Env) : Option Nat → Addr → Addr → PyData → Env
  | none, _, _, _ => ρ
  | some i, a, d, x => ρ.set i (some (.ex a d x))
def leaveE (E : JE) : Option Nat → JE
  | none => E
  | some i => ⟨fun ρ => E.nx (ρ.set i none), E.rt, fun ρ => E.bk (ρ.set i none), fun ρ => E.ct (ρ.set i none)⟩
/-- what a row of clauses makes of an error -/
def RowsJ (K : PySem.W.Frag) (B : Base) (E : JE) (Ξ : Addr → PyData → Env → Prop) : List Cls1 → Addr → PyData → Env → Prop
  | [], C, x, ρ => Ξ C x ρ
  | z :: r, C, x, ρ => ∃ yes, PySem.W.exmOne K (.ref C) z.c = some yes ∧ (yes = true → (∀ i, z.i = some i → i < ρ.length) ∧ ∀ a d, JS K B (z.ts a (.ref C) (some d)) (enterE ρ z.i a d x) (leaveE E z.i)) ∧ (yes = false → RowsJ K B E Ξ r C x ρ)
theorem rows_ok {Wo : WX} {D : Ends} {Ξ : Addr → PyData → Env → Prop} (hWo : WOk K B Wo Ξ) (ed : EndsOk K B B.F E D) : ∀ l : List Cls1, WOk K B (wRow K Wo D l) (RowsJ K B E Ξ l)
  | [] => hWo
  | z :: l => fun G ρ σ F H C x u d r hd dq ⟨yes, e, hy, hn⟩ => by
    refine ⟨yes, e, fun h a _ => ?_, fun h => rows_ok hWo ed l G ρ σ F H C x u d r hd dq (hn h)⟩
    obtain ⟨hi, hs⟩ := hy h
    have r0 : Rel K B B.F ρ σ [] [] F H := ⟨r.ex, r.sub, r.stay, ⟨r.base.1, r.base.1⟩, r.new⟩
    cases ez : z.i with
    | none =>
      have := hs a d
      rw [ez] at this
      exact this _ σ F H D r0 ed
    | some i =>
      have := hs a d
      rw [ez] at this
      refine this B.F _ F H _ ?_ ⟨fun ρ σ F H r q => ed.nx _ _ _ _ (r.clear i) q, ed.rt, fun ρ σ F H r q => ed.bk _ _ _ _ (r.clear i) q, fun ρ σ F H r q => ed.ct _ _ _ _ (r.clear i) q⟩
      have r1 : Rel K B B.F ρ σ [.w (.ex a d x)] [.ref a] F H := r0.pushW (w := .ex a d x) (f := []) ⟨rfl, rfl, u, hd, dq⟩ List.nodup_nil (by simp) (by simp)
      exact r1.asg (hi i ez) (by simp)
theorem EndsOk.up {D : Ends} (r : Rel K B G ρ σ τ vs F H) (ed : EndsOk K B G E D) : EndsOk K ⟨B.H, B.S, F⟩ F E D := by
  have u := Up.of r
  exact ⟨fun ρ σ F' H' r' q => ed.nx _ _ _ _ ((r'.down u).toG r.base.2) q, fun w v ρ σ F' H' r' q => ed.rt _ _ _ _ _ _ ((r'.down u).toG r.base.2) q,
    fun ρ σ F' H' r' q => ed.bk _ _ _ _ ((r'.down u).toG r.base.2) q, fun ρ σ F' H' r' q => ed.ct _ _ _ _ ((r'.down u).toG r.base.2) q⟩
def tTry (K : PySem.W.Frag) (Wo : WX) (l : List Cls1) (tb : WX → TS) : TS := fun D σ H => tb (wRow K Wo D l) D σ H
/-- try: the suite is walked at any base further on -/
theorem J_try {tb : WX → TS} {Wo : WX} {l : List Cls1} {Ξ : Addr → PyData → Env → Prop} (hWo : WOk K B Wo Ξ) (h : ∀ B' W, Up B B' → WOk K B' W (RowsJ K B' E Ξ l) → JS K B' (tb W) ρ E) : JS K B (tTry K Wo l tb) ρ E := fun G σ F H D r ed => by
  have u := Up.of r
  exact h ⟨B.H, B.S, F⟩ (wRow K Wo D l) u (rows_ok (B := ⟨B.H, B.S, F⟩) (hWo.up u) (ed.up r) l) F σ F H D r.up (ed.up r)
theorem x_rowFJ {Ξ : Addr → PyData → Env → Prop} {C : Addr} {x : PyData} {z : Cls1} {l : List Cls1} (e : PySem.W.exmOne K (.ref C) z.c = some false) (h : RowsJ K B E Ξ l C x ρ) : RowsJ K B E Ξ (z :: l) C x ρ := ⟨false, e, fun h => by (cases h), fun _ => h⟩
theorem x_rowTJ {Ξ : Addr → PyData → Env → Prop} {C : Addr} {x : PyData} {c : Value} {ts : Addr → Value → Option Addr → TS} {l : List Cls1} (e : PySem.W.exmOne K (.ref C) c = some true) (h : ∀ a d, JS K B (ts a (.ref C) (some d)) ρ E) : RowsJ K B E Ξ (⟨c, none, ts⟩ :: l) C x ρ := ⟨true, e, fun _ => ⟨fun i z => by (cases z), h⟩, fun h => by (cases h)⟩
theorem x_rowNJ {Ξ : Addr → PyData → Env → Prop} {C : Addr} {x : PyData} {c : Value} {ts : Addr → Value → Option Addr → TS} {l : List Cls1} {n b ct : Env → Prop} {rt : W → Env → Prop} (e : PySem.W.exmOne K (.ref C) c = some true) (hi : i < ρ.length)
    (h : ∀ a d, ∃ ρ', ρ.set i (some (.ex a d x)) = ρ' ∧ JS K B (ts a (.ref C) (some d)) ρ' ⟨fun ρ => n (ρ.set i none), rt, fun ρ => b (ρ.set i none), fun ρ => ct (ρ.set i none)⟩) : RowsJ K B ⟨n, rt, b, ct⟩ Ξ (⟨c, some i, ts⟩ :: l) C x ρ := ⟨true, e, fun _ => ⟨fun j z => by cases z; exact hi, fun a d => by
  obtain ⟨ρ', rfl, k⟩ := h a d
  exact k⟩, fun h => by (cases h)⟩
theorem x_rowNJ' {Ξ : Addr → PyData → Env → Prop} {C : Addr} {x : PyData} {c : Value} {ts : Addr → Value → Option Addr → TS} {l : List Cls1} {n b ct : Env → Prop} {rt : W → Env → Prop} (e : PySem.W.exmOne K (.ref C) c = some true) {f : Addr → Addr → Env} [hi : ∀ a d, SetAt ρ i (some (.ex a d x)) (f a d)]
    (h : ∀ a d, JS K B (ts a (.ref C) (some d)) (f a d) ⟨fun ρ => n (ρ.set i none), rt, fun ρ => b (ρ.set i none), fun ρ => ct (ρ.set i none)⟩) : RowsJ K B ⟨n, rt, b, ct⟩ Ξ (⟨c, some i, ts⟩ :: l) C x ρ := x_rowNJ e (hi C C).lt fun a d => ⟨_, (hi a d).eq, h a d⟩
-- the error in its suite
theorem J_xw {mg : Str → Option Value} {nm : Str} {C fI a d : Addr} (X : ExT K mg nm C fI) (h : J K B te ρ fun t ρ1 => ∃ x, t = .w (.ex a d x) ∧ Φ (.w (.d x)) ρ1) : J K B (tXw K a (.ref C) (some d) "what" te) ρ Φ := fun G τ vs σ F H Q r k => by
  refine h _ τ vs σ F H _ r fun t u ρ' F' H' r' ⟨x, e, q⟩ => ?_
  subst e
  obtain ⟨f, rfl, rfl, v, hd, dq⟩ := r'.top
  exact ⟨rfl, C, d, _, v, rfl, X.xf, X.nw, rfl, r'.sub _ _ hd, by simp [List.lookup], k _ _ _ _ _ (r'.pop.push dq) q⟩
theorem x_xwJ {a d : Addr} {x : PyData} {P : PyData → Prop} (h : P x) : ∃ y, T.w (.ex a d x) = .w (.ex a d y) ∧ P y := ⟨x, rfl, h⟩
def QIsX (K : PySem.W.Frag) (a : Addr) (C d : Addr) (ts : List T) (ρ : Env) (Φ : T → Env → Prop) : Prop := ∃ (x : PyData) (c : V) (cv : Value) (b : Bool), ts = [.w (.ex a d x), .w (.v c)] ∧ ClsV c cv ∧ PySem.W.kitOne K (.ref C) cv = some b ∧ Φ (.w (.d (.bool b))) ρ
theorem J_isX {mg : Str → Option Value} {nm : Str} {C fI a d : Addr} (X : ExT K mg nm C fI) (h : JN K B tr ρ fun ts ρ1 => QIsX K a C d ts ρ1 Φ) : J K B (tCB (rIsX K a (.ref C) (some d)) tr) ρ Φ := J_cb (fun {G τ vs σ F H ρ ts us Q Φ} l r ⟨x, c, cv, b, e, kc, kk, q⟩ k => by
  subst e
  obtain ⟨u, u', rfl⟩ := two_args l rfl
  have r1 : Rel K B G ρ σ (.w (.v c) :: .w (.ex a d x) :: τ) (u' :: u :: vs) F H := by simpa using r
  have := r1.topV; subst this
  obtain ⟨f, rfl, rfl, v, hd, dq⟩ := r1.pop.top
  exact ⟨_, cv, C, d, _, b, rfl, kc, rfl, rfl, X.xc, r1.sub _ _ hd, kk, k _ _ _ _ _ (r1.pop.pop.push (.bl b)) q⟩) h
theorem x_isX1 {a C D d : Addr} {x : PyData} {b : Bool} (kk : PySem.W.kitOne K (.ref C) (.ref D) = some b) (h : Φ (.w (.d (.bool b))) ρ) : QIsX K a C d [.w (.ex a d x), .w (.v (.ref D))] ρ Φ := ⟨x, _, _, b, rfl, .own D, kk, h⟩
theorem x_isX2 {a C d : Addr} {n : String} {x : PyData} {b : Bool} (kk : PySem.W.kitOne K (.ref C) (.type n) = some b) (h : Φ (.w (.d (.bool b))) ρ) : QIsX K a C d [.w (.ex a d x), .w (.v (.ty n))] ρ Φ := ⟨x, _, _, b, rfl, .ty n, kk, h⟩
-- lending
theorem J_lend {xs : List PyData} [h0 : SlotAt ρ i (some (.l xs))] (h : ∀ p, ∃ ρ', ρ.set i (some (.r p xs)) = ρ' ∧ JS K B t ρ' E) : JS K B t ρ E := fun G σ F H D r ed => by
  obtain ⟨p, r'⟩ := r.lend h0.eq
  obtain ⟨ρ', rfl, k⟩ := h p
  exact k _ _ _ _ _ r' ed
theorem J_unlend {p : Addr} {xs : List PyData} [h0 : SlotAt ρ i (some (.r p xs))] [h1 : SetAt ρ i (some (.l xs)) ρ'] (h : JS K B t ρ' E) : JS K B t ρ E := fun G σ F H D r ed => by
  have r' := r.unlend h0.eq
  rw [h1.eq] at r'
  exact h _ _ _ _ _ r' ed
theorem pe_xwK {X : Cx} {K : PySem.W.Frag} {a : Addr} {cl : Value} {dd : Option Addr} {ob : Obj} {pn : List (Addr × Obj)} {e : Expr} {te : TE} {pos : Pos} {n : Str} (hK : X.K = K) (hz : Zc cl dd ob) (hf : ∃ vs, ob.data = .fields vs)
    (he : PE (X.suite a ((a, ob) :: pn)) e te) (hb : attributeBase e n X.env (eval e X.env) = eval e X.env := by rfl) : PE (X.suite a ((a, ob) :: pn)) (.Attribute e n pos) (tXw K a cl dd n te) := by subst hK; exact pe_xw hz hf he hb
theorem call_isXK {X : Cx} {K : PySem.W.Frag} {a : Addr} {cl : Value} {dd : Option Addr} {ob : Obj} {pn : List (Addr × Obj)} (hK : X.K = K) (hz : Zc cl dd ob) (hf : ∃ vs, ob.data = .fields vs) : CallR (X.suite a ((a, ob) :: pn)) (.builtin "isinstance") (rIsX K a cl dd) := by subst hK; exact call_isX hz hf
theorem ps_rowsK {X : Cx} {K : PySem.W.Frag} {bd : List Stmt} {h0 : ExceptHandler} {hs : List ExceptHandler} {l : List Cls1} {pos : Pos} {tb : WX → TS} {Wo : WX} (hK : X.K = K) (st : X.stack = X.env :: X.outer) (hf : X.env.frame = some X.env.locals) (hN : X.N.Nodup) (tk : Takes X Wo)
    (hb : ∀ (V : WX) (pn : List (Addr × Obj)) (xe : Value → Shared → Prop), Takes (X.tr pn xe) V → PassesOwn (model X.prog X.w) X.A X.env xe → PSs (X.tr pn xe) bd (tb V))
    (hr : Rows X (h0 :: hs) l) : PS X (.Try bd (h0 :: hs) [] [] pos) (tTry K Wo l tb) := by subst hK; exact ps_rows st hf hN tk hb hr
end
end WD

set_option Elab.async false
set_option linter.all false
set_option maxRecDepth 100000
set_option maxHeartbeats 1000000
namespace WD
open PySem PySem.Spec PyProof.Rows L2
/-! several targets at once -/
section
variable {K : PySem.W.Frag} {B B' : Base} {G : Hp} {ρ ρ' : Env} {Φ : T → Env → Prop} {E : JE} {ta tb tc te : TE} {t u : TS} {tt tt' : TT} {i : Nat} {ΦB : Bool → Env → Prop} {ΦL : List T → Env → Prop} {ΦE : Env → Prop} {tr : TA} {Ψ : List PyData → Env → Prop} {σ : L2.St} {τ : List T} {vs : List V} {F H F' H' : Hp}
theorem RT.split {ts : List T} {us : List V} {fp : List Addr} (l : ts.length = us.length) (h : RT K ρ σ F H (ts ++ τ) (us ++ vs) fp) : ∃ f1 f2, fp = f1 ++ f2 ∧ RT K ρ σ F H ts us f1 ∧ RT K ρ σ F H τ vs f2 := by
  induction ts generalizing us fp with
  | nil => cases us with
    | nil => exact ⟨[], fp, rfl, .nil, h⟩
    | cons _ _ => simp at l
  | cons t ts ih => cases us with
    | nil => simp at l
    | cons u us =>
      cases h with
      | w r g =>
        obtain ⟨f1, f2, rfl, a, b⟩ := ih (by simpa using l) g
        exact ⟨_, f2, (List.append_assoc _ _ _).symm, .w r a, b⟩
      | p x y z g =>
        obtain ⟨f1, f2, rfl, a, b⟩ := ih (by simpa using l) g
        exact ⟨f1, f2, rfl, .p x y z a, b⟩
theorem RT.join {ts : List T} {us : List V} {f1 f2 : List Addr} (h : RT K ρ σ F H ts us f1) (g : RT K ρ σ F H τ vs f2) : RT K ρ σ F H (ts ++ τ) (us ++ vs) (f1 ++ f2) := by
  induction h with
  | nil => exact g
  | w r _ ih => rw [List.append_assoc]; exact .w r ih
  | p x y z _ ih => exact .p x y z ih
theorem RT.rev {ts : List T} {us : List V} {f : List Addr} (h : RT K ρ σ F H ts us f) : ∃ f', RT K ρ σ F H ts.reverse us.reverse f' ∧ f'.Perm f := by
  induction h with
  | nil => exact ⟨[], .nil, List.Perm.refl _⟩
  | @w x u f τ vs fp r _ ih =>
    obtain ⟨f', a, b⟩ := ih
    refine ⟨f' ++ (f ++ []), ?_, ?_⟩
    · rw [List.reverse_cons, List.reverse_cons]; exact a.join (.w r .nil)
    · rw [List.append_nil]; exact (List.perm_append_comm).trans (List.Perm.append_left f b)
  | p x y z _ ih =>
    obtain ⟨f', a, b⟩ := ih
    refine ⟨f' ++ [], ?_, by rw [List.append_nil]; exact b⟩
    rw [List.reverse_cons, List.reverse_cons]; exact a.join (.p x y z .nil)
theorem Rel.unrev {ts : List T} {us : List V} (l : ts.length = us.length) (r : Rel K B G ρ σ (ts.reverse ++ τ) (us.reverse ++ vs) F H) : Rel K B G ρ σ (ts ++ τ) (us ++ vs) F H := by
  obtain ⟨fs, ft, a, b, c, d⟩ := r.ex
  obtain ⟨f1, f2, rfl, b1, b2⟩ := RT.split (by simpa using l) b
  obtain ⟨f', b3, pm⟩ := b1.rev
  rw [List.reverse_reverse, List.reverse_reverse] at b3
  have pm2 : (f' ++ f2 ++ fs).Perm (f1 ++ f2 ++ fs) := List.Perm.append_right fs (List.Perm.append_right f2 pm)
  exact ⟨⟨fs, f' ++ f2, a, b3.join b2, pm2.nodup_iff.mpr c, fun p m => d p (pm2.subset m)⟩, r.sub, r.stay, r.base, r.new⟩
/-- targets, each a value in flight -/
def JGt (K : PySem.W.Frag) (B : Base) (g : TGs) (ts : List T) (ρ : Env) (Φ : Env → Prop) : Prop := ∀ (G : Hp) (us : List V) (σ : L2.St) (F H : Hp) (Q : L2.St → Hp → Prop), ts.length = us.length → Rel K B G ρ σ ts us F H →
  (∀ σ' ρ' F' H', Rel K B G ρ' σ' [] [] F' H' → Φ ρ' → Q σ' H') → g us σ H Q
theorem JGt_nil (h : ΦE ρ) : JGt K B gNil [] ρ ΦE := fun G us σ F H Q l r k => by
  cases us with
  | nil => exact ⟨rfl, k _ _ _ _ r h⟩
  | cons _ _ => simp at l
theorem JGt_cons {g : TG} {gs : TGs} {t : T} {ts : List T} (h : JG K B false g t ρ fun ρ' => JGt K B gs ts ρ' ΦE) : JGt K B (gCons g gs) (t :: ts) ρ ΦE := fun G us σ F H Q l r k => by
  cases us with
  | nil => simp at l
  | cons u us =>
    exact ⟨u, us, rfl, h _ ts us u σ F H _ (fun z => by cases z) r fun σ1 ρ1 F1 H1 r1 q1 => q1 _ us σ1 F1 H1 Q (by simpa using l) r1 k⟩
class AllW (ts : List T) : Prop where
  ok : ∀ t ∈ ts, ∃ w, t = .w w
instance : AllW [] := ⟨by simp⟩
instance {w : W} {ts : List T} [h : AllW ts] : AllW (.w w :: ts) := ⟨fun t m => by
  rcases List.mem_cons.mp m with rfl | m
  · exact ⟨w, rfl⟩
  · exact h.ok t m⟩
theorem JGt_name {gs : TGs} {y : W} {ts : List T} [a : AllW ts] [h1 : SetAt ρ i (some y) ρ'] (h : JGt K B gs ts ρ' ΦE) : JGt K B (gCons (gName i) gs) (.w y :: ts) ρ ΦE := fun G us σ F H Q l r k => by
  cases us with
  | nil => simp at l
  | cons u us =>
    refine ⟨u, us, rfl, ?_⟩
    have r1 := r.asg h1.lt fun t m j e => by
      obtain ⟨w, rfl⟩ := a.ok t m
      cases e
    rw [h1.eq] at r1
    exact h _ us _ F H Q (by simpa using l) r1 k
theorem J_asgTup {n : Nat} {g : TGs} (h : JN K B tr ρ fun ts ρ1 => (ts.length = n ∧ ts.length ≤ sizeLine) ∧ JGt K B g ts ρ1 E.nx) : JS K B (tAsg (tTup tr) (gAny K n g)) ρ E := fun G σ F H D r ed => by
  show tr σ H fun xs H1 => xs.length ≤ sizeLine ∧ ∀ p, H1 p = none → gAny K n g (.ref p) σ (upd H1 p (.tup xs)) D.nx
  refine h _ [] [] σ F H _ r fun ts us ρ1 F1 H1 l r1 ⟨⟨e1, e2⟩, q⟩ => ⟨by rw [← l]; exact e2, fun p np => ?_⟩
  refine .inl ⟨p, us, rfl, SqT.of upd_same, by rw [← l]; exact e1, ?_⟩
  have r2 := (Rel.unrev l r1).noise (o := .tup us) np
  rw [List.append_nil, List.append_nil] at r2
  exact q _ us σ F1 _ _ l r2 fun σ' ρ' F' H' r' q' => ed.nx _ _ _ _ r' q'
theorem len_le {ts : List T} {n : Nat} (h : ts.length = n) (l : Nat.ble n 1000 = true) : ts.length = n ∧ ts.length ≤ sizeLine := ⟨h, by rw [h]; exact Nat.le_trans (Nat.le_of_ble_eq_true l) (by decide)⟩
def QPar (i j : Nat) (n : Env → Prop) (ts : List T) (ρ1 : Env) : Prop := ∃ w1 w2, ts = [.w w1, .w w2] ∧ (i ≠ j ∧ i < ρ1.length ∧ j < ρ1.length) ∧ n ((ρ1.set i (some w1)).set j (some w2))
def QPar3 (i j l : Nat) (n : Env → Prop) (ts : List T) (ρ1 : Env) : Prop := ∃ w1 w2 w3, ts = [.w w1, .w w2, .w w3] ∧ (i ≠ j ∧ i ≠ l ∧ j ≠ l ∧ i < ρ1.length ∧ j < ρ1.length ∧ l < ρ1.length) ∧ n (((ρ1.set i (some w1)).set j (some w2)).set l (some w3))
theorem J_par {j : Nat} (h : JN K B tr ρ fun ts ρ1 => ∃ w1 w2, ts = [.w w1, .w w2] ∧ (i ≠ j ∧ i < ρ1.length ∧ j < ρ1.length) ∧ E.nx ((ρ1.set i (some w1)).set j (some w2))) : JS K B (tPar i j tr) ρ E := fun G σ F H D r ed => by
  refine h _ [] [] σ F H _ r fun ts us ρ1 F1 H1 l r1 ⟨w1, w2, e, ⟨hij, li, lj⟩, q⟩ => ?_
  subst e
  obtain ⟨u, u', rfl⟩ := two_args l rfl
  have r2 : Rel K B G ρ1 σ [.w w2, .w w1] [u', u] F1 H1 := by simpa using r1
  have r3 := r2.asg lj (by simp)
  have r4 := r3.asg (i := i) (by rw [List.length_set]; exact li) (by simp)
  refine ⟨u, u', rfl, ?_⟩
  rw [List.set_comm _ _ hij]
  refine ed.nx _ _ _ _ r4 ?_
  rw [List.set_comm _ _ hij.symm]
  exact q
theorem J_par3 {j l : Nat} (h : JN K B tr ρ fun ts ρ1 => ∃ w1 w2 w3, ts = [.w w1, .w w2, .w w3] ∧ (i ≠ j ∧ i ≠ l ∧ j ≠ l ∧ i < ρ1.length ∧ j < ρ1.length ∧ l < ρ1.length) ∧ E.nx (((ρ1.set i (some w1)).set j (some w2)).set l (some w3))) : JS K B (tPar3 i j l tr) ρ E := fun G σ F H D r ed => by
  refine h _ [] [] σ F H _ r fun ts us ρ1 F1 H1 lt r1 ⟨w1, w2, w3, e, ⟨hij, hil, hjl, li, lj, ll⟩, q⟩ => ?_
  subst e
  obtain ⟨u, u', u'', rfl⟩ : ∃ u u' u'', us = [u, u', u''] := by
    match us, lt with
    | [a, b, c], _ => exact ⟨a, b, c, rfl⟩
  have r2 : Rel K B G ρ1 σ ([.w w1, .w w2, .w w3] ++ []) ([u, u', u''] ++ []) F1 H1 := Rel.unrev rfl (by simpa using r1)
  have r3 : Rel K B G (ρ1.set i (some w1)) (σ.set i (some u)) [.w w2, .w w3] [u', u''] F1 H1 := Rel.asg (by simpa using r2) li (by simp)
  have r4 := r3.asg (i := j) (by rw [List.length_set]; exact lj) (by simp)
  have r5 := r4.asg (i := l) (by rw [List.length_set, List.length_set]; exact ll) (by simp)
  exact ⟨u, u', u'', rfl, ed.nx _ _ _ _ r5 q⟩
class NeN (i j : Nat) : Prop where
  ne : i ≠ j
instance {j : Nat} : NeN 0 (j + 1) := ⟨by omega⟩
instance {i : Nat} : NeN (i + 1) 0 := ⟨by omega⟩
instance {i j : Nat} [h : NeN i j] : NeN (i + 1) (j + 1) := ⟨by have := h.ne; omega⟩
instance (priority := high) {n b c : Env → Prop} {r : W → Env → Prop} {m : Nat} {g : TGs} : Stp (JS K B (tAsg (tTup tr) (gAny K m g)) ρ ⟨n, r, b, c⟩) (JN K B tr ρ fun ts ρ1 => (ts.length = m ∧ ts.length ≤ sizeLine) ∧ JGt K B g ts ρ1 n) := ⟨J_asgTup (E := ⟨n, r, b, c⟩)⟩
theorem x_len2 {a b : T} {P : Prop} (h : P) : (([a, b] : List T).length = 2 ∧ ([a, b] : List T).length ≤ sizeLine) ∧ P := ⟨len_le rfl rfl, h⟩
theorem x_len3 {a b c : T} {P : Prop} (h : P) : (([a, b, c] : List T).length = 3 ∧ ([a, b, c] : List T).length ≤ sizeLine) ∧ P := ⟨len_le rfl rfl, h⟩
theorem x_len4 {a b c d : T} {P : Prop} (h : P) : (([a, b, c, d] : List T).length = 4 ∧ ([a, b, c, d] : List T).length ≤ sizeLine) ∧ P := ⟨len_le rfl rfl, h⟩
theorem x_len5 {a b c d e : T} {P : Prop} (h : P) : (([a, b, c, d, e] : List T).length = 5 ∧ ([a, b, c, d, e] : List T).length ≤ sizeLine) ∧ P := ⟨len_le rfl rfl, h⟩
instance {a b : T} {P : Prop} : Stp ((([a, b] : List T).length = 2 ∧ ([a, b] : List T).length ≤ sizeLine) ∧ P) P := ⟨x_len2⟩
instance {a b c : T} {P : Prop} : Stp ((([a, b, c] : List T).length = 3 ∧ ([a, b, c] : List T).length ≤ sizeLine) ∧ P) P := ⟨x_len3⟩
instance {a b c d : T} {P : Prop} : Stp ((([a, b, c, d] : List T).length = 4 ∧ ([a, b, c, d] : List T).length ≤ sizeLine) ∧ P) P := ⟨x_len4⟩
instance {a b c d e : T} {P : Prop} : Stp ((([a, b, c, d, e] : List T).length = 5 ∧ ([a, b, c, d, e] : List T).length ≤ sizeLine) ∧ P) P := ⟨x_len5⟩
instance : Stp (JGt K B gNil [] ρ ΦE) (ΦE ρ) := ⟨JGt_nil⟩
instance {to ti : TE} {st : TSet} {gs : TGs} {v : T} {ts : List T} : Stp (JGt K B (gCons (gSub to ti st) gs) (v :: ts) ρ ΦE) (JG K B false (gSub to ti st) v ρ fun ρ' => JGt K B gs ts ρ' ΦE) := ⟨JGt_cons⟩
instance {gs : TGs} {y : W} {ts : List T} [a : AllW ts] [h1 : SetAt ρ i (some y) ρ'] : Stp (JGt K B (gCons (gName i) gs) (.w y :: ts) ρ ΦE) (JGt K B gs ts ρ' ΦE) := ⟨JGt_name⟩
instance {n b c : Env → Prop} {r : W → Env → Prop} {j : Nat} : Stp (JS K B (tPar i j tr) ρ ⟨n, r, b, c⟩) (JN K B tr ρ (QPar i j n)) := ⟨J_par (E := ⟨n, r, b, c⟩)⟩
instance {j : Nat} {P : Env → Prop} {w1 w2 : W} {ρ1 ρ2 : Env} [ne : NeN i j] [h1 : SetAt ρ i (some w1) ρ1] [h2 : SetAt ρ1 j (some w2) ρ2] : Stp (QPar i j P [.w w1, .w w2] ρ) (P ρ2) := ⟨fun q => ⟨w1, w2, rfl, ⟨ne.ne, h1.lt, by have := h2.lt; rw [← h1.eq, List.length_set] at this; exact this⟩, by rw [h1.eq, h2.eq]; exact q⟩⟩
instance {n b c : Env → Prop} {r : W → Env → Prop} {j l : Nat} : Stp (JS K B (tPar3 i j l tr) ρ ⟨n, r, b, c⟩) (JN K B tr ρ (QPar3 i j l n)) := ⟨J_par3 (E := ⟨n, r, b, c⟩)⟩
instance {j l : Nat} {P : Env → Prop} {w1 w2 w3 : W} {ρ1 ρ2 ρ3 : Env} [n1 : NeN i j] [n2 : NeN i l] [n3 : NeN j l] [h1 : SetAt ρ i (some w1) ρ1] [h2 : SetAt ρ1 j (some w2) ρ2] [h3 : SetAt ρ2 l (some w3) ρ3] : Stp (QPar3 i j l P [.w w1, .w w2, .w w3] ρ) (P ρ3) := ⟨fun q => ⟨w1, w2, w3, rfl, ⟨n1.ne, n2.ne, n3.ne, h1.lt, by have := h2.lt; rw [← h1.eq, List.length_set] at this; exact this, by have := h3.lt; rw [← h2.eq, ← h1.eq, List.length_set, List.length_set] at this; exact this⟩, by rw [h1.eq, h2.eq, h3.eq]; exact q⟩⟩
end
end WD

set_option Elab.async false
set_option linter.all false
set_option maxRecDepth 100000
set_option maxHeartbeats 1000000
namespace WD
open PySem PySem.Spec PyProof.Rows L2
/-! rows cut and set; logs: versions, tables -/
theorem cutD_len (xs : List PyData) (lo hi : Option Int) : (cutD xs lo hi).length ≤ xs.length := by
  unfold cutD
  rw [List.length_take, List.length_drop]; omega
theorem cutD_take (xs : List PyData) (s : Nat) : cutD xs none (some (s : Int)) = xs.take s := by
  unfold cutD
  rw [HT.sIx_none, HT.sIx_nat]
  simp only [List.drop_zero, Nat.sub_zero]
  rw [List.take_eq_take_iff]; omega
theorem cutD_drop (xs : List PyData) (s : Nat) : cutD xs (some (s : Int)) none = xs.drop s := by
  unfold cutD
  rw [HT.sIx_none, HT.sIx_nat]
  rcases Nat.le_total s xs.length with h | h
  · rw [Nat.min_eq_left h]
    exact List.take_of_length_le (by simp)
  · rw [Nat.min_eq_right h, List.drop_length, List.drop_eq_nil_of_le h]; simp
theorem natD_inj {a b : Nat} (h : natD a = natD b) : a = b := by
  have : (a : Int) = (b : Int) := by injection h
  omega
theorem natsD_at {ns : List Nat} {i n : Nat} (h : ns[i]? = some n) : (natsD ns)[i]? = some (natD n) := by
  unfold natsD; rw [List.getElem?_map, h]; rfl
theorem natsD_set (ns : List Nat) (i n : Nat) : (natsD ns).set i (natD n) = natsD (ns.set i n) := by
  unfold natsD; rw [List.map_set]
theorem natsD_app (ns ms : List Nat) : natsD ns ++ natsD ms = natsD (ns ++ ms) := by unfold natsD; rw [List.map_append]
theorem natsD_take (ns : List Nat) (i : Nat) : (natsD ns).take i = natsD (ns.take i) := by unfold natsD; rw [List.map_take]
theorem natsD_drop (ns : List Nat) (i : Nat) : (natsD ns).drop i = natsD (ns.drop i) := by unfold natsD; rw [List.map_drop]
theorem natsD_rep (n m : Nat) : List.replicate n (natD m) = natsD (List.replicate n m) := by unfold natsD; rw [List.map_replicate]
/-- how often each page has been changed -/
def verL (P : Nat) (ds : List Deed) : List Nat := (List.range P).map fun p => ds.countP fun d => d.1 == p
theorem verL_len (P : Nat) (ds : List Deed) : (verL P ds).length = P := by unfold verL; simp
theorem verL_nil (P : Nat) : verL P [] = List.replicate P 0 := by
  unfold verL
  apply List.ext_getElem?
  intro i
  rw [List.getElem?_map, List.getElem?_replicate]
  by_cases h : i < P
  · rw [List.getElem?_range h, if_pos h]; rfl
  · rw [List.getElem?_eq_none (by simpa using h), if_neg h]; rfl
/-- the version of p behind the first s deeds -/
def ver (ds : List Deed) (s p : Nat) : Nat := (ds.take s).countP fun d => d.1 == p
theorem verL_at {P : Nat} {ds : List Deed} {p : Nat} (h : p < P) : (verL P ds)[p]? = some (ds.countP fun d => d.1 == p) := by
  unfold verL; rw [List.getElem?_map, List.getElem?_range h]; rfl
theorem verL_snoc {P : Nat} {ds : List Deed} {d : Deed} (h : d.1 < P) : verL P (ds ++ [d]) = (verL P ds).set d.1 (ds.countP (fun e => e.1 == d.1) + 1) := by
  apply List.ext_getElem?
  intro i
  by_cases hi : i < P
  · rw [verL_at hi]
    by_cases e : d.1 = i
    · subst e
      rw [List.getElem?_set_self (by rw [verL_len]; exact h)]
      simp
    · rw [List.getElem?_set_ne e, verL_at hi]
      simp [e]
  · rw [List.getElem?_eq_none (by rw [verL_len]; omega), List.getElem?_eq_none (by rw [List.length_set, verL_len]; omega)]
theorem verL_step {P : Nat} {ds : List Deed} {i : Nat} {d : Deed} (e : ds[i]? = some d) (h : d.1 < P) : verL P (ds.take (i + 1)) = (verL P (ds.take i)).set d.1 (ver ds i d.1 + 1) := by
  rw [List.take_succ, e]; exact verL_snoc h
theorem ver_at {P : Nat} {ds : List Deed} {s p : Nat} (h : p < P) : (verL P (ds.take s))[p]? = some (ver ds s p) := verL_at h
theorem ver_le (ds : List Deed) (s p : Nat) : ver ds s p ≤ s := Nat.le_trans List.countP_le_length (by rw [List.length_take]; omega)
theorem ver_le2 (ds : List Deed) (s p : Nat) : ver ds s p ≤ ds.length := Nat.le_trans List.countP_le_length (by rw [List.length_take]; omega)
/-- row s of the table: the versions behind the first s deeds -/
abbrev rowD (P : Nat) (ds : List Deed) (s : Nat) : PyData := .list (natsD (verL P (ds.take s)))
def tabXs (P : Nat) (ds : List Deed) : List PyData := (List.range (ds.length + 1)).map (rowD P ds)
abbrev tabD (P : Nat) (ds : List Deed) : PyData := .list (tabXs P ds)
theorem tabXs_len (P : Nat) (ds : List Deed) : (tabXs P ds).length = ds.length + 1 := by unfold tabXs; simp
theorem tabXs_at {P : Nat} {ds : List Deed} {s : Nat} (h : s ≤ ds.length) : (tabXs P ds)[s]? = some (rowD P ds s) := by
  unfold tabXs; rw [List.getElem?_map, List.getElem?_range (by omega)]; rfl
/-- a whole number or none -/
def optD : Option Nat → PyData
  | none => .none
  | some n => natD n
def lotD : Option (Nat × Nat) → PyData
  | none => .none
  | some ab => .tuple [natD ab.1, natD ab.2]
theorem dpt_opt (o : Option Nat) : Dpt 0 (optD o) := by cases o <;> first | exact dpt_none | exact dpt_int _
theorem dpt_nats (ns : List Nat) : ∀ x ∈ natsD ns, Dpt 0 x := fun x m => by
  obtain ⟨n, _, rfl⟩ := List.mem_map.mp m
  exact dpt_int _
theorem rgD_nats (n : Nat) : rgD 0 (n : Int) = natsD (List.range n) := rgD_nat n
theorem rgD_at {n i : Nat} {x : PyData} (e : (rgD 0 (n : Int))[i]? = some x) : i < n ∧ x = natD i := by
  obtain ⟨h, rfl⟩ := rgD_get e
  refine ⟨by simpa using h, ?_⟩
  simp
theorem atI_i {α : Type} {l : List α} {n : Int} {i : Nat} {x : α} (e : n = (i : Int)) (h : l[i]? = some x) : atI l n = some x := by subst e; exact atI_nat h
theorem natsD_erase (ns : List Nat) (i : Nat) : (natsD ns).eraseIdx i = natsD (ns.eraseIdx i) := by unfold natsD; rw [List.eraseIdx_eq_take_drop_succ, List.eraseIdx_eq_take_drop_succ, List.map_append, List.map_take, List.map_drop]
theorem seqIx_nat {n m : Nat} (h : n < m) : seqIndex? (n : Int) m = some n := by
  unfold seqIndex?
  simp
  omega
theorem x_RPopN {n : Nat} {x : PyData} {xs : List PyData} {P : List PyData → PyData → Prop} (e2 : xs[n]? = some x) (l : xs.length ≤ sizeLine) (h : P (xs.eraseIdx n) x) : RPopAt [.w (.d (.int (n : Int)))] xs P := by
  have hn := (List.getElem?_eq_some_iff.mp e2).1
  have := sizeLine_eq
  exact x_RPopAt ⟨by omega, by omega⟩ (seqIx_nat hn) e2 h
theorem ver_mono (ds : List Deed) {s t p : Nat} (h : s ≤ t) : ver ds s p ≤ ver ds t p := by
  unfold ver
  exact List.Sublist.countP_le (List.take_sublist_take_left h)
theorem verF_at {P : Nat} {ds : List Deed} {p : Nat} (h : p < P) : (verL P ds)[p]? = some (ver ds ds.length p) := by
  unfold ver; rw [List.take_length]; exact verL_at h
theorem ver_top (ds : List Deed) (s p : Nat) : ver ds s p ≤ ver ds ds.length p := by
  rcases Nat.le_total s ds.length with h | h
  · exact ver_mono ds h
  · unfold ver; rw [List.take_of_length_le h, List.take_length]; exact Nat.le_refl _
theorem tab_last (P : Nat) (ds : List Deed) : atI (tabXs P ds) (-1) = some (.list (natsD (verL P ds))) := by
  apply atI_last
  rw [List.getLast?_eq_getElem?, tabXs_len, Nat.add_sub_cancel, tabXs_at (Nat.le_refl _)]
  unfold rowD; rw [List.take_length]
theorem tab_at {P s : Nat} {ds : List Deed} (h : s ≤ ds.length) : atI (tabXs P ds) (s : Int) = some (.list (natsD (verL P (ds.take s)))) := atI_nat (tabXs_at h)
/-- an image of a log: no page's version is above its newest -/
def ImgOk (P : Nat) (ds : List Deed) (img : List (Option Nat)) : Prop := img.length = P ∧ ∀ p v, img[p]? = some (some v) → v ≤ ver ds ds.length p
theorem ver_step {ds : List Deed} {i : Nat} {d : Deed} (e : ds[i]? = some d) : ver ds (i + 1) d.1 = ver ds i d.1 + 1 := by
  unfold ver; rw [List.take_succ, e]; simp
/-- for each page a row of truths, one for each of its versions -/
def HeldOk (P : Nat) (ds : List Deed) (hss : List (List PyData)) : Prop := hss.length = P ∧ ∀ (i : Nat) (ys : List PyData), hss[i]? = some ys → ∃ bs : List Bool, ys = bs.map PyData.bool ∧ bs.length = ver ds ds.length i + 1
theorem boolD_at {bs : List Bool} {i : Nat} (h : i < bs.length) : (bs.map PyData.bool)[i]? = some (PyData.bool bs[i]) := by rw [List.getElem?_map, List.getElem?_eq_getElem h]; rfl
theorem HeldOk.at {P : Nat} {ds : List Deed} {hss : List (List PyData)} (h : HeldOk P ds hss) {i : Nat} (hi : i < P) : ∃ bs : List Bool, hss[i]? = some (bs.map PyData.bool) ∧ bs.length = ver ds ds.length i + 1 := by
  have hl : i < hss.length := by rw [h.1]; exact hi
  have e : hss[i]? = some hss[i] := List.getElem?_eq_getElem hl
  obtain ⟨bs, e1, e2⟩ := h.2 _ _ e
  exact ⟨bs, by rw [e, e1], e2⟩
theorem HeldOk.set {P : Nat} {ds : List Deed} {hss : List (List PyData)} (h : HeldOk P ds hss) {i j : Nat} {bs : List Bool} (e : hss[i]? = some (bs.map PyData.bool)) (b : Bool) : HeldOk P ds (hss.set i ((bs.map PyData.bool).set j (.bool b))) := by
  refine ⟨by rw [List.length_set]; exact h.1, fun k ys ek => ?_⟩
  by_cases z : i = k
  · subst z
    have hi := (List.getElem?_eq_some_iff.mp e).1
    rw [List.getElem?_set_self hi] at ek
    cases ek
    obtain ⟨bs', e1, e2⟩ := h.2 _ _ e
    refine ⟨bs.set j b, by rw [List.map_set], ?_⟩
    have : bs.length = bs'.length := by
      have := congrArg List.length e1
      simpa using this
    rw [List.length_set, this]; exact e2
  · rw [List.getElem?_set_ne z] at ek
    exact h.2 k ys ek
theorem asc_len : ∀ (ns : List Nat) (lo P : Nat), ns.Pairwise (· < ·) → (∀ n ∈ ns, lo ≤ n ∧ n < P) → ns.length ≤ P - lo
  | [], _, _, _, _ => Nat.zero_le _
  | n :: ns, lo, P, h, b => by
    obtain ⟨h1, h2⟩ := List.pairwise_cons.mp h
    have bn := b n List.mem_cons_self
    have := asc_len ns (n + 1) P h2 fun m mm => ⟨h1 m mm, (b m (List.mem_cons_of_mem _ mm)).2⟩
    simp only [List.length_cons]; omega
theorem WfD.len {P : Nat} {d : Deed} (h : WfD P d) : d.2.length ≤ P := by
  have := asc_len d.2 0 P h.asc fun n m => ⟨Nat.zero_le _, (h.rd n m).1⟩
  omega
abbrev boolsD (bs : List Bool) : PyData := .list (bs.map PyData.bool)
theorem HeldOk.bss {P : Nat} {ds : List Deed} {hss : List (List PyData)} (h : HeldOk P ds hss) : ∃ bss : List (List Bool), hss.map PyData.list = bss.map boolsD ∧ bss.length = P ∧ ∀ i bs, bss[i]? = some bs → bs.length = ver ds ds.length i + 1 := by
  have key : ∀ (hss : List (List PyData)) (f : Nat → Nat), (∀ i ys, hss[i]? = some ys → ∃ bs : List Bool, ys = bs.map PyData.bool ∧ bs.length = f i) → ∃ bss : List (List Bool), hss.map PyData.list = bss.map boolsD ∧ bss.length = hss.length ∧ ∀ i bs, bss[i]? = some bs → bs.length = f i := by
    intro hss
    induction hss with
    | nil => intro f _; exact ⟨[], rfl, rfl, by simp⟩
    | cons ys hss ih =>
      intro f h
      obtain ⟨bs, e1, e2⟩ := h 0 ys rfl
      obtain ⟨bss, g1, g2, g3⟩ := ih (fun i => f (i + 1)) fun i ys e => h (i + 1) ys (by simpa using e)
      refine ⟨bs :: bss, by simp only [List.map_cons, g1, e1], by simp [g2], fun i cs e => ?_⟩
      cases i with
      | zero => simp at e; subst e; exact e2
      | succ i => exact g3 i cs (by simpa using e)
  obtain ⟨bss, g1, g2, g3⟩ := key hss (fun i => ver ds ds.length i + 1) h.2
  exact ⟨bss, g1, by rw [g2, h.1], g3⟩
/-- the lowest and the highest truth of a row -/
def lotB (bs : List Bool) : Option (Nat × Nat) := match (List.range bs.length).filter (fun i => bs.getD i false) with
  | [] => none
  | a :: r => some (a, (a :: r).getLast (by simp))
theorem lotB_ok {bs : List Bool} {a b : Nat} (h : lotB bs = some (a, b)) : a ≤ b ∧ b < bs.length := by
  unfold lotB at h
  split at h
  · cases h
  · rename_i a' r e
    cases h
    have sub : (a :: r).Sublist (List.range bs.length) := by rw [← e]; exact List.filter_sublist
    have m := List.getLast_mem (l := a :: r) (by simp)
    refine ⟨?_, List.mem_range.mp (sub.subset m)⟩
    have pw := (List.pairwise_lt_range (n := bs.length)).sublist sub
    rcases List.mem_cons.mp m with z | z
    · omega
    · exact Nat.le_of_lt ((List.pairwise_cons.mp pw).1 _ z)
end WD

set_option Elab.async false
set_option linter.all false
set_option maxRecDepth 100000
set_option maxHeartbeats 1000000
namespace WD
open PySem PySem.Spec PyProof.Rows L2
/-! comprehensions, by what their rows are -/
section
variable {K : PySem.W.Frag} {B B' : Base} {G : Hp} {ρ ρ' : Env} {Φ : T → Env → Prop} {E : JE} {ta tb tc te : TE} {t u : TS} {tt tt' : TT} {i : Nat} {ΦB : Bool → Env → Prop} {ΦL : List T → Env → Prop} {ΦE : Env → Prop} {tr : TA} {Ψ : List PyData → Env → Prop} {g : TG} {vs : List Nat}
theorem JH.imp {x : PyData} {P Q : Env → Prop} (h : JH K B vs g x ρ P) (im : ∀ ρ, P ρ → Q ρ) : JH K B vs g x ρ Q := fun G τ us u σ F H R r d k => h G τ us u σ F H R r d fun σ' ρ' r' e q => k σ' ρ' r' e (im _ q)
theorem J.imp {te : TE} {P Q : T → Env → Prop} (h : J K B te ρ P) (im : ∀ t ρ, P t ρ → Q t ρ) : J K B te ρ Q := fun G τ vs σ F H R r k => h G τ vs σ F H R r fun t u ρ' F' H' r' q => k t u ρ' F' H' r' (im _ _ q)
theorem JT.imp {P Q : Bool → Env → Prop} (h : JT K B tt ρ P) (im : ∀ t ρ, P t ρ → Q t ρ) : JT K B tt ρ Q := fun G τ vs σ F H R r k => h G τ vs σ F H R r fun b ρ' F' H' r' q => k b ρ' F' H' r' (im _ _ q)
/-- what an item's turn asks of the slots -/
def Wiped (ρ : Env) (vs : List Nat) (ρ2 : Env) : Prop := wipeE ρ2 vs = wipeE ρ vs ∧ NoOwn1 ρ2 vs
/-- every item, by an invariant -/
theorem x_LcInv {xs : List PyData} (Iv : Nat → List PyData → Prop) (no : NoOwn ρ vs) (l : xs.length ≤ sizeLine) (h0 : Iv 0 []) (hl : ∀ i acc, Iv i acc → acc.length ≤ i)
    (hs : ∀ i x acc, xs[i]? = some x → Iv i acc → JH K B vs g x (wipeE ρ vs) fun ρ2 => Wiped ρ vs ρ2 ∧ JT K B tt ρ2 fun b ρ3 => if b = true then J K B te ρ3 (QFz fun t ρ4 => ∃ y, t = .w (.d y) ∧ Wiped ρ vs ρ4 ∧ Iv (i + 1) (acc ++ [y])) else Wiped ρ vs ρ3 ∧ Iv (i + 1) acc)
    (hd : ∀ acc, Iv xs.length acc → Φ (.w (.l acc)) ρ) : QLcU K B g tt te vs Φ xs ρ := by
  refine .inl ⟨no, Iv, h0, fun i x acc e h => (hs i x acc e h).imp fun ρ2 ⟨⟨w1, w2⟩, k⟩ => ⟨w1, w2, k.imp fun b ρ3 q => ?_⟩, hd⟩
  have hi := (List.getElem?_eq_some_iff.mp e).1
  have ha := hl i acc h
  cases b with
  | false => rw [if_neg Bool.false_ne_true] at q ⊢; exact ⟨q.1.1, q.1.2, q.2⟩
  | true =>
    rw [if_pos rfl] at q ⊢
    exact q.imp fun t ρ4 q => QFz.imp (fun t ρ ⟨y, e1, ⟨a, b⟩, c⟩ => ⟨y, e1, a, b, by omega, c⟩) q
theorem x_LcIdx {xs : List PyData} (f : Nat → PyData) (no : NoOwn ρ vs) (l : xs.length ≤ sizeLine)
    (hs : ∀ i x, xs[i]? = some x → JH K B vs g x (wipeE ρ vs) fun ρ2 => Wiped ρ vs ρ2 ∧ J K B te ρ2 (QFz fun t ρ4 => t = .w (.d (f i)) ∧ Wiped ρ vs ρ4)) (hd : Φ (.w (.l ((List.range xs.length).map f))) ρ) : QLcU K B g tYes te vs Φ xs ρ :=
  x_LcInv (fun i acc => acc = (List.range i).map f) no l rfl (fun i acc e => by rw [e]; simp) (fun i x acc e h => (hs i x e).imp fun ρ2 ⟨a, b⟩ => ⟨a, JT_yes (by
    rw [if_pos rfl]
    exact b.imp fun t ρ4 q => QFz.imp (fun t ρ ⟨e1, w⟩ => ⟨f i, e1, w, by rw [h, List.range_succ, List.map_append]; rfl⟩) q)⟩) fun acc h => by rw [h]; exact hd
/-- any part of a row of numbers, told by a property -/
theorem x_LcSub {ns : List Nat} {xs : List PyData} (p : Nat → Prop) (ex : xs = natsD ns) (no : NoOwn ρ vs) (l : ns.length ≤ sizeLine)
    (hs : ∀ n, n ∈ ns → JH K B vs g (natD n) (wipeE ρ vs) fun ρ2 => Wiped ρ vs ρ2 ∧ JT K B tt ρ2 fun b ρ3 => if b = true then p n ∧ J K B te ρ3 (QFz fun t ρ4 => t = .w (.d (natD n)) ∧ Wiped ρ vs ρ4) else Wiped ρ vs ρ3)
    (hd : ∀ zs : List Nat, zs.Sublist ns → (∀ z ∈ zs, p z) → Φ (.w (.l (natsD zs))) ρ) : QLcU K B g tt te vs Φ xs ρ := by
  subst ex
  refine x_LcInv (fun i acc => ∃ zs : List Nat, acc = natsD zs ∧ zs.Sublist (ns.take i) ∧ ∀ z ∈ zs, p z) no (by rw [natsD_len]; exact l) ⟨[], rfl, List.nil_sublist _, by simp⟩ ?_ ?_ ?_
  · rintro i acc ⟨zs, rfl, h, _⟩
    rw [natsD_len]
    exact Nat.le_trans h.length_le (by rw [List.length_take]; omega)
  · rintro i x acc e ⟨zs, rfl, h, hp⟩
    obtain ⟨n, en, rfl⟩ := natsD_get e
    have up : ns.take (i + 1) = ns.take i ++ [n] := by rw [List.take_succ, en]; rfl
    refine (hs n (List.mem_of_getElem? en)).imp fun ρ2 ⟨a, k⟩ => ⟨a, k.imp fun b ρ3 q => ?_⟩
    cases b with
    | false =>
      rw [if_neg Bool.false_ne_true] at q ⊢
      exact ⟨q, zs, rfl, by rw [up]; exact h.trans (List.sublist_append_left _ _), hp⟩
    | true =>
      rw [if_pos rfl] at q ⊢
      obtain ⟨pn, q⟩ := q
      exact q.imp fun t ρ4 q => QFz.imp (fun t ρ ⟨e1, w⟩ => ⟨natD n, e1, w, zs ++ [n], by rw [← natsD_app]; rfl, by rw [up]; exact List.Sublist.append h (List.Sublist.refl _), fun z m => by
        rcases List.mem_append.mp m with m | m
        · exact hp z m
        · rw [List.mem_singleton.mp m]; exact pn⟩) q
  · rintro acc ⟨zs, rfl, h, hp⟩
    rw [natsD_len, List.take_length] at h
    exact hd zs h hp
/-- rows of one's own, by index -/
theorem x_LcOwn {xs : List PyData} (P : Nat → List PyData → Prop) (no : NoOwn ρ vs) (l : xs.length ≤ sizeLine)
    (hs : ∀ i x, xs[i]? = some x → JH K B vs g x (wipeE ρ vs) fun ρ2 => Wiped ρ vs ρ2 ∧ J K B te ρ2 (fun t ρ4 => ∃ ys, t = .w (.l ys) ∧ Wiped ρ vs ρ4 ∧ P i ys))
    (hd : ∀ p qs xss, qs.length = xs.length → xss.length = xs.length → (∀ i ys, xss[i]? = some ys → P i ys) → Φ (.w (.hl p qs xss)) ρ) : QLcU K B g tYes te vs Φ xs ρ := by
  refine .inr ⟨no, fun i acc => acc.length = i ∧ ∀ j ys, acc[j]? = some ys → P j ys, ⟨rfl, by simp⟩, fun i x acc e ⟨h1, h2⟩ => (hs i x e).imp fun ρ2 ⟨⟨w1, w2⟩, k⟩ => ⟨w1, w2, JT_yes ?_⟩, fun p qs acc le ⟨h1, h2⟩ => hd p qs acc (by omega) h1 h2⟩
  rw [if_pos rfl]
  have hi := (List.getElem?_eq_some_iff.mp e).1
  refine k.imp fun t ρ4 ⟨ys, e1, ⟨a, b⟩, c⟩ => ⟨ys, e1, a, b, by omega, by simp [h1], fun j zs ej => ?_⟩
  by_cases hj : j < acc.length
  · rw [List.getElem?_append_left hj] at ej; exact h2 j zs ej
  · have hlen : j < (acc ++ [ys]).length := (List.getElem?_eq_some_iff.mp ej).1
    rw [List.length_append, List.length_singleton] at hlen
    have : j = acc.length := by omega
    subst this
    rw [List.getElem?_append_right (Nat.le_refl _), Nat.sub_self] at ej
    cases ej
    rw [h1]; exact c
instance {x : W} {P : W → Prop} : Stp (∃ y, T.w x = .w y ∧ P y) (P x) := ⟨fun h => ⟨x, rfl, h⟩⟩
/-- what follows is walked once -/
theorem J_cut {n b c : Env → Prop} {r : W → Env → Prop} (R : Env → Prop) (h : JS K B t ρ ⟨R, r, b, c⟩) (h2 : ∀ ρ, R ρ → n ρ) : JS K B t ρ ⟨n, r, b, c⟩ := fun G σ F H D rl ed => h G σ F H D rl ⟨fun ρ σ F H r' q => ed.nx _ _ _ _ r' (h2 _ q), ed.rt, ed.bk, ed.ct⟩
theorem J_cutS {n b c : Env → Prop} {r : W → Env → Prop} (R : Env → Prop) (h : JS K B t ρ ⟨R, r, b, c⟩) (h2 : ∀ ρ, R ρ → JS K B u ρ ⟨n, r, b, c⟩) : JS K B (tSeq t u) ρ ⟨n, r, b, c⟩ := J_seq (E := ⟨n, r, b, c⟩) (J_cut R h h2)
theorem J_cutE {te : TE} (R : T → Env → Prop) (h : J K B te ρ R) (h2 : ∀ t ρ, R t ρ → Φ t ρ) : J K B te ρ Φ := h.imp h2
theorem x_QSetHN {x : PyData} {p q : Addr} {qs : List Addr} {xss : List (List PyData)} {xs : List PyData} {n : Int} {j m : Nat} (e0 : ρ[i]? = some (some (.hl p qs xss))) (eq : qs[j]? = some q) (ex : xss[j]? = some xs) (hm : ixN xs.length n = some m) [e : SetAt ρ i (some (.hl p qs (xss.set j (xs.set m x)))) ρ'] (h : ΦE ρ') : QSet x ΦE (.w (.v (.ref q))) (.w (.d (.int n))) ρ := x_QSetH e0 eq ex hm e.eq h
/-- the numbers of a row that pass -/
theorem x_LcFilN {ns : List Nat} {xs : List PyData} (b : Nat → Bool) (ex : xs = natsD ns) (no : NoOwn ρ vs) (l : ns.length ≤ sizeLine)
    (hs : ∀ n, n ∈ ns → JH K B vs g (natD n) (wipeE ρ vs) fun ρ2 => Wiped ρ vs ρ2 ∧ JT K B tt ρ2 fun c ρ3 => c = b n ∧ if c = true then J K B te ρ3 (QFz fun t ρ4 => t = .w (.d (natD n)) ∧ Wiped ρ vs ρ4) else Wiped ρ vs ρ3)
    (hd : Φ (.w (.l (natsD (ns.filter b)))) ρ) : QLcU K B g tt te vs Φ xs ρ := by
  subst ex
  refine x_LcInv (fun i acc => acc = natsD ((ns.take i).filter b)) no (by rw [natsD_len]; exact l) rfl (fun i acc e => ?_) (fun i x acc e h => ?_) fun acc h => ?_
  · rw [e, natsD_len]
    exact Nat.le_trans (List.length_filter_le _ _) (by rw [List.length_take]; omega)
  · obtain ⟨n, en, rfl⟩ := natsD_get e
    have up : natsD ((ns.take (i + 1)).filter b) = acc ++ natsD (if b n = true then [n] else []) := by
      rw [List.take_succ, en, Option.toList_some, List.filter_append, ← natsD_app, ← h]
      congr 2
      by_cases c : b n = true
      · rw [if_pos c]; simp [c]
      · rw [if_neg c]; simp [c]
    refine (hs n (List.mem_of_getElem? en)).imp fun ρ2 ⟨a, k⟩ => ⟨a, k.imp fun c ρ3 ⟨ec, q⟩ => ?_⟩
    cases c with
    | false =>
      rw [if_neg Bool.false_ne_true] at q ⊢
      exact ⟨q, by rw [up, ← ec]; simp [natsD]⟩
    | true =>
      rw [if_pos rfl] at q ⊢
      exact q.imp fun t ρ4 q => QFz.imp (fun t ρ ⟨e1, w⟩ => ⟨natD n, e1, w, by rw [up, ← ec]; rfl⟩) q
  · rw [natsD_len, List.take_length] at h
    rw [h]; exact hd
end
end WD

set_option maxHeartbeats 8000000

namespace WD
open PySem PySem.Spec PyProof.Rows L2
-- p ≠ q of two addresses
local macro_rules | `(tactic| walk_at "ne") => `(tactic| first
  | with_reducible assumption
  | with_reducible exact Ne.symm (by assumption)
  | exact ne_some (by with_reducible assumption) (by with_reducible assumption)
  | exact Ne.symm (ne_some (by with_reducible assumption) (by with_reducible assumption)))
local macro_rules | `(tactic| walk_at "nm") => `(tactic| first | with_reducible assumption | with_reducible exact nm0 | ((with_reducible refine' nmS ?a ?b); (case a => walk_at "ne"); (case b => walk_at "nm")))
-- H p = some ?o
local macro_rules | `(tactic| walk_at "hp") => `(tactic| first
  | with_reducible exact upd_same
  | with_reducible assumption
  | ((with_reducible refine' Eq.trans (upd_ne ?a) ?b); (case a => walk_at "ne"); (case b => walk_at "hp"))
  | exact Stay.keep (by with_reducible assumption) _ _ (by walk_at "hp") (by walk_at "nm"))
local macro_rules | `(tactic| walk_at "hpd") => `(tactic| ((refine' Eq.trans ?h ?e); (case h => walk_at "hp"); (case e => exact rfl)))
-- a new address
local macro_rules | `(tactic| walk_at "nw") => `(tactic| ((repeat first | (with_reducible refine' nw_upd ?_) | refine' nw_fr (by with_reducible assumption) ?_); intro p_; intros))
local macro_rules | `(tactic| walk_at "mem") => `(tactic| first | exact List.mem_cons_self | (refine' List.mem_cons_of_mem _ ?_; walk_at "mem"))
-- what stands stays
local macro_rules | `(tactic| walk_at "fr") => `(tactic| first
  | with_reducible assumption
  | exact Stay.refl _ _
  | ((with_reducible refine' Stay.upd ?a ?b); (case a => walk_at "fr"); (case b => walk_at "mem"))
  | ((with_reducible refine' Stay.new ?a ?b); (case b => with_reducible assumption); (case a => walk_at "fr"))
  | (refine' Stay.trans ?_ (by with_reducible assumption); walk_at "fr"))
local macro_rules | `(tactic| walk_at "sq") => `(tactic| first | with_reducible assumption | exact SqL.of (by walk_at "hp"))
local macro_rules | `(tactic| walk_at "sqt") => `(tactic| first | with_reducible assumption | exact SqT.of (by walk_at "hp"))
-- side goals
local macro_rules | `(tactic| walk_at "sd") => `(tactic| first
  | with_reducible assumption | with_reducible rfl | (show _ ≤ sizeLine; decide) | (refine Nat.le_trans (Nat.le_of_ble_eq_true (m := 1000) rfl) (by decide)) | decide | omega
  | exact IntMulOk.of_right (intBits_le_64 (by omega) (by omega)) | exact IntMulOk.of_left (intBits_le_64 (by omega) (by omega))
  | (refine' Or.inl ⟨?_, ?_⟩ <;> omega) | (refine' Or.inr ⟨?_, ?_⟩ <;> omega)
  | (refine' ⟨?_, ?_⟩ <;> walk_at "sd") | (refine' ⟨?_, ?_, ?_⟩ <;> walk_at "sd"))
local macro_rules | `(tactic| walk_at "set") => `(tactic| first | with_reducible exact set0 | with_reducible exact set1 | with_reducible exact set2 | with_reducible exact set3 | with_reducible exact set4 | with_reducible exact set5 | with_reducible exact set6 | with_reducible exact set7 | with_reducible exact set8 | with_reducible exact set9 | with_reducible exact set10 | with_reducible exact set11 | with_reducible exact set12 | with_reducible exact set13 | with_reducible exact set14 | with_reducible exact set15 | with_reducible exact set16 | with_reducible exact set17 | with_reducible exact set18 | with_reducible exact set19 | with_reducible exact set20)
-- one step
local macro_rules | `(tactic| walk_at "st0") => `(tactic| first
  | with_reducible refine' x_seq ?_
  | with_reducible refine' x_next ?_
  | with_reducible refine' x_ifS ?_
  | with_reducible refine' x_asg ?_
  | with_reducible refine' x_ret ?_
  | with_reducible refine' x_retN ?_
  | with_reducible refine' x_drop ?_
  | with_reducible refine' x_brk ?_
  | with_reducible refine' x_cont ?_
  | ((with_reducible refine' x_gName ?e ?_); (case e => walk_at "set"))
  | with_reducible refine' x_gSub ?_
  | with_reducible refine' x_gCons ?_
  | with_reducible refine' x_gNil ?_
  | with_reducible refine' x_c ?_
  | ((with_reducible refine' x_var ?e ?_); (case e => exact rfl))
  | with_reducible refine' x_op ?_
  | with_reducible refine' x_un ?_
  | with_reducible refine' x_if ?_
  | with_reducible refine' x_cb ?_
  | with_reducible refine' x_cons ?_
  | with_reducible refine' x_nil ?_
  | with_reducible refine' x_bm0 ?_
  | with_reducible refine' x_bm ?_
  | with_reducible refine' x_tup ?_
  | with_reducible refine' x_lst ?_
  | ((with_reducible refine' And.intro (a := _ ≤ sizeLine) ?e ?_); (case e => walk_at "sd"); walk_at "nw")
  | with_reducible refine' x_fld ?_
  | with_reducible refine' x_test ?_
  | with_reducible refine' x_tB ?_
  | with_reducible refine' x_and ?_
  | with_reducible refine' x_or ?_
  | with_reducible refine' x_not ?_
  | with_reducible refine' x_notV ?_
  | with_reducible refine' x_andV ?_
  | with_reducible refine' x_orV ?_
  | with_reducible refine' x_rI0 ?_
  | ((with_reducible refine' x_rI ?e ?_); (case e => walk_at "sd"))
  | with_reducible refine' x_rU ?_
  | ((with_reducible refine' x_rEq ?e ?_); (case e => exact rfl))
  | ((with_reducible refine' x_rNe ?e ?_); (case e => exact rfl))
  | ((with_reducible refine' x_ixL0 ?h ?_); (case h => walk_at "sq"))
  | ((with_reducible refine' x_ixL1 ?h ?_); (case h => walk_at "sq"))
  | ((with_reducible refine' x_ixL2 ?h ?_); (case h => walk_at "sq"))
  | ((with_reducible refine' x_ixL0I ?h ?_); (case h => walk_at "sq"))
  | ((with_reducible refine' x_ixL ?h ?e ?_); (case h => walk_at "sq"); (case e => exact rfl))
  | ((with_reducible refine' x_neNil ?h ?h2 ?_); (case h => walk_at "sq"); (case h2 => walk_at "sq"))
  | ((with_reducible refine' x_pop0I ?h ?_); (case h => walk_at "hp"))
  | ((with_reducible refine' x_pop0 ?h ?_); (case h => walk_at "hp"))
  | ((with_reducible refine' x_setL0 ?h ?_); (case h => walk_at "hp"))
  | ((with_reducible refine' x_setL1 ?h ?_); (case h => walk_at "hp"))
  | ((with_reducible refine' x_setL2 ?h ?_); (case h => walk_at "hp"))
  | ((with_reducible refine' x_setL ?h ?e ?_); (case h => walk_at "hp"); (case e => exact rfl))
  | with_reducible refine' .inl ⟨_, rfl, ?_⟩
  | ((with_reducible refine' x_tyL ?h ?_); (case h => walk_at "sq"))
  | with_reducible refine' ⟨_, rfl, ?_⟩)
-- a split
local macro_rules | `(tactic| walk_at "if") => `(tactic| (
  first
  | (with_reducible refine' x_dec (fun h_ => ?_) (fun h_ => ?_))
  | (with_reducible refine' x_decN (fun h_ => ?_) (fun h_ => ?_))
  | (with_reducible refine' x_boolN (fun h_ => ?_) (fun h_ => ?_))
  | (with_reducible refine' x_bool (fun h_ => ?_) (fun h_ => ?_))))
local macro_rules | `(tactic| walk_at "ifs") => `(tactic| (walk_at "if" <;> first
  | (exfalso; first | omega | contradiction)
  | (rename_i h_; (try simp only [BEq.rfl, List.length_map, List.length_cons, List.length_nil, Int.natCast_zero, Int.ofNat_zero, gt_iff_lt, Int.lt_irrefl, Bool.true_eq_false, Bool.false_eq_true, List.isEmpty_nil, List.isEmpty_cons, V.int.injEq, V.str.injEq, V.bl.injEq, reduceCtorEq, not_false_eq_true, not_true_eq_false] at h_); (try (exfalso; omega)))))
local macro_rules | `(tactic| walk_at "ite1") => `(tactic| first
  | with_reducible refine' x_T ?_
  | with_reducible refine' x_F ?_
  | with_reducible refine' x_nT ?_
  | with_reducible refine' x_nF ?_
  | ((with_reducible refine' x_bT ?e ?_); (case e => first | decide | decide +kernel))
  | ((with_reducible refine' x_bF ?e ?_); (case e => first | decide | decide +kernel)))
local macro_rules | `(tactic| walk_at "st") => `(tactic| ((fail_if_success (with_reducible (show (if _ then _ else _)))); walk_at "st0"))
local macro_rules | `(tactic| walk_at "go") => `(tactic| repeat first | walk_at "ite1" | walk_at "st")
local macro_rules | `(tactic| walk_at "gs") => `(tactic| repeat' first | walk_at "ite1" | walk_at "st" | walk_at "ifs")
local macro_rules | `(tactic| walk_at "sz") => `(tactic| first | with_reducible assumption | (refine Nat.le_trans (by assumption) (by decide : 100000 ≤ sizeLine)) | (refine Nat.le_trans (m := 100000) ?_ (by decide); (try simp only [len_add, rep_len]); (try rw [show (Str.ofString "z").length = 1 from rfl]); omega))
local macro_rules | `(tactic| walk_at "hn") => `(tactic| first | with_reducible assumption)
local macro_rules | `(tactic| walk_at "sqo") => `(tactic| first | exact Or.inl (by walk_at "sq") | exact Or.inr (by walk_at "sqt"))
local macro_rules | `(tactic| walk_at "ty1") => `(tactic| first | with_reducible assumption | exact Ty1.int _ | exact Ty1.str _ | exact Ty1.bl _ | exact Ty1.non | exact Ty1.tup (by walk_at "hp") | exact Ty1.lst (by walk_at "hp"))
local macro_rules | `(tactic| walk_at "st2") => `(tactic| first
  | with_reducible refine' And.intro (a := V.non = V.non) rfl ?_
  | with_reducible refine' x_call0 ?_
  | with_reducible refine' x_callS ?_
  | with_reducible refine' x_meth0 ?_
  | with_reducible refine' x_methW0 ?_
  | with_reducible refine' x_make0 ?_
  | with_reducible refine' x_makeW0 ?_
  | with_reducible refine' x_sFld ?_
  | with_reducible refine' x_mkO ?_
  | with_reducible refine' x_chain ?_
  | with_reducible refine' x_dget ?_
  | with_reducible refine' x_dget1 ?_
  | with_reducible refine' x_dget2 ?_
  | with_reducible refine' x_sDPut ?_
  | with_reducible refine' x_pairs ?_
  | with_reducible refine' x_pairs0 ?_
  | with_reducible refine' x_sl ?_
  | with_reducible refine' x_noPart ?_
  | with_reducible refine' x_part ?_
  | ((with_reducible refine' x_disp ?_); walk_at "nw")
  | ((with_reducible refine' x_dnew ?_); walk_at "nw")
  | ((with_reducible refine' x_rz ?h ?_); (case h => walk_at "cf"); walk_at "nw")
  | ((with_reducible refine' x_isi ?h ?e ?_); (case h => walk_at "ty1"); (case e => decide))
  | ((with_reducible refine' x_fldR ?h ?c ?n ?e ?_); (case h => walk_at "hp"); (case c => walk_at "cf"); (case n => walk_at "cf"); (case e => walk_at "fl"))
  | ((with_reducible refine' x_onIns ?h ?n ?_); (case h => walk_at "hp"); (case n => walk_at "fl"))
  | ((with_reducible refine' x_addS ?l ?_); (case l => walk_at "sz"))
  | ((with_reducible refine' x_lenS ?l ?_); (case l => walk_at "sz"))
  | ((with_reducible refine' x_lenL ?h ?_); (case h => walk_at "sqo"))
  | ((with_reducible refine' x_slL ?h rfl ?_); (case h => walk_at "sq"); walk_at "nw")
  | ((with_reducible refine' x_listOf ?h ?_); (case h => walk_at "sqo"); walk_at "nw")
  | ((with_reducible refine' x_strmul ?c ?_); (case c => (refine' ⟨?_, ?_, ?_⟩ <;> first | omega | decide +kernel)))
  | ((with_reducible refine' x_isD2 ?h ?_); (case h => walk_at "hp"))
  | ((with_reducible refine' x_getI ?h ?_); (case h => walk_at "hp"))
  | ((with_reducible refine' x_getS ?h ?_); (case h => walk_at "hp"))
  | ((with_reducible refine' x_dgetS ?h ?e ?_); (case h => walk_at "hp"); (case e => walk_at "fl"))
  | ((with_reducible refine' x_ixT ?h ?e ?_); (case h => walk_at "sqt"); (case e => exact rfl))
  | ((with_reducible refine' x_gTup ?h ?e ?_); (case h => walk_at "sqt"); (case e => exact rfl)))
local macro_rules | `(tactic| walk_at "st0") => `(tactic| walk_at "st2")
local macro_rules | `(tactic| walk_at "fl") => `(tactic| first
  | with_reducible exact lk_hd
  | ((with_reducible refine' lk_tl ?n ?h); (case n => walk_at "nq"); (case h => walk_at "fl"))
  | with_reducible exact lk_nil
  | with_reducible exact pf_hd
  | ((with_reducible refine' pf_tl ?n ?h); (case n => walk_at "nq"); (case h => walk_at "fl"))
  | with_reducible exact pf_nil
  | with_reducible exact vl_hd
  | ((with_reducible refine' vl_tl ?n ?h); (case n => walk_at "nr"); (case h => walk_at "fl"))
  | with_reducible exact vl_nil
  | ((with_reducible refine' pk_hd ?n); (case n => rfl))
  | ((with_reducible refine' pk_tl ?n ?t ?h); (case n => walk_at "nr"); (case t => rfl); (case h => walk_at "fl")))
local macro_rules | `(tactic| walk_at "cf") => `(tactic| with_reducible assumption)
local macro_rules | `(tactic| walk_at "st0") => `(tactic| first
  | ((with_reducible refine' x_sFldR ?h ?c ?n ?l ?e ?_); (case h => walk_at "hp"); (case c => walk_at "cf"); (case n => walk_at "cf"); (case l => exact Nat.le_of_ble_eq_true rfl); (case e => walk_at "fl")))
local macro_rules | `(tactic| walk_at "pool") => `(tactic| first
  | with_reducible assumption
  | exact Pool.ne (by walk_at "pool") (by walk_at "ne") (by walk_at "ne")
  | exact Pool.stay (by walk_at "pool") (by with_reducible assumption) (by walk_at "nm") (by walk_at "nm"))
local macro_rules | `(tactic| walk_at "szl") => `(tactic| first | exact Nat.lt_of_le_of_lt (Nat.le_of_ble_eq_true (m := 1000) rfl) (by decide) | exact Nat.lt_of_le_of_lt (by with_reducible assumption) (by decide : 1000 < sizeLine))
local macro_rules | `(tactic| walk_at "st0") => `(tactic| first
  | ((with_reducible refine' x_putS ?h ?l ?e ?_); (case h => walk_at "hp"); (case l => walk_at "szl"); (case e => walk_at "fl"))
  | ((with_reducible refine' x_setD ?h ?l ?e ?_); (case h => walk_at "hp"); (case l => walk_at "szl"); (case e => walk_at "fl"))
  | ((with_reducible refine' x_putI ?h ?l ?_); (case h => walk_at "hp"); (case l => walk_at "szl")))
local macro_rules | `(tactic| walk_at "st0") => `(tactic| first
  | ((with_reducible refine' x_rowN ?e ?_); (case e => walk_at "cf"); walk_at "nw"; (try dsimp only [List.set]))
  | ((with_reducible refine' x_rowF ?e ?_); (case e => walk_at "cf"))
  | with_reducible refine' x_xw ?_
  | ((with_reducible refine' x_xwR ?t ?h ?_); (case t => walk_at "cf"); (case h => walk_at "hp")))
local macro_rules | `(tactic| walk_at "st0") => `(tactic| first
  | ((with_reducible refine' x_isXR ?k ?x ?h ?e ?_); (case k => exact ClsV.own _); (case x => exact ExT.xc (by with_reducible assumption)); (case h => walk_at "hp"); (case e => walk_at "cf")))
def top (i : Nat) : Stmt := PySem.Challenge.pw_wendleaf_k19_slices.main.body.getD i (.Pass ⟨0, 0, 0, 0⟩)
abbrev s_Refused___init__ : Stmt := inClass (top 1) 0
abbrev s__law_pool : Stmt := top 18
abbrev s__law_draw : Stmt := top 19
abbrev s_is_number : Stmt := top 7
abbrev s_is_within : Stmt := top 8
abbrev s__is_bare_deed : Stmt := top 13
abbrev s_made_log : Stmt := top 11
abbrev s_versions_at : Stmt := top 12
abbrev s__nearest : Stmt := top 16
abbrev s_slice_at : Stmt := top 15
abbrev s__law_turned : Stmt := top 20
abbrev s__law_log : Stmt := top 21
abbrev s__law_table : Stmt := top 22
abbrev s__law_image : Stmt := top 23
abbrev s__law_world : Stmt := top 24
abbrev s__law_closed : Stmt := top 25
abbrev s__law_lots : Stmt := top 26
abbrev s__law_sliced : Stmt := top 27
abbrev s__law_is_row : Stmt := top 28
abbrev s__law_is_refused : Stmt := top 29
abbrev s_law : Stmt := top 30
structure G (K : PySem.W.Frag) (mg : Str → Option Value) where
  n_ValueError : mg "ValueError" = none
  n_bool : mg "bool" = none
  n_enumerate : mg "enumerate" = none
  n_int : mg "int" = none
  n_isinstance : mg "isinstance" = none
  n_len : mg "len" = none
  n_list : mg "list" = none
  n_max : mg "max" = none
  n_min : mg "min" = none
  n_range : mg "range" = none
  n_tuple : mg "tuple" = none
  n_zip : mg "zip" = none
  v_MOST_DEEDS : Value
  g_MOST_DEEDS : RelV (.int 400) v_MOST_DEEDS ∧ mg "MOST_DEEDS" = some v_MOST_DEEDS
  v_PAGES : Value
  g_PAGES : RelV (.int 32) v_PAGES ∧ mg "PAGES" = some v_PAGES
  f_Refused___init__ : Addr
  d_Refused___init__ : FuncData
  F_Refused___init__ : Fun K "__init__" "Refused.__init__" s_Refused___init__ f_Refused___init__ d_Refused___init__
  b_Refused___init__ : Binds K d_Refused___init__ ["self", "what"] []
  f__law_pool : Addr
  d__law_pool : FuncData
  F__law_pool : Fun K "_law_pool" "_law_pool" s__law_pool f__law_pool d__law_pool
  g__law_pool : mg "_law_pool" = some (.ref f__law_pool)
  b__law_pool : Binds K d__law_pool ["script"] []
  f__law_draw : Addr
  d__law_draw : FuncData
  F__law_draw : Fun K "_law_draw" "_law_draw" s__law_draw f__law_draw d__law_draw
  g__law_draw : mg "_law_draw" = some (.ref f__law_draw)
  b__law_draw : Binds K d__law_draw ["pool", "many"] []
  f_is_number : Addr
  d_is_number : FuncData
  F_is_number : Fun K "is_number" "is_number" s_is_number f_is_number d_is_number
  g_is_number : mg "is_number" = some (.ref f_is_number)
  b_is_number : Binds K d_is_number ["thing"] []
  f_is_within : Addr
  d_is_within : FuncData
  F_is_within : Fun K "is_within" "is_within" s_is_within f_is_within d_is_within
  g_is_within : mg "is_within" = some (.ref f_is_within)
  b_is_within : Binds K d_is_within ["thing", "low", "high"] []
  f__is_bare_deed : Addr
  d__is_bare_deed : FuncData
  F__is_bare_deed : Fun K "_is_bare_deed" "_is_bare_deed" s__is_bare_deed f__is_bare_deed d__is_bare_deed
  g__is_bare_deed : mg "_is_bare_deed" = some (.ref f__is_bare_deed)
  b__is_bare_deed : Binds K d__is_bare_deed ["thing", "many"] []
  f_made_log : Addr
  d_made_log : FuncData
  F_made_log : Fun K "made_log" "made_log" s_made_log f_made_log d_made_log
  g_made_log : mg "made_log" = some (.ref f_made_log)
  b_made_log : Binds K d_made_log ["thing"] []
  f_versions_at : Addr
  d_versions_at : FuncData
  F_versions_at : Fun K "versions_at" "versions_at" s_versions_at f_versions_at d_versions_at
  g_versions_at : mg "versions_at" = some (.ref f_versions_at)
  b_versions_at : Binds K d_versions_at ["log", "moment"] []
  f__nearest : Addr
  d__nearest : FuncData
  F__nearest : Fun K "_nearest" "_nearest" s__nearest f__nearest d__nearest
  g__nearest : mg "_nearest" = some (.ref f__nearest)
  b__nearest : Binds K d__nearest ["lot", "version"] []
  f_slice_at : Addr
  d_slice_at : FuncData
  F_slice_at : Fun K "slice_at" "slice_at" s_slice_at f_slice_at d_slice_at
  g_slice_at : mg "slice_at" = some (.ref f_slice_at)
  b_slice_at : Binds K d_slice_at ["log", "lots", "s"] []
  f__law_turned : Addr
  d__law_turned : FuncData
  F__law_turned : Fun K "_law_turned" "_law_turned" s__law_turned f__law_turned d__law_turned
  g__law_turned : mg "_law_turned" = some (.ref f__law_turned)
  b__law_turned : Binds K d__law_turned ["pool", "many"] []
  f__law_log : Addr
  d__law_log : FuncData
  F__law_log : Fun K "_law_log" "_law_log" s__law_log f__law_log d__law_log
  g__law_log : mg "_law_log" = some (.ref f__law_log)
  b__law_log : Binds K d__law_log ["pool", "pages", "deeds", "is_ringless"] []
  f__law_table : Addr
  d__law_table : FuncData
  F__law_table : Fun K "_law_table" "_law_table" s__law_table f__law_table d__law_table
  g__law_table : mg "_law_table" = some (.ref f__law_table)
  b__law_table : Binds K d__law_table ["log"] []
  f__law_image : Addr
  d__law_image : FuncData
  F__law_image : Fun K "_law_image" "_law_image" s__law_image f__law_image d__law_image
  g__law_image : mg "_law_image" = some (.ref f__law_image)
  b__law_image : Binds K d__law_image ["pool", "log", "table", "lost"] []
  f__law_world : Addr
  d__law_world : FuncData
  F__law_world : Fun K "_law_world" "_law_world" s__law_world f__law_world d__law_world
  g__law_world : mg "_law_world" = some (.ref f__law_world)
  b__law_world : Binds K d__law_world ["pool", "pages", "deeds", "lost"] []
  f__law_closed : Addr
  d__law_closed : FuncData
  F__law_closed : Fun K "_law_closed" "_law_closed" s__law_closed f__law_closed d__law_closed
  g__law_closed : mg "_law_closed" = some (.ref f__law_closed)
  b__law_closed : Binds K d__law_closed ["log", "table", "image"] []
  f__law_lots : Addr
  d__law_lots : FuncData
  F__law_lots : Fun K "_law_lots" "_law_lots" s__law_lots f__law_lots d__law_lots
  g__law_lots : mg "_law_lots" = some (.ref f__law_lots)
  b__law_lots : Binds K d__law_lots ["held"] []
  f__law_sliced : Addr
  d__law_sliced : FuncData
  F__law_sliced : Fun K "_law_sliced" "_law_sliced" s__law_sliced f__law_sliced d__law_sliced
  g__law_sliced : mg "_law_sliced" = some (.ref f__law_sliced)
  b__law_sliced : Binds K d__law_sliced ["table", "lots", "s"] []
  f__law_is_row : Addr
  d__law_is_row : FuncData
  F__law_is_row : Fun K "_law_is_row" "_law_is_row" s__law_is_row f__law_is_row d__law_is_row
  g__law_is_row : mg "_law_is_row" = some (.ref f__law_is_row)
  b__law_is_row : Binds K d__law_is_row ["thing", "many"] []
  f__law_is_refused : Addr
  d__law_is_refused : FuncData
  F__law_is_refused : Fun K "_law_is_refused" "_law_is_refused" s__law_is_refused f__law_is_refused d__law_is_refused
  g__law_is_refused : mg "_law_is_refused" = some (.ref f__law_is_refused)
  b__law_is_refused : Binds K d__law_is_refused ["log", "lots", "number"] []
  f_law : Addr
  d_law : FuncData
  F_law : Fun K "law" "law" s_law f_law d_law
  g_law : mg "law" = some (.ref f_law)
  b_law : Binds K d_law ["script"] []
  C_Refused : Addr
  x_Refused : ExT K mg "Refused" C_Refused f_Refused___init__
  C_TooMany : Addr
  x_TooMany : ExT K mg "TooMany" C_TooMany f_Refused___init__
  C_BadLog : Addr
  x_BadLog : ExT K mg "BadLog" C_BadLog f_Refused___init__
  C_BadNumber : Addr
  x_BadNumber : ExT K mg "BadNumber" C_BadNumber f_Refused___init__
  e_Refused_Refused : PySem.W.exmOne K (.ref C_Refused) (.ref C_Refused) = some true
  e_TooMany_Refused : PySem.W.exmOne K (.ref C_TooMany) (.ref C_Refused) = some true
  e_BadLog_Refused : PySem.W.exmOne K (.ref C_BadLog) (.ref C_Refused) = some true
  e_BadNumber_Refused : PySem.W.exmOne K (.ref C_BadNumber) (.ref C_Refused) = some true
  k_BadNumber_BadNumber : PySem.W.kitOne K (.ref C_BadNumber) (.ref C_BadNumber) = some true
  k_BadNumber_ValueError : PySem.W.kitOne K (.ref C_BadNumber) (.type "ValueError") = some true
  t_init : PySem.W.typeIn K (.ref f_Refused___init__) = some (.type "function")
local macro_rules | `(tactic| walk_at "nq") => `(tactic| decide +kernel)
local macro_rules | `(tactic| walk_at "nr") => `(tactic| decide +kernel)

section
variable {P : Program} {w : World} {K : PySem.W.Frag} {mg : Str → Option Value} {base : Heap}

theorem sc_Refused___init__ : FnScope ["self", "what"] ["self", "what"] (defScope s_Refused___init__) := ⟨rfl, rfl, rfl, by decide +kernel, rfl, by decide +kernel, by decide +kernel⟩
theorem ok_Refused___init__ (T : G K mg) : FnOk P w K mg base CX0 1 T.f_Refused___init__ T.d_Refused___init__ ["self", "what"] (sp_Refused___init__ K) := by
  refine T.F_Refused___init__.ok sc_Refused___init__ (fun vs H Q E h => ?_) (fun cdv A outer s H vs Q E hr h => ?_)
  · obtain ⟨a, C, v, rfl, h1, hC, hw, k⟩ := h
    rfl
  · obtain ⟨a, C, v, rfl, h1, hC, hw, k⟩ := h
    have hu := hu_of hr
    have nd := sc_Refused___init__.nd
    refine ⟨_, (pss_one (ps_ost (pv 0) (pv 1))), ?_⟩
    try dsimp only [L2.cxOf, L2.Cx.nox, L2.Cx.wish]
    rw [show L2.start ["self", "what"] [V.ref a, v] = [some (V.ref a), some (v)] from rfl]
    refine ⟨v, rfl, _, rfl, a, C, rfl, hC, hw, .inl ⟨h1, fun dx hx ne => ?_⟩⟩
    exact k dx hx ne
theorem c_pool {K : PySem.W.Frag} {a : Addr} {ns : List Int} {H : Hp} {Q : VK} {E : XK} (h : SqL K H a (ns.map V.int)) (q : ∀ q l H', H q = none → H l = none → Pool H' q l → Stay [] H H' → Q (.ref q) H') : sp_pool K [.ref a] H Q E := ⟨a, ns, rfl, h, q⟩
theorem sc__law_pool : FnScope ["script", "first", "size"] ["script"] (defScope s__law_pool) := ⟨rfl, rfl, rfl, by decide +kernel, rfl, by decide +kernel, by decide +kernel⟩
theorem ok__law_pool (T : G K mg) : FnOk P w K mg base CX0 1 T.f__law_pool T.d__law_pool ["script"] (sp_pool K) := by
  refine T.F__law_pool.ok sc__law_pool (fun vs H Q E h => ?_) (fun cdv A outer s H vs Q E hr h => ?_)
  · obtain ⟨a, ns, rfl, hS, k⟩ := h
    rfl
  · obtain ⟨a, ns, rfl, hS, k⟩ := h
    have hu := hu_of hr
    have nd := sc__law_pool.nd
    refine ⟨_, (pss_cons (ps_set (i := 1) nd rfl (Or.inl rfl) (pe_ifExp (pt_cmpR op_gt (pe_callB call_len_seq (by rfl) T.n_len PySem.boot_len (pa_cons (pv 0) pa_nil)) pe_int (nomark _)) (pe_callTy call_int1 (by rfl) T.n_int (by decide +kernel) (pa_cons (pe_ix ix_list (pv 0) pe_int (fun _ _ => rfl)) pa_nil)) pe_int))
        (pss_cons (ps_set (i := 2) nd rfl (Or.inl rfl) (pe_ifExp (pt_cmpR op_ge (pv 1) pe_int (nomark _)) (pe_op op_mulX pe_int (pv 1)) (pe_op op_sub (pe_un un_neg pe_int) (pe_op op_mulX pe_int (pv 1)))))
        (pss_one (ps_ret (pe_lst (pa_cons (pe_ifExp (pt_cmpR op_ge (pv 2) (pe_op op_pow pe_int pe_int) (nomark _)) (pv 2) pe_int) (pa_cons (pe_op op_add (pe_op op_mod (pe_callTy call_int1 (by rfl) T.n_int (by decide +kernel) (pa_cons (pe_op op_add (pe_op op_mulX (pv 2) pe_int) pe_int) pa_nil)) pe_int) pe_int) (pa_cons (pe_callTy call_list_of (by rfl) T.n_list (by decide +kernel) (pa_cons (pe_slice sl_list (pv 0) (po_some pe_int) po_none) pa_nil)) pa_nil)))))))), ?_⟩
    try dsimp only [L2.cxOf, L2.Cx.nox, L2.Cx.wish]
    rw [show L2.start ["script", "first", "size"] [V.ref a] = [some (V.ref a), none, none] from rfl]
    rcases ns with _ | ⟨z, ns⟩
    all_goals walk_at "gs"
    all_goals try walk_at "nw"
    all_goals walk_at "gs"
    all_goals (refine k _ _ _ (by assumption) ?_ (mk_pool (by walk_at "hp") (by walk_at "hp") ?_ (by walk_at "ne") ?_ ?_ ?_) (by walk_at "fr"))
    all_goals first | assumption | omega | exact ⟨ns, by rw [List.map_cons, cut_tail]⟩ | exact ⟨[], rfl⟩
theorem c_draw {a l : Addr} {m : Int} {H : Hp} {Q : VK} {E : XK} (h : Pool H a l) (hm : 0 < m ∧ m.natAbs.log2 < 9000) (q : ∀ d H', 0 ≤ d → d < m → Pool H' a l → Stay [a, l] H H' → Q (.int d) H') : sp_draw [.ref a, .int m] H Q E := ⟨a, l, m, rfl, h, hm, q⟩
theorem sc__law_draw : FnScope ["pool", "many", "cell", "size", "found"] ["pool", "many"] (defScope s__law_draw) := ⟨rfl, rfl, rfl, by decide +kernel, rfl, by decide +kernel, by decide +kernel⟩
theorem ok__law_draw (T : G K mg) : FnOk P w K mg base CX0 1 T.f__law_draw T.d__law_draw ["pool", "many"] sp_draw := by
  refine T.F__law_draw.ok sc__law_draw (fun vs H Q E h => ?_) (fun cdv A outer s H vs Q E hr h => ?_)
  · obtain ⟨a, l, m, rfl, hp, ⟨hm, hm9⟩, k⟩ := h
    rfl
  · obtain ⟨a, l, m, rfl, hp, ⟨hm, hm9⟩, k⟩ := h
    have hu := hu_of hr
    have nd := sc__law_draw.nd
    refine ⟨_, (pss_cons (ps_if (PW.pt (pw_and (pt_cmpR op_eq (pe_ix ix_list (pv 0) pe_int (fun _ _ => rfl)) pe_int (nomark _)) (pw_and1 (pt_cmpR (op_neD hr.units) (pe_ix ix_list (pv 0) pe_int (fun _ _ => rfl)) (pe_lst pa_nil) (nomark _))))) (pss_cons (ps_set (i := 2) nd rfl (Or.inl rfl) (pe_callTy call_int1 (by rfl) T.n_int (by decide +kernel) (pa_cons (pe_bm PySem.F.plainAttrs_list PySem.F.slot_list_pop PySem.F.type_list_pop mt_popAt (pe_ix ix_list (pv 0) pe_int (fun _ _ => rfl)) (pa_cons pe_int pa_nil)) pa_nil)))
        (pss_cons (ps_set (i := 3) nd rfl (Or.inl rfl) (pe_ifExp (pt_cmpR op_ge (pv 2) pe_int (nomark _)) (pe_op op_mulX pe_int (pv 2)) (pe_op op_sub (pe_un un_neg pe_int) (pe_op op_mulX pe_int (pv 2)))))
        (pss_cons (ps_asg (pe_ifExp (pt_cmpR op_ge (pv 3) (pe_op op_pow pe_int pe_int) (nomark _)) (pv 3) pe_int) (pg_sub (pv 0) pe_int set_list))
        (pss_one (ps_asg (pe_op op_add (pe_op op_mod (pe_callTy call_int1 (by rfl) T.n_int (by decide +kernel) (pa_cons (pe_op op_add (pe_ix ix_list (pv 0) pe_int (fun _ _ => rfl)) (pe_op op_mulX (pv 3) pe_int)) pa_nil)) pe_int) pe_int) (pg_sub (pv 0) pe_int set_list)))))) pss_nil)
        (pss_cons (ps_if (pt_cmpR op_gt (pe_ix ix_list (pv 0) pe_int (fun _ _ => rfl)) pe_int (nomark _)) (pss_cons (ps_set (i := 4) nd rfl (Or.inl rfl) (pe_op op_modN (pe_callTy call_int1 (by rfl) T.n_int (by decide +kernel) (pa_cons (pe_ix ix_list (pv 0) pe_int (fun _ _ => rfl)) pa_nil)) (pv 1)))
        (pss_cons (ps_asg (pe_op op_fdivW (pe_ix ix_list (pv 0) pe_int (fun _ _ => rfl)) (pv 1)) (pg_sub (pv 0) pe_int set_list))
        (pss_one (ps_ret (pv 4))))) pss_nil)
        (pss_cons (ps_asg (pe_op op_mod (pe_callTy call_int1 (by rfl) T.n_int (by decide +kernel) (pa_cons (pe_op op_add (pe_op op_mulX (pe_ix ix_list (pv 0) pe_int (fun _ _ => rfl)) pe_int) pe_int) pa_nil)) pe_int) (pg_sub (pv 0) pe_int set_list))
        (pss_one (ps_ret (pe_op op_modN (pe_op op_fdiv (pe_op op_mod (pe_callTy call_int1 (by rfl) T.n_int (by decide +kernel) (pa_cons (pe_op op_mulX (pe_ix ix_list (pv 0) pe_int (fun _ _ => rfl)) (pe_ix ix_list (pv 0) pe_int (fun _ _ => rfl))) pa_nil)) pe_int) pe_int) (pv 1))))))), ?_⟩
    try dsimp only [L2.cxOf, L2.Cx.nox, L2.Cx.wish]
    rw [show L2.start ["pool", "many", "cell", "size", "found"] [V.ref a, V.int m] = [some (V.ref a), some (V.int m), none, none, none] from rfl]
    obtain ⟨p0, p1, ns, h1, h2, hal, h3, h4, h5⟩ := hp
    rcases ns with _ | ⟨z, ns⟩
    all_goals walk_at "gs"
    all_goals (refine k _ _ ?_ ?_ ⟨_, _, _, by walk_at "hp", by walk_at "hp", hal, ?_, ?_, ?_⟩ (by walk_at "fr"))
    all_goals first | omega | exact Int.fmod_nonneg_of_pos _ hm | exact Int.fmod_lt_of_pos _ hm | exact Int.ediv_nonneg (by omega) (by omega)
end
end WD

namespace WD
open PySem PySem.Spec PyProof.Rows L2
-- p ≠ q of two addresses
local macro_rules | `(tactic| walk_at "ne") => `(tactic| first
  | with_reducible assumption
  | with_reducible exact Ne.symm (by assumption)
  | exact ne_some (by with_reducible assumption) (by with_reducible assumption)
  | exact Ne.symm (ne_some (by with_reducible assumption) (by with_reducible assumption)))
local macro_rules | `(tactic| walk_at "nm") => `(tactic| first | with_reducible assumption | with_reducible exact nm0 | ((with_reducible refine' nmS ?a ?b); (case a => walk_at "ne"); (case b => walk_at "nm")))
-- H p = some ?o
local macro_rules | `(tactic| walk_at "hp") => `(tactic| first
  | with_reducible exact upd_same
  | with_reducible assumption
  | ((with_reducible refine' Eq.trans (upd_ne ?a) ?b); (case a => walk_at "ne"); (case b => walk_at "hp"))
  | exact Stay.keep (by with_reducible assumption) _ _ (by walk_at "hp") (by walk_at "nm"))
local macro_rules | `(tactic| walk_at "hpd") => `(tactic| ((refine' Eq.trans ?h ?e); (case h => walk_at "hp"); (case e => exact rfl)))
-- a new address
local macro_rules | `(tactic| walk_at "nw") => `(tactic| ((repeat first | (with_reducible refine' nw_upd ?_) | refine' nw_fr (by with_reducible assumption) ?_); intro p_; intros))
local macro_rules | `(tactic| walk_at "mem") => `(tactic| first | exact List.mem_cons_self | (refine' List.mem_cons_of_mem _ ?_; walk_at "mem"))
-- what stands stays
local macro_rules | `(tactic| walk_at "fr") => `(tactic| first
  | with_reducible assumption
  | exact Stay.refl _ _
  | ((with_reducible refine' Stay.upd ?a ?b); (case a => walk_at "fr"); (case b => walk_at "mem"))
  | ((with_reducible refine' Stay.new ?a ?b); (case b => with_reducible assumption); (case a => walk_at "fr"))
  | (refine' Stay.trans ?_ (by with_reducible assumption); walk_at "fr"))
local macro_rules | `(tactic| walk_at "sq") => `(tactic| first | with_reducible assumption | exact SqL.of (by walk_at "hp"))
local macro_rules | `(tactic| walk_at "sqt") => `(tactic| first | with_reducible assumption | exact SqT.of (by walk_at "hp"))
-- side goals
local macro_rules | `(tactic| walk_at "sd") => `(tactic| first
  | with_reducible assumption | with_reducible rfl | (show _ ≤ sizeLine; decide) | (refine Nat.le_trans (Nat.le_of_ble_eq_true (m := 1000) rfl) (by decide)) | decide | omega
  | exact IntMulOk.of_right (intBits_le_64 (by omega) (by omega)) | exact IntMulOk.of_left (intBits_le_64 (by omega) (by omega))
  | (refine' Or.inl ⟨?_, ?_⟩ <;> omega) | (refine' Or.inr ⟨?_, ?_⟩ <;> omega)
  | (refine' ⟨?_, ?_⟩ <;> walk_at "sd") | (refine' ⟨?_, ?_, ?_⟩ <;> walk_at "sd"))
local macro_rules | `(tactic| walk_at "set") => `(tactic| first | with_reducible exact set0 | with_reducible exact set1 | with_reducible exact set2 | with_reducible exact set3 | with_reducible exact set4 | with_reducible exact set5 | with_reducible exact set6 | with_reducible exact set7 | with_reducible exact set8 | with_reducible exact set9 | with_reducible exact set10 | with_reducible exact set11 | with_reducible exact set12 | with_reducible exact set13 | with_reducible exact set14 | with_reducible exact set15 | with_reducible exact set16 | with_reducible exact set17 | with_reducible exact set18 | with_reducible exact set19 | with_reducible exact set20)
-- one step
local macro_rules | `(tactic| walk_at "st0") => `(tactic| first
  | with_reducible refine' x_seq ?_
  | with_reducible refine' x_next ?_
  | with_reducible refine' x_ifS ?_
  | with_reducible refine' x_asg ?_
  | with_reducible refine' x_ret ?_
  | with_reducible refine' x_retN ?_
  | with_reducible refine' x_drop ?_
  | with_reducible refine' x_brk ?_
  | with_reducible refine' x_cont ?_
  | ((with_reducible refine' x_gName ?e ?_); (case e => walk_at "set"))
  | with_reducible refine' x_gSub ?_
  | with_reducible refine' x_gCons ?_
  | with_reducible refine' x_gNil ?_
  | with_reducible refine' x_c ?_
  | ((with_reducible refine' x_var ?e ?_); (case e => exact rfl))
  | with_reducible refine' x_op ?_
  | with_reducible refine' x_un ?_
  | with_reducible refine' x_if ?_
  | with_reducible refine' x_cb ?_
  | with_reducible refine' x_cons ?_
  | with_reducible refine' x_nil ?_
  | with_reducible refine' x_bm0 ?_
  | with_reducible refine' x_bm ?_
  | with_reducible refine' x_tup ?_
  | with_reducible refine' x_lst ?_
  | ((with_reducible refine' And.intro (a := _ ≤ sizeLine) ?e ?_); (case e => walk_at "sd"); walk_at "nw")
  | with_reducible refine' x_fld ?_
  | with_reducible refine' x_test ?_
  | with_reducible refine' x_tB ?_
  | with_reducible refine' x_and ?_
  | with_reducible refine' x_or ?_
  | with_reducible refine' x_not ?_
  | with_reducible refine' x_notV ?_
  | with_reducible refine' x_andV ?_
  | with_reducible refine' x_orV ?_
  | with_reducible refine' x_rI0 ?_
  | ((with_reducible refine' x_rI ?e ?_); (case e => walk_at "sd"))
  | with_reducible refine' x_rU ?_
  | ((with_reducible refine' x_rEq ?e ?_); (case e => exact rfl))
  | ((with_reducible refine' x_rNe ?e ?_); (case e => exact rfl))
  | ((with_reducible refine' x_ixL0 ?h ?_); (case h => walk_at "sq"))
  | ((with_reducible refine' x_ixL1 ?h ?_); (case h => walk_at "sq"))
  | ((with_reducible refine' x_ixL2 ?h ?_); (case h => walk_at "sq"))
  | ((with_reducible refine' x_ixL0I ?h ?_); (case h => walk_at "sq"))
  | ((with_reducible refine' x_ixL ?h ?e ?_); (case h => walk_at "sq"); (case e => exact rfl))
  | ((with_reducible refine' x_neNil ?h ?h2 ?_); (case h => walk_at "sq"); (case h2 => walk_at "sq"))
  | ((with_reducible refine' x_pop0I ?h ?_); (case h => walk_at "hp"))
  | ((with_reducible refine' x_pop0 ?h ?_); (case h => walk_at "hp"))
  | ((with_reducible refine' x_setL0 ?h ?_); (case h => walk_at "hp"))
  | ((with_reducible refine' x_setL1 ?h ?_); (case h => walk_at "hp"))
  | ((with_reducible refine' x_setL2 ?h ?_); (case h => walk_at "hp"))
  | ((with_reducible refine' x_setL ?h ?e ?_); (case h => walk_at "hp"); (case e => exact rfl))
  | with_reducible refine' .inl ⟨_, rfl, ?_⟩
  | ((with_reducible refine' x_tyL ?h ?_); (case h => walk_at "sq"))
  | with_reducible refine' ⟨_, rfl, ?_⟩)
-- a split
local macro_rules | `(tactic| walk_at "if") => `(tactic| (
  first
  | (with_reducible refine' x_dec (fun h_ => ?_) (fun h_ => ?_))
  | (with_reducible refine' x_decN (fun h_ => ?_) (fun h_ => ?_))
  | (with_reducible refine' x_boolN (fun h_ => ?_) (fun h_ => ?_))
  | (with_reducible refine' x_bool (fun h_ => ?_) (fun h_ => ?_))))
local macro_rules | `(tactic| walk_at "ifs") => `(tactic| (walk_at "if" <;> first
  | (exfalso; first | omega | contradiction)
  | (rename_i h_; (try simp only [BEq.rfl, List.length_map, List.length_cons, List.length_nil, Int.natCast_zero, Int.ofNat_zero, gt_iff_lt, Int.lt_irrefl, Bool.true_eq_false, Bool.false_eq_true, List.isEmpty_nil, List.isEmpty_cons, V.int.injEq, V.str.injEq, V.bl.injEq, reduceCtorEq, not_false_eq_true, not_true_eq_false] at h_); (try (exfalso; omega)))))
local macro_rules | `(tactic| walk_at "ite1") => `(tactic| first
  | with_reducible refine' x_T ?_
  | with_reducible refine' x_F ?_
  | with_reducible refine' x_nT ?_
  | with_reducible refine' x_nF ?_
  | ((with_reducible refine' x_bT ?e ?_); (case e => first | decide | decide +kernel))
  | ((with_reducible refine' x_bF ?e ?_); (case e => first | decide | decide +kernel)))
local macro_rules | `(tactic| walk_at "st") => `(tactic| ((fail_if_success (with_reducible (show (if _ then _ else _)))); walk_at "st0"))
local macro_rules | `(tactic| walk_at "go") => `(tactic| repeat first | walk_at "ite1" | walk_at "st")
local macro_rules | `(tactic| walk_at "gs") => `(tactic| repeat' first | walk_at "ite1" | walk_at "st" | walk_at "ifs")
local macro_rules | `(tactic| walk_at "jsd") => `(tactic| first
  | exact trivial | with_reducible assumption | with_reducible rfl | (show _ ≤ sizeLine; decide) | (refine Nat.le_trans (Nat.le_of_ble_eq_true (m := 1000) rfl) (by decide)) | decide | omega
  | (simp only [List.length_append, List.length_cons, List.length_nil, List.length_map, List.length_range, natsD_len, verL_len, tabXs_len, List.length_replicate, Int.toNat_natCast, rgD_len, List.length_take, List.length_drop, zipD_len, enumD_len]; omega)
  | exact IntMulOk.of_right (intBits_le_64 (by omega) (by omega)) | exact IntMulOk.of_left (intBits_le_64 (by omega) (by omega))
  | (refine' Or.inl ⟨?_, ?_⟩ <;> omega) | (refine' Or.inr ⟨?_, ?_⟩ <;> omega)
  | (refine' ⟨?_, ?_⟩ <;> walk_at "jsd") | (refine' ⟨?_, ?_, ?_⟩ <;> walk_at "jsd") | (refine' ⟨?_, ?_, ?_, ?_⟩ <;> walk_at "jsd"))
local macro_rules | `(tactic| walk_at "jshp") => `(tactic| first | with_reducible assumption | (show SeqAt.shaped _ = true; first | assumption | decide))
local macro_rules | `(tactic| walk_at "jix") => `(tactic| first | with_reducible assumption | exact rfl)
local macro_rules | `(tactic| walk_at "jdrw") => `(tactic| exact ⟨by omega, Nat.lt_of_le_of_lt (Nat.log2_le_self _) (by omega)⟩)
local macro_rules | `(tactic| walk_at "jno") => `(tactic| first | exact ⟨trivial, by walk_at "jno"⟩ | exact ⟨rfl, by walk_at "jno"⟩ | exact trivial)
local macro_rules | `(tactic| walk_at "jno1") => `(tactic| (intro v_ m_; simp only [List.mem_cons, List.not_mem_nil, or_false] at m_; first | (subst m_; exact trivial) | (subst m_; exact rfl) | (rcases m_ with m_ | m_ <;> subst m_ <;> first | exact trivial | exact rfl) | (rcases m_ with m_ | m_ | m_ <;> subst m_ <;> first | exact trivial | exact rfl)))
local macro_rules | `(tactic| walk_at "jst0") => `(tactic| first
  | refine' Stp.imp ?_
  | ((with_reducible refine' x_PI2 ?e ?_); (case e => walk_at "jsd"))
  | ((with_reducible refine' x_ixAT (Vw.eq) ?e2 ?_); (case e2 => walk_at "jix"))
  | ((with_reducible refine' x_ixAL (Vw.eq) ?e2 ?_); (case e2 => walk_at "jix"))
  | ((with_reducible refine' x_RApp ?l ?_); (case l => walk_at "jsd"))
  | with_reducible refine' J_callN ?_
  | ((with_reducible refine' J_pool ?w ?e ?_); (case w => with_reducible assumption); (case e => with_reducible assumption))
  | ((with_reducible refine' J_callS ?w ?_); (case w => with_reducible assumption))
  | ((with_reducible refine' J_xw ?w ?_); (case w => with_reducible assumption))
  | ((with_reducible refine' J_isX ?w ?_); (case w => with_reducible assumption))
  | with_reducible refine' x_xwJ ?_
  | ((with_reducible refine' x_isX1 ?w ?_); (case w => with_reducible assumption))
  | ((with_reducible refine' x_isX2 ?w ?_); (case w => with_reducible assumption))
  | ((with_reducible refine' J_call ?w ?_); (case w => with_reducible assumption))
  | ((with_reducible refine' x_QDraw (SlotAt.eq) ?c ?_); (case c => walk_at "jdrw"))
  | ((with_reducible refine' x_QR1 ?c ?_); (case c => walk_at "jsd"))
  | ((with_reducible refine' x_QR2 ?c ?_); (case c => walk_at "jsd"))
  | ((with_reducible refine' x_addL (Vw.eq) (Vw.eq) ?c ?_); (case c => walk_at "jsd"))
  | ((with_reducible refine' x_addT (Vw.eq) (Vw.eq) ?c ?_); (case c => walk_at "jsd"))
  | ((with_reducible refine' x_addS' ?c ?_); (case c => walk_at "jsd"))
  | ((with_reducible refine' x_mulI ?c ?_); (case c => walk_at "jsd"))
  | ((with_reducible refine' x_mulL1 (Vw.eq) ?c ?_); (case c => walk_at "jsd"))
  | ((with_reducible refine' x_mulS ?c ?_); (case c => walk_at "jsd"))
  | ((with_reducible refine' x_isNj (Vw.eq) ?_))
  | ((with_reducible refine' x_notNj (Vw.eq) ?_))
  | ((with_reducible refine' x_eqA (Vw.eq) (Vw.eq) ?c ?d ?_); (case c => walk_at "jshp"); (case d => walk_at "jshp"))
  | ((with_reducible refine' x_neA (Vw.eq) (Vw.eq) ?c ?d ?_); (case c => walk_at "jshp"); (case d => walk_at "jshp"))
  | ((with_reducible refine' x_QIn (Vw.eq) ?e2 ?f ?g ?_); (case e2 => exact rfl); (case f => exact rfl); (case g => first | with_reducible assumption | exact rfl))
  | ((with_reducible refine' x_QInN (Vw.eq) ?e2 ?f ?g ?_); (case e2 => exact rfl); (case f => exact rfl); (case g => first | with_reducible assumption | exact rfl))
  | ((with_reducible refine' x_lenS' (Vw.eq) ?l ?_); (case l => walk_at "jsd"))
  | ((with_reducible refine' x_slS' ?l ?_); (case l => walk_at "jsd"))
  | with_reducible refine' J_raise (by with_reducible assumption) (by with_reducible assumption) ?_
  | with_reducible refine' x_X1 ?_
  | ((with_reducible refine' And.intro (a := RgOk _ _) ?c ?_); (case c => exact RgOk.of_le (by omega) (by omega) (by omega) (by omega))))
local macro_rules | `(tactic| walk_at "jite") => `(tactic| first
  | ((with_reducible refine' x_bT ?e ?_); (case e => first | exact rfl | decide | decide +kernel))
  | ((with_reducible refine' x_bF ?e ?_); (case e => first | exact rfl | decide | decide +kernel)))
local macro_rules | `(tactic| walk_at "jst") => `(tactic| walk_at "jst0")
local macro_rules | `(tactic| walk_at "jgo") => `(tactic| repeat first | walk_at "jst0" | walk_at "jite")
local macro_rules | `(tactic| walk_at "jgs") => `(tactic| repeat' first | walk_at "jst0" | walk_at "jite" | walk_at "ifs")
local macro_rules | `(tactic| walk_at "jk") => `(tactic| first | exact trivial | exact ⟨rfl, by walk_at "jk"⟩)
local macro_rules | `(tactic| walk_at "jwp") => `(tactic| exact ⟨rfl, by walk_at "jno1"⟩)
local macro_rules | `(tactic| walk_at "jif") => `(tactic| repeat ((fail_if_success (with_reducible show JS _ _ (tSeq (tIfS _ _ _) _) _ _)); first | walk_at "jst0" | walk_at "jite"))
local macro_rules | `(tactic| walk_at "jie") => `(tactic| repeat ((fail_if_success (with_reducible show J _ _ (tIf _ _ _) _ _)); first | walk_at "jst0" | walk_at "jite"))
local macro_rules | `(tactic| walk_at "nq") => `(tactic| decide +kernel)
local macro_rules | `(tactic| walk_at "nr") => `(tactic| decide +kernel)

section
variable {P : Program} {w : World} {K : PySem.W.Frag} {mg : Str → Option Value} {base : Heap}
def isIntD : PyData → Bool
  | .int _ => true
  | _ => false
def psp_is_number : PSp := fun ws Φ _ => ∃ d, ws = [.d d] ∧ Φ (.d (.bool (isIntD d)))
theorem c_is_number {d : PyData} {Φ : W → Prop} {Ξ : Addr → PyData → Prop} (q : Φ (.d (.bool (isIntD d)))) : psp_is_number [.d d] Φ Ξ := ⟨d, rfl, q⟩
theorem sc_is_number : FnScope ["thing"] ["thing"] (defScope s_is_number) := ⟨rfl, rfl, rfl, by decide +kernel, rfl, by decide +kernel, by decide +kernel⟩
theorem ok_is_number (T : G K mg) : FnOk P w K mg base CX0 1 T.f_is_number T.d_is_number ["thing"] (SP K psp_is_number) := by
  refine T.F_is_number.ok sc_is_number (fun vs H Q E h => ?_) (fun cdv A outer s H vs Q E hr h => ?_)
  · exact SP.len h fun ws Φ Ξ hp => by obtain ⟨d, rfl, q⟩ := hp; rfl
  · have hu := hu_of hr
    have nd := sc_is_number.nd
    refine ⟨_, (pss_one (ps_ret (pe_and (pe_callB (r := rIsi K) call_isi (by rfl) T.n_isinstance (by decide +kernel) (pa_cons (pv 0) (pa_cons (pe_bltn (v := .ty "int") (by rfl) T.n_int (by decide +kernel) rfl) pa_nil))) (pe_one (pe_not (pe_callB (r := rIsi K) call_isi (by rfl) T.n_isinstance (by decide +kernel) (pa_cons (pv 0) (pa_cons (pe_bltn (v := .ty "bool") (by rfl) T.n_bool (by decide +kernel) rfl) pa_nil)))))))), SP.run h fun ws Φ Ξ B hp hX => ?_⟩
    clear h
    obtain ⟨d, rfl, q⟩ := hp
    show JS K B _ [some (.d d)] _
    cases d
    all_goals walk_at "jgo"
    all_goals exact ⟨q, by walk_at "jk"⟩
/-- a number from lo to hi -/
def inR (d : PyData) (lo hi : Int) : Bool := match d with | .int i => decide (lo ≤ i) && decide (i ≤ hi) | _ => false
theorem inR_T {i lo hi : Int} (h : lo ≤ i ∧ i ≤ hi) : inR (.int i) lo hi = true := by
  show (decide (lo ≤ i) && decide (i ≤ hi)) = true
  rw [decide_eq_true h.1, decide_eq_true h.2]; rfl
theorem inR_F {i lo hi : Int} (h : ¬ (lo ≤ i ∧ i ≤ hi)) : inR (.int i) lo hi = false := by
  show (decide (lo ≤ i) && decide (i ≤ hi)) = false
  by_cases h1 : lo ≤ i
  · rw [decide_eq_false (fun z => h ⟨h1, z⟩), Bool.and_false]
  · rw [decide_eq_false h1, Bool.false_and]
def psp_is_within : PSp := fun ws Φ _ => ∃ d lo hi, ws = [.d d, .d (.int lo), .d (.int hi)] ∧ Φ (.d (.bool (inR d lo hi)))
theorem c_is_within {d : PyData} {lo hi : Int} {Φ : W → Prop} {Ξ : Addr → PyData → Prop} (q : Φ (.d (.bool (inR d lo hi)))) : psp_is_within [.d d, .d (.int lo), .d (.int hi)] Φ Ξ := ⟨d, lo, hi, rfl, q⟩
theorem sc_is_within : FnScope ["thing", "low", "high"] ["thing", "low", "high"] (defScope s_is_within) := ⟨rfl, rfl, rfl, by decide +kernel, rfl, by decide +kernel, by decide +kernel⟩
theorem ok_is_within (T : G K mg) : FnOk P w K mg base CX0 2 T.f_is_within T.d_is_within ["thing", "low", "high"] (SP K psp_is_within) := by
  refine T.F_is_within.ok sc_is_within (fun vs H Q E h => ?_) (fun cdv A outer s H vs Q E hr h => ?_)
  · exact SP.len h fun ws Φ Ξ hp => by obtain ⟨d, lo, hi, rfl, q⟩ := hp; rfl
  · have hu := hu_of hr
    have nd := sc_is_within.nd
    refine ⟨_, (pss_one (ps_ret (pe_and (pe_call (ok_is_number T) (hr.mono (by decide)) rfl T.g_is_number T.F_is_number.kp T.b_is_number .nil pass0 (pa_cons (pv 0) pa_nil)) (pe_one (pe_chain (r := rLeA K) (r' := rLeA K) op_leA op_leA (pv 1) (pv 0) (pv 2)))))), SP.run h fun ws Φ Ξ B hp hX => ?_⟩
    clear h
    obtain ⟨d, lo, hi, rfl, q⟩ := hp
    show JS K B _ [some (.d d), some (.d (.int lo)), some (.d (.int hi))] _
    walk_at "jgo"
    refine c_is_number ?_
    cases d with
    | int i =>
      walk_at "jgo"
      refine x_dec (fun h => ?_) (fun h => ?_)
      · walk_at "jgo"
        refine ⟨?_, by walk_at "jk"⟩
        rw [show decide (i ≤ hi) = inR (.int i) lo hi by show _ = (decide (lo ≤ i) && decide (i ≤ hi)); rw [decide_eq_true h]; rfl]; exact q
      · walk_at "jgo"
        refine ⟨?_, by walk_at "jk"⟩
        rw [show false = inR (.int i) lo hi by show _ = (decide (lo ≤ i) && decide (i ≤ hi)); rw [decide_eq_false h]; rfl]; exact q
    | _ =>
      walk_at "jgo"
      exact ⟨q, by walk_at "jk"⟩
end
end WD

namespace WD
open PySem PySem.Spec PyProof.Rows L2
-- p ≠ q of two addresses
local macro_rules | `(tactic| walk_at "ne") => `(tactic| first
  | with_reducible assumption
  | with_reducible exact Ne.symm (by assumption)
  | exact ne_some (by with_reducible assumption) (by with_reducible assumption)
  | exact Ne.symm (ne_some (by with_reducible assumption) (by with_reducible assumption)))
local macro_rules | `(tactic| walk_at "nm") => `(tactic| first | with_reducible assumption | with_reducible exact nm0 | ((with_reducible refine' nmS ?a ?b); (case a => walk_at "ne"); (case b => walk_at "nm")))
-- H p = some ?o
local macro_rules | `(tactic| walk_at "hp") => `(tactic| first
  | with_reducible exact upd_same
  | with_reducible assumption
  | ((with_reducible refine' Eq.trans (upd_ne ?a) ?b); (case a => walk_at "ne"); (case b => walk_at "hp"))
  | exact Stay.keep (by with_reducible assumption) _ _ (by walk_at "hp") (by walk_at "nm"))
local macro_rules | `(tactic| walk_at "hpd") => `(tactic| ((refine' Eq.trans ?h ?e); (case h => walk_at "hp"); (case e => exact rfl)))
-- a new address
local macro_rules | `(tactic| walk_at "nw") => `(tactic| ((repeat first | (with_reducible refine' nw_upd ?_) | refine' nw_fr (by with_reducible assumption) ?_); intro p_; intros))
local macro_rules | `(tactic| walk_at "mem") => `(tactic| first | exact List.mem_cons_self | (refine' List.mem_cons_of_mem _ ?_; walk_at "mem"))
-- what stands stays
local macro_rules | `(tactic| walk_at "fr") => `(tactic| first
  | with_reducible assumption
  | exact Stay.refl _ _
  | ((with_reducible refine' Stay.upd ?a ?b); (case a => walk_at "fr"); (case b => walk_at "mem"))
  | ((with_reducible refine' Stay.new ?a ?b); (case b => with_reducible assumption); (case a => walk_at "fr"))
  | (refine' Stay.trans ?_ (by with_reducible assumption); walk_at "fr"))
local macro_rules | `(tactic| walk_at "sq") => `(tactic| first | with_reducible assumption | exact SqL.of (by walk_at "hp"))
local macro_rules | `(tactic| walk_at "sqt") => `(tactic| first | with_reducible assumption | exact SqT.of (by walk_at "hp"))
-- side goals
local macro_rules | `(tactic| walk_at "sd") => `(tactic| first
  | with_reducible assumption | with_reducible rfl | (show _ ≤ sizeLine; decide) | (refine Nat.le_trans (Nat.le_of_ble_eq_true (m := 1000) rfl) (by decide)) | decide | omega
  | exact IntMulOk.of_right (intBits_le_64 (by omega) (by omega)) | exact IntMulOk.of_left (intBits_le_64 (by omega) (by omega))
  | (refine' Or.inl ⟨?_, ?_⟩ <;> omega) | (refine' Or.inr ⟨?_, ?_⟩ <;> omega)
  | (refine' ⟨?_, ?_⟩ <;> walk_at "sd") | (refine' ⟨?_, ?_, ?_⟩ <;> walk_at "sd"))
local macro_rules | `(tactic| walk_at "set") => `(tactic| first | with_reducible exact set0 | with_reducible exact set1 | with_reducible exact set2 | with_reducible exact set3 | with_reducible exact set4 | with_reducible exact set5 | with_reducible exact set6 | with_reducible exact set7 | with_reducible exact set8 | with_reducible exact set9 | with_reducible exact set10 | with_reducible exact set11 | with_reducible exact set12 | with_reducible exact set13 | with_reducible exact set14 | with_reducible exact set15 | with_reducible exact set16 | with_reducible exact set17 | with_reducible exact set18 | with_reducible exact set19 | with_reducible exact set20)
-- one step
local macro_rules | `(tactic| walk_at "st0") => `(tactic| first
  | with_reducible refine' x_seq ?_
  | with_reducible refine' x_next ?_
  | with_reducible refine' x_ifS ?_
  | with_reducible refine' x_asg ?_
  | with_reducible refine' x_ret ?_
  | with_reducible refine' x_retN ?_
  | with_reducible refine' x_drop ?_
  | with_reducible refine' x_brk ?_
  | with_reducible refine' x_cont ?_
  | ((with_reducible refine' x_gName ?e ?_); (case e => walk_at "set"))
  | with_reducible refine' x_gSub ?_
  | with_reducible refine' x_gCons ?_
  | with_reducible refine' x_gNil ?_
  | with_reducible refine' x_c ?_
  | ((with_reducible refine' x_var ?e ?_); (case e => exact rfl))
  | with_reducible refine' x_op ?_
  | with_reducible refine' x_un ?_
  | with_reducible refine' x_if ?_
  | with_reducible refine' x_cb ?_
  | with_reducible refine' x_cons ?_
  | with_reducible refine' x_nil ?_
  | with_reducible refine' x_bm0 ?_
  | with_reducible refine' x_bm ?_
  | with_reducible refine' x_tup ?_
  | with_reducible refine' x_lst ?_
  | ((with_reducible refine' And.intro (a := _ ≤ sizeLine) ?e ?_); (case e => walk_at "sd"); walk_at "nw")
  | with_reducible refine' x_fld ?_
  | with_reducible refine' x_test ?_
  | with_reducible refine' x_tB ?_
  | with_reducible refine' x_and ?_
  | with_reducible refine' x_or ?_
  | with_reducible refine' x_not ?_
  | with_reducible refine' x_notV ?_
  | with_reducible refine' x_andV ?_
  | with_reducible refine' x_orV ?_
  | with_reducible refine' x_rI0 ?_
  | ((with_reducible refine' x_rI ?e ?_); (case e => walk_at "sd"))
  | with_reducible refine' x_rU ?_
  | ((with_reducible refine' x_rEq ?e ?_); (case e => exact rfl))
  | ((with_reducible refine' x_rNe ?e ?_); (case e => exact rfl))
  | ((with_reducible refine' x_ixL0 ?h ?_); (case h => walk_at "sq"))
  | ((with_reducible refine' x_ixL1 ?h ?_); (case h => walk_at "sq"))
  | ((with_reducible refine' x_ixL2 ?h ?_); (case h => walk_at "sq"))
  | ((with_reducible refine' x_ixL0I ?h ?_); (case h => walk_at "sq"))
  | ((with_reducible refine' x_ixL ?h ?e ?_); (case h => walk_at "sq"); (case e => exact rfl))
  | ((with_reducible refine' x_neNil ?h ?h2 ?_); (case h => walk_at "sq"); (case h2 => walk_at "sq"))
  | ((with_reducible refine' x_pop0I ?h ?_); (case h => walk_at "hp"))
  | ((with_reducible refine' x_pop0 ?h ?_); (case h => walk_at "hp"))
  | ((with_reducible refine' x_setL0 ?h ?_); (case h => walk_at "hp"))
  | ((with_reducible refine' x_setL1 ?h ?_); (case h => walk_at "hp"))
  | ((with_reducible refine' x_setL2 ?h ?_); (case h => walk_at "hp"))
  | ((with_reducible refine' x_setL ?h ?e ?_); (case h => walk_at "hp"); (case e => exact rfl))
  | with_reducible refine' .inl ⟨_, rfl, ?_⟩
  | ((with_reducible refine' x_tyL ?h ?_); (case h => walk_at "sq"))
  | with_reducible refine' ⟨_, rfl, ?_⟩)
-- a split
local macro_rules | `(tactic| walk_at "if") => `(tactic| (
  first
  | (with_reducible refine' x_dec (fun h_ => ?_) (fun h_ => ?_))
  | (with_reducible refine' x_decN (fun h_ => ?_) (fun h_ => ?_))
  | (with_reducible refine' x_boolN (fun h_ => ?_) (fun h_ => ?_))
  | (with_reducible refine' x_bool (fun h_ => ?_) (fun h_ => ?_))))
local macro_rules | `(tactic| walk_at "ifs") => `(tactic| (walk_at "if" <;> first
  | (exfalso; first | omega | contradiction)
  | (rename_i h_; (try simp only [BEq.rfl, List.length_map, List.length_cons, List.length_nil, Int.natCast_zero, Int.ofNat_zero, gt_iff_lt, Int.lt_irrefl, Bool.true_eq_false, Bool.false_eq_true, List.isEmpty_nil, List.isEmpty_cons, V.int.injEq, V.str.injEq, V.bl.injEq, reduceCtorEq, not_false_eq_true, not_true_eq_false] at h_); (try (exfalso; omega)))))
local macro_rules | `(tactic| walk_at "ite1") => `(tactic| first
  | with_reducible refine' x_T ?_
  | with_reducible refine' x_F ?_
  | with_reducible refine' x_nT ?_
  | with_reducible refine' x_nF ?_
  | ((with_reducible refine' x_bT ?e ?_); (case e => first | decide | decide +kernel))
  | ((with_reducible refine' x_bF ?e ?_); (case e => first | decide | decide +kernel)))
local macro_rules | `(tactic| walk_at "st") => `(tactic| ((fail_if_success (with_reducible (show (if _ then _ else _)))); walk_at "st0"))
local macro_rules | `(tactic| walk_at "go") => `(tactic| repeat first | walk_at "ite1" | walk_at "st")
local macro_rules | `(tactic| walk_at "gs") => `(tactic| repeat' first | walk_at "ite1" | walk_at "st" | walk_at "ifs")
local macro_rules | `(tactic| walk_at "jsd") => `(tactic| first
  | exact trivial | with_reducible assumption | with_reducible rfl | (show _ ≤ sizeLine; decide) | (refine Nat.le_trans (Nat.le_of_ble_eq_true (m := 1000) rfl) (by decide)) | decide | omega
  | (simp only [List.length_append, List.length_cons, List.length_nil, List.length_map, List.length_range, natsD_len, verL_len, tabXs_len, List.length_replicate, Int.toNat_natCast, rgD_len, List.length_take, List.length_drop, zipD_len, enumD_len]; omega)
  | exact IntMulOk.of_right (intBits_le_64 (by omega) (by omega)) | exact IntMulOk.of_left (intBits_le_64 (by omega) (by omega))
  | (refine' Or.inl ⟨?_, ?_⟩ <;> omega) | (refine' Or.inr ⟨?_, ?_⟩ <;> omega)
  | (refine' ⟨?_, ?_⟩ <;> walk_at "jsd") | (refine' ⟨?_, ?_, ?_⟩ <;> walk_at "jsd") | (refine' ⟨?_, ?_, ?_, ?_⟩ <;> walk_at "jsd"))
local macro_rules | `(tactic| walk_at "jshp") => `(tactic| first | with_reducible assumption | (show SeqAt.shaped _ = true; first | assumption | decide))
local macro_rules | `(tactic| walk_at "jix") => `(tactic| first | with_reducible assumption | exact rfl)
local macro_rules | `(tactic| walk_at "jdrw") => `(tactic| exact ⟨by omega, Nat.lt_of_le_of_lt (Nat.log2_le_self _) (by omega)⟩)
local macro_rules | `(tactic| walk_at "jno") => `(tactic| first | exact ⟨trivial, by walk_at "jno"⟩ | exact ⟨rfl, by walk_at "jno"⟩ | exact trivial)
local macro_rules | `(tactic| walk_at "jno1") => `(tactic| (intro v_ m_; simp only [List.mem_cons, List.not_mem_nil, or_false] at m_; first | (subst m_; exact trivial) | (subst m_; exact rfl) | (rcases m_ with m_ | m_ <;> subst m_ <;> first | exact trivial | exact rfl) | (rcases m_ with m_ | m_ | m_ <;> subst m_ <;> first | exact trivial | exact rfl)))
local macro_rules | `(tactic| walk_at "jst0") => `(tactic| first
  | refine' Stp.imp ?_
  | ((with_reducible refine' x_PI2 ?e ?_); (case e => walk_at "jsd"))
  | ((with_reducible refine' x_ixAT (Vw.eq) ?e2 ?_); (case e2 => walk_at "jix"))
  | ((with_reducible refine' x_ixAL (Vw.eq) ?e2 ?_); (case e2 => walk_at "jix"))
  | ((with_reducible refine' x_RApp ?l ?_); (case l => walk_at "jsd"))
  | with_reducible refine' J_callN ?_
  | ((with_reducible refine' J_pool ?w ?e ?_); (case w => with_reducible assumption); (case e => with_reducible assumption))
  | ((with_reducible refine' J_callS ?w ?_); (case w => with_reducible assumption))
  | ((with_reducible refine' J_xw ?w ?_); (case w => with_reducible assumption))
  | ((with_reducible refine' J_isX ?w ?_); (case w => with_reducible assumption))
  | with_reducible refine' x_xwJ ?_
  | ((with_reducible refine' x_isX1 ?w ?_); (case w => with_reducible assumption))
  | ((with_reducible refine' x_isX2 ?w ?_); (case w => with_reducible assumption))
  | ((with_reducible refine' J_call ?w ?_); (case w => with_reducible assumption))
  | ((with_reducible refine' x_QDraw (SlotAt.eq) ?c ?_); (case c => walk_at "jdrw"))
  | ((with_reducible refine' x_QR1 ?c ?_); (case c => walk_at "jsd"))
  | ((with_reducible refine' x_QR2 ?c ?_); (case c => walk_at "jsd"))
  | ((with_reducible refine' x_addL (Vw.eq) (Vw.eq) ?c ?_); (case c => walk_at "jsd"))
  | ((with_reducible refine' x_addT (Vw.eq) (Vw.eq) ?c ?_); (case c => walk_at "jsd"))
  | ((with_reducible refine' x_addS' ?c ?_); (case c => walk_at "jsd"))
  | ((with_reducible refine' x_mulI ?c ?_); (case c => walk_at "jsd"))
  | ((with_reducible refine' x_mulL1 (Vw.eq) ?c ?_); (case c => walk_at "jsd"))
  | ((with_reducible refine' x_mulS ?c ?_); (case c => walk_at "jsd"))
  | ((with_reducible refine' x_isNj (Vw.eq) ?_))
  | ((with_reducible refine' x_notNj (Vw.eq) ?_))
  | ((with_reducible refine' x_eqA (Vw.eq) (Vw.eq) ?c ?d ?_); (case c => walk_at "jshp"); (case d => walk_at "jshp"))
  | ((with_reducible refine' x_neA (Vw.eq) (Vw.eq) ?c ?d ?_); (case c => walk_at "jshp"); (case d => walk_at "jshp"))
  | ((with_reducible refine' x_QIn (Vw.eq) ?e2 ?f ?g ?_); (case e2 => exact rfl); (case f => exact rfl); (case g => first | with_reducible assumption | exact rfl))
  | ((with_reducible refine' x_QInN (Vw.eq) ?e2 ?f ?g ?_); (case e2 => exact rfl); (case f => exact rfl); (case g => first | with_reducible assumption | exact rfl))
  | ((with_reducible refine' x_lenS' (Vw.eq) ?l ?_); (case l => walk_at "jsd"))
  | ((with_reducible refine' x_slS' ?l ?_); (case l => walk_at "jsd"))
  | with_reducible refine' J_raise (by with_reducible assumption) (by with_reducible assumption) ?_
  | with_reducible refine' x_X1 ?_
  | ((with_reducible refine' And.intro (a := RgOk _ _) ?c ?_); (case c => exact RgOk.of_le (by omega) (by omega) (by omega) (by omega))))
local macro_rules | `(tactic| walk_at "jite") => `(tactic| first
  | ((with_reducible refine' x_bT ?e ?_); (case e => first | exact rfl | decide | decide +kernel))
  | ((with_reducible refine' x_bF ?e ?_); (case e => first | exact rfl | decide | decide +kernel)))
local macro_rules | `(tactic| walk_at "jst") => `(tactic| walk_at "jst0")
local macro_rules | `(tactic| walk_at "jgo") => `(tactic| repeat first | walk_at "jst0" | walk_at "jite")
local macro_rules | `(tactic| walk_at "jgs") => `(tactic| repeat' first | walk_at "jst0" | walk_at "jite" | walk_at "ifs")
local macro_rules | `(tactic| walk_at "jk") => `(tactic| first | exact trivial | exact ⟨rfl, by walk_at "jk"⟩)
local macro_rules | `(tactic| walk_at "jwp") => `(tactic| exact ⟨rfl, by walk_at "jno1"⟩)
local macro_rules | `(tactic| walk_at "jif") => `(tactic| repeat ((fail_if_success (with_reducible show JS _ _ (tSeq (tIfS _ _ _) _) _ _)); first | walk_at "jst0" | walk_at "jite"))
local macro_rules | `(tactic| walk_at "jie") => `(tactic| repeat ((fail_if_success (with_reducible show J _ _ (tIf _ _ _) _ _)); first | walk_at "jst0" | walk_at "jite"))
local macro_rules | `(tactic| walk_at "nq") => `(tactic| decide +kernel)
local macro_rules | `(tactic| walk_at "nr") => `(tactic| decide +kernel)

section
variable {P : Program} {w : World} {K : PySem.W.Frag} {mg : Str → Option Value} {base : Heap}
theorem inR_nat {a l P : Nat} (h : a < P) (h2 : l ≤ a) : inR (natD a) (l : Int) ((P : Int) - 1) = true := by
  show (decide ((l : Int) ≤ (a : Int)) && decide ((a : Int) ≤ (P : Int) - 1)) = true
  rw [decide_eq_true (by omega), decide_eq_true (by omega)]; rfl
def psp__is_bare_deed : PSp := fun ws Φ _ => ∃ d P, ws = [.d (deedD d), .d (natD P)] ∧ WfD P d ∧ Φ (.d (.bool true))
theorem c_bare {d : Deed} {P : Nat} {Φ : W → Prop} {Ξ : Addr → PyData → Prop} (w : WfD P d) (q : Φ (.d (.bool true))) : psp__is_bare_deed [.d (deedD d), .d (natD P)] Φ Ξ := ⟨d, P, rfl, w, q⟩
theorem sc__is_bare_deed : FnScope ["thing", "many", "page", "reads", "least", "read"] ["thing", "many"] (defScope s__is_bare_deed) := ⟨rfl, rfl, rfl, by decide +kernel, rfl, by decide +kernel, by decide +kernel⟩
theorem ok__is_bare_deed (T : G K mg) : FnOk P w K mg base CX0 3 T.f__is_bare_deed T.d__is_bare_deed ["thing", "many"] (SP K psp__is_bare_deed) := by
  refine T.F__is_bare_deed.ok sc__is_bare_deed (fun vs H Q E h => ?_) (fun cdv A outer s H vs Q E hr h => ?_)
  · exact SP.len h fun ws Φ Ξ hp => by obtain ⟨d, P, rfl, hw, q⟩ := hp; rfl
  · have hu := hu_of hr
    have nd := sc__is_bare_deed.nd
    refine ⟨_, (pss_cons (ps_if (PW.pt (pw_or (pt_not (pt_val (pe_callB (r := rIsi K) call_isi (by rfl) T.n_isinstance (by decide +kernel) (pa_cons (pv 0) (pa_cons (pe_bltn (v := .ty "tuple") (by rfl) T.n_tuple (by decide +kernel) rfl) pa_nil))))) (pw_or1 (pt_cmpR (r := rNeA K) (op_neA hr.units) (pe_callB (r := rLenA K) call_lenA (by rfl) T.n_len PySem.boot_len (pa_cons (pv 0) pa_nil)) pe_int (nomark _))))) (pss_one (ps_ret pe_bl)) pss_nil)
        (pss_cons (ps_asg (pv 0) (pg_tupK (K := K) (n := 2) rfl rfl (pgs_cons (pg_name (i := 2) nd rfl (Or.inl rfl)) (pgs_cons (pg_name (i := 3) nd rfl (Or.inl rfl)) pgs_nil))))
        (pss_cons (ps_if (PW.pt (pw_or (pt_not (pt_val (pe_call (ok_is_within T) (hr.mono (by decide)) rfl T.g_is_within T.F_is_within.kp T.b_is_within .nil pass0 (pa_cons (pv 2) (pa_cons pe_int (pa_cons (pe_op op_sub (pv 1) pe_int) pa_nil)))))) (pw_or1 (pt_not (pt_val (pe_callB (r := rIsi K) call_isi (by rfl) T.n_isinstance (by decide +kernel) (pa_cons (pv 3) (pa_cons (pe_bltn (v := .ty "tuple") (by rfl) T.n_tuple (by decide +kernel) rfl) pa_nil)))))))) (pss_one (ps_ret pe_bl)) pss_nil)
        (pss_cons (ps_set (i := 4) nd rfl (Or.inl rfl) pe_int)
        (pss_cons (ps_for PassesOwn.never rfl (pi_anyK (K := K) rfl (pv 3)) (pg_name (i := 5) nd rfl (Or.inl rfl)) (pss_cons (ps_if (PW.pt (pw_or (pt_not (pt_val (pe_call (ok_is_within T) (hr.mono (by decide)) rfl T.g_is_within T.F_is_within.kp T.b_is_within .nil pass0 (pa_cons (pv 5) (pa_cons (pv 4) (pa_cons (pe_op op_sub (pv 1) pe_int) pa_nil)))))) (pw_or1 (pt_cmpR (r := rEqA K) (op_eqA hr.units) (pv 5) (pv 2) (nomark _))))) (pss_one (ps_ret pe_bl)) pss_nil)
        (pss_one (ps_set (i := 4) nd rfl (Or.inl rfl) (pe_op (r := rAddA K) op_addA (pv 5) pe_int)))))
        (pss_one (ps_ret pe_bl))))))), SP.run h fun ws Φ Ξ B hp hX => ?_⟩
    clear h
    obtain ⟨d, P, rfl, hw, q⟩ := hp
    show JS K B _ [some (.d (deedD d)), some (.d (natD P)), none, none, none, none] _
    walk_at "jgo"
    refine c_is_within ?_
    rw [show (0 : Int) = ((0 : Nat) : Int) from rfl, inR_nat hw.pg (Nat.zero_le _)]
    walk_at "jgo"
    refine x_QFor (fun i ρ => ∃ (l : Nat) (v : Option W), ρ = [some (.d (deedD d)), some (.d (natD P)), some (.d (natD d.1)), some (.d (.tuple (natsD d.2))), some (.d (natD l)), v] ∧ ∀ j s, i ≤ j → d.2[j]? = some s → l ≤ s) ⟨0, none, rfl, fun _ _ _ _ => Nat.zero_le _⟩ ?_ ?_
    · rintro i x ρ e ⟨l, v, rfl, hl⟩
      obtain ⟨s, es, rfl⟩ := natsD_get e
      obtain ⟨r1, r2⟩ := hw.rd s (List.mem_of_getElem? es)
      have l1 := hl i s (Nat.le_refl _) es
      walk_at "jgo"
      refine c_is_within ?_
      rw [inR_nat r1 l1]
      walk_at "jgo"
      refine x_dec (fun z => absurd (by omega) r2) (fun _ => ?_)
      walk_at "jgo"
      exact ⟨s + 1, _, rfl, fun j u hj eu => hw.upTo i s es j u hj eu⟩
    · rintro ρ ⟨l, v, rfl, _⟩
      walk_at "jgo"
      exact ⟨q, by walk_at "jk"⟩
end
end WD

namespace WD
open PySem PySem.Spec PyProof.Rows L2
-- p ≠ q of two addresses
local macro_rules | `(tactic| walk_at "ne") => `(tactic| first
  | with_reducible assumption
  | with_reducible exact Ne.symm (by assumption)
  | exact ne_some (by with_reducible assumption) (by with_reducible assumption)
  | exact Ne.symm (ne_some (by with_reducible assumption) (by with_reducible assumption)))
local macro_rules | `(tactic| walk_at "nm") => `(tactic| first | with_reducible assumption | with_reducible exact nm0 | ((with_reducible refine' nmS ?a ?b); (case a => walk_at "ne"); (case b => walk_at "nm")))
-- H p = some ?o
local macro_rules | `(tactic| walk_at "hp") => `(tactic| first
  | with_reducible exact upd_same
  | with_reducible assumption
  | ((with_reducible refine' Eq.trans (upd_ne ?a) ?b); (case a => walk_at "ne"); (case b => walk_at "hp"))
  | exact Stay.keep (by with_reducible assumption) _ _ (by walk_at "hp") (by walk_at "nm"))
local macro_rules | `(tactic| walk_at "hpd") => `(tactic| ((refine' Eq.trans ?h ?e); (case h => walk_at "hp"); (case e => exact rfl)))
-- a new address
local macro_rules | `(tactic| walk_at "nw") => `(tactic| ((repeat first | (with_reducible refine' nw_upd ?_) | refine' nw_fr (by with_reducible assumption) ?_); intro p_; intros))
local macro_rules | `(tactic| walk_at "mem") => `(tactic| first | exact List.mem_cons_self | (refine' List.mem_cons_of_mem _ ?_; walk_at "mem"))
-- what stands stays
local macro_rules | `(tactic| walk_at "fr") => `(tactic| first
  | with_reducible assumption
  | exact Stay.refl _ _
  | ((with_reducible refine' Stay.upd ?a ?b); (case a => walk_at "fr"); (case b => walk_at "mem"))
  | ((with_reducible refine' Stay.new ?a ?b); (case b => with_reducible assumption); (case a => walk_at "fr"))
  | (refine' Stay.trans ?_ (by with_reducible assumption); walk_at "fr"))
local macro_rules | `(tactic| walk_at "sq") => `(tactic| first | with_reducible assumption | exact SqL.of (by walk_at "hp"))
local macro_rules | `(tactic| walk_at "sqt") => `(tactic| first | with_reducible assumption | exact SqT.of (by walk_at "hp"))
-- side goals
local macro_rules | `(tactic| walk_at "sd") => `(tactic| first
  | with_reducible assumption | with_reducible rfl | (show _ ≤ sizeLine; decide) | (refine Nat.le_trans (Nat.le_of_ble_eq_true (m := 1000) rfl) (by decide)) | decide | omega
  | exact IntMulOk.of_right (intBits_le_64 (by omega) (by omega)) | exact IntMulOk.of_left (intBits_le_64 (by omega) (by omega))
  | (refine' Or.inl ⟨?_, ?_⟩ <;> omega) | (refine' Or.inr ⟨?_, ?_⟩ <;> omega)
  | (refine' ⟨?_, ?_⟩ <;> walk_at "sd") | (refine' ⟨?_, ?_, ?_⟩ <;> walk_at "sd"))
local macro_rules | `(tactic| walk_at "set") => `(tactic| first | with_reducible exact set0 | with_reducible exact set1 | with_reducible exact set2 | with_reducible exact set3 | with_reducible exact set4 | with_reducible exact set5 | with_reducible exact set6 | with_reducible exact set7 | with_reducible exact set8 | with_reducible exact set9 | with_reducible exact set10 | with_reducible exact set11 | with_reducible exact set12 | with_reducible exact set13 | with_reducible exact set14 | with_reducible exact set15 | with_reducible exact set16 | with_reducible exact set17 | with_reducible exact set18 | with_reducible exact set19 | with_reducible exact set20)
-- one step
local macro_rules | `(tactic| walk_at "st0") => `(tactic| first
  | with_reducible refine' x_seq ?_
  | with_reducible refine' x_next ?_
  | with_reducible refine' x_ifS ?_
  | with_reducible refine' x_asg ?_
  | with_reducible refine' x_ret ?_
  | with_reducible refine' x_retN ?_
  | with_reducible refine' x_drop ?_
  | with_reducible refine' x_brk ?_
  | with_reducible refine' x_cont ?_
  | ((with_reducible refine' x_gName ?e ?_); (case e => walk_at "set"))
  | with_reducible refine' x_gSub ?_
  | with_reducible refine' x_gCons ?_
  | with_reducible refine' x_gNil ?_
  | with_reducible refine' x_c ?_
  | ((with_reducible refine' x_var ?e ?_); (case e => exact rfl))
  | with_reducible refine' x_op ?_
  | with_reducible refine' x_un ?_
  | with_reducible refine' x_if ?_
  | with_reducible refine' x_cb ?_
  | with_reducible refine' x_cons ?_
  | with_reducible refine' x_nil ?_
  | with_reducible refine' x_bm0 ?_
  | with_reducible refine' x_bm ?_
  | with_reducible refine' x_tup ?_
  | with_reducible refine' x_lst ?_
  | ((with_reducible refine' And.intro (a := _ ≤ sizeLine) ?e ?_); (case e => walk_at "sd"); walk_at "nw")
  | with_reducible refine' x_fld ?_
  | with_reducible refine' x_test ?_
  | with_reducible refine' x_tB ?_
  | with_reducible refine' x_and ?_
  | with_reducible refine' x_or ?_
  | with_reducible refine' x_not ?_
  | with_reducible refine' x_notV ?_
  | with_reducible refine' x_andV ?_
  | with_reducible refine' x_orV ?_
  | with_reducible refine' x_rI0 ?_
  | ((with_reducible refine' x_rI ?e ?_); (case e => walk_at "sd"))
  | with_reducible refine' x_rU ?_
  | ((with_reducible refine' x_rEq ?e ?_); (case e => exact rfl))
  | ((with_reducible refine' x_rNe ?e ?_); (case e => exact rfl))
  | ((with_reducible refine' x_ixL0 ?h ?_); (case h => walk_at "sq"))
  | ((with_reducible refine' x_ixL1 ?h ?_); (case h => walk_at "sq"))
  | ((with_reducible refine' x_ixL2 ?h ?_); (case h => walk_at "sq"))
  | ((with_reducible refine' x_ixL0I ?h ?_); (case h => walk_at "sq"))
  | ((with_reducible refine' x_ixL ?h ?e ?_); (case h => walk_at "sq"); (case e => exact rfl))
  | ((with_reducible refine' x_neNil ?h ?h2 ?_); (case h => walk_at "sq"); (case h2 => walk_at "sq"))
  | ((with_reducible refine' x_pop0I ?h ?_); (case h => walk_at "hp"))
  | ((with_reducible refine' x_pop0 ?h ?_); (case h => walk_at "hp"))
  | ((with_reducible refine' x_setL0 ?h ?_); (case h => walk_at "hp"))
  | ((with_reducible refine' x_setL1 ?h ?_); (case h => walk_at "hp"))
  | ((with_reducible refine' x_setL2 ?h ?_); (case h => walk_at "hp"))
  | ((with_reducible refine' x_setL ?h ?e ?_); (case h => walk_at "hp"); (case e => exact rfl))
  | with_reducible refine' .inl ⟨_, rfl, ?_⟩
  | ((with_reducible refine' x_tyL ?h ?_); (case h => walk_at "sq"))
  | with_reducible refine' ⟨_, rfl, ?_⟩)
-- a split
local macro_rules | `(tactic| walk_at "if") => `(tactic| (
  first
  | (with_reducible refine' x_dec (fun h_ => ?_) (fun h_ => ?_))
  | (with_reducible refine' x_decN (fun h_ => ?_) (fun h_ => ?_))
  | (with_reducible refine' x_boolN (fun h_ => ?_) (fun h_ => ?_))
  | (with_reducible refine' x_bool (fun h_ => ?_) (fun h_ => ?_))))
local macro_rules | `(tactic| walk_at "ifs") => `(tactic| (walk_at "if" <;> first
  | (exfalso; first | omega | contradiction)
  | (rename_i h_; (try simp only [BEq.rfl, List.length_map, List.length_cons, List.length_nil, Int.natCast_zero, Int.ofNat_zero, gt_iff_lt, Int.lt_irrefl, Bool.true_eq_false, Bool.false_eq_true, List.isEmpty_nil, List.isEmpty_cons, V.int.injEq, V.str.injEq, V.bl.injEq, reduceCtorEq, not_false_eq_true, not_true_eq_false] at h_); (try (exfalso; omega)))))
local macro_rules | `(tactic| walk_at "ite1") => `(tactic| first
  | with_reducible refine' x_T ?_
  | with_reducible refine' x_F ?_
  | with_reducible refine' x_nT ?_
  | with_reducible refine' x_nF ?_
  | ((with_reducible refine' x_bT ?e ?_); (case e => first | decide | decide +kernel))
  | ((with_reducible refine' x_bF ?e ?_); (case e => first | decide | decide +kernel)))
local macro_rules | `(tactic| walk_at "st") => `(tactic| ((fail_if_success (with_reducible (show (if _ then _ else _)))); walk_at "st0"))
local macro_rules | `(tactic| walk_at "go") => `(tactic| repeat first | walk_at "ite1" | walk_at "st")
local macro_rules | `(tactic| walk_at "gs") => `(tactic| repeat' first | walk_at "ite1" | walk_at "st" | walk_at "ifs")
local macro_rules | `(tactic| walk_at "jsd") => `(tactic| first
  | exact trivial | with_reducible assumption | with_reducible rfl | (show _ ≤ sizeLine; decide) | (refine Nat.le_trans (Nat.le_of_ble_eq_true (m := 1000) rfl) (by decide)) | decide | omega
  | (simp only [List.length_append, List.length_cons, List.length_nil, List.length_map, List.length_range, natsD_len, verL_len, tabXs_len, List.length_replicate, Int.toNat_natCast, rgD_len, List.length_take, List.length_drop, zipD_len, enumD_len]; omega)
  | exact IntMulOk.of_right (intBits_le_64 (by omega) (by omega)) | exact IntMulOk.of_left (intBits_le_64 (by omega) (by omega))
  | (refine' Or.inl ⟨?_, ?_⟩ <;> omega) | (refine' Or.inr ⟨?_, ?_⟩ <;> omega)
  | (refine' ⟨?_, ?_⟩ <;> walk_at "jsd") | (refine' ⟨?_, ?_, ?_⟩ <;> walk_at "jsd") | (refine' ⟨?_, ?_, ?_, ?_⟩ <;> walk_at "jsd"))
local macro_rules | `(tactic| walk_at "jshp") => `(tactic| first | with_reducible assumption | (show SeqAt.shaped _ = true; first | assumption | decide))
local macro_rules | `(tactic| walk_at "jix") => `(tactic| first | with_reducible assumption | exact rfl)
local macro_rules | `(tactic| walk_at "jdrw") => `(tactic| exact ⟨by omega, Nat.lt_of_le_of_lt (Nat.log2_le_self _) (by omega)⟩)
local macro_rules | `(tactic| walk_at "jno") => `(tactic| first | exact ⟨trivial, by walk_at "jno"⟩ | exact ⟨rfl, by walk_at "jno"⟩ | exact trivial)
local macro_rules | `(tactic| walk_at "jno1") => `(tactic| (intro v_ m_; simp only [List.mem_cons, List.not_mem_nil, or_false] at m_; first | (subst m_; exact trivial) | (subst m_; exact rfl) | (rcases m_ with m_ | m_ <;> subst m_ <;> first | exact trivial | exact rfl) | (rcases m_ with m_ | m_ | m_ <;> subst m_ <;> first | exact trivial | exact rfl)))
local macro_rules | `(tactic| walk_at "jst0") => `(tactic| first
  | refine' Stp.imp ?_
  | ((with_reducible refine' x_PI2 ?e ?_); (case e => walk_at "jsd"))
  | ((with_reducible refine' x_ixAT (Vw.eq) ?e2 ?_); (case e2 => walk_at "jix"))
  | ((with_reducible refine' x_ixAL (Vw.eq) ?e2 ?_); (case e2 => walk_at "jix"))
  | ((with_reducible refine' x_RApp ?l ?_); (case l => walk_at "jsd"))
  | with_reducible refine' J_callN ?_
  | ((with_reducible refine' J_pool ?w ?e ?_); (case w => with_reducible assumption); (case e => with_reducible assumption))
  | ((with_reducible refine' J_callS ?w ?_); (case w => with_reducible assumption))
  | ((with_reducible refine' J_xw ?w ?_); (case w => with_reducible assumption))
  | ((with_reducible refine' J_isX ?w ?_); (case w => with_reducible assumption))
  | with_reducible refine' x_xwJ ?_
  | ((with_reducible refine' x_isX1 ?w ?_); (case w => with_reducible assumption))
  | ((with_reducible refine' x_isX2 ?w ?_); (case w => with_reducible assumption))
  | ((with_reducible refine' J_call ?w ?_); (case w => with_reducible assumption))
  | ((with_reducible refine' x_QDraw (SlotAt.eq) ?c ?_); (case c => walk_at "jdrw"))
  | ((with_reducible refine' x_QR1 ?c ?_); (case c => walk_at "jsd"))
  | ((with_reducible refine' x_QR2 ?c ?_); (case c => walk_at "jsd"))
  | ((with_reducible refine' x_addL (Vw.eq) (Vw.eq) ?c ?_); (case c => walk_at "jsd"))
  | ((with_reducible refine' x_addT (Vw.eq) (Vw.eq) ?c ?_); (case c => walk_at "jsd"))
  | ((with_reducible refine' x_addS' ?c ?_); (case c => walk_at "jsd"))
  | ((with_reducible refine' x_mulI ?c ?_); (case c => walk_at "jsd"))
  | ((with_reducible refine' x_mulL1 (Vw.eq) ?c ?_); (case c => walk_at "jsd"))
  | ((with_reducible refine' x_mulS ?c ?_); (case c => walk_at "jsd"))
  | ((with_reducible refine' x_isNj (Vw.eq) ?_))
  | ((with_reducible refine' x_notNj (Vw.eq) ?_))
  | ((with_reducible refine' x_eqA (Vw.eq) (Vw.eq) ?c ?d ?_); (case c => walk_at "jshp"); (case d => walk_at "jshp"))
  | ((with_reducible refine' x_neA (Vw.eq) (Vw.eq) ?c ?d ?_); (case c => walk_at "jshp"); (case d => walk_at "jshp"))
  | ((with_reducible refine' x_QIn (Vw.eq) ?e2 ?f ?g ?_); (case e2 => exact rfl); (case f => exact rfl); (case g => first | with_reducible assumption | exact rfl))
  | ((with_reducible refine' x_QInN (Vw.eq) ?e2 ?f ?g ?_); (case e2 => exact rfl); (case f => exact rfl); (case g => first | with_reducible assumption | exact rfl))
  | ((with_reducible refine' x_lenS' (Vw.eq) ?l ?_); (case l => walk_at "jsd"))
  | ((with_reducible refine' x_slS' ?l ?_); (case l => walk_at "jsd"))
  | with_reducible refine' J_raise (by with_reducible assumption) (by with_reducible assumption) ?_
  | with_reducible refine' x_X1 ?_
  | ((with_reducible refine' And.intro (a := RgOk _ _) ?c ?_); (case c => exact RgOk.of_le (by omega) (by omega) (by omega) (by omega))))
local macro_rules | `(tactic| walk_at "jite") => `(tactic| first
  | ((with_reducible refine' x_bT ?e ?_); (case e => first | exact rfl | decide | decide +kernel))
  | ((with_reducible refine' x_bF ?e ?_); (case e => first | exact rfl | decide | decide +kernel)))
local macro_rules | `(tactic| walk_at "jst") => `(tactic| walk_at "jst0")
local macro_rules | `(tactic| walk_at "jgo") => `(tactic| repeat first | walk_at "jst0" | walk_at "jite")
local macro_rules | `(tactic| walk_at "jgs") => `(tactic| repeat' first | walk_at "jst0" | walk_at "jite" | walk_at "ifs")
local macro_rules | `(tactic| walk_at "jk") => `(tactic| first | exact trivial | exact ⟨rfl, by walk_at "jk"⟩)
local macro_rules | `(tactic| walk_at "jwp") => `(tactic| exact ⟨rfl, by walk_at "jno1"⟩)
local macro_rules | `(tactic| walk_at "jif") => `(tactic| repeat ((fail_if_success (with_reducible show JS _ _ (tSeq (tIfS _ _ _) _) _ _)); first | walk_at "jst0" | walk_at "jite"))
local macro_rules | `(tactic| walk_at "jie") => `(tactic| repeat ((fail_if_success (with_reducible show J _ _ (tIf _ _ _) _ _)); first | walk_at "jst0" | walk_at "jite"))
local macro_rules | `(tactic| walk_at "nq") => `(tactic| decide +kernel)
local macro_rules | `(tactic| walk_at "nr") => `(tactic| decide +kernel)

section
variable {P : Program} {w : World} {K : PySem.W.Frag} {mg : Str → Option Value} {base : Heap}
def psp_made_log : PSp := fun ws Φ _ => ∃ P ds, ws = [.d (logD P ds)] ∧ Wf P ds ∧ Φ (.d (logD P ds))
theorem c_mlog {P : Nat} {ds : List Deed} {Φ : W → Prop} {Ξ : Addr → PyData → Prop} (w : Wf P ds) (q : Φ (.d (logD P ds))) : psp_made_log [.d (logD P ds)] Φ Ξ := ⟨P, ds, rfl, w, q⟩
theorem sc_made_log : FnScope ["thing", "many", "deeds", "number", "deed", "page", "reads"] ["thing"] (defScope s_made_log) := ⟨rfl, rfl, rfl, by decide +kernel, rfl, by decide +kernel, by decide +kernel⟩
theorem ok_made_log (T : G K mg) : FnOk P w K mg base (L2.CX P w) 4 T.f_made_log T.d_made_log ["thing"] (SP K psp_made_log) := by
  refine T.F_made_log.okX sc_made_log (fun vs H Q E h => ?_) (fun cdv A outer s H vs Q E hr h => ?_)
  · exact SP.len h fun ws Φ Ξ hp => by obtain ⟨P, ds, rfl, wf, q⟩ := hp; rfl
  · have hu := hu_of hr
    have nd := sc_made_log.nd
    refine ⟨_, (pss_cons (ps_if (PW.pt (pw_or (pt_not (pt_val (pe_callB (r := rIsi K) call_isi (by rfl) T.n_isinstance (by decide +kernel) (pa_cons (pv 0) (pa_cons (pe_bltn (v := .ty "tuple") (by rfl) T.n_tuple (by decide +kernel) rfl) pa_nil))))) (pw_or1 (pt_cmpR (r := rNeA K) (op_neA hr.units) (pe_callB (r := rLenA K) call_lenA (by rfl) T.n_len PySem.boot_len (pa_cons (pv 0) pa_nil)) pe_int (nomark _))))) (pss_one (ps_raise rfl (takes_of rfl rfl rfl rfl) (pmk_oex T.x_BadLog.oex T.x_BadLog.init T.t_init (ok_Refused___init__ T) (hr.mono (by decide)) T.b_Refused___init__ .nil pass0 rfl T.x_BadLog.g (pa_cons (pe_un un_neg pe_int) pa_nil)))) pss_nil)
        (pss_cons (ps_asg (pv 0) (pg_tupK (K := K) (n := 2) rfl rfl (pgs_cons (pg_name (i := 1) nd rfl (Or.inl rfl)) (pgs_cons (pg_name (i := 2) nd rfl (Or.inl rfl)) pgs_nil))))
        (pss_cons (ps_if (PW.pt (pw_or (pt_not (pt_val (pe_call (ok_is_number T) (hr.mono (by decide)) rfl T.g_is_number T.F_is_number.kp T.b_is_number .nil pass0 (pa_cons (pv 1) pa_nil)))) (pw_or (pt_cmpR (r := rLtA K) op_ltA (pv 1) pe_int (nomark _)) (pw_or1 (pt_not (pt_val (pe_callB (r := rIsi K) call_isi (by rfl) T.n_isinstance (by decide +kernel) (pa_cons (pv 2) (pa_cons (pe_bltn (v := .ty "tuple") (by rfl) T.n_tuple (by decide +kernel) rfl) pa_nil))))))))) (pss_one (ps_raise rfl (takes_of rfl rfl rfl rfl) (pmk_oex T.x_BadLog.oex T.x_BadLog.init T.t_init (ok_Refused___init__ T) (hr.mono (by decide)) T.b_Refused___init__ .nil pass0 rfl T.x_BadLog.g (pa_cons (pe_un un_neg pe_int) pa_nil)))) pss_nil)
        (pss_cons (ps_if (pt_cmpR (r := rGtA K) op_gtA (pv 1) (pe_glob rfl T.g_PAGES.2 T.g_PAGES.1) (nomark _)) (pss_one (ps_raise rfl (takes_of rfl rfl rfl rfl) (pmk_oex T.x_TooMany.oex T.x_TooMany.init T.t_init (ok_Refused___init__ T) (hr.mono (by decide)) T.b_Refused___init__ .nil pass0 rfl T.x_TooMany.g (pa_cons (pv 1) pa_nil)))) pss_nil)
        (pss_cons (ps_if (pt_cmpR (r := rGtA K) op_gtA (pe_callB (r := rLenA K) call_lenA (by rfl) T.n_len PySem.boot_len (pa_cons (pv 2) pa_nil)) (pe_glob rfl T.g_MOST_DEEDS.2 T.g_MOST_DEEDS.1) (nomark _)) (pss_one (ps_raise rfl (takes_of rfl rfl rfl rfl) (pmk_oex T.x_TooMany.oex T.x_TooMany.init T.t_init (ok_Refused___init__ T) (hr.mono (by decide)) T.b_Refused___init__ .nil pass0 rfl T.x_TooMany.g (pa_cons (pe_callB (r := rLenA K) call_lenA (by rfl) T.n_len PySem.boot_len (pa_cons (pv 2) pa_nil)) pa_nil)))) pss_nil)
        (pss_cons (ps_for (passes_of rfl) rfl (pi_enumSK (K := K) rfl rfl T.n_enumerate (pa_cons (pv 2) pa_nil) pe_int (by decide)) (pg_tupK (K := K) (n := 2) rfl rfl (pgs_cons (pg_name (i := 3) nd rfl (Or.inl rfl)) (pgs_cons (pg_name (i := 4) nd rfl (Or.inl rfl)) pgs_nil))) (pss_one (ps_if (pt_not (pt_val (pe_call (ok__is_bare_deed T) (hr.mono (by decide)) rfl T.g__is_bare_deed T.F__is_bare_deed.kp T.b__is_bare_deed .nil pass0 (pa_cons (pv 4) (pa_cons (pv 1) pa_nil))))) (pss_one (ps_raise rfl (takes_of rfl rfl rfl rfl) (pmk_oex T.x_BadLog.oex T.x_BadLog.init T.t_init (ok_Refused___init__ T) (hr.mono (by decide)) T.b_Refused___init__ .nil pass0 rfl T.x_BadLog.g (pa_cons (pv 3) pa_nil)))) pss_nil)))
        (pss_one (ps_ret (pe_tup (pa_cons (pv 1) (pa_cons (pe_callTy (r := rTupleOf K) call_tupleOf (by rfl) T.n_tuple (by decide +kernel) (pa_cons (pe_lc (own := [("page", 5), ("reads", 6)]) (g := gAny K 2 (gCons (gName 5) (gCons (gName 6) (gNil)))) rfl nd (pi_anyK (K := K) rfl (pv 2)) (blkOk_by (own := [("page", 5), ("reads", 6)]) (N := ["thing", "many", "deeds", "number", "deed", "page", "reads"]) (sc := defScope s_made_log) (by decide +kernel)) (fun _ _ _ _ _ => (pg_tupK (K := K) (n := 2) rfl rfl (pgs_cons (pg_name (i := 5) nd rfl (Or.inl rfl)) (pgs_cons (pg_name (i := 6) nd rfl (Or.inl rfl)) pgs_nil)))) (fun _ _ _ _ _ => pts_nil) (fun _ _ _ _ _ => (pe_tup (pa_cons (pv 5) (pa_cons (pv 6) pa_nil))))) pa_nil)) pa_nil))))))))))), SP.run h fun ws Φ Ξ B hp hX => ?_⟩
    clear h
    obtain ⟨P, ds, rfl, wf, q⟩ := hp
    have hf0 := T.x_BadLog
    have hf1 := T.x_TooMany
    show JS K B _ [some (.d (logD P ds)), none, none, none, none, none, none] _
    have p1 := wf.p1
    have p2 := wf.p2
    have p3 := wf.n
    walk_at "jgo"
    refine c_is_number ?_
    walk_at "jgo"
    refine x_dec (fun z => absurd z (by omega)) (fun _ => ?_)
    walk_at "jgo"
    refine x_dec (fun z => absurd z (by omega)) (fun _ => ?_)
    walk_at "jgo"
    refine x_dec (fun z => absurd z (by rw [List.length_map]; omega)) (fun _ => ?_)
    walk_at "jgo"
    refine x_QFor (fun i ρ => ∃ v1 v2 : Option W, ρ = [some (.d (logD P ds)), some (.d (natD P)), some (.d (.tuple (ds.map deedD))), v1, v2, none, none]) ⟨none, none, rfl⟩ ?_ ?_
    · rintro i x ρ e ⟨v1, v2, rfl⟩
      obtain ⟨y, e1, rfl⟩ := enumD_get e
      obtain ⟨d, ed, rfl⟩ := map_get e1
      walk_at "jgo"
      refine c_bare (wf.d d (List.mem_of_getElem? ed)) ?_
      walk_at "jgo"
      exact ⟨_, _, rfl⟩
    · rintro ρ ⟨v1, v2, rfl⟩
      walk_at "jgo"
      refine x_LcMap (fun x => x) (by walk_at "jno") (by rw [List.length_map]; have := sizeLine_eq; omega) (fun x hx => ?_) ?_
      · obtain ⟨d, _, rfl⟩ := List.mem_map.mp hx
        walk_at "jgo"
        refine ⟨rfl, by walk_at "jno1", ?_⟩
        walk_at "jgo"
        exact ⟨rfl, rfl, by walk_at "jno1"⟩
      · rw [List.map_id']
        walk_at "jgo"
        exact ⟨q, by walk_at "jk"⟩
end
end WD

namespace WD
open PySem PySem.Spec PyProof.Rows L2
-- p ≠ q of two addresses
local macro_rules | `(tactic| walk_at "ne") => `(tactic| first
  | with_reducible assumption
  | with_reducible exact Ne.symm (by assumption)
  | exact ne_some (by with_reducible assumption) (by with_reducible assumption)
  | exact Ne.symm (ne_some (by with_reducible assumption) (by with_reducible assumption)))
local macro_rules | `(tactic| walk_at "nm") => `(tactic| first | with_reducible assumption | with_reducible exact nm0 | ((with_reducible refine' nmS ?a ?b); (case a => walk_at "ne"); (case b => walk_at "nm")))
-- H p = some ?o
local macro_rules | `(tactic| walk_at "hp") => `(tactic| first
  | with_reducible exact upd_same
  | with_reducible assumption
  | ((with_reducible refine' Eq.trans (upd_ne ?a) ?b); (case a => walk_at "ne"); (case b => walk_at "hp"))
  | exact Stay.keep (by with_reducible assumption) _ _ (by walk_at "hp") (by walk_at "nm"))
local macro_rules | `(tactic| walk_at "hpd") => `(tactic| ((refine' Eq.trans ?h ?e); (case h => walk_at "hp"); (case e => exact rfl)))
-- a new address
local macro_rules | `(tactic| walk_at "nw") => `(tactic| ((repeat first | (with_reducible refine' nw_upd ?_) | refine' nw_fr (by with_reducible assumption) ?_); intro p_; intros))
local macro_rules | `(tactic| walk_at "mem") => `(tactic| first | exact List.mem_cons_self | (refine' List.mem_cons_of_mem _ ?_; walk_at "mem"))
-- what stands stays
local macro_rules | `(tactic| walk_at "fr") => `(tactic| first
  | with_reducible assumption
  | exact Stay.refl _ _
  | ((with_reducible refine' Stay.upd ?a ?b); (case a => walk_at "fr"); (case b => walk_at "mem"))
  | ((with_reducible refine' Stay.new ?a ?b); (case b => with_reducible assumption); (case a => walk_at "fr"))
  | (refine' Stay.trans ?_ (by with_reducible assumption); walk_at "fr"))
local macro_rules | `(tactic| walk_at "sq") => `(tactic| first | with_reducible assumption | exact SqL.of (by walk_at "hp"))
local macro_rules | `(tactic| walk_at "sqt") => `(tactic| first | with_reducible assumption | exact SqT.of (by walk_at "hp"))
-- side goals
local macro_rules | `(tactic| walk_at "sd") => `(tactic| first
  | with_reducible assumption | with_reducible rfl | (show _ ≤ sizeLine; decide) | (refine Nat.le_trans (Nat.le_of_ble_eq_true (m := 1000) rfl) (by decide)) | decide | omega
  | exact IntMulOk.of_right (intBits_le_64 (by omega) (by omega)) | exact IntMulOk.of_left (intBits_le_64 (by omega) (by omega))
  | (refine' Or.inl ⟨?_, ?_⟩ <;> omega) | (refine' Or.inr ⟨?_, ?_⟩ <;> omega)
  | (refine' ⟨?_, ?_⟩ <;> walk_at "sd") | (refine' ⟨?_, ?_, ?_⟩ <;> walk_at "sd"))
local macro_rules | `(tactic| walk_at "set") => `(tactic| first | with_reducible exact set0 | with_reducible exact set1 | with_reducible exact set2 | with_reducible exact set3 | with_reducible exact set4 | with_reducible exact set5 | with_reducible exact set6 | with_reducible exact set7 | with_reducible exact set8 | with_reducible exact set9 | with_reducible exact set10 | with_reducible exact set11 | with_reducible exact set12 | with_reducible exact set13 | with_reducible exact set14 | with_reducible exact set15 | with_reducible exact set16 | with_reducible exact set17 | with_reducible exact set18 | with_reducible exact set19 | with_reducible exact set20)
-- one step
local macro_rules | `(tactic| walk_at "st0") => `(tactic| first
  | with_reducible refine' x_seq ?_
  | with_reducible refine' x_next ?_
  | with_reducible refine' x_ifS ?_
  | with_reducible refine' x_asg ?_
  | with_reducible refine' x_ret ?_
  | with_reducible refine' x_retN ?_
  | with_reducible refine' x_drop ?_
  | with_reducible refine' x_brk ?_
  | with_reducible refine' x_cont ?_
  | ((with_reducible refine' x_gName ?e ?_); (case e => walk_at "set"))
  | with_reducible refine' x_gSub ?_
  | with_reducible refine' x_gCons ?_
  | with_reducible refine' x_gNil ?_
  | with_reducible refine' x_c ?_
  | ((with_reducible refine' x_var ?e ?_); (case e => exact rfl))
  | with_reducible refine' x_op ?_
  | with_reducible refine' x_un ?_
  | with_reducible refine' x_if ?_
  | with_reducible refine' x_cb ?_
  | with_reducible refine' x_cons ?_
  | with_reducible refine' x_nil ?_
  | with_reducible refine' x_bm0 ?_
  | with_reducible refine' x_bm ?_
  | with_reducible refine' x_tup ?_
  | with_reducible refine' x_lst ?_
  | ((with_reducible refine' And.intro (a := _ ≤ sizeLine) ?e ?_); (case e => walk_at "sd"); walk_at "nw")
  | with_reducible refine' x_fld ?_
  | with_reducible refine' x_test ?_
  | with_reducible refine' x_tB ?_
  | with_reducible refine' x_and ?_
  | with_reducible refine' x_or ?_
  | with_reducible refine' x_not ?_
  | with_reducible refine' x_notV ?_
  | with_reducible refine' x_andV ?_
  | with_reducible refine' x_orV ?_
  | with_reducible refine' x_rI0 ?_
  | ((with_reducible refine' x_rI ?e ?_); (case e => walk_at "sd"))
  | with_reducible refine' x_rU ?_
  | ((with_reducible refine' x_rEq ?e ?_); (case e => exact rfl))
  | ((with_reducible refine' x_rNe ?e ?_); (case e => exact rfl))
  | ((with_reducible refine' x_ixL0 ?h ?_); (case h => walk_at "sq"))
  | ((with_reducible refine' x_ixL1 ?h ?_); (case h => walk_at "sq"))
  | ((with_reducible refine' x_ixL2 ?h ?_); (case h => walk_at "sq"))
  | ((with_reducible refine' x_ixL0I ?h ?_); (case h => walk_at "sq"))
  | ((with_reducible refine' x_ixL ?h ?e ?_); (case h => walk_at "sq"); (case e => exact rfl))
  | ((with_reducible refine' x_neNil ?h ?h2 ?_); (case h => walk_at "sq"); (case h2 => walk_at "sq"))
  | ((with_reducible refine' x_pop0I ?h ?_); (case h => walk_at "hp"))
  | ((with_reducible refine' x_pop0 ?h ?_); (case h => walk_at "hp"))
  | ((with_reducible refine' x_setL0 ?h ?_); (case h => walk_at "hp"))
  | ((with_reducible refine' x_setL1 ?h ?_); (case h => walk_at "hp"))
  | ((with_reducible refine' x_setL2 ?h ?_); (case h => walk_at "hp"))
  | ((with_reducible refine' x_setL ?h ?e ?_); (case h => walk_at "hp"); (case e => exact rfl))
  | with_reducible refine' .inl ⟨_, rfl, ?_⟩
  | ((with_reducible refine' x_tyL ?h ?_); (case h => walk_at "sq"))
  | with_reducible refine' ⟨_, rfl, ?_⟩)
-- a split
local macro_rules | `(tactic| walk_at "if") => `(tactic| (
  first
  | (with_reducible refine' x_dec (fun h_ => ?_) (fun h_ => ?_))
  | (with_reducible refine' x_decN (fun h_ => ?_) (fun h_ => ?_))
  | (with_reducible refine' x_boolN (fun h_ => ?_) (fun h_ => ?_))
  | (with_reducible refine' x_bool (fun h_ => ?_) (fun h_ => ?_))))
local macro_rules | `(tactic| walk_at "ifs") => `(tactic| (walk_at "if" <;> first
  | (exfalso; first | omega | contradiction)
  | (rename_i h_; (try simp only [BEq.rfl, List.length_map, List.length_cons, List.length_nil, Int.natCast_zero, Int.ofNat_zero, gt_iff_lt, Int.lt_irrefl, Bool.true_eq_false, Bool.false_eq_true, List.isEmpty_nil, List.isEmpty_cons, V.int.injEq, V.str.injEq, V.bl.injEq, reduceCtorEq, not_false_eq_true, not_true_eq_false] at h_); (try (exfalso; omega)))))
local macro_rules | `(tactic| walk_at "ite1") => `(tactic| first
  | with_reducible refine' x_T ?_
  | with_reducible refine' x_F ?_
  | with_reducible refine' x_nT ?_
  | with_reducible refine' x_nF ?_
  | ((with_reducible refine' x_bT ?e ?_); (case e => first | decide | decide +kernel))
  | ((with_reducible refine' x_bF ?e ?_); (case e => first | decide | decide +kernel)))
local macro_rules | `(tactic| walk_at "st") => `(tactic| ((fail_if_success (with_reducible (show (if _ then _ else _)))); walk_at "st0"))
local macro_rules | `(tactic| walk_at "go") => `(tactic| repeat first | walk_at "ite1" | walk_at "st")
local macro_rules | `(tactic| walk_at "gs") => `(tactic| repeat' first | walk_at "ite1" | walk_at "st" | walk_at "ifs")
local macro_rules | `(tactic| walk_at "jsd") => `(tactic| first
  | exact trivial | with_reducible assumption | with_reducible rfl | (show _ ≤ sizeLine; decide) | (refine Nat.le_trans (Nat.le_of_ble_eq_true (m := 1000) rfl) (by decide)) | decide | omega
  | (simp only [List.length_append, List.length_cons, List.length_nil, List.length_map, List.length_range, natsD_len, verL_len, tabXs_len, List.length_replicate, Int.toNat_natCast, rgD_len, List.length_take, List.length_drop, zipD_len, enumD_len]; omega)
  | exact IntMulOk.of_right (intBits_le_64 (by omega) (by omega)) | exact IntMulOk.of_left (intBits_le_64 (by omega) (by omega))
  | (refine' Or.inl ⟨?_, ?_⟩ <;> omega) | (refine' Or.inr ⟨?_, ?_⟩ <;> omega)
  | (refine' ⟨?_, ?_⟩ <;> walk_at "jsd") | (refine' ⟨?_, ?_, ?_⟩ <;> walk_at "jsd") | (refine' ⟨?_, ?_, ?_, ?_⟩ <;> walk_at "jsd"))
local macro_rules | `(tactic| walk_at "jshp") => `(tactic| first | with_reducible assumption | (show SeqAt.shaped _ = true; first | assumption | decide))
local macro_rules | `(tactic| walk_at "jix") => `(tactic| first | with_reducible assumption | exact rfl)
local macro_rules | `(tactic| walk_at "jdrw") => `(tactic| exact ⟨by omega, Nat.lt_of_le_of_lt (Nat.log2_le_self _) (by omega)⟩)
local macro_rules | `(tactic| walk_at "jno") => `(tactic| first | exact ⟨trivial, by walk_at "jno"⟩ | exact ⟨rfl, by walk_at "jno"⟩ | exact trivial)
local macro_rules | `(tactic| walk_at "jno1") => `(tactic| (intro v_ m_; simp only [List.mem_cons, List.not_mem_nil, or_false] at m_; first | (subst m_; exact trivial) | (subst m_; exact rfl) | (rcases m_ with m_ | m_ <;> subst m_ <;> first | exact trivial | exact rfl) | (rcases m_ with m_ | m_ | m_ <;> subst m_ <;> first | exact trivial | exact rfl)))
local macro_rules | `(tactic| walk_at "jst0") => `(tactic| first
  | refine' Stp.imp ?_
  | ((with_reducible refine' x_PI2 ?e ?_); (case e => walk_at "jsd"))
  | ((with_reducible refine' x_ixAT (Vw.eq) ?e2 ?_); (case e2 => walk_at "jix"))
  | ((with_reducible refine' x_ixAL (Vw.eq) ?e2 ?_); (case e2 => walk_at "jix"))
  | ((with_reducible refine' x_RApp ?l ?_); (case l => walk_at "jsd"))
  | with_reducible refine' J_callN ?_
  | ((with_reducible refine' J_pool ?w ?e ?_); (case w => with_reducible assumption); (case e => with_reducible assumption))
  | ((with_reducible refine' J_callS ?w ?_); (case w => with_reducible assumption))
  | ((with_reducible refine' J_xw ?w ?_); (case w => with_reducible assumption))
  | ((with_reducible refine' J_isX ?w ?_); (case w => with_reducible assumption))
  | with_reducible refine' x_xwJ ?_
  | ((with_reducible refine' x_isX1 ?w ?_); (case w => with_reducible assumption))
  | ((with_reducible refine' x_isX2 ?w ?_); (case w => with_reducible assumption))
  | ((with_reducible refine' J_call ?w ?_); (case w => with_reducible assumption))
  | ((with_reducible refine' x_QDraw (SlotAt.eq) ?c ?_); (case c => walk_at "jdrw"))
  | ((with_reducible refine' x_QR1 ?c ?_); (case c => walk_at "jsd"))
  | ((with_reducible refine' x_QR2 ?c ?_); (case c => walk_at "jsd"))
  | ((with_reducible refine' x_addL (Vw.eq) (Vw.eq) ?c ?_); (case c => walk_at "jsd"))
  | ((with_reducible refine' x_addT (Vw.eq) (Vw.eq) ?c ?_); (case c => walk_at "jsd"))
  | ((with_reducible refine' x_addS' ?c ?_); (case c => walk_at "jsd"))
  | ((with_reducible refine' x_mulI ?c ?_); (case c => walk_at "jsd"))
  | ((with_reducible refine' x_mulL1 (Vw.eq) ?c ?_); (case c => walk_at "jsd"))
  | ((with_reducible refine' x_mulS ?c ?_); (case c => walk_at "jsd"))
  | ((with_reducible refine' x_isNj (Vw.eq) ?_))
  | ((with_reducible refine' x_notNj (Vw.eq) ?_))
  | ((with_reducible refine' x_eqA (Vw.eq) (Vw.eq) ?c ?d ?_); (case c => walk_at "jshp"); (case d => walk_at "jshp"))
  | ((with_reducible refine' x_neA (Vw.eq) (Vw.eq) ?c ?d ?_); (case c => walk_at "jshp"); (case d => walk_at "jshp"))
  | ((with_reducible refine' x_QIn (Vw.eq) ?e2 ?f ?g ?_); (case e2 => exact rfl); (case f => exact rfl); (case g => first | with_reducible assumption | exact rfl))
  | ((with_reducible refine' x_QInN (Vw.eq) ?e2 ?f ?g ?_); (case e2 => exact rfl); (case f => exact rfl); (case g => first | with_reducible assumption | exact rfl))
  | ((with_reducible refine' x_lenS' (Vw.eq) ?l ?_); (case l => walk_at "jsd"))
  | ((with_reducible refine' x_slS' ?l ?_); (case l => walk_at "jsd"))
  | with_reducible refine' J_raise (by with_reducible assumption) (by with_reducible assumption) ?_
  | with_reducible refine' x_X1 ?_
  | ((with_reducible refine' And.intro (a := RgOk _ _) ?c ?_); (case c => exact RgOk.of_le (by omega) (by omega) (by omega) (by omega))))
local macro_rules | `(tactic| walk_at "jite") => `(tactic| first
  | ((with_reducible refine' x_bT ?e ?_); (case e => first | exact rfl | decide | decide +kernel))
  | ((with_reducible refine' x_bF ?e ?_); (case e => first | exact rfl | decide | decide +kernel)))
local macro_rules | `(tactic| walk_at "jst") => `(tactic| walk_at "jst0")
local macro_rules | `(tactic| walk_at "jgo") => `(tactic| repeat first | walk_at "jst0" | walk_at "jite")
local macro_rules | `(tactic| walk_at "jgs") => `(tactic| repeat' first | walk_at "jst0" | walk_at "jite" | walk_at "ifs")
local macro_rules | `(tactic| walk_at "jk") => `(tactic| first | exact trivial | exact ⟨rfl, by walk_at "jk"⟩)
local macro_rules | `(tactic| walk_at "jwp") => `(tactic| exact ⟨rfl, by walk_at "jno1"⟩)
local macro_rules | `(tactic| walk_at "jif") => `(tactic| repeat ((fail_if_success (with_reducible show JS _ _ (tSeq (tIfS _ _ _) _) _ _)); first | walk_at "jst0" | walk_at "jite"))
local macro_rules | `(tactic| walk_at "jie") => `(tactic| repeat ((fail_if_success (with_reducible show J _ _ (tIf _ _ _) _ _)); first | walk_at "jst0" | walk_at "jite"))
local macro_rules | `(tactic| walk_at "nq") => `(tactic| decide +kernel)
local macro_rules | `(tactic| walk_at "nr") => `(tactic| decide +kernel)

section
variable {P : Program} {w : World} {K : PySem.W.Frag} {mg : Str → Option Value} {base : Heap}
def psp_versions_at : PSp := fun ws Φ _ => ∃ P ds s, ws = [.d (logD P ds), .d (natD s)] ∧ Wf P ds ∧ Φ (.d (.tuple (natsD (verL P (ds.take s)))))
theorem c_vers {P s : Nat} {ds : List Deed} {Φ : W → Prop} {Ξ : Addr → PyData → Prop} (w : Wf P ds) (q : Φ (.d (.tuple (natsD (verL P (ds.take s)))))) : psp_versions_at [.d (logD P ds), .d (natD s)] Φ Ξ := ⟨P, ds, s, rfl, w, q⟩
theorem sc_versions_at : FnScope ["log", "moment", "many", "deeds", "versions", "page", "_"] ["log", "moment"] (defScope s_versions_at) := ⟨rfl, rfl, rfl, by decide +kernel, rfl, by decide +kernel, by decide +kernel⟩
theorem ok_versions_at (T : G K mg) : FnOk P w K mg base CX0 1 T.f_versions_at T.d_versions_at ["log", "moment"] (SP K psp_versions_at) := by
  refine T.F_versions_at.ok sc_versions_at (fun vs H Q E h => ?_) (fun cdv A outer s H vs Q E hr h => ?_)
  · exact SP.len h fun ws Φ Ξ hp => by obtain ⟨P, ds, s, rfl, wf, q⟩ := hp; rfl
  · have hu := hu_of hr
    have nd := sc_versions_at.nd
    refine ⟨_, (pss_cons (ps_asg (pv 0) (pg_tupK (K := K) (n := 2) rfl rfl (pgs_cons (pg_name (i := 2) nd rfl (Or.inl rfl)) (pgs_cons (pg_name (i := 3) nd rfl (Or.inl rfl)) pgs_nil))))
        (pss_cons (ps_set (i := 4) nd rfl (Or.inl rfl) (pe_op (r := rMulA) op_mulA (pe_lst (pa_cons pe_int pa_nil)) (pv 2)))
        (pss_cons (ps_for PassesOwn.never rfl (pi_anyK (K := K) rfl (pe_slice (r := rSlU K) sl_any (pv 3) po_none (po_some (pv 1)))) (pg_tupK (K := K) (n := 2) rfl rfl (pgs_cons (pg_name (i := 5) nd rfl (Or.inl rfl)) (pgs_cons (pg_name (i := 6) nd rfl (Or.inl rfl)) pgs_nil))) (pss_one (ps_augS (pv 4) (pv 5) (getLK (K := K) rfl) pe_int ip_add set_list)))
        (pss_one (ps_ret (pe_callTy (r := rTupleOf K) call_tupleOf (by rfl) T.n_tuple (by decide +kernel) (pa_cons (pv 4) pa_nil))))))), SP.run h fun ws Φ Ξ B hp hX => ?_⟩
    clear h
    obtain ⟨P, ds, s, rfl, wf, q⟩ := hp
    show JS K B _ [some (.d (logD P ds)), some (.d (natD s)), none, none, none, none, none] _
    have p1 := wf.p1
    have p2 := wf.p2
    walk_at "jgo"
    rw [cutD_take, ← List.map_take, Int.toNat_natCast, show List.replicate P (PyData.int 0) = natsD (verL P []) from by rw [verL_nil]; exact natsD_rep P 0]
    refine x_QFor (fun i ρ => ∃ v1 v2 : Option W, ρ = [some (.d (logD P ds)), some (.d (natD s)), some (.d (natD P)), some (.d (.tuple (ds.map deedD))), some (.l (natsD (verL P ((ds.take s).take i)))), v1, v2]) ⟨none, none, rfl⟩ ?_ ?_
    · rintro i x ρ e ⟨v1, v2, rfl⟩
      obtain ⟨d, ed, rfl⟩ := map_get e
      have hw := wf.d d (List.mem_of_mem_take (List.mem_of_getElem? ed))
      walk_at "jgo"
      refine x_augN (natsD_at (ver_at hw.pg)) ?_
      walk_at "jgo"
      refine x_augE rfl ?_
      refine ⟨some (.d (natD d.1)), some (.d (.tuple (natsD d.2))), ?_⟩
      rw [verL_step ed hw.pg, ← natsD_set]
      rfl
    · rintro ρ ⟨v1, v2, rfl⟩
      rw [List.length_map, List.take_length]
      walk_at "jgo"
      exact ⟨q, by walk_at "jk"⟩
end
end WD

namespace WD
open PySem PySem.Spec PyProof.Rows L2
-- p ≠ q of two addresses
local macro_rules | `(tactic| walk_at "ne") => `(tactic| first
  | with_reducible assumption
  | with_reducible exact Ne.symm (by assumption)
  | exact ne_some (by with_reducible assumption) (by with_reducible assumption)
  | exact Ne.symm (ne_some (by with_reducible assumption) (by with_reducible assumption)))
local macro_rules | `(tactic| walk_at "nm") => `(tactic| first | with_reducible assumption | with_reducible exact nm0 | ((with_reducible refine' nmS ?a ?b); (case a => walk_at "ne"); (case b => walk_at "nm")))
-- H p = some ?o
local macro_rules | `(tactic| walk_at "hp") => `(tactic| first
  | with_reducible exact upd_same
  | with_reducible assumption
  | ((with_reducible refine' Eq.trans (upd_ne ?a) ?b); (case a => walk_at "ne"); (case b => walk_at "hp"))
  | exact Stay.keep (by with_reducible assumption) _ _ (by walk_at "hp") (by walk_at "nm"))
local macro_rules | `(tactic| walk_at "hpd") => `(tactic| ((refine' Eq.trans ?h ?e); (case h => walk_at "hp"); (case e => exact rfl)))
-- a new address
local macro_rules | `(tactic| walk_at "nw") => `(tactic| ((repeat first | (with_reducible refine' nw_upd ?_) | refine' nw_fr (by with_reducible assumption) ?_); intro p_; intros))
local macro_rules | `(tactic| walk_at "mem") => `(tactic| first | exact List.mem_cons_self | (refine' List.mem_cons_of_mem _ ?_; walk_at "mem"))
-- what stands stays
local macro_rules | `(tactic| walk_at "fr") => `(tactic| first
  | with_reducible assumption
  | exact Stay.refl _ _
  | ((with_reducible refine' Stay.upd ?a ?b); (case a => walk_at "fr"); (case b => walk_at "mem"))
  | ((with_reducible refine' Stay.new ?a ?b); (case b => with_reducible assumption); (case a => walk_at "fr"))
  | (refine' Stay.trans ?_ (by with_reducible assumption); walk_at "fr"))
local macro_rules | `(tactic| walk_at "sq") => `(tactic| first | with_reducible assumption | exact SqL.of (by walk_at "hp"))
local macro_rules | `(tactic| walk_at "sqt") => `(tactic| first | with_reducible assumption | exact SqT.of (by walk_at "hp"))
-- side goals
local macro_rules | `(tactic| walk_at "sd") => `(tactic| first
  | with_reducible assumption | with_reducible rfl | (show _ ≤ sizeLine; decide) | (refine Nat.le_trans (Nat.le_of_ble_eq_true (m := 1000) rfl) (by decide)) | decide | omega
  | exact IntMulOk.of_right (intBits_le_64 (by omega) (by omega)) | exact IntMulOk.of_left (intBits_le_64 (by omega) (by omega))
  | (refine' Or.inl ⟨?_, ?_⟩ <;> omega) | (refine' Or.inr ⟨?_, ?_⟩ <;> omega)
  | (refine' ⟨?_, ?_⟩ <;> walk_at "sd") | (refine' ⟨?_, ?_, ?_⟩ <;> walk_at "sd"))
local macro_rules | `(tactic| walk_at "set") => `(tactic| first | with_reducible exact set0 | with_reducible exact set1 | with_reducible exact set2 | with_reducible exact set3 | with_reducible exact set4 | with_reducible exact set5 | with_reducible exact set6 | with_reducible exact set7 | with_reducible exact set8 | with_reducible exact set9 | with_reducible exact set10 | with_reducible exact set11 | with_reducible exact set12 | with_reducible exact set13 | with_reducible exact set14 | with_reducible exact set15 | with_reducible exact set16 | with_reducible exact set17 | with_reducible exact set18 | with_reducible exact set19 | with_reducible exact set20)
-- one step
local macro_rules | `(tactic| walk_at "st0") => `(tactic| first
  | with_reducible refine' x_seq ?_
  | with_reducible refine' x_next ?_
  | with_reducible refine' x_ifS ?_
  | with_reducible refine' x_asg ?_
  | with_reducible refine' x_ret ?_
  | with_reducible refine' x_retN ?_
  | with_reducible refine' x_drop ?_
  | with_reducible refine' x_brk ?_
  | with_reducible refine' x_cont ?_
  | ((with_reducible refine' x_gName ?e ?_); (case e => walk_at "set"))
  | with_reducible refine' x_gSub ?_
  | with_reducible refine' x_gCons ?_
  | with_reducible refine' x_gNil ?_
  | with_reducible refine' x_c ?_
  | ((with_reducible refine' x_var ?e ?_); (case e => exact rfl))
  | with_reducible refine' x_op ?_
  | with_reducible refine' x_un ?_
  | with_reducible refine' x_if ?_
  | with_reducible refine' x_cb ?_
  | with_reducible refine' x_cons ?_
  | with_reducible refine' x_nil ?_
  | with_reducible refine' x_bm0 ?_
  | with_reducible refine' x_bm ?_
  | with_reducible refine' x_tup ?_
  | with_reducible refine' x_lst ?_
  | ((with_reducible refine' And.intro (a := _ ≤ sizeLine) ?e ?_); (case e => walk_at "sd"); walk_at "nw")
  | with_reducible refine' x_fld ?_
  | with_reducible refine' x_test ?_
  | with_reducible refine' x_tB ?_
  | with_reducible refine' x_and ?_
  | with_reducible refine' x_or ?_
  | with_reducible refine' x_not ?_
  | with_reducible refine' x_notV ?_
  | with_reducible refine' x_andV ?_
  | with_reducible refine' x_orV ?_
  | with_reducible refine' x_rI0 ?_
  | ((with_reducible refine' x_rI ?e ?_); (case e => walk_at "sd"))
  | with_reducible refine' x_rU ?_
  | ((with_reducible refine' x_rEq ?e ?_); (case e => exact rfl))
  | ((with_reducible refine' x_rNe ?e ?_); (case e => exact rfl))
  | ((with_reducible refine' x_ixL0 ?h ?_); (case h => walk_at "sq"))
  | ((with_reducible refine' x_ixL1 ?h ?_); (case h => walk_at "sq"))
  | ((with_reducible refine' x_ixL2 ?h ?_); (case h => walk_at "sq"))
  | ((with_reducible refine' x_ixL0I ?h ?_); (case h => walk_at "sq"))
  | ((with_reducible refine' x_ixL ?h ?e ?_); (case h => walk_at "sq"); (case e => exact rfl))
  | ((with_reducible refine' x_neNil ?h ?h2 ?_); (case h => walk_at "sq"); (case h2 => walk_at "sq"))
  | ((with_reducible refine' x_pop0I ?h ?_); (case h => walk_at "hp"))
  | ((with_reducible refine' x_pop0 ?h ?_); (case h => walk_at "hp"))
  | ((with_reducible refine' x_setL0 ?h ?_); (case h => walk_at "hp"))
  | ((with_reducible refine' x_setL1 ?h ?_); (case h => walk_at "hp"))
  | ((with_reducible refine' x_setL2 ?h ?_); (case h => walk_at "hp"))
  | ((with_reducible refine' x_setL ?h ?e ?_); (case h => walk_at "hp"); (case e => exact rfl))
  | with_reducible refine' .inl ⟨_, rfl, ?_⟩
  | ((with_reducible refine' x_tyL ?h ?_); (case h => walk_at "sq"))
  | with_reducible refine' ⟨_, rfl, ?_⟩)
-- a split
local macro_rules | `(tactic| walk_at "if") => `(tactic| (
  first
  | (with_reducible refine' x_dec (fun h_ => ?_) (fun h_ => ?_))
  | (with_reducible refine' x_decN (fun h_ => ?_) (fun h_ => ?_))
  | (with_reducible refine' x_boolN (fun h_ => ?_) (fun h_ => ?_))
  | (with_reducible refine' x_bool (fun h_ => ?_) (fun h_ => ?_))))
local macro_rules | `(tactic| walk_at "ifs") => `(tactic| (walk_at "if" <;> first
  | (exfalso; first | omega | contradiction)
  | (rename_i h_; (try simp only [BEq.rfl, List.length_map, List.length_cons, List.length_nil, Int.natCast_zero, Int.ofNat_zero, gt_iff_lt, Int.lt_irrefl, Bool.true_eq_false, Bool.false_eq_true, List.isEmpty_nil, List.isEmpty_cons, V.int.injEq, V.str.injEq, V.bl.injEq, reduceCtorEq, not_false_eq_true, not_true_eq_false] at h_); (try (exfalso; omega)))))
local macro_rules | `(tactic| walk_at "ite1") => `(tactic| first
  | with_reducible refine' x_T ?_
  | with_reducible refine' x_F ?_
  | with_reducible refine' x_nT ?_
  | with_reducible refine' x_nF ?_
  | ((with_reducible refine' x_bT ?e ?_); (case e => first | decide | decide +kernel))
  | ((with_reducible refine' x_bF ?e ?_); (case e => first | decide | decide +kernel)))
local macro_rules | `(tactic| walk_at "st") => `(tactic| ((fail_if_success (with_reducible (show (if _ then _ else _)))); walk_at "st0"))
local macro_rules | `(tactic| walk_at "go") => `(tactic| repeat first | walk_at "ite1" | walk_at "st")
local macro_rules | `(tactic| walk_at "gs") => `(tactic| repeat' first | walk_at "ite1" | walk_at "st" | walk_at "ifs")
local macro_rules | `(tactic| walk_at "jsd") => `(tactic| first
  | exact trivial | with_reducible assumption | with_reducible rfl | (show _ ≤ sizeLine; decide) | (refine Nat.le_trans (Nat.le_of_ble_eq_true (m := 1000) rfl) (by decide)) | decide | omega
  | (simp only [List.length_append, List.length_cons, List.length_nil, List.length_map, List.length_range, natsD_len, verL_len, tabXs_len, List.length_replicate, Int.toNat_natCast, rgD_len, List.length_take, List.length_drop, zipD_len, enumD_len]; omega)
  | exact IntMulOk.of_right (intBits_le_64 (by omega) (by omega)) | exact IntMulOk.of_left (intBits_le_64 (by omega) (by omega))
  | (refine' Or.inl ⟨?_, ?_⟩ <;> omega) | (refine' Or.inr ⟨?_, ?_⟩ <;> omega)
  | (refine' ⟨?_, ?_⟩ <;> walk_at "jsd") | (refine' ⟨?_, ?_, ?_⟩ <;> walk_at "jsd") | (refine' ⟨?_, ?_, ?_, ?_⟩ <;> walk_at "jsd"))
local macro_rules | `(tactic| walk_at "jshp") => `(tactic| first | with_reducible assumption | (show SeqAt.shaped _ = true; first | assumption | decide))
local macro_rules | `(tactic| walk_at "jix") => `(tactic| first | with_reducible assumption | exact rfl)
local macro_rules | `(tactic| walk_at "jdrw") => `(tactic| exact ⟨by omega, Nat.lt_of_le_of_lt (Nat.log2_le_self _) (by omega)⟩)
local macro_rules | `(tactic| walk_at "jno") => `(tactic| first | exact ⟨trivial, by walk_at "jno"⟩ | exact ⟨rfl, by walk_at "jno"⟩ | exact trivial)
local macro_rules | `(tactic| walk_at "jno1") => `(tactic| (intro v_ m_; simp only [List.mem_cons, List.not_mem_nil, or_false] at m_; first | (subst m_; exact trivial) | (subst m_; exact rfl) | (rcases m_ with m_ | m_ <;> subst m_ <;> first | exact trivial | exact rfl) | (rcases m_ with m_ | m_ | m_ <;> subst m_ <;> first | exact trivial | exact rfl)))
local macro_rules | `(tactic| walk_at "jst0") => `(tactic| first
  | refine' Stp.imp ?_
  | ((with_reducible refine' x_PI2 ?e ?_); (case e => walk_at "jsd"))
  | ((with_reducible refine' x_ixAT (Vw.eq) ?e2 ?_); (case e2 => walk_at "jix"))
  | ((with_reducible refine' x_ixAL (Vw.eq) ?e2 ?_); (case e2 => walk_at "jix"))
  | ((with_reducible refine' x_RApp ?l ?_); (case l => walk_at "jsd"))
  | with_reducible refine' J_callN ?_
  | ((with_reducible refine' J_pool ?w ?e ?_); (case w => with_reducible assumption); (case e => with_reducible assumption))
  | ((with_reducible refine' J_callS ?w ?_); (case w => with_reducible assumption))
  | ((with_reducible refine' J_xw ?w ?_); (case w => with_reducible assumption))
  | ((with_reducible refine' J_isX ?w ?_); (case w => with_reducible assumption))
  | with_reducible refine' x_xwJ ?_
  | ((with_reducible refine' x_isX1 ?w ?_); (case w => with_reducible assumption))
  | ((with_reducible refine' x_isX2 ?w ?_); (case w => with_reducible assumption))
  | ((with_reducible refine' J_call ?w ?_); (case w => with_reducible assumption))
  | ((with_reducible refine' x_QDraw (SlotAt.eq) ?c ?_); (case c => walk_at "jdrw"))
  | ((with_reducible refine' x_QR1 ?c ?_); (case c => walk_at "jsd"))
  | ((with_reducible refine' x_QR2 ?c ?_); (case c => walk_at "jsd"))
  | ((with_reducible refine' x_addL (Vw.eq) (Vw.eq) ?c ?_); (case c => walk_at "jsd"))
  | ((with_reducible refine' x_addT (Vw.eq) (Vw.eq) ?c ?_); (case c => walk_at "jsd"))
  | ((with_reducible refine' x_addS' ?c ?_); (case c => walk_at "jsd"))
  | ((with_reducible refine' x_mulI ?c ?_); (case c => walk_at "jsd"))
  | ((with_reducible refine' x_mulL1 (Vw.eq) ?c ?_); (case c => walk_at "jsd"))
  | ((with_reducible refine' x_mulS ?c ?_); (case c => walk_at "jsd"))
  | ((with_reducible refine' x_isNj (Vw.eq) ?_))
  | ((with_reducible refine' x_notNj (Vw.eq) ?_))
  | ((with_reducible refine' x_eqA (Vw.eq) (Vw.eq) ?c ?d ?_); (case c => walk_at "jshp"); (case d => walk_at "jshp"))
  | ((with_reducible refine' x_neA (Vw.eq) (Vw.eq) ?c ?d ?_); (case c => walk_at "jshp"); (case d => walk_at "jshp"))
  | ((with_reducible refine' x_QIn (Vw.eq) ?e2 ?f ?g ?_); (case e2 => exact rfl); (case f => exact rfl); (case g => first | with_reducible assumption | exact rfl))
  | ((with_reducible refine' x_QInN (Vw.eq) ?e2 ?f ?g ?_); (case e2 => exact rfl); (case f => exact rfl); (case g => first | with_reducible assumption | exact rfl))
  | ((with_reducible refine' x_lenS' (Vw.eq) ?l ?_); (case l => walk_at "jsd"))
  | ((with_reducible refine' x_slS' ?l ?_); (case l => walk_at "jsd"))
  | with_reducible refine' J_raise (by with_reducible assumption) (by with_reducible assumption) ?_
  | with_reducible refine' x_X1 ?_
  | ((with_reducible refine' And.intro (a := RgOk _ _) ?c ?_); (case c => exact RgOk.of_le (by omega) (by omega) (by omega) (by omega))))
local macro_rules | `(tactic| walk_at "jite") => `(tactic| first
  | ((with_reducible refine' x_bT ?e ?_); (case e => first | exact rfl | decide | decide +kernel))
  | ((with_reducible refine' x_bF ?e ?_); (case e => first | exact rfl | decide | decide +kernel)))
local macro_rules | `(tactic| walk_at "jst") => `(tactic| walk_at "jst0")
local macro_rules | `(tactic| walk_at "jgo") => `(tactic| repeat first | walk_at "jst0" | walk_at "jite")
local macro_rules | `(tactic| walk_at "jgs") => `(tactic| repeat' first | walk_at "jst0" | walk_at "jite" | walk_at "ifs")
local macro_rules | `(tactic| walk_at "jk") => `(tactic| first | exact trivial | exact ⟨rfl, by walk_at "jk"⟩)
local macro_rules | `(tactic| walk_at "jwp") => `(tactic| exact ⟨rfl, by walk_at "jno1"⟩)
local macro_rules | `(tactic| walk_at "jif") => `(tactic| repeat ((fail_if_success (with_reducible show JS _ _ (tSeq (tIfS _ _ _) _) _ _)); first | walk_at "jst0" | walk_at "jite"))
local macro_rules | `(tactic| walk_at "jie") => `(tactic| repeat ((fail_if_success (with_reducible show J _ _ (tIf _ _ _) _ _)); first | walk_at "jst0" | walk_at "jite"))
local macro_rules | `(tactic| walk_at "nq") => `(tactic| decide +kernel)
local macro_rules | `(tactic| walk_at "nr") => `(tactic| decide +kernel)

section
variable {P : Program} {w : World} {K : PySem.W.Frag} {mg : Str → Option Value} {base : Heap}
def near : Option (Nat × Nat) → Nat → Option Nat
  | none, _ => none
  | some ab, v => some (max ab.1 (min ab.2 v))
def psp__nearest : PSp := fun ws Φ _ => ∃ lot v, ws = [.d (lotD lot), .d (natD v)] ∧ Φ (.d (optD (near lot v)))
theorem c_near {lot : Option (Nat × Nat)} {v : Nat} {Φ : W → Prop} {Ξ : Addr → PyData → Prop} (q : Φ (.d (optD (near lot v)))) : psp__nearest [.d (lotD lot), .d (natD v)] Φ Ξ := ⟨lot, v, rfl, q⟩
theorem sc__nearest : FnScope ["lot", "version", "low", "high"] ["lot", "version"] (defScope s__nearest) := ⟨rfl, rfl, rfl, by decide +kernel, rfl, by decide +kernel, by decide +kernel⟩
theorem ok__nearest (T : G K mg) : FnOk P w K mg base CX0 1 T.f__nearest T.d__nearest ["lot", "version"] (SP K psp__nearest) := by
  refine T.F__nearest.ok sc__nearest (fun vs H Q E h => ?_) (fun cdv A outer s H vs Q E hr h => ?_)
  · exact SP.len h fun ws Φ Ξ hp => by obtain ⟨lot, v, rfl, q⟩ := hp; rfl
  · have hu := hu_of hr
    have nd := sc__nearest.nd
    refine ⟨_, (pss_cons (ps_if (pt_cmpR op_isN (pv 0) pe_non (nomark _)) (pss_one (ps_ret pe_non)) pss_nil)
        (pss_cons (ps_asg (pv 0) (pg_tupK (K := K) (n := 2) rfl rfl (pgs_cons (pg_name (i := 2) nd rfl (Or.inl rfl)) (pgs_cons (pg_name (i := 3) nd rfl (Or.inl rfl)) pgs_nil))))
        (pss_one (ps_ret (pe_callB (call_max2 rfl) (by rfl) T.n_max (by decide +kernel) (pa_cons (pv 2) (pa_cons (pe_callB (call_min2 rfl) (by rfl) T.n_min (by decide +kernel) (pa_cons (pv 3) (pa_cons (pv 1) pa_nil))) pa_nil))))))), SP.run h fun ws Φ Ξ B hp hX => ?_⟩
    clear h
    obtain ⟨lot, v, rfl, q⟩ := hp
    show JS K B _ [some (.d (lotD lot)), some (.d (natD v)), none, none] _
    cases lot with
    | none =>
      walk_at "jgo"
      exact ⟨q, by walk_at "jk"⟩
    | some ab =>
      obtain ⟨a, b⟩ := ab
      show JS K B _ [some (.d (.tuple [natD a, natD b])), some (.d (natD v)), none, none] _
      walk_at "jgo"
      refine ⟨?_, by walk_at "jk"⟩
      refine (show (PyData.int _) = optD (near (some (a, b)) v) from ?_) ▸ q
      show PyData.int _ = PyData.int ((max a (min b v) : Nat) : Int)
      congr 1
      split <;> split <;> omega
end
end WD

namespace WD
open PySem PySem.Spec PyProof.Rows L2
-- p ≠ q of two addresses
local macro_rules | `(tactic| walk_at "ne") => `(tactic| first
  | with_reducible assumption
  | with_reducible exact Ne.symm (by assumption)
  | exact ne_some (by with_reducible assumption) (by with_reducible assumption)
  | exact Ne.symm (ne_some (by with_reducible assumption) (by with_reducible assumption)))
local macro_rules | `(tactic| walk_at "nm") => `(tactic| first | with_reducible assumption | with_reducible exact nm0 | ((with_reducible refine' nmS ?a ?b); (case a => walk_at "ne"); (case b => walk_at "nm")))
-- H p = some ?o
local macro_rules | `(tactic| walk_at "hp") => `(tactic| first
  | with_reducible exact upd_same
  | with_reducible assumption
  | ((with_reducible refine' Eq.trans (upd_ne ?a) ?b); (case a => walk_at "ne"); (case b => walk_at "hp"))
  | exact Stay.keep (by with_reducible assumption) _ _ (by walk_at "hp") (by walk_at "nm"))
local macro_rules | `(tactic| walk_at "hpd") => `(tactic| ((refine' Eq.trans ?h ?e); (case h => walk_at "hp"); (case e => exact rfl)))
-- a new address
local macro_rules | `(tactic| walk_at "nw") => `(tactic| ((repeat first | (with_reducible refine' nw_upd ?_) | refine' nw_fr (by with_reducible assumption) ?_); intro p_; intros))
local macro_rules | `(tactic| walk_at "mem") => `(tactic| first | exact List.mem_cons_self | (refine' List.mem_cons_of_mem _ ?_; walk_at "mem"))
-- what stands stays
local macro_rules | `(tactic| walk_at "fr") => `(tactic| first
  | with_reducible assumption
  | exact Stay.refl _ _
  | ((with_reducible refine' Stay.upd ?a ?b); (case a => walk_at "fr"); (case b => walk_at "mem"))
  | ((with_reducible refine' Stay.new ?a ?b); (case b => with_reducible assumption); (case a => walk_at "fr"))
  | (refine' Stay.trans ?_ (by with_reducible assumption); walk_at "fr"))
local macro_rules | `(tactic| walk_at "sq") => `(tactic| first | with_reducible assumption | exact SqL.of (by walk_at "hp"))
local macro_rules | `(tactic| walk_at "sqt") => `(tactic| first | with_reducible assumption | exact SqT.of (by walk_at "hp"))
-- side goals
local macro_rules | `(tactic| walk_at "sd") => `(tactic| first
  | with_reducible assumption | with_reducible rfl | (show _ ≤ sizeLine; decide) | (refine Nat.le_trans (Nat.le_of_ble_eq_true (m := 1000) rfl) (by decide)) | decide | omega
  | exact IntMulOk.of_right (intBits_le_64 (by omega) (by omega)) | exact IntMulOk.of_left (intBits_le_64 (by omega) (by omega))
  | (refine' Or.inl ⟨?_, ?_⟩ <;> omega) | (refine' Or.inr ⟨?_, ?_⟩ <;> omega)
  | (refine' ⟨?_, ?_⟩ <;> walk_at "sd") | (refine' ⟨?_, ?_, ?_⟩ <;> walk_at "sd"))
local macro_rules | `(tactic| walk_at "set") => `(tactic| first | with_reducible exact set0 | with_reducible exact set1 | with_reducible exact set2 | with_reducible exact set3 | with_reducible exact set4 | with_reducible exact set5 | with_reducible exact set6 | with_reducible exact set7 | with_reducible exact set8 | with_reducible exact set9 | with_reducible exact set10 | with_reducible exact set11 | with_reducible exact set12 | with_reducible exact set13 | with_reducible exact set14 | with_reducible exact set15 | with_reducible exact set16 | with_reducible exact set17 | with_reducible exact set18 | with_reducible exact set19 | with_reducible exact set20)
-- one step
local macro_rules | `(tactic| walk_at "st0") => `(tactic| first
  | with_reducible refine' x_seq ?_
  | with_reducible refine' x_next ?_
  | with_reducible refine' x_ifS ?_
  | with_reducible refine' x_asg ?_
  | with_reducible refine' x_ret ?_
  | with_reducible refine' x_retN ?_
  | with_reducible refine' x_drop ?_
  | with_reducible refine' x_brk ?_
  | with_reducible refine' x_cont ?_
  | ((with_reducible refine' x_gName ?e ?_); (case e => walk_at "set"))
  | with_reducible refine' x_gSub ?_
  | with_reducible refine' x_gCons ?_
  | with_reducible refine' x_gNil ?_
  | with_reducible refine' x_c ?_
  | ((with_reducible refine' x_var ?e ?_); (case e => exact rfl))
  | with_reducible refine' x_op ?_
  | with_reducible refine' x_un ?_
  | with_reducible refine' x_if ?_
  | with_reducible refine' x_cb ?_
  | with_reducible refine' x_cons ?_
  | with_reducible refine' x_nil ?_
  | with_reducible refine' x_bm0 ?_
  | with_reducible refine' x_bm ?_
  | with_reducible refine' x_tup ?_
  | with_reducible refine' x_lst ?_
  | ((with_reducible refine' And.intro (a := _ ≤ sizeLine) ?e ?_); (case e => walk_at "sd"); walk_at "nw")
  | with_reducible refine' x_fld ?_
  | with_reducible refine' x_test ?_
  | with_reducible refine' x_tB ?_
  | with_reducible refine' x_and ?_
  | with_reducible refine' x_or ?_
  | with_reducible refine' x_not ?_
  | with_reducible refine' x_notV ?_
  | with_reducible refine' x_andV ?_
  | with_reducible refine' x_orV ?_
  | with_reducible refine' x_rI0 ?_
  | ((with_reducible refine' x_rI ?e ?_); (case e => walk_at "sd"))
  | with_reducible refine' x_rU ?_
  | ((with_reducible refine' x_rEq ?e ?_); (case e => exact rfl))
  | ((with_reducible refine' x_rNe ?e ?_); (case e => exact rfl))
  | ((with_reducible refine' x_ixL0 ?h ?_); (case h => walk_at "sq"))
  | ((with_reducible refine' x_ixL1 ?h ?_); (case h => walk_at "sq"))
  | ((with_reducible refine' x_ixL2 ?h ?_); (case h => walk_at "sq"))
  | ((with_reducible refine' x_ixL0I ?h ?_); (case h => walk_at "sq"))
  | ((with_reducible refine' x_ixL ?h ?e ?_); (case h => walk_at "sq"); (case e => exact rfl))
  | ((with_reducible refine' x_neNil ?h ?h2 ?_); (case h => walk_at "sq"); (case h2 => walk_at "sq"))
  | ((with_reducible refine' x_pop0I ?h ?_); (case h => walk_at "hp"))
  | ((with_reducible refine' x_pop0 ?h ?_); (case h => walk_at "hp"))
  | ((with_reducible refine' x_setL0 ?h ?_); (case h => walk_at "hp"))
  | ((with_reducible refine' x_setL1 ?h ?_); (case h => walk_at "hp"))
  | ((with_reducible refine' x_setL2 ?h ?_); (case h => walk_at "hp"))
  | ((with_reducible refine' x_setL ?h ?e ?_); (case h => walk_at "hp"); (case e => exact rfl))
  | with_reducible refine' .inl ⟨_, rfl, ?_⟩
  | ((with_reducible refine' x_tyL ?h ?_); (case h => walk_at "sq"))
  | with_reducible refine' ⟨_, rfl, ?_⟩)
-- a split
local macro_rules | `(tactic| walk_at "if") => `(tactic| (
  first
  | (with_reducible refine' x_dec (fun h_ => ?_) (fun h_ => ?_))
  | (with_reducible refine' x_decN (fun h_ => ?_) (fun h_ => ?_))
  | (with_reducible refine' x_boolN (fun h_ => ?_) (fun h_ => ?_))
  | (with_reducible refine' x_bool (fun h_ => ?_) (fun h_ => ?_))))
local macro_rules | `(tactic| walk_at "ifs") => `(tactic| (walk_at "if" <;> first
  | (exfalso; first | omega | contradiction)
  | (rename_i h_; (try simp only [BEq.rfl, List.length_map, List.length_cons, List.length_nil, Int.natCast_zero, Int.ofNat_zero, gt_iff_lt, Int.lt_irrefl, Bool.true_eq_false, Bool.false_eq_true, List.isEmpty_nil, List.isEmpty_cons, V.int.injEq, V.str.injEq, V.bl.injEq, reduceCtorEq, not_false_eq_true, not_true_eq_false] at h_); (try (exfalso; omega)))))
local macro_rules | `(tactic| walk_at "ite1") => `(tactic| first
  | with_reducible refine' x_T ?_
  | with_reducible refine' x_F ?_
  | with_reducible refine' x_nT ?_
  | with_reducible refine' x_nF ?_
  | ((with_reducible refine' x_bT ?e ?_); (case e => first | decide | decide +kernel))
  | ((with_reducible refine' x_bF ?e ?_); (case e => first | decide | decide +kernel)))
local macro_rules | `(tactic| walk_at "st") => `(tactic| ((fail_if_success (with_reducible (show (if _ then _ else _)))); walk_at "st0"))
local macro_rules | `(tactic| walk_at "go") => `(tactic| repeat first | walk_at "ite1" | walk_at "st")
local macro_rules | `(tactic| walk_at "gs") => `(tactic| repeat' first | walk_at "ite1" | walk_at "st" | walk_at "ifs")
local macro_rules | `(tactic| walk_at "jsd") => `(tactic| first
  | exact trivial | with_reducible assumption | with_reducible rfl | (show _ ≤ sizeLine; decide) | (refine Nat.le_trans (Nat.le_of_ble_eq_true (m := 1000) rfl) (by decide)) | decide | omega
  | (simp only [List.length_append, List.length_cons, List.length_nil, List.length_map, List.length_range, natsD_len, verL_len, tabXs_len, List.length_replicate, Int.toNat_natCast, rgD_len, List.length_take, List.length_drop, zipD_len, enumD_len]; omega)
  | exact IntMulOk.of_right (intBits_le_64 (by omega) (by omega)) | exact IntMulOk.of_left (intBits_le_64 (by omega) (by omega))
  | (refine' Or.inl ⟨?_, ?_⟩ <;> omega) | (refine' Or.inr ⟨?_, ?_⟩ <;> omega)
  | (refine' ⟨?_, ?_⟩ <;> walk_at "jsd") | (refine' ⟨?_, ?_, ?_⟩ <;> walk_at "jsd") | (refine' ⟨?_, ?_, ?_, ?_⟩ <;> walk_at "jsd"))
local macro_rules | `(tactic| walk_at "jshp") => `(tactic| first | with_reducible assumption | (show SeqAt.shaped _ = true; first | assumption | decide))
local macro_rules | `(tactic| walk_at "jix") => `(tactic| first | with_reducible assumption | exact rfl)
local macro_rules | `(tactic| walk_at "jdrw") => `(tactic| exact ⟨by omega, Nat.lt_of_le_of_lt (Nat.log2_le_self _) (by omega)⟩)
local macro_rules | `(tactic| walk_at "jno") => `(tactic| first | exact ⟨trivial, by walk_at "jno"⟩ | exact ⟨rfl, by walk_at "jno"⟩ | exact trivial)
local macro_rules | `(tactic| walk_at "jno1") => `(tactic| (intro v_ m_; simp only [List.mem_cons, List.not_mem_nil, or_false] at m_; first | (subst m_; exact trivial) | (subst m_; exact rfl) | (rcases m_ with m_ | m_ <;> subst m_ <;> first | exact trivial | exact rfl) | (rcases m_ with m_ | m_ | m_ <;> subst m_ <;> first | exact trivial | exact rfl)))
local macro_rules | `(tactic| walk_at "jst0") => `(tactic| first
  | refine' Stp.imp ?_
  | ((with_reducible refine' x_PI2 ?e ?_); (case e => walk_at "jsd"))
  | ((with_reducible refine' x_ixAT (Vw.eq) ?e2 ?_); (case e2 => walk_at "jix"))
  | ((with_reducible refine' x_ixAL (Vw.eq) ?e2 ?_); (case e2 => walk_at "jix"))
  | ((with_reducible refine' x_RApp ?l ?_); (case l => walk_at "jsd"))
  | with_reducible refine' J_callN ?_
  | ((with_reducible refine' J_pool ?w ?e ?_); (case w => with_reducible assumption); (case e => with_reducible assumption))
  | ((with_reducible refine' J_callS ?w ?_); (case w => with_reducible assumption))
  | ((with_reducible refine' J_xw ?w ?_); (case w => with_reducible assumption))
  | ((with_reducible refine' J_isX ?w ?_); (case w => with_reducible assumption))
  | with_reducible refine' x_xwJ ?_
  | ((with_reducible refine' x_isX1 ?w ?_); (case w => with_reducible assumption))
  | ((with_reducible refine' x_isX2 ?w ?_); (case w => with_reducible assumption))
  | ((with_reducible refine' J_call ?w ?_); (case w => with_reducible assumption))
  | ((with_reducible refine' x_QDraw (SlotAt.eq) ?c ?_); (case c => walk_at "jdrw"))
  | ((with_reducible refine' x_QR1 ?c ?_); (case c => walk_at "jsd"))
  | ((with_reducible refine' x_QR2 ?c ?_); (case c => walk_at "jsd"))
  | ((with_reducible refine' x_addL (Vw.eq) (Vw.eq) ?c ?_); (case c => walk_at "jsd"))
  | ((with_reducible refine' x_addT (Vw.eq) (Vw.eq) ?c ?_); (case c => walk_at "jsd"))
  | ((with_reducible refine' x_addS' ?c ?_); (case c => walk_at "jsd"))
  | ((with_reducible refine' x_mulI ?c ?_); (case c => walk_at "jsd"))
  | ((with_reducible refine' x_mulL1 (Vw.eq) ?c ?_); (case c => walk_at "jsd"))
  | ((with_reducible refine' x_mulS ?c ?_); (case c => walk_at "jsd"))
  | ((with_reducible refine' x_isNj (Vw.eq) ?_))
  | ((with_reducible refine' x_notNj (Vw.eq) ?_))
  | ((with_reducible refine' x_eqA (Vw.eq) (Vw.eq) ?c ?d ?_); (case c => walk_at "jshp"); (case d => walk_at "jshp"))
  | ((with_reducible refine' x_neA (Vw.eq) (Vw.eq) ?c ?d ?_); (case c => walk_at "jshp"); (case d => walk_at "jshp"))
  | ((with_reducible refine' x_QIn (Vw.eq) ?e2 ?f ?g ?_); (case e2 => exact rfl); (case f => exact rfl); (case g => first | with_reducible assumption | exact rfl))
  | ((with_reducible refine' x_QInN (Vw.eq) ?e2 ?f ?g ?_); (case e2 => exact rfl); (case f => exact rfl); (case g => first | with_reducible assumption | exact rfl))
  | ((with_reducible refine' x_lenS' (Vw.eq) ?l ?_); (case l => walk_at "jsd"))
  | ((with_reducible refine' x_slS' ?l ?_); (case l => walk_at "jsd"))
  | with_reducible refine' J_raise (by with_reducible assumption) (by with_reducible assumption) ?_
  | with_reducible refine' x_X1 ?_
  | ((with_reducible refine' And.intro (a := RgOk _ _) ?c ?_); (case c => exact RgOk.of_le (by omega) (by omega) (by omega) (by omega))))
local macro_rules | `(tactic| walk_at "jite") => `(tactic| first
  | ((with_reducible refine' x_bT ?e ?_); (case e => first | exact rfl | decide | decide +kernel))
  | ((with_reducible refine' x_bF ?e ?_); (case e => first | exact rfl | decide | decide +kernel)))
local macro_rules | `(tactic| walk_at "jst") => `(tactic| walk_at "jst0")
local macro_rules | `(tactic| walk_at "jgo") => `(tactic| repeat first | walk_at "jst0" | walk_at "jite")
local macro_rules | `(tactic| walk_at "jgs") => `(tactic| repeat' first | walk_at "jst0" | walk_at "jite" | walk_at "ifs")
local macro_rules | `(tactic| walk_at "jk") => `(tactic| first | exact trivial | exact ⟨rfl, by walk_at "jk"⟩)
local macro_rules | `(tactic| walk_at "jwp") => `(tactic| exact ⟨rfl, by walk_at "jno1"⟩)
local macro_rules | `(tactic| walk_at "jif") => `(tactic| repeat ((fail_if_success (with_reducible show JS _ _ (tSeq (tIfS _ _ _) _) _ _)); first | walk_at "jst0" | walk_at "jite"))
local macro_rules | `(tactic| walk_at "jie") => `(tactic| repeat ((fail_if_success (with_reducible show J _ _ (tIf _ _ _) _ _)); first | walk_at "jst0" | walk_at "jite"))
local macro_rules | `(tactic| walk_at "nq") => `(tactic| decide +kernel)
local macro_rules | `(tactic| walk_at "nr") => `(tactic| decide +kernel)

section
variable {P : Program} {w : World} {K : PySem.W.Frag} {mg : Str → Option Value} {base : Heap}
def slD (ds : List Deed) (lots : List (Option (Nat × Nat))) (n : Nat) : List PyData := (List.range lots.length).map fun p => optD (near (lots.getD p none) (ver ds n p))
def psp_slice_at (CB : Addr) : PSp := fun ws Φ Ξ => ∃ P ds lots s, ws = [.d (logD P ds), .d (.tuple (List.map lotD lots)), .d (.int s)] ∧ Wf P ds ∧ lots.length = P ∧ (∀ n : Nat, s = n → n ≤ ds.length → Φ (.d (.tuple (slD ds lots n)))) ∧ (¬ (0 ≤ s ∧ s ≤ ds.length) → Ξ CB (.int s))
theorem c_slice {CB : Addr} {P n : Nat} {ds : List Deed} {lots : List (Option (Nat × Nat))} {Φ : W → Prop} {Ξ : Addr → PyData → Prop} (w : Wf P ds) (l : lots.length = P) (hn : n ≤ ds.length) (q : Φ (.d (.tuple (slD ds lots n)))) : psp_slice_at CB [.d (logD P ds), .d (.tuple (lots.map lotD)), .d (natD n)] Φ Ξ := ⟨P, ds, lots, n, rfl, w, l, fun m e _ => (show m = n by omega) ▸ q, fun h => absurd ⟨by omega, by omega⟩ h⟩
theorem c_sliceX {CB : Addr} {P : Nat} {s : Int} {ds : List Deed} {lots : List (Option (Nat × Nat))} {Φ : W → Prop} {Ξ : Addr → PyData → Prop} (w : Wf P ds) (l : lots.length = P) (hn : ¬ (0 ≤ s ∧ s ≤ ds.length)) (q : Ξ CB (.int s)) : psp_slice_at CB [.d (logD P ds), .d (.tuple (lots.map lotD)), .d (.int s)] Φ Ξ := ⟨P, ds, lots, s, rfl, w, l, fun m e h => absurd ⟨by omega, by omega⟩ hn, fun _ => q⟩
theorem sc_slice_at : FnScope ["log", "lots", "s", "lot", "version"] ["log", "lots", "s"] (defScope s_slice_at) := ⟨rfl, rfl, rfl, by decide +kernel, rfl, by decide +kernel, by decide +kernel⟩
theorem ok_slice_at (T : G K mg) : FnOk P w K mg base (L2.CX P w) 5 T.f_slice_at T.d_slice_at ["log", "lots", "s"] (SP K (psp_slice_at T.C_BadNumber)) := by
  refine T.F_slice_at.okX sc_slice_at (fun vs H Q E h => ?_) (fun cdv A outer s H vs Q E hr h => ?_)
  · exact SP.len h fun ws Φ Ξ hp => by obtain ⟨P, ds, lots, s, rfl, wf, hl, q, qx⟩ := hp; rfl
  · have hu := hu_of hr
    have nd := sc_slice_at.nd
    refine ⟨_, (pss_cons (ps_set (i := 0) nd rfl (Or.inl rfl) (pe_call (ok_made_log T) (hr.mono (by decide)) rfl T.g_made_log T.F_made_log.kp T.b_made_log .nil (passes_call (takes_of rfl rfl rfl rfl) (fun _ _ _ _ z => z)) (pa_cons (pv 0) pa_nil)))
        (pss_cons (ps_if (pt_not (pt_val (pe_call (ok_is_within T) (hr.mono (by decide)) rfl T.g_is_within T.F_is_within.kp T.b_is_within .nil pass0 (pa_cons (pv 2) (pa_cons pe_int (pa_cons (pe_callB (r := rLenA K) call_lenA (by rfl) T.n_len PySem.boot_len (pa_cons (pe_ix (r := rIx K) ix_seq (pv 0) pe_int (fun _ _ => rfl)) pa_nil)) pa_nil)))))) (pss_one (ps_raise rfl (takes_of rfl rfl rfl rfl) (pmk_oex T.x_BadNumber.oex T.x_BadNumber.init T.t_init (ok_Refused___init__ T) (hr.mono (by decide)) T.b_Refused___init__ .nil pass0 rfl T.x_BadNumber.g (pa_cons (pv 2) pa_nil)))) pss_nil)
        (pss_one (ps_ret (pe_callTy (r := rTupleOf K) call_tupleOf (by rfl) T.n_tuple (by decide +kernel) (pa_cons (pe_lc (own := [("lot", 3), ("version", 4)]) (g := gAny K 2 (gCons (gName 3) (gCons (gName 4) (gNil)))) rfl nd (pi_zipAK (K := K) rfl rfl T.n_zip (pa_cons (pv 1) (pa_cons (pe_call (ok_versions_at T) (hr.mono (by decide)) rfl T.g_versions_at T.F_versions_at.kp T.b_versions_at .nil pass0 (pa_cons (pv 0) (pa_cons (pv 2) pa_nil))) pa_nil))) (blkOk_by (own := [("lot", 3), ("version", 4)]) (N := ["log", "lots", "s", "lot", "version"]) (sc := defScope s_slice_at) (by decide +kernel)) (fun _ _ _ _ _ => (pg_tupK (K := K) (n := 2) rfl rfl (pgs_cons (pg_name (i := 3) nd rfl (Or.inl rfl)) (pgs_cons (pg_name (i := 4) nd rfl (Or.inl rfl)) pgs_nil)))) (fun _ _ _ _ _ => pts_nil) (fun _ _ _ _ _ => (pe_call (ok__nearest T) (hr.mono (by decide)) rfl T.g__nearest T.F__nearest.kp T.b__nearest .nil pass0 (pa_cons (pv 3) (pa_cons (pv 4) pa_nil))))) pa_nil)))))), SP.run h fun ws Φ Ξ B hp hX => ?_⟩
    clear h
    obtain ⟨P, ds, lots, s, rfl, wf, hl, q, qx⟩ := hp
    have hf0 := T.x_BadNumber
    show JS K B _ [some (.d (logD P ds)), some (.d (.tuple (lots.map lotD))), some (.d (.int s)), none, none] _
    have hz := sizeLine_eq
    have p1 := wf.p1
    have p2 := wf.p2
    have p3 := wf.n
    walk_at "jgo"
    refine c_mlog wf ?_
    walk_at "jgo"
    refine c_is_within ?_
    by_cases hs : 0 ≤ s ∧ s ≤ ds.length
    · obtain ⟨n, rfl⟩ : ∃ n : Nat, s = (n : Int) := ⟨s.toNat, by omega⟩
      rw [List.length_map, inR_T hs]
      walk_at "jgo"
      refine c_vers wf ?_
      walk_at "jgo"
      have hlen : (verL P (ds.take n)).length = P := verL_len _ _
      refine x_LcIdx (fun p => optD (near (lots.getD p none) (ver ds n p))) (by walk_at "jno") (by rw [zipD_len, List.length_map]; omega) (fun i x e => ?_) ?_
      · obtain ⟨x1, x2, e1, e2, rfl⟩ := zipD_get e
        obtain ⟨lot, el, rfl⟩ := map_get e1
        obtain ⟨v, ev, rfl⟩ := natsD_get e2
        have hi : i < P := by rw [← hl]; exact (List.getElem?_eq_some_iff.mp el).1
        rw [ver_at hi] at ev; cases ev
        walk_at "jgo"
        refine ⟨by walk_at "jwp", ?_⟩
        walk_at "jgo"
        refine c_near ?_
        walk_at "jgo"
        refine ⟨?_, by walk_at "jwp"⟩
        rw [List.getD_eq_getElem?_getD, el]; rfl
      · walk_at "jgo"
        refine ⟨?_, by walk_at "jk"⟩
        rw [zipD_len, List.length_map, natsD_len, hlen, hl, Nat.min_self]
        have := q n rfl (by omega)
        unfold slD at this
        rw [hl] at this
        exact this
    · rw [List.length_map, inR_F hs]
      walk_at "jgo"
      exact ⟨qx hs, by walk_at "jk"⟩
end
end WD

namespace WD
open PySem PySem.Spec PyProof.Rows L2
-- p ≠ q of two addresses
local macro_rules | `(tactic| walk_at "ne") => `(tactic| first
  | with_reducible assumption
  | with_reducible exact Ne.symm (by assumption)
  | exact ne_some (by with_reducible assumption) (by with_reducible assumption)
  | exact Ne.symm (ne_some (by with_reducible assumption) (by with_reducible assumption)))
local macro_rules | `(tactic| walk_at "nm") => `(tactic| first | with_reducible assumption | with_reducible exact nm0 | ((with_reducible refine' nmS ?a ?b); (case a => walk_at "ne"); (case b => walk_at "nm")))
-- H p = some ?o
local macro_rules | `(tactic| walk_at "hp") => `(tactic| first
  | with_reducible exact upd_same
  | with_reducible assumption
  | ((with_reducible refine' Eq.trans (upd_ne ?a) ?b); (case a => walk_at "ne"); (case b => walk_at "hp"))
  | exact Stay.keep (by with_reducible assumption) _ _ (by walk_at "hp") (by walk_at "nm"))
local macro_rules | `(tactic| walk_at "hpd") => `(tactic| ((refine' Eq.trans ?h ?e); (case h => walk_at "hp"); (case e => exact rfl)))
-- a new address
local macro_rules | `(tactic| walk_at "nw") => `(tactic| ((repeat first | (with_reducible refine' nw_upd ?_) | refine' nw_fr (by with_reducible assumption) ?_); intro p_; intros))
local macro_rules | `(tactic| walk_at "mem") => `(tactic| first | exact List.mem_cons_self | (refine' List.mem_cons_of_mem _ ?_; walk_at "mem"))
-- what stands stays
local macro_rules | `(tactic| walk_at "fr") => `(tactic| first
  | with_reducible assumption
  | exact Stay.refl _ _
  | ((with_reducible refine' Stay.upd ?a ?b); (case a => walk_at "fr"); (case b => walk_at "mem"))
  | ((with_reducible refine' Stay.new ?a ?b); (case b => with_reducible assumption); (case a => walk_at "fr"))
  | (refine' Stay.trans ?_ (by with_reducible assumption); walk_at "fr"))
local macro_rules | `(tactic| walk_at "sq") => `(tactic| first | with_reducible assumption | exact SqL.of (by walk_at "hp"))
local macro_rules | `(tactic| walk_at "sqt") => `(tactic| first | with_reducible assumption | exact SqT.of (by walk_at "hp"))
-- side goals
local macro_rules | `(tactic| walk_at "sd") => `(tactic| first
  | with_reducible assumption | with_reducible rfl | (show _ ≤ sizeLine; decide) | (refine Nat.le_trans (Nat.le_of_ble_eq_true (m := 1000) rfl) (by decide)) | decide | omega
  | exact IntMulOk.of_right (intBits_le_64 (by omega) (by omega)) | exact IntMulOk.of_left (intBits_le_64 (by omega) (by omega))
  | (refine' Or.inl ⟨?_, ?_⟩ <;> omega) | (refine' Or.inr ⟨?_, ?_⟩ <;> omega)
  | (refine' ⟨?_, ?_⟩ <;> walk_at "sd") | (refine' ⟨?_, ?_, ?_⟩ <;> walk_at "sd"))
local macro_rules | `(tactic| walk_at "set") => `(tactic| first | with_reducible exact set0 | with_reducible exact set1 | with_reducible exact set2 | with_reducible exact set3 | with_reducible exact set4 | with_reducible exact set5 | with_reducible exact set6 | with_reducible exact set7 | with_reducible exact set8 | with_reducible exact set9 | with_reducible exact set10 | with_reducible exact set11 | with_reducible exact set12 | with_reducible exact set13 | with_reducible exact set14 | with_reducible exact set15 | with_reducible exact set16 | with_reducible exact set17 | with_reducible exact set18 | with_reducible exact set19 | with_reducible exact set20)
-- one step
local macro_rules | `(tactic| walk_at "st0") => `(tactic| first
  | with_reducible refine' x_seq ?_
  | with_reducible refine' x_next ?_
  | with_reducible refine' x_ifS ?_
  | with_reducible refine' x_asg ?_
  | with_reducible refine' x_ret ?_
  | with_reducible refine' x_retN ?_
  | with_reducible refine' x_drop ?_
  | with_reducible refine' x_brk ?_
  | with_reducible refine' x_cont ?_
  | ((with_reducible refine' x_gName ?e ?_); (case e => walk_at "set"))
  | with_reducible refine' x_gSub ?_
  | with_reducible refine' x_gCons ?_
  | with_reducible refine' x_gNil ?_
  | with_reducible refine' x_c ?_
  | ((with_reducible refine' x_var ?e ?_); (case e => exact rfl))
  | with_reducible refine' x_op ?_
  | with_reducible refine' x_un ?_
  | with_reducible refine' x_if ?_
  | with_reducible refine' x_cb ?_
  | with_reducible refine' x_cons ?_
  | with_reducible refine' x_nil ?_
  | with_reducible refine' x_bm0 ?_
  | with_reducible refine' x_bm ?_
  | with_reducible refine' x_tup ?_
  | with_reducible refine' x_lst ?_
  | ((with_reducible refine' And.intro (a := _ ≤ sizeLine) ?e ?_); (case e => walk_at "sd"); walk_at "nw")
  | with_reducible refine' x_fld ?_
  | with_reducible refine' x_test ?_
  | with_reducible refine' x_tB ?_
  | with_reducible refine' x_and ?_
  | with_reducible refine' x_or ?_
  | with_reducible refine' x_not ?_
  | with_reducible refine' x_notV ?_
  | with_reducible refine' x_andV ?_
  | with_reducible refine' x_orV ?_
  | with_reducible refine' x_rI0 ?_
  | ((with_reducible refine' x_rI ?e ?_); (case e => walk_at "sd"))
  | with_reducible refine' x_rU ?_
  | ((with_reducible refine' x_rEq ?e ?_); (case e => exact rfl))
  | ((with_reducible refine' x_rNe ?e ?_); (case e => exact rfl))
  | ((with_reducible refine' x_ixL0 ?h ?_); (case h => walk_at "sq"))
  | ((with_reducible refine' x_ixL1 ?h ?_); (case h => walk_at "sq"))
  | ((with_reducible refine' x_ixL2 ?h ?_); (case h => walk_at "sq"))
  | ((with_reducible refine' x_ixL0I ?h ?_); (case h => walk_at "sq"))
  | ((with_reducible refine' x_ixL ?h ?e ?_); (case h => walk_at "sq"); (case e => exact rfl))
  | ((with_reducible refine' x_neNil ?h ?h2 ?_); (case h => walk_at "sq"); (case h2 => walk_at "sq"))
  | ((with_reducible refine' x_pop0I ?h ?_); (case h => walk_at "hp"))
  | ((with_reducible refine' x_pop0 ?h ?_); (case h => walk_at "hp"))
  | ((with_reducible refine' x_setL0 ?h ?_); (case h => walk_at "hp"))
  | ((with_reducible refine' x_setL1 ?h ?_); (case h => walk_at "hp"))
  | ((with_reducible refine' x_setL2 ?h ?_); (case h => walk_at "hp"))
  | ((with_reducible refine' x_setL ?h ?e ?_); (case h => walk_at "hp"); (case e => exact rfl))
  | with_reducible refine' .inl ⟨_, rfl, ?_⟩
  | ((with_reducible refine' x_tyL ?h ?_); (case h => walk_at "sq"))
  | with_reducible refine' ⟨_, rfl, ?_⟩)
-- a split
local macro_rules | `(tactic| walk_at "if") => `(tactic| (
  first
  | (with_reducible refine' x_dec (fun h_ => ?_) (fun h_ => ?_))
  | (with_reducible refine' x_decN (fun h_ => ?_) (fun h_ => ?_))
  | (with_reducible refine' x_boolN (fun h_ => ?_) (fun h_ => ?_))
  | (with_reducible refine' x_bool (fun h_ => ?_) (fun h_ => ?_))))
local macro_rules | `(tactic| walk_at "ifs") => `(tactic| (walk_at "if" <;> first
  | (exfalso; first | omega | contradiction)
  | (rename_i h_; (try simp only [BEq.rfl, List.length_map, List.length_cons, List.length_nil, Int.natCast_zero, Int.ofNat_zero, gt_iff_lt, Int.lt_irrefl, Bool.true_eq_false, Bool.false_eq_true, List.isEmpty_nil, List.isEmpty_cons, V.int.injEq, V.str.injEq, V.bl.injEq, reduceCtorEq, not_false_eq_true, not_true_eq_false] at h_); (try (exfalso; omega)))))
local macro_rules | `(tactic| walk_at "ite1") => `(tactic| first
  | with_reducible refine' x_T ?_
  | with_reducible refine' x_F ?_
  | with_reducible refine' x_nT ?_
  | with_reducible refine' x_nF ?_
  | ((with_reducible refine' x_bT ?e ?_); (case e => first | decide | decide +kernel))
  | ((with_reducible refine' x_bF ?e ?_); (case e => first | decide | decide +kernel)))
local macro_rules | `(tactic| walk_at "st") => `(tactic| ((fail_if_success (with_reducible (show (if _ then _ else _)))); walk_at "st0"))
local macro_rules | `(tactic| walk_at "go") => `(tactic| repeat first | walk_at "ite1" | walk_at "st")
local macro_rules | `(tactic| walk_at "gs") => `(tactic| repeat' first | walk_at "ite1" | walk_at "st" | walk_at "ifs")
local macro_rules | `(tactic| walk_at "jsd") => `(tactic| first
  | exact trivial | with_reducible assumption | with_reducible rfl | (show _ ≤ sizeLine; decide) | (refine Nat.le_trans (Nat.le_of_ble_eq_true (m := 1000) rfl) (by decide)) | decide | omega
  | (simp only [List.length_append, List.length_cons, List.length_nil, List.length_map, List.length_range, natsD_len, verL_len, tabXs_len, List.length_replicate, Int.toNat_natCast, rgD_len, List.length_take, List.length_drop, zipD_len, enumD_len]; omega)
  | exact IntMulOk.of_right (intBits_le_64 (by omega) (by omega)) | exact IntMulOk.of_left (intBits_le_64 (by omega) (by omega))
  | (refine' Or.inl ⟨?_, ?_⟩ <;> omega) | (refine' Or.inr ⟨?_, ?_⟩ <;> omega)
  | (refine' ⟨?_, ?_⟩ <;> walk_at "jsd") | (refine' ⟨?_, ?_, ?_⟩ <;> walk_at "jsd") | (refine' ⟨?_, ?_, ?_, ?_⟩ <;> walk_at "jsd"))
local macro_rules | `(tactic| walk_at "jshp") => `(tactic| first | with_reducible assumption | (show SeqAt.shaped _ = true; first | assumption | decide))
local macro_rules | `(tactic| walk_at "jix") => `(tactic| first | with_reducible assumption | exact rfl)
local macro_rules | `(tactic| walk_at "jdrw") => `(tactic| exact ⟨by omega, Nat.lt_of_le_of_lt (Nat.log2_le_self _) (by omega)⟩)
local macro_rules | `(tactic| walk_at "jno") => `(tactic| first | exact ⟨trivial, by walk_at "jno"⟩ | exact ⟨rfl, by walk_at "jno"⟩ | exact trivial)
local macro_rules | `(tactic| walk_at "jno1") => `(tactic| (intro v_ m_; simp only [List.mem_cons, List.not_mem_nil, or_false] at m_; first | (subst m_; exact trivial) | (subst m_; exact rfl) | (rcases m_ with m_ | m_ <;> subst m_ <;> first | exact trivial | exact rfl) | (rcases m_ with m_ | m_ | m_ <;> subst m_ <;> first | exact trivial | exact rfl)))
local macro_rules | `(tactic| walk_at "jst0") => `(tactic| first
  | refine' Stp.imp ?_
  | ((with_reducible refine' x_PI2 ?e ?_); (case e => walk_at "jsd"))
  | ((with_reducible refine' x_ixAT (Vw.eq) ?e2 ?_); (case e2 => walk_at "jix"))
  | ((with_reducible refine' x_ixAL (Vw.eq) ?e2 ?_); (case e2 => walk_at "jix"))
  | ((with_reducible refine' x_RApp ?l ?_); (case l => walk_at "jsd"))
  | with_reducible refine' J_callN ?_
  | ((with_reducible refine' J_pool ?w ?e ?_); (case w => with_reducible assumption); (case e => with_reducible assumption))
  | ((with_reducible refine' J_callS ?w ?_); (case w => with_reducible assumption))
  | ((with_reducible refine' J_xw ?w ?_); (case w => with_reducible assumption))
  | ((with_reducible refine' J_isX ?w ?_); (case w => with_reducible assumption))
  | with_reducible refine' x_xwJ ?_
  | ((with_reducible refine' x_isX1 ?w ?_); (case w => with_reducible assumption))
  | ((with_reducible refine' x_isX2 ?w ?_); (case w => with_reducible assumption))
  | ((with_reducible refine' J_call ?w ?_); (case w => with_reducible assumption))
  | ((with_reducible refine' x_QDraw (SlotAt.eq) ?c ?_); (case c => walk_at "jdrw"))
  | ((with_reducible refine' x_QR1 ?c ?_); (case c => walk_at "jsd"))
  | ((with_reducible refine' x_QR2 ?c ?_); (case c => walk_at "jsd"))
  | ((with_reducible refine' x_addL (Vw.eq) (Vw.eq) ?c ?_); (case c => walk_at "jsd"))
  | ((with_reducible refine' x_addT (Vw.eq) (Vw.eq) ?c ?_); (case c => walk_at "jsd"))
  | ((with_reducible refine' x_addS' ?c ?_); (case c => walk_at "jsd"))
  | ((with_reducible refine' x_mulI ?c ?_); (case c => walk_at "jsd"))
  | ((with_reducible refine' x_mulL1 (Vw.eq) ?c ?_); (case c => walk_at "jsd"))
  | ((with_reducible refine' x_mulS ?c ?_); (case c => walk_at "jsd"))
  | ((with_reducible refine' x_isNj (Vw.eq) ?_))
  | ((with_reducible refine' x_notNj (Vw.eq) ?_))
  | ((with_reducible refine' x_eqA (Vw.eq) (Vw.eq) ?c ?d ?_); (case c => walk_at "jshp"); (case d => walk_at "jshp"))
  | ((with_reducible refine' x_neA (Vw.eq) (Vw.eq) ?c ?d ?_); (case c => walk_at "jshp"); (case d => walk_at "jshp"))
  | ((with_reducible refine' x_QIn (Vw.eq) ?e2 ?f ?g ?_); (case e2 => exact rfl); (case f => exact rfl); (case g => first | with_reducible assumption | exact rfl))
  | ((with_reducible refine' x_QInN (Vw.eq) ?e2 ?f ?g ?_); (case e2 => exact rfl); (case f => exact rfl); (case g => first | with_reducible assumption | exact rfl))
  | ((with_reducible refine' x_lenS' (Vw.eq) ?l ?_); (case l => walk_at "jsd"))
  | ((with_reducible refine' x_slS' ?l ?_); (case l => walk_at "jsd"))
  | with_reducible refine' J_raise (by with_reducible assumption) (by with_reducible assumption) ?_
  | with_reducible refine' x_X1 ?_
  | ((with_reducible refine' And.intro (a := RgOk _ _) ?c ?_); (case c => exact RgOk.of_le (by omega) (by omega) (by omega) (by omega))))
local macro_rules | `(tactic| walk_at "jite") => `(tactic| first
  | ((with_reducible refine' x_bT ?e ?_); (case e => first | exact rfl | decide | decide +kernel))
  | ((with_reducible refine' x_bF ?e ?_); (case e => first | exact rfl | decide | decide +kernel)))
local macro_rules | `(tactic| walk_at "jst") => `(tactic| walk_at "jst0")
local macro_rules | `(tactic| walk_at "jgo") => `(tactic| repeat first | walk_at "jst0" | walk_at "jite")
local macro_rules | `(tactic| walk_at "jgs") => `(tactic| repeat' first | walk_at "jst0" | walk_at "jite" | walk_at "ifs")
local macro_rules | `(tactic| walk_at "jk") => `(tactic| first | exact trivial | exact ⟨rfl, by walk_at "jk"⟩)
local macro_rules | `(tactic| walk_at "jwp") => `(tactic| exact ⟨rfl, by walk_at "jno1"⟩)
local macro_rules | `(tactic| walk_at "jif") => `(tactic| repeat ((fail_if_success (with_reducible show JS _ _ (tSeq (tIfS _ _ _) _) _ _)); first | walk_at "jst0" | walk_at "jite"))
local macro_rules | `(tactic| walk_at "jie") => `(tactic| repeat ((fail_if_success (with_reducible show J _ _ (tIf _ _ _) _ _)); first | walk_at "jst0" | walk_at "jite"))
local macro_rules | `(tactic| walk_at "nq") => `(tactic| decide +kernel)
local macro_rules | `(tactic| walk_at "nr") => `(tactic| decide +kernel)

section
variable {P : Program} {w : World} {K : PySem.W.Frag} {mg : Str → Option Value} {base : Heap}
def psp__law_turned : PSp := fun ws Φ _ => ∃ a l n, ws = [.pool a l, .d (natD n)] ∧ n ≤ 1000 ∧ ∀ rank : List Nat, rank.length = n → (∀ r ∈ rank, r < n) → Φ (.l (natsD rank))
theorem c_turned {a l : Addr} {n : Nat} {Φ : W → Prop} {Ξ : Addr → PyData → Prop} (h : n ≤ 1000) (q : ∀ rank : List Nat, rank.length = n → (∀ r ∈ rank, r < n) → Φ (.l (natsD rank))) : psp__law_turned [.pool a l, .d (natD n)] Φ Ξ := ⟨a, l, n, rfl, h, q⟩
theorem sc__law_turned : FnScope ["pool", "many", "left", "found", "turn"] ["pool", "many"] (defScope s__law_turned) := ⟨rfl, rfl, rfl, by decide +kernel, rfl, by decide +kernel, by decide +kernel⟩
theorem ok__law_turned (T : G K mg) : FnOk P w K mg base CX0 2 T.f__law_turned T.d__law_turned ["pool", "many"] (SP K psp__law_turned) := by
  refine T.F__law_turned.ok sc__law_turned (fun vs H Q E h => ?_) (fun cdv A outer s H vs Q E hr h => ?_)
  · exact SP.len h fun ws Φ Ξ hp => by obtain ⟨a, l, n, rfl, hn, q⟩ := hp; rfl
  · have hu := hu_of hr
    have nd := sc__law_turned.nd
    refine ⟨_, (pss_cons (ps_par (i := 2) (j := 3) (by rfl) nd rfl rfl (by decide) rfl rfl (pa_cons (pe_listRg rfl rfl T.n_list (prg_1 rfl T.n_range (pv 1))) (pa_cons (pe_lst pa_nil) pa_nil)) (by rfl))
        (pss_cons (ps_for PassesOwn.never rfl (pi_range1 rfl T.n_range (pa_cons (pv 1) pa_nil)) (pg_name (i := 4) nd rfl (Or.inl rfl)) (pss_one (ps_expr (pe_bmK (K := K) rfl PySem.F.plainAttrs_list PySem.F.slot_list_append PySem.F.type_list_append mt_append (pv 3) (pa_cons (pe_bmK (K := K) rfl PySem.F.plainAttrs_list PySem.F.slot_list_pop PySem.F.type_list_pop mt_popAt (pv 2) (pa_cons (pe_call (ok__law_draw T) (hr.mono (by decide)) rfl T.g__law_draw T.F__law_draw.kp T.b__law_draw .nil pass0 (pa_cons (pv 0) (pa_cons (pe_callB (r := rLenA K) call_lenA (by rfl) T.n_len PySem.boot_len (pa_cons (pv 2) pa_nil)) pa_nil))) pa_nil)) pa_nil)))))
        (pss_one (ps_ret (pv 3))))), SP.run h fun ws Φ Ξ B hp hX => ?_⟩
    clear h
    obtain ⟨a, l, n, rfl, hn, q⟩ := hp
    show JS K B _ [some (.pool a l), some (.d (natD n)), none, none, none] _
    have hz := sizeLine_eq
    walk_at "jgo"
    rw [rgD_nats]
    refine x_QFor (fun i ρ => ∃ (v : Option W) (left found : List Nat), ρ = [some (.pool a l), some (.d (natD n)), some (.l (natsD left)), some (.l (natsD found)), v] ∧ left.length = n - i ∧ found.length = i ∧ (∀ r ∈ left, r < n) ∧ ∀ r ∈ found, r < n) ⟨none, List.range n, [], rfl, by simp, rfl, fun r m => List.mem_range.mp m, by simp⟩ ?_ ?_
    · rintro i x ρ e ⟨v, left, found, rfl, h1, h2, h3, h4⟩
      obtain ⟨k, ek, rfl⟩ := natsD_get e
      have hi : i < n := by have := (List.getElem?_eq_some_iff.mp ek).1; simpa using this
      have hz := sizeLine_eq
      have e1 := natsD_len left
      have e2 := natsD_len found
      walk_at "jgo"
      intro d d0 d1
      obtain ⟨m, rfl⟩ : ∃ m : Nat, d = (m : Int) := ⟨d.toNat, by omega⟩
      have hm : m < left.length := by omega
      walk_at "jgo"
      have hl := List.getElem?_eq_getElem hm
      refine x_RPopN (natsD_at hl) (by omega) ?_
      walk_at "jgo"
      have m1 : left[m] ∈ left := List.getElem_mem hm
      refine ⟨some (.d (natD k)), left.eraseIdx m, found ++ [left[m]], ?_, ?_, by simp [h2], fun r q => h3 r (List.mem_of_mem_eraseIdx q), fun r q => ?_⟩
      · rw [natsD_erase, ← natsD_app]; rfl
      · rw [List.length_eraseIdx_of_lt hm]; omega
      · rcases List.mem_append.mp q with q | q
        · exact h4 r q
        · rw [List.mem_singleton.mp q]; exact h3 _ m1
    · rintro ρ ⟨v, left, found, rfl, h1, h2, h3, h4⟩
      walk_at "jgo"
      refine ⟨q found ?_ h4, by walk_at "jk"⟩
      rw [h2, natsD_len, List.length_range]
end
end WD

namespace WD
open PySem PySem.Spec PyProof.Rows L2
-- p ≠ q of two addresses
local macro_rules | `(tactic| walk_at "ne") => `(tactic| first
  | with_reducible assumption
  | with_reducible exact Ne.symm (by assumption)
  | exact ne_some (by with_reducible assumption) (by with_reducible assumption)
  | exact Ne.symm (ne_some (by with_reducible assumption) (by with_reducible assumption)))
local macro_rules | `(tactic| walk_at "nm") => `(tactic| first | with_reducible assumption | with_reducible exact nm0 | ((with_reducible refine' nmS ?a ?b); (case a => walk_at "ne"); (case b => walk_at "nm")))
-- H p = some ?o
local macro_rules | `(tactic| walk_at "hp") => `(tactic| first
  | with_reducible exact upd_same
  | with_reducible assumption
  | ((with_reducible refine' Eq.trans (upd_ne ?a) ?b); (case a => walk_at "ne"); (case b => walk_at "hp"))
  | exact Stay.keep (by with_reducible assumption) _ _ (by walk_at "hp") (by walk_at "nm"))
local macro_rules | `(tactic| walk_at "hpd") => `(tactic| ((refine' Eq.trans ?h ?e); (case h => walk_at "hp"); (case e => exact rfl)))
-- a new address
local macro_rules | `(tactic| walk_at "nw") => `(tactic| ((repeat first | (with_reducible refine' nw_upd ?_) | refine' nw_fr (by with_reducible assumption) ?_); intro p_; intros))
local macro_rules | `(tactic| walk_at "mem") => `(tactic| first | exact List.mem_cons_self | (refine' List.mem_cons_of_mem _ ?_; walk_at "mem"))
-- what stands stays
local macro_rules | `(tactic| walk_at "fr") => `(tactic| first
  | with_reducible assumption
  | exact Stay.refl _ _
  | ((with_reducible refine' Stay.upd ?a ?b); (case a => walk_at "fr"); (case b => walk_at "mem"))
  | ((with_reducible refine' Stay.new ?a ?b); (case b => with_reducible assumption); (case a => walk_at "fr"))
  | (refine' Stay.trans ?_ (by with_reducible assumption); walk_at "fr"))
local macro_rules | `(tactic| walk_at "sq") => `(tactic| first | with_reducible assumption | exact SqL.of (by walk_at "hp"))
local macro_rules | `(tactic| walk_at "sqt") => `(tactic| first | with_reducible assumption | exact SqT.of (by walk_at "hp"))
-- side goals
local macro_rules | `(tactic| walk_at "sd") => `(tactic| first
  | with_reducible assumption | with_reducible rfl | (show _ ≤ sizeLine; decide) | (refine Nat.le_trans (Nat.le_of_ble_eq_true (m := 1000) rfl) (by decide)) | decide | omega
  | exact IntMulOk.of_right (intBits_le_64 (by omega) (by omega)) | exact IntMulOk.of_left (intBits_le_64 (by omega) (by omega))
  | (refine' Or.inl ⟨?_, ?_⟩ <;> omega) | (refine' Or.inr ⟨?_, ?_⟩ <;> omega)
  | (refine' ⟨?_, ?_⟩ <;> walk_at "sd") | (refine' ⟨?_, ?_, ?_⟩ <;> walk_at "sd"))
local macro_rules | `(tactic| walk_at "set") => `(tactic| first | with_reducible exact set0 | with_reducible exact set1 | with_reducible exact set2 | with_reducible exact set3 | with_reducible exact set4 | with_reducible exact set5 | with_reducible exact set6 | with_reducible exact set7 | with_reducible exact set8 | with_reducible exact set9 | with_reducible exact set10 | with_reducible exact set11 | with_reducible exact set12 | with_reducible exact set13 | with_reducible exact set14 | with_reducible exact set15 | with_reducible exact set16 | with_reducible exact set17 | with_reducible exact set18 | with_reducible exact set19 | with_reducible exact set20)
-- one step
local macro_rules | `(tactic| walk_at "st0") => `(tactic| first
  | with_reducible refine' x_seq ?_
  | with_reducible refine' x_next ?_
  | with_reducible refine' x_ifS ?_
  | with_reducible refine' x_asg ?_
  | with_reducible refine' x_ret ?_
  | with_reducible refine' x_retN ?_
  | with_reducible refine' x_drop ?_
  | with_reducible refine' x_brk ?_
  | with_reducible refine' x_cont ?_
  | ((with_reducible refine' x_gName ?e ?_); (case e => walk_at "set"))
  | with_reducible refine' x_gSub ?_
  | with_reducible refine' x_gCons ?_
  | with_reducible refine' x_gNil ?_
  | with_reducible refine' x_c ?_
  | ((with_reducible refine' x_var ?e ?_); (case e => exact rfl))
  | with_reducible refine' x_op ?_
  | with_reducible refine' x_un ?_
  | with_reducible refine' x_if ?_
  | with_reducible refine' x_cb ?_
  | with_reducible refine' x_cons ?_
  | with_reducible refine' x_nil ?_
  | with_reducible refine' x_bm0 ?_
  | with_reducible refine' x_bm ?_
  | with_reducible refine' x_tup ?_
  | with_reducible refine' x_lst ?_
  | ((with_reducible refine' And.intro (a := _ ≤ sizeLine) ?e ?_); (case e => walk_at "sd"); walk_at "nw")
  | with_reducible refine' x_fld ?_
  | with_reducible refine' x_test ?_
  | with_reducible refine' x_tB ?_
  | with_reducible refine' x_and ?_
  | with_reducible refine' x_or ?_
  | with_reducible refine' x_not ?_
  | with_reducible refine' x_notV ?_
  | with_reducible refine' x_andV ?_
  | with_reducible refine' x_orV ?_
  | with_reducible refine' x_rI0 ?_
  | ((with_reducible refine' x_rI ?e ?_); (case e => walk_at "sd"))
  | with_reducible refine' x_rU ?_
  | ((with_reducible refine' x_rEq ?e ?_); (case e => exact rfl))
  | ((with_reducible refine' x_rNe ?e ?_); (case e => exact rfl))
  | ((with_reducible refine' x_ixL0 ?h ?_); (case h => walk_at "sq"))
  | ((with_reducible refine' x_ixL1 ?h ?_); (case h => walk_at "sq"))
  | ((with_reducible refine' x_ixL2 ?h ?_); (case h => walk_at "sq"))
  | ((with_reducible refine' x_ixL0I ?h ?_); (case h => walk_at "sq"))
  | ((with_reducible refine' x_ixL ?h ?e ?_); (case h => walk_at "sq"); (case e => exact rfl))
  | ((with_reducible refine' x_neNil ?h ?h2 ?_); (case h => walk_at "sq"); (case h2 => walk_at "sq"))
  | ((with_reducible refine' x_pop0I ?h ?_); (case h => walk_at "hp"))
  | ((with_reducible refine' x_pop0 ?h ?_); (case h => walk_at "hp"))
  | ((with_reducible refine' x_setL0 ?h ?_); (case h => walk_at "hp"))
  | ((with_reducible refine' x_setL1 ?h ?_); (case h => walk_at "hp"))
  | ((with_reducible refine' x_setL2 ?h ?_); (case h => walk_at "hp"))
  | ((with_reducible refine' x_setL ?h ?e ?_); (case h => walk_at "hp"); (case e => exact rfl))
  | with_reducible refine' .inl ⟨_, rfl, ?_⟩
  | ((with_reducible refine' x_tyL ?h ?_); (case h => walk_at "sq"))
  | with_reducible refine' ⟨_, rfl, ?_⟩)
-- a split
local macro_rules | `(tactic| walk_at "if") => `(tactic| (
  first
  | (with_reducible refine' x_dec (fun h_ => ?_) (fun h_ => ?_))
  | (with_reducible refine' x_decN (fun h_ => ?_) (fun h_ => ?_))
  | (with_reducible refine' x_boolN (fun h_ => ?_) (fun h_ => ?_))
  | (with_reducible refine' x_bool (fun h_ => ?_) (fun h_ => ?_))))
local macro_rules | `(tactic| walk_at "ifs") => `(tactic| (walk_at "if" <;> first
  | (exfalso; first | omega | contradiction)
  | (rename_i h_; (try simp only [BEq.rfl, List.length_map, List.length_cons, List.length_nil, Int.natCast_zero, Int.ofNat_zero, gt_iff_lt, Int.lt_irrefl, Bool.true_eq_false, Bool.false_eq_true, List.isEmpty_nil, List.isEmpty_cons, V.int.injEq, V.str.injEq, V.bl.injEq, reduceCtorEq, not_false_eq_true, not_true_eq_false] at h_); (try (exfalso; omega)))))
local macro_rules | `(tactic| walk_at "ite1") => `(tactic| first
  | with_reducible refine' x_T ?_
  | with_reducible refine' x_F ?_
  | with_reducible refine' x_nT ?_
  | with_reducible refine' x_nF ?_
  | ((with_reducible refine' x_bT ?e ?_); (case e => first | decide | decide +kernel))
  | ((with_reducible refine' x_bF ?e ?_); (case e => first | decide | decide +kernel)))
local macro_rules | `(tactic| walk_at "st") => `(tactic| ((fail_if_success (with_reducible (show (if _ then _ else _)))); walk_at "st0"))
local macro_rules | `(tactic| walk_at "go") => `(tactic| repeat first | walk_at "ite1" | walk_at "st")
local macro_rules | `(tactic| walk_at "gs") => `(tactic| repeat' first | walk_at "ite1" | walk_at "st" | walk_at "ifs")
local macro_rules | `(tactic| walk_at "jsd") => `(tactic| first
  | exact trivial | with_reducible assumption | with_reducible rfl | (show _ ≤ sizeLine; decide) | (refine Nat.le_trans (Nat.le_of_ble_eq_true (m := 1000) rfl) (by decide)) | decide | omega
  | (simp only [List.length_append, List.length_cons, List.length_nil, List.length_map, List.length_range, natsD_len, verL_len, tabXs_len, List.length_replicate, Int.toNat_natCast, rgD_len, List.length_take, List.length_drop, zipD_len, enumD_len]; omega)
  | exact IntMulOk.of_right (intBits_le_64 (by omega) (by omega)) | exact IntMulOk.of_left (intBits_le_64 (by omega) (by omega))
  | (refine' Or.inl ⟨?_, ?_⟩ <;> omega) | (refine' Or.inr ⟨?_, ?_⟩ <;> omega)
  | (refine' ⟨?_, ?_⟩ <;> walk_at "jsd") | (refine' ⟨?_, ?_, ?_⟩ <;> walk_at "jsd") | (refine' ⟨?_, ?_, ?_, ?_⟩ <;> walk_at "jsd"))
local macro_rules | `(tactic| walk_at "jshp") => `(tactic| first | with_reducible assumption | (show SeqAt.shaped _ = true; first | assumption | decide))
local macro_rules | `(tactic| walk_at "jix") => `(tactic| first | with_reducible assumption | exact rfl)
local macro_rules | `(tactic| walk_at "jdrw") => `(tactic| exact ⟨by omega, Nat.lt_of_le_of_lt (Nat.log2_le_self _) (by omega)⟩)
local macro_rules | `(tactic| walk_at "jno") => `(tactic| first | exact ⟨trivial, by walk_at "jno"⟩ | exact ⟨rfl, by walk_at "jno"⟩ | exact trivial)
local macro_rules | `(tactic| walk_at "jno1") => `(tactic| (intro v_ m_; simp only [List.mem_cons, List.not_mem_nil, or_false] at m_; first | (subst m_; exact trivial) | (subst m_; exact rfl) | (rcases m_ with m_ | m_ <;> subst m_ <;> first | exact trivial | exact rfl) | (rcases m_ with m_ | m_ | m_ <;> subst m_ <;> first | exact trivial | exact rfl)))
local macro_rules | `(tactic| walk_at "jst0") => `(tactic| first
  | refine' Stp.imp ?_
  | ((with_reducible refine' x_PI2 ?e ?_); (case e => walk_at "jsd"))
  | ((with_reducible refine' x_ixAT (Vw.eq) ?e2 ?_); (case e2 => walk_at "jix"))
  | ((with_reducible refine' x_ixAL (Vw.eq) ?e2 ?_); (case e2 => walk_at "jix"))
  | ((with_reducible refine' x_RApp ?l ?_); (case l => walk_at "jsd"))
  | with_reducible refine' J_callN ?_
  | ((with_reducible refine' J_pool ?w ?e ?_); (case w => with_reducible assumption); (case e => with_reducible assumption))
  | ((with_reducible refine' J_callS ?w ?_); (case w => with_reducible assumption))
  | ((with_reducible refine' J_xw ?w ?_); (case w => with_reducible assumption))
  | ((with_reducible refine' J_isX ?w ?_); (case w => with_reducible assumption))
  | with_reducible refine' x_xwJ ?_
  | ((with_reducible refine' x_isX1 ?w ?_); (case w => with_reducible assumption))
  | ((with_reducible refine' x_isX2 ?w ?_); (case w => with_reducible assumption))
  | ((with_reducible refine' J_call ?w ?_); (case w => with_reducible assumption))
  | ((with_reducible refine' x_QDraw (SlotAt.eq) ?c ?_); (case c => walk_at "jdrw"))
  | ((with_reducible refine' x_QR1 ?c ?_); (case c => walk_at "jsd"))
  | ((with_reducible refine' x_QR2 ?c ?_); (case c => walk_at "jsd"))
  | ((with_reducible refine' x_addL (Vw.eq) (Vw.eq) ?c ?_); (case c => walk_at "jsd"))
  | ((with_reducible refine' x_addT (Vw.eq) (Vw.eq) ?c ?_); (case c => walk_at "jsd"))
  | ((with_reducible refine' x_addS' ?c ?_); (case c => walk_at "jsd"))
  | ((with_reducible refine' x_mulI ?c ?_); (case c => walk_at "jsd"))
  | ((with_reducible refine' x_mulL1 (Vw.eq) ?c ?_); (case c => walk_at "jsd"))
  | ((with_reducible refine' x_mulS ?c ?_); (case c => walk_at "jsd"))
  | ((with_reducible refine' x_isNj (Vw.eq) ?_))
  | ((with_reducible refine' x_notNj (Vw.eq) ?_))
  | ((with_reducible refine' x_eqA (Vw.eq) (Vw.eq) ?c ?d ?_); (case c => walk_at "jshp"); (case d => walk_at "jshp"))
  | ((with_reducible refine' x_neA (Vw.eq) (Vw.eq) ?c ?d ?_); (case c => walk_at "jshp"); (case d => walk_at "jshp"))
  | ((with_reducible refine' x_QIn (Vw.eq) ?e2 ?f ?g ?_); (case e2 => exact rfl); (case f => exact rfl); (case g => first | with_reducible assumption | exact rfl))
  | ((with_reducible refine' x_QInN (Vw.eq) ?e2 ?f ?g ?_); (case e2 => exact rfl); (case f => exact rfl); (case g => first | with_reducible assumption | exact rfl))
  | ((with_reducible refine' x_lenS' (Vw.eq) ?l ?_); (case l => walk_at "jsd"))
  | ((with_reducible refine' x_slS' ?l ?_); (case l => walk_at "jsd"))
  | with_reducible refine' J_raise (by with_reducible assumption) (by with_reducible assumption) ?_
  | with_reducible refine' x_X1 ?_
  | ((with_reducible refine' And.intro (a := RgOk _ _) ?c ?_); (case c => exact RgOk.of_le (by omega) (by omega) (by omega) (by omega))))
local macro_rules | `(tactic| walk_at "jite") => `(tactic| first
  | ((with_reducible refine' x_bT ?e ?_); (case e => first | exact rfl | decide | decide +kernel))
  | ((with_reducible refine' x_bF ?e ?_); (case e => first | exact rfl | decide | decide +kernel)))
local macro_rules | `(tactic| walk_at "jst") => `(tactic| walk_at "jst0")
local macro_rules | `(tactic| walk_at "jgo") => `(tactic| repeat first | walk_at "jst0" | walk_at "jite")
local macro_rules | `(tactic| walk_at "jgs") => `(tactic| repeat' first | walk_at "jst0" | walk_at "jite" | walk_at "ifs")
local macro_rules | `(tactic| walk_at "jk") => `(tactic| first | exact trivial | exact ⟨rfl, by walk_at "jk"⟩)
local macro_rules | `(tactic| walk_at "jwp") => `(tactic| exact ⟨rfl, by walk_at "jno1"⟩)
local macro_rules | `(tactic| walk_at "jif") => `(tactic| repeat ((fail_if_success (with_reducible show JS _ _ (tSeq (tIfS _ _ _) _) _ _)); first | walk_at "jst0" | walk_at "jite"))
local macro_rules | `(tactic| walk_at "jie") => `(tactic| repeat ((fail_if_success (with_reducible show J _ _ (tIf _ _ _) _ _)); first | walk_at "jst0" | walk_at "jite"))
local macro_rules | `(tactic| walk_at "nq") => `(tactic| decide +kernel)
local macro_rules | `(tactic| walk_at "nr") => `(tactic| decide +kernel)

section
variable {P : Program} {w : World} {K : PySem.W.Frag} {mg : Str → Option Value} {base : Heap}
def psp__law_log : PSp := fun ws Φ _ => ∃ a l P n r, ws = [.pool a l, .d (natD P), .d (natD n), .d (.bool r)] ∧ (1 ≤ P ∧ P ≤ 32 ∧ n ≤ 400) ∧ ∀ ds, Wf P ds → ds.length = n → Φ (.d (logD P ds))
theorem c_llog {a l : Addr} {P n : Nat} {r : Bool} {Φ : W → Prop} {Ξ : Addr → PyData → Prop} (h : 1 ≤ P ∧ P ≤ 32 ∧ n ≤ 400) (q : ∀ ds, Wf P ds → ds.length = n → Φ (.d (logD P ds))) : psp__law_log [.pool a l, .d (natD P), .d (natD n), .d (.bool r)] Φ Ξ := ⟨a, l, P, n, r, rfl, h, q⟩
theorem sc__law_log : FnScope ["pool", "pages", "deeds", "is_ringless", "rank", "rows", "thin", "turn", "page", "free", "other"] ["pool", "pages", "deeds", "is_ringless"] (defScope s__law_log) := ⟨rfl, rfl, rfl, by decide +kernel, rfl, by decide +kernel, by decide +kernel⟩
theorem ok__law_log (T : G K mg) : FnOk P w K mg base CX0 3 T.f__law_log T.d__law_log ["pool", "pages", "deeds", "is_ringless"] (SP K psp__law_log) := by
  refine T.F__law_log.ok sc__law_log (fun vs H Q E h => ?_) (fun cdv A outer s H vs Q E hr h => ?_)
  · exact SP.len h fun ws Φ Ξ hp => by obtain ⟨a, l, P, n, r, rfl, ⟨p1, p2, hn⟩, q⟩ := hp; rfl
  · have hu := hu_of hr
    have nd := sc__law_log.nd
    refine ⟨_, (pss_cons (ps_asg (pe_tup (pa_cons (pe_call (ok__law_turned T) (hr.mono (by decide)) rfl T.g__law_turned T.F__law_turned.kp T.b__law_turned .nil pass0 (pa_cons (pv 0) (pa_cons (pv 1) pa_nil))) (pa_cons (pe_lst pa_nil) (pa_cons (pe_op (r := rAddA K) op_addA pe_int (pe_call (ok__law_draw T) (hr.mono (by decide)) rfl T.g__law_draw T.F__law_draw.kp T.b__law_draw .nil pass0 (pa_cons (pv 0) (pa_cons pe_int pa_nil)))) pa_nil)))) (pg_tupK (K := K) (n := 3) rfl rfl (pgs_cons (pg_name (i := 4) nd rfl (Or.inr rfl)) (pgs_cons (pg_name (i := 5) nd rfl (Or.inl rfl)) (pgs_cons (pg_name (i := 6) nd rfl (Or.inr rfl)) pgs_nil)))))
        (pss_cons (ps_for PassesOwn.never rfl (pi_range1 rfl T.n_range (pa_cons (pv 2) pa_nil)) (pg_name (i := 7) nd rfl (Or.inl rfl)) (pss_cons (ps_set (i := 8) nd rfl (Or.inr rfl) (pe_call (ok__law_draw T) (hr.mono (by decide)) rfl T.g__law_draw T.F__law_draw.kp T.b__law_draw .nil pass0 (pa_cons (pv 0) (pa_cons (pv 1) pa_nil))))
        (pss_cons (ps_setLc (i := 9) (own := [("other", 10)]) (g := gName 10) rfl nd rfl rfl (sw_true rfl rfl rfl (by decide +kernel)) (pi_range1 rfl T.n_range (pa_cons (pv 1) pa_nil)) (blkOk_by (own := [("other", 10)]) (N := ["pool", "pages", "deeds", "is_ringless", "rank", "rows", "thin", "turn", "page", "free", "other"]) (sc := defScope s__law_log) (by decide +kernel)) (fun _ _ _ _ _ => (pg_name (i := 10) nd rfl (Or.inl rfl))) (fun _ _ _ _ _ => (pts_one (PW.pt (pw_and (pt_cmpR (r := rNeA K) (op_neA hr.units) (pv 10) (pv 8) (nomark _)) (pw_and1 (PW.pt (pw_or (pt_cmpR (r := rLtA K) op_ltA (pe_ix (r := rIx K) ix_seq (pv 4) (pv 10) (fun _ _ => rfl)) (pe_ix (r := rIx K) ix_seq (pv 4) (pv 8) (fun _ _ => rfl)) (nomark _)) (pw_or1 (pt_not (pt_val (pv 3))))))))))) (fun _ _ _ _ _ => (pv 10)))
        (pss_one (ps_expr (pe_bmK (K := K) rfl PySem.F.plainAttrs_list PySem.F.slot_list_append PySem.F.type_list_append mt_append (pv 5) (pa_cons (pe_tup (pa_cons (pv 8) (pa_cons (pe_callTy (r := rTupleOf K) call_tupleOf (by rfl) T.n_tuple (by decide +kernel) (pa_cons (pe_lc (own := [("other", 10)]) (g := gName 10) rfl nd (pi_anyK (K := K) rfl (pv 9)) (blkOk_by (own := [("other", 10)]) (N := ["pool", "pages", "deeds", "is_ringless", "rank", "rows", "thin", "turn", "page", "free", "other"]) (sc := defScope s__law_log) (by decide +kernel)) (fun _ _ _ _ _ => (pg_name (i := 10) nd rfl (Or.inl rfl))) (fun _ _ _ _ _ => (pts_one (pt_cmpR (r := rEqA K) (op_eqA hr.units) (pe_call (ok__law_draw T) (hr.mono (by decide)) rfl T.g__law_draw T.F__law_draw.kp T.b__law_draw .nil pass0 (pa_cons (pv 0) (pa_cons (pe_op (r := rAddA K) op_addA (pv 6) pe_int) pa_nil))) pe_int (nomark _)))) (fun _ _ _ _ _ => (pv 10))) pa_nil)) pa_nil))) pa_nil)))))))
        (pss_one (ps_ret (pe_tup (pa_cons (pv 1) (pa_cons (pe_callTy (r := rTupleOf K) call_tupleOf (by rfl) T.n_tuple (by decide +kernel) (pa_cons (pv 5) pa_nil)) pa_nil))))))), SP.run h fun ws Φ Ξ B hp hX => ?_⟩
    clear h
    obtain ⟨a, l, P, n, r, rfl, ⟨p1, p2, hn⟩, q⟩ := hp
    show JS K B _ [some (.pool a l), some (.d (natD P)), some (.d (natD n)), some (.d (.bool r)), none, none, none, none, none, none, none] _
    have hz := sizeLine_eq
    walk_at "jgo"
    refine c_turned (by omega) fun rank hr hb => ?_
    walk_at "jgo"
    intro d d0 d1
    obtain ⟨thin, rfl⟩ : ∃ m : Nat, d = (m : Int) := ⟨d.toNat, by omega⟩
    walk_at "jgo"
    rw [rgD_nats]
    refine x_QFor (fun i ρ => ∃ (v1 v2 v3 : Option W) (ds : List Deed), ρ = [some (.pool a l), some (.d (natD P)), some (.d (natD n)), some (.d (.bool r)), some (.l (natsD rank)), some (.l (ds.map deedD)), some (.d (.int (1 + (thin : Int)))), v1, v2, v3, none] ∧ ds.length = i ∧ ∀ d ∈ ds, WfD P d) ⟨none, none, none, [], rfl, rfl, by simp⟩ ?_ ?_
    · rintro i x ρ e ⟨v1, v2, v3, ds, rfl, h1, h2⟩
      obtain ⟨k, ek, rfl⟩ := natsD_get e
      have hi : i < n := by have := (List.getElem?_eq_some_iff.mp ek).1; simpa using this
      walk_at "jgo"
      intro d d0 d1
      obtain ⟨page, rfl⟩ : ∃ m : Nat, d = (m : Int) := ⟨d.toNat, by omega⟩
      have hp : page < P := by omega
      have ip := atI_nat (natsD_at (List.getElem?_eq_getElem (show page < rank.length by omega)))
      walk_at "jgo"
      refine x_LcSub (ns := List.range P) (fun z => z < P ∧ z ≠ page) (rgD_nats P) (by walk_at "jno") (by simp; omega) (fun o ho => ?_) fun zs hzs hzp => ?_
      · have hoP := List.mem_range.mp ho
        have io := atI_nat (natsD_at (List.getElem?_eq_getElem (show o < rank.length by omega)))
        walk_at "jgo"
        refine ⟨⟨rfl, by walk_at "jno1"⟩, ?_⟩
        walk_at "jgo"
        refine x_decN (fun z => ?_) (fun z => ?_)
        · have hne : o ≠ page := fun e => z (by rw [e])
          walk_at "jgo"
          refine x_dec (fun _ => ?_) (fun _ => ?_)
          · walk_at "jgo"
            refine ⟨⟨hoP, hne⟩, ?_⟩
            walk_at "jgo"
            exact ⟨rfl, by walk_at "jwp"⟩
          · walk_at "jgo"
            cases r with
            | true => walk_at "jgo"; walk_at "jwp"
            | false =>
              walk_at "jgo"
              refine ⟨⟨hoP, hne⟩, ?_⟩
              walk_at "jgo"
              exact ⟨rfl, by walk_at "jwp"⟩
        · walk_at "jgo"
          walk_at "jwp"
      · have hzl := hzs.length_le
        rw [List.length_range] at hzl
        walk_at "jgo"
        refine x_LcSub (ns := zs) (fun _ => True) rfl (by walk_at "jno") (by omega) (fun o ho => ?_) fun us hus _ => ?_
        · walk_at "jgo"
          refine ⟨by walk_at "jwp", ?_⟩
          walk_at "jgo"
          intro d d0 d1
          walk_at "jgo"
          refine x_dec (fun _ => ?_) (fun _ => ?_)
          · walk_at "jgo"
            refine ⟨trivial, ?_⟩
            walk_at "jgo"
            exact ⟨rfl, by walk_at "jwp"⟩
          · walk_at "jgo"
            walk_at "jwp"
        · walk_at "jgo"
          refine ⟨some (.d (natD k)), some (.d (natD page)), some (.d (.list (natsD zs))), ds ++ [(page, us)], by rw [List.map_append]; rfl, by simp [h1], fun d m => ?_⟩
          rcases List.mem_append.mp m with m | m
          · exact h2 d m
          · rw [List.mem_singleton.mp m]
            refine ⟨hp, fun r mr => hzp r (hus.subset mr), ?_⟩
            exact ((List.pairwise_lt_range (n := P)).sublist hzs).sublist hus
    · rintro ρ ⟨v1, v2, v3, ds, rfl, h1, h2⟩
      rw [natsD_len, List.length_range] at h1
      walk_at "jgo"
      exact ⟨q ds ⟨p1, p2, by omega, h2⟩ h1, by walk_at "jk"⟩
end
end WD

namespace WD
open PySem PySem.Spec PyProof.Rows L2
-- p ≠ q of two addresses
local macro_rules | `(tactic| walk_at "ne") => `(tactic| first
  | with_reducible assumption
  | with_reducible exact Ne.symm (by assumption)
  | exact ne_some (by with_reducible assumption) (by with_reducible assumption)
  | exact Ne.symm (ne_some (by with_reducible assumption) (by with_reducible assumption)))
local macro_rules | `(tactic| walk_at "nm") => `(tactic| first | with_reducible assumption | with_reducible exact nm0 | ((with_reducible refine' nmS ?a ?b); (case a => walk_at "ne"); (case b => walk_at "nm")))
-- H p = some ?o
local macro_rules | `(tactic| walk_at "hp") => `(tactic| first
  | with_reducible exact upd_same
  | with_reducible assumption
  | ((with_reducible refine' Eq.trans (upd_ne ?a) ?b); (case a => walk_at "ne"); (case b => walk_at "hp"))
  | exact Stay.keep (by with_reducible assumption) _ _ (by walk_at "hp") (by walk_at "nm"))
local macro_rules | `(tactic| walk_at "hpd") => `(tactic| ((refine' Eq.trans ?h ?e); (case h => walk_at "hp"); (case e => exact rfl)))
-- a new address
local macro_rules | `(tactic| walk_at "nw") => `(tactic| ((repeat first | (with_reducible refine' nw_upd ?_) | refine' nw_fr (by with_reducible assumption) ?_); intro p_; intros))
local macro_rules | `(tactic| walk_at "mem") => `(tactic| first | exact List.mem_cons_self | (refine' List.mem_cons_of_mem _ ?_; walk_at "mem"))
-- what stands stays
local macro_rules | `(tactic| walk_at "fr") => `(tactic| first
  | with_reducible assumption
  | exact Stay.refl _ _
  | ((with_reducible refine' Stay.upd ?a ?b); (case a => walk_at "fr"); (case b => walk_at "mem"))
  | ((with_reducible refine' Stay.new ?a ?b); (case b => with_reducible assumption); (case a => walk_at "fr"))
  | (refine' Stay.trans ?_ (by with_reducible assumption); walk_at "fr"))
local macro_rules | `(tactic| walk_at "sq") => `(tactic| first | with_reducible assumption | exact SqL.of (by walk_at "hp"))
local macro_rules | `(tactic| walk_at "sqt") => `(tactic| first | with_reducible assumption | exact SqT.of (by walk_at "hp"))
-- side goals
local macro_rules | `(tactic| walk_at "sd") => `(tactic| first
  | with_reducible assumption | with_reducible rfl | (show _ ≤ sizeLine; decide) | (refine Nat.le_trans (Nat.le_of_ble_eq_true (m := 1000) rfl) (by decide)) | decide | omega
  | exact IntMulOk.of_right (intBits_le_64 (by omega) (by omega)) | exact IntMulOk.of_left (intBits_le_64 (by omega) (by omega))
  | (refine' Or.inl ⟨?_, ?_⟩ <;> omega) | (refine' Or.inr ⟨?_, ?_⟩ <;> omega)
  | (refine' ⟨?_, ?_⟩ <;> walk_at "sd") | (refine' ⟨?_, ?_, ?_⟩ <;> walk_at "sd"))
local macro_rules | `(tactic| walk_at "set") => `(tactic| first | with_reducible exact set0 | with_reducible exact set1 | with_reducible exact set2 | with_reducible exact set3 | with_reducible exact set4 | with_reducible exact set5 | with_reducible exact set6 | with_reducible exact set7 | with_reducible exact set8 | with_reducible exact set9 | with_reducible exact set10 | with_reducible exact set11 | with_reducible exact set12 | with_reducible exact set13 | with_reducible exact set14 | with_reducible exact set15 | with_reducible exact set16 | with_reducible exact set17 | with_reducible exact set18 | with_reducible exact set19 | with_reducible exact set20)
-- one step
local macro_rules | `(tactic| walk_at "st0") => `(tactic| first
  | with_reducible refine' x_seq ?_
  | with_reducible refine' x_next ?_
  | with_reducible refine' x_ifS ?_
  | with_reducible refine' x_asg ?_
  | with_reducible refine' x_ret ?_
  | with_reducible refine' x_retN ?_
  | with_reducible refine' x_drop ?_
  | with_reducible refine' x_brk ?_
  | with_reducible refine' x_cont ?_
  | ((with_reducible refine' x_gName ?e ?_); (case e => walk_at "set"))
  | with_reducible refine' x_gSub ?_
  | with_reducible refine' x_gCons ?_
  | with_reducible refine' x_gNil ?_
  | with_reducible refine' x_c ?_
  | ((with_reducible refine' x_var ?e ?_); (case e => exact rfl))
  | with_reducible refine' x_op ?_
  | with_reducible refine' x_un ?_
  | with_reducible refine' x_if ?_
  | with_reducible refine' x_cb ?_
  | with_reducible refine' x_cons ?_
  | with_reducible refine' x_nil ?_
  | with_reducible refine' x_bm0 ?_
  | with_reducible refine' x_bm ?_
  | with_reducible refine' x_tup ?_
  | with_reducible refine' x_lst ?_
  | ((with_reducible refine' And.intro (a := _ ≤ sizeLine) ?e ?_); (case e => walk_at "sd"); walk_at "nw")
  | with_reducible refine' x_fld ?_
  | with_reducible refine' x_test ?_
  | with_reducible refine' x_tB ?_
  | with_reducible refine' x_and ?_
  | with_reducible refine' x_or ?_
  | with_reducible refine' x_not ?_
  | with_reducible refine' x_notV ?_
  | with_reducible refine' x_andV ?_
  | with_reducible refine' x_orV ?_
  | with_reducible refine' x_rI0 ?_
  | ((with_reducible refine' x_rI ?e ?_); (case e => walk_at "sd"))
  | with_reducible refine' x_rU ?_
  | ((with_reducible refine' x_rEq ?e ?_); (case e => exact rfl))
  | ((with_reducible refine' x_rNe ?e ?_); (case e => exact rfl))
  | ((with_reducible refine' x_ixL0 ?h ?_); (case h => walk_at "sq"))
  | ((with_reducible refine' x_ixL1 ?h ?_); (case h => walk_at "sq"))
  | ((with_reducible refine' x_ixL2 ?h ?_); (case h => walk_at "sq"))
  | ((with_reducible refine' x_ixL0I ?h ?_); (case h => walk_at "sq"))
  | ((with_reducible refine' x_ixL ?h ?e ?_); (case h => walk_at "sq"); (case e => exact rfl))
  | ((with_reducible refine' x_neNil ?h ?h2 ?_); (case h => walk_at "sq"); (case h2 => walk_at "sq"))
  | ((with_reducible refine' x_pop0I ?h ?_); (case h => walk_at "hp"))
  | ((with_reducible refine' x_pop0 ?h ?_); (case h => walk_at "hp"))
  | ((with_reducible refine' x_setL0 ?h ?_); (case h => walk_at "hp"))
  | ((with_reducible refine' x_setL1 ?h ?_); (case h => walk_at "hp"))
  | ((with_reducible refine' x_setL2 ?h ?_); (case h => walk_at "hp"))
  | ((with_reducible refine' x_setL ?h ?e ?_); (case h => walk_at "hp"); (case e => exact rfl))
  | with_reducible refine' .inl ⟨_, rfl, ?_⟩
  | ((with_reducible refine' x_tyL ?h ?_); (case h => walk_at "sq"))
  | with_reducible refine' ⟨_, rfl, ?_⟩)
-- a split
local macro_rules | `(tactic| walk_at "if") => `(tactic| (
  first
  | (with_reducible refine' x_dec (fun h_ => ?_) (fun h_ => ?_))
  | (with_reducible refine' x_decN (fun h_ => ?_) (fun h_ => ?_))
  | (with_reducible refine' x_boolN (fun h_ => ?_) (fun h_ => ?_))
  | (with_reducible refine' x_bool (fun h_ => ?_) (fun h_ => ?_))))
local macro_rules | `(tactic| walk_at "ifs") => `(tactic| (walk_at "if" <;> first
  | (exfalso; first | omega | contradiction)
  | (rename_i h_; (try simp only [BEq.rfl, List.length_map, List.length_cons, List.length_nil, Int.natCast_zero, Int.ofNat_zero, gt_iff_lt, Int.lt_irrefl, Bool.true_eq_false, Bool.false_eq_true, List.isEmpty_nil, List.isEmpty_cons, V.int.injEq, V.str.injEq, V.bl.injEq, reduceCtorEq, not_false_eq_true, not_true_eq_false] at h_); (try (exfalso; omega)))))
local macro_rules | `(tactic| walk_at "ite1") => `(tactic| first
  | with_reducible refine' x_T ?_
  | with_reducible refine' x_F ?_
  | with_reducible refine' x_nT ?_
  | with_reducible refine' x_nF ?_
  | ((with_reducible refine' x_bT ?e ?_); (case e => first | decide | decide +kernel))
  | ((with_reducible refine' x_bF ?e ?_); (case e => first | decide | decide +kernel)))
local macro_rules | `(tactic| walk_at "st") => `(tactic| ((fail_if_success (with_reducible (show (if _ then _ else _)))); walk_at "st0"))
local macro_rules | `(tactic| walk_at "go") => `(tactic| repeat first | walk_at "ite1" | walk_at "st")
local macro_rules | `(tactic| walk_at "gs") => `(tactic| repeat' first | walk_at "ite1" | walk_at "st" | walk_at "ifs")
local macro_rules | `(tactic| walk_at "jsd") => `(tactic| first
  | exact trivial | with_reducible assumption | with_reducible rfl | (show _ ≤ sizeLine; decide) | (refine Nat.le_trans (Nat.le_of_ble_eq_true (m := 1000) rfl) (by decide)) | decide | omega
  | (simp only [List.length_append, List.length_cons, List.length_nil, List.length_map, List.length_range, natsD_len, verL_len, tabXs_len, List.length_replicate, Int.toNat_natCast, rgD_len, List.length_take, List.length_drop, zipD_len, enumD_len]; omega)
  | exact IntMulOk.of_right (intBits_le_64 (by omega) (by omega)) | exact IntMulOk.of_left (intBits_le_64 (by omega) (by omega))
  | (refine' Or.inl ⟨?_, ?_⟩ <;> omega) | (refine' Or.inr ⟨?_, ?_⟩ <;> omega)
  | (refine' ⟨?_, ?_⟩ <;> walk_at "jsd") | (refine' ⟨?_, ?_, ?_⟩ <;> walk_at "jsd") | (refine' ⟨?_, ?_, ?_, ?_⟩ <;> walk_at "jsd"))
local macro_rules | `(tactic| walk_at "jshp") => `(tactic| first | with_reducible assumption | (show SeqAt.shaped _ = true; first | assumption | decide))
local macro_rules | `(tactic| walk_at "jix") => `(tactic| first | with_reducible assumption | exact rfl)
local macro_rules | `(tactic| walk_at "jdrw") => `(tactic| exact ⟨by omega, Nat.lt_of_le_of_lt (Nat.log2_le_self _) (by omega)⟩)
local macro_rules | `(tactic| walk_at "jno") => `(tactic| first | exact ⟨trivial, by walk_at "jno"⟩ | exact ⟨rfl, by walk_at "jno"⟩ | exact trivial)
local macro_rules | `(tactic| walk_at "jno1") => `(tactic| (intro v_ m_; simp only [List.mem_cons, List.not_mem_nil, or_false] at m_; first | (subst m_; exact trivial) | (subst m_; exact rfl) | (rcases m_ with m_ | m_ <;> subst m_ <;> first | exact trivial | exact rfl) | (rcases m_ with m_ | m_ | m_ <;> subst m_ <;> first | exact trivial | exact rfl)))
local macro_rules | `(tactic| walk_at "jst0") => `(tactic| first
  | refine' Stp.imp ?_
  | ((with_reducible refine' x_PI2 ?e ?_); (case e => walk_at "jsd"))
  | ((with_reducible refine' x_ixAT (Vw.eq) ?e2 ?_); (case e2 => walk_at "jix"))
  | ((with_reducible refine' x_ixAL (Vw.eq) ?e2 ?_); (case e2 => walk_at "jix"))
  | ((with_reducible refine' x_RApp ?l ?_); (case l => walk_at "jsd"))
  | with_reducible refine' J_callN ?_
  | ((with_reducible refine' J_pool ?w ?e ?_); (case w => with_reducible assumption); (case e => with_reducible assumption))
  | ((with_reducible refine' J_callS ?w ?_); (case w => with_reducible assumption))
  | ((with_reducible refine' J_xw ?w ?_); (case w => with_reducible assumption))
  | ((with_reducible refine' J_isX ?w ?_); (case w => with_reducible assumption))
  | with_reducible refine' x_xwJ ?_
  | ((with_reducible refine' x_isX1 ?w ?_); (case w => with_reducible assumption))
  | ((with_reducible refine' x_isX2 ?w ?_); (case w => with_reducible assumption))
  | ((with_reducible refine' J_call ?w ?_); (case w => with_reducible assumption))
  | ((with_reducible refine' x_QDraw (SlotAt.eq) ?c ?_); (case c => walk_at "jdrw"))
  | ((with_reducible refine' x_QR1 ?c ?_); (case c => walk_at "jsd"))
  | ((with_reducible refine' x_QR2 ?c ?_); (case c => walk_at "jsd"))
  | ((with_reducible refine' x_addL (Vw.eq) (Vw.eq) ?c ?_); (case c => walk_at "jsd"))
  | ((with_reducible refine' x_addT (Vw.eq) (Vw.eq) ?c ?_); (case c => walk_at "jsd"))
  | ((with_reducible refine' x_addS' ?c ?_); (case c => walk_at "jsd"))
  | ((with_reducible refine' x_mulI ?c ?_); (case c => walk_at "jsd"))
  | ((with_reducible refine' x_mulL1 (Vw.eq) ?c ?_); (case c => walk_at "jsd"))
  | ((with_reducible refine' x_mulS ?c ?_); (case c => walk_at "jsd"))
  | ((with_reducible refine' x_isNj (Vw.eq) ?_))
  | ((with_reducible refine' x_notNj (Vw.eq) ?_))
  | ((with_reducible refine' x_eqA (Vw.eq) (Vw.eq) ?c ?d ?_); (case c => walk_at "jshp"); (case d => walk_at "jshp"))
  | ((with_reducible refine' x_neA (Vw.eq) (Vw.eq) ?c ?d ?_); (case c => walk_at "jshp"); (case d => walk_at "jshp"))
  | ((with_reducible refine' x_QIn (Vw.eq) ?e2 ?f ?g ?_); (case e2 => exact rfl); (case f => exact rfl); (case g => first | with_reducible assumption | exact rfl))
  | ((with_reducible refine' x_QInN (Vw.eq) ?e2 ?f ?g ?_); (case e2 => exact rfl); (case f => exact rfl); (case g => first | with_reducible assumption | exact rfl))
  | ((with_reducible refine' x_lenS' (Vw.eq) ?l ?_); (case l => walk_at "jsd"))
  | ((with_reducible refine' x_slS' ?l ?_); (case l => walk_at "jsd"))
  | with_reducible refine' J_raise (by with_reducible assumption) (by with_reducible assumption) ?_
  | with_reducible refine' x_X1 ?_
  | ((with_reducible refine' And.intro (a := RgOk _ _) ?c ?_); (case c => exact RgOk.of_le (by omega) (by omega) (by omega) (by omega))))
local macro_rules | `(tactic| walk_at "jite") => `(tactic| first
  | ((with_reducible refine' x_bT ?e ?_); (case e => first | exact rfl | decide | decide +kernel))
  | ((with_reducible refine' x_bF ?e ?_); (case e => first | exact rfl | decide | decide +kernel)))
local macro_rules | `(tactic| walk_at "jst") => `(tactic| walk_at "jst0")
local macro_rules | `(tactic| walk_at "jgo") => `(tactic| repeat first | walk_at "jst0" | walk_at "jite")
local macro_rules | `(tactic| walk_at "jgs") => `(tactic| repeat' first | walk_at "jst0" | walk_at "jite" | walk_at "ifs")
local macro_rules | `(tactic| walk_at "jk") => `(tactic| first | exact trivial | exact ⟨rfl, by walk_at "jk"⟩)
local macro_rules | `(tactic| walk_at "jwp") => `(tactic| exact ⟨rfl, by walk_at "jno1"⟩)
local macro_rules | `(tactic| walk_at "jif") => `(tactic| repeat ((fail_if_success (with_reducible show JS _ _ (tSeq (tIfS _ _ _) _) _ _)); first | walk_at "jst0" | walk_at "jite"))
local macro_rules | `(tactic| walk_at "jie") => `(tactic| repeat ((fail_if_success (with_reducible show J _ _ (tIf _ _ _) _ _)); first | walk_at "jst0" | walk_at "jite"))
local macro_rules | `(tactic| walk_at "nq") => `(tactic| decide +kernel)
local macro_rules | `(tactic| walk_at "nr") => `(tactic| decide +kernel)

section
variable {P : Program} {w : World} {K : PySem.W.Frag} {mg : Str → Option Value} {base : Heap}
def psp__law_table : PSp := fun ws Φ _ => ∃ P ds, ws = [.d (logD P ds)] ∧ Wf P ds ∧ Φ (.l (tabXs P ds))
theorem c_table {P : Nat} {ds : List Deed} {Φ : W → Prop} {Ξ : Addr → PyData → Prop} (w : Wf P ds) (q : Φ (.l (tabXs P ds))) : psp__law_table [.d (logD P ds)] Φ Ξ := ⟨P, ds, rfl, w, q⟩
theorem set_split {α : Type} (xs : List α) (i : Nat) (x : α) (h : i < xs.length) : xs.take i ++ [x] ++ xs.drop (i + 1) = xs.set i x := by
  rw [List.set_eq_take_append_cons_drop, if_pos h]; simp
theorem sc__law_table : FnScope ["log", "row", "table", "page", "reads"] ["log"] (defScope s__law_table) := ⟨rfl, rfl, rfl, by decide +kernel, rfl, by decide +kernel, by decide +kernel⟩
theorem ok__law_table (T : G K mg) : FnOk P w K mg base CX0 1 T.f__law_table T.d__law_table ["log"] (SP K psp__law_table) := by
  refine T.F__law_table.ok sc__law_table (fun vs H Q E h => ?_) (fun cdv A outer s H vs Q E hr h => ?_)
  · exact SP.len h fun ws Φ Ξ hp => by obtain ⟨P, ds, rfl, wf, q⟩ := hp; rfl
  · have hu := hu_of hr
    have nd := sc__law_table.nd
    refine ⟨_, (pss_cons (ps_par (i := 1) (j := 2) (by rfl) nd rfl rfl (by decide) rfl rfl (pa_cons (pe_op (r := rMulA) op_mulA (pe_lst (pa_cons pe_int pa_nil)) (pe_ix (r := rIx K) ix_seq (pv 0) pe_int (fun _ _ => rfl))) (pa_cons (pe_lst pa_nil) pa_nil)) (by rfl))
        (pss_cons (ps_for PassesOwn.never rfl (pi_anyK (K := K) rfl (pe_ix (r := rIx K) ix_seq (pv 0) pe_int (fun _ _ => rfl))) (pg_tupK (K := K) (n := 2) rfl rfl (pgs_cons (pg_name (i := 3) nd rfl (Or.inl rfl)) (pgs_cons (pg_name (i := 4) nd rfl (Or.inl rfl)) pgs_nil))) (pss_cons (ps_expr (pe_bmK (K := K) rfl PySem.F.plainAttrs_list PySem.F.slot_list_append PySem.F.type_list_append mt_append (pv 2) (pa_cons (pv 1) pa_nil)))
        (pss_one (ps_set (i := 1) nd rfl (Or.inl rfl) (pe_op (r := rAddA K) op_addA (pe_op (r := rAddA K) op_addA (pe_slice (r := rSlU K) sl_any (pv 1) po_none (po_some (pv 3))) (pe_lst (pa_cons (pe_op (r := rAddA K) op_addA (pe_ix (r := rIx K) ix_seq (pv 1) (pv 3) (fun _ _ => rfl)) pe_int) pa_nil))) (pe_slice (r := rSlU K) sl_any (pv 1) (po_some (pe_op (r := rAddA K) op_addA (pv 3) pe_int)) po_none))))))
        (pss_one (ps_ret (pe_op (r := rAddA K) op_addA (pv 2) (pe_lst (pa_cons (pv 1) pa_nil))))))), SP.run h fun ws Φ Ξ B hp hX => ?_⟩
    clear h
    obtain ⟨P, ds, rfl, wf, q⟩ := hp
    show JS K B _ [some (.d (logD P ds)), none, none, none, none] _
    have hz := sizeLine_eq
    have p1 := wf.p1
    have p2 := wf.p2
    have p3 := wf.n
    walk_at "jgo"
    rw [Int.toNat_natCast, show List.replicate P (PyData.int 0) = natsD (verL P (ds.take 0)) from by rw [List.take_zero, verL_nil]; exact natsD_rep P 0]
    refine x_QFor (fun i ρ => ∃ v1 v2 : Option W, ρ = [some (.d (logD P ds)), some (.l (natsD (verL P (ds.take i)))), some (.l ((List.range i).map (rowD P ds))), v1, v2]) ⟨none, none, rfl⟩ ?_ ?_
    · rintro i x ρ e ⟨v1, v2, rfl⟩
      obtain ⟨d, ed, rfl⟩ := map_get e
      have hi := (List.getElem?_eq_some_iff.mp ed).1
      have hw := wf.d d (List.mem_of_getElem? ed)
      have hv := atI_nat (natsD_at (ver_at (ds := ds) (s := i) hw.pg))
      have hn := natsD_len (verL P (ds.take i))
      have hn2 := verL_len P (ds.take i)
      have c1 := cutD_len (natsD (verL P (ds.take i))) none (some (d.1 : Int))
      have c2 := cutD_len (natsD (verL P (ds.take i))) (some ((d.1 : Int) + 1)) none
      walk_at "jgo"
      refine ⟨some (.d (natD d.1)), some (.d (.tuple (natsD d.2))), ?_⟩
      have e1 : cutD (natsD (verL P (ds.take i))) none (some (d.1 : Int)) ++ [PyData.int ((ver ds i d.1 : Int) + 1)] ++ cutD (natsD (verL P (ds.take i))) (some ((d.1 : Int) + 1)) none = natsD (verL P (ds.take (i + 1))) := by
        rw [cutD_take, show (d.1 : Int) + 1 = ((d.1 + 1 : Nat) : Int) from rfl, cutD_drop, verL_step ed hw.pg, ← natsD_set]
        exact set_split _ _ _ (by have := hw.pg; omega)
      rw [e1, List.range_succ, List.map_append]
      rfl
    · rintro ρ ⟨v1, v2, rfl⟩
      rw [List.length_map, List.take_length]
      walk_at "jgo"
      refine ⟨?_, by walk_at "jk"⟩
      refine (show List.map (rowD P ds) (List.range ds.length) ++ [PyData.list (natsD (verL P ds))] = tabXs P ds from ?_) ▸ q
      unfold tabXs
      rw [List.range_succ, List.map_append]
      show _ = _ ++ [rowD P ds ds.length]
      unfold rowD
      rw [List.take_length]
end
end WD

namespace WD
open PySem PySem.Spec PyProof.Rows L2
-- p ≠ q of two addresses
local macro_rules | `(tactic| walk_at "ne") => `(tactic| first
  | with_reducible assumption
  | with_reducible exact Ne.symm (by assumption)
  | exact ne_some (by with_reducible assumption) (by with_reducible assumption)
  | exact Ne.symm (ne_some (by with_reducible assumption) (by with_reducible assumption)))
local macro_rules | `(tactic| walk_at "nm") => `(tactic| first | with_reducible assumption | with_reducible exact nm0 | ((with_reducible refine' nmS ?a ?b); (case a => walk_at "ne"); (case b => walk_at "nm")))
-- H p = some ?o
local macro_rules | `(tactic| walk_at "hp") => `(tactic| first
  | with_reducible exact upd_same
  | with_reducible assumption
  | ((with_reducible refine' Eq.trans (upd_ne ?a) ?b); (case a => walk_at "ne"); (case b => walk_at "hp"))
  | exact Stay.keep (by with_reducible assumption) _ _ (by walk_at "hp") (by walk_at "nm"))
local macro_rules | `(tactic| walk_at "hpd") => `(tactic| ((refine' Eq.trans ?h ?e); (case h => walk_at "hp"); (case e => exact rfl)))
-- a new address
local macro_rules | `(tactic| walk_at "nw") => `(tactic| ((repeat first | (with_reducible refine' nw_upd ?_) | refine' nw_fr (by with_reducible assumption) ?_); intro p_; intros))
local macro_rules | `(tactic| walk_at "mem") => `(tactic| first | exact List.mem_cons_self | (refine' List.mem_cons_of_mem _ ?_; walk_at "mem"))
-- what stands stays
local macro_rules | `(tactic| walk_at "fr") => `(tactic| first
  | with_reducible assumption
  | exact Stay.refl _ _
  | ((with_reducible refine' Stay.upd ?a ?b); (case a => walk_at "fr"); (case b => walk_at "mem"))
  | ((with_reducible refine' Stay.new ?a ?b); (case b => with_reducible assumption); (case a => walk_at "fr"))
  | (refine' Stay.trans ?_ (by with_reducible assumption); walk_at "fr"))
local macro_rules | `(tactic| walk_at "sq") => `(tactic| first | with_reducible assumption | exact SqL.of (by walk_at "hp"))
local macro_rules | `(tactic| walk_at "sqt") => `(tactic| first | with_reducible assumption | exact SqT.of (by walk_at "hp"))
-- side goals
local macro_rules | `(tactic| walk_at "sd") => `(tactic| first
  | with_reducible assumption | with_reducible rfl | (show _ ≤ sizeLine; decide) | (refine Nat.le_trans (Nat.le_of_ble_eq_true (m := 1000) rfl) (by decide)) | decide | omega
  | exact IntMulOk.of_right (intBits_le_64 (by omega) (by omega)) | exact IntMulOk.of_left (intBits_le_64 (by omega) (by omega))
  | (refine' Or.inl ⟨?_, ?_⟩ <;> omega) | (refine' Or.inr ⟨?_, ?_⟩ <;> omega)
  | (refine' ⟨?_, ?_⟩ <;> walk_at "sd") | (refine' ⟨?_, ?_, ?_⟩ <;> walk_at "sd"))
local macro_rules | `(tactic| walk_at "set") => `(tactic| first | with_reducible exact set0 | with_reducible exact set1 | with_reducible exact set2 | with_reducible exact set3 | with_reducible exact set4 | with_reducible exact set5 | with_reducible exact set6 | with_reducible exact set7 | with_reducible exact set8 | with_reducible exact set9 | with_reducible exact set10 | with_reducible exact set11 | with_reducible exact set12 | with_reducible exact set13 | with_reducible exact set14 | with_reducible exact set15 | with_reducible exact set16 | with_reducible exact set17 | with_reducible exact set18 | with_reducible exact set19 | with_reducible exact set20)
-- one step
local macro_rules | `(tactic| walk_at "st0") => `(tactic| first
  | with_reducible refine' x_seq ?_
  | with_reducible refine' x_next ?_
  | with_reducible refine' x_ifS ?_
  | with_reducible refine' x_asg ?_
  | with_reducible refine' x_ret ?_
  | with_reducible refine' x_retN ?_
  | with_reducible refine' x_drop ?_
  | with_reducible refine' x_brk ?_
  | with_reducible refine' x_cont ?_
  | ((with_reducible refine' x_gName ?e ?_); (case e => walk_at "set"))
  | with_reducible refine' x_gSub ?_
  | with_reducible refine' x_gCons ?_
  | with_reducible refine' x_gNil ?_
  | with_reducible refine' x_c ?_
  | ((with_reducible refine' x_var ?e ?_); (case e => exact rfl))
  | with_reducible refine' x_op ?_
  | with_reducible refine' x_un ?_
  | with_reducible refine' x_if ?_
  | with_reducible refine' x_cb ?_
  | with_reducible refine' x_cons ?_
  | with_reducible refine' x_nil ?_
  | with_reducible refine' x_bm0 ?_
  | with_reducible refine' x_bm ?_
  | with_reducible refine' x_tup ?_
  | with_reducible refine' x_lst ?_
  | ((with_reducible refine' And.intro (a := _ ≤ sizeLine) ?e ?_); (case e => walk_at "sd"); walk_at "nw")
  | with_reducible refine' x_fld ?_
  | with_reducible refine' x_test ?_
  | with_reducible refine' x_tB ?_
  | with_reducible refine' x_and ?_
  | with_reducible refine' x_or ?_
  | with_reducible refine' x_not ?_
  | with_reducible refine' x_notV ?_
  | with_reducible refine' x_andV ?_
  | with_reducible refine' x_orV ?_
  | with_reducible refine' x_rI0 ?_
  | ((with_reducible refine' x_rI ?e ?_); (case e => walk_at "sd"))
  | with_reducible refine' x_rU ?_
  | ((with_reducible refine' x_rEq ?e ?_); (case e => exact rfl))
  | ((with_reducible refine' x_rNe ?e ?_); (case e => exact rfl))
  | ((with_reducible refine' x_ixL0 ?h ?_); (case h => walk_at "sq"))
  | ((with_reducible refine' x_ixL1 ?h ?_); (case h => walk_at "sq"))
  | ((with_reducible refine' x_ixL2 ?h ?_); (case h => walk_at "sq"))
  | ((with_reducible refine' x_ixL0I ?h ?_); (case h => walk_at "sq"))
  | ((with_reducible refine' x_ixL ?h ?e ?_); (case h => walk_at "sq"); (case e => exact rfl))
  | ((with_reducible refine' x_neNil ?h ?h2 ?_); (case h => walk_at "sq"); (case h2 => walk_at "sq"))
  | ((with_reducible refine' x_pop0I ?h ?_); (case h => walk_at "hp"))
  | ((with_reducible refine' x_pop0 ?h ?_); (case h => walk_at "hp"))
  | ((with_reducible refine' x_setL0 ?h ?_); (case h => walk_at "hp"))
  | ((with_reducible refine' x_setL1 ?h ?_); (case h => walk_at "hp"))
  | ((with_reducible refine' x_setL2 ?h ?_); (case h => walk_at "hp"))
  | ((with_reducible refine' x_setL ?h ?e ?_); (case h => walk_at "hp"); (case e => exact rfl))
  | with_reducible refine' .inl ⟨_, rfl, ?_⟩
  | ((with_reducible refine' x_tyL ?h ?_); (case h => walk_at "sq"))
  | with_reducible refine' ⟨_, rfl, ?_⟩)
-- a split
local macro_rules | `(tactic| walk_at "if") => `(tactic| (
  first
  | (with_reducible refine' x_dec (fun h_ => ?_) (fun h_ => ?_))
  | (with_reducible refine' x_decN (fun h_ => ?_) (fun h_ => ?_))
  | (with_reducible refine' x_boolN (fun h_ => ?_) (fun h_ => ?_))
  | (with_reducible refine' x_bool (fun h_ => ?_) (fun h_ => ?_))))
local macro_rules | `(tactic| walk_at "ifs") => `(tactic| (walk_at "if" <;> first
  | (exfalso; first | omega | contradiction)
  | (rename_i h_; (try simp only [BEq.rfl, List.length_map, List.length_cons, List.length_nil, Int.natCast_zero, Int.ofNat_zero, gt_iff_lt, Int.lt_irrefl, Bool.true_eq_false, Bool.false_eq_true, List.isEmpty_nil, List.isEmpty_cons, V.int.injEq, V.str.injEq, V.bl.injEq, reduceCtorEq, not_false_eq_true, not_true_eq_false] at h_); (try (exfalso; omega)))))
local macro_rules | `(tactic| walk_at "ite1") => `(tactic| first
  | with_reducible refine' x_T ?_
  | with_reducible refine' x_F ?_
  | with_reducible refine' x_nT ?_
  | with_reducible refine' x_nF ?_
  | ((with_reducible refine' x_bT ?e ?_); (case e => first | decide | decide +kernel))
  | ((with_reducible refine' x_bF ?e ?_); (case e => first | decide | decide +kernel)))
local macro_rules | `(tactic| walk_at "st") => `(tactic| ((fail_if_success (with_reducible (show (if _ then _ else _)))); walk_at "st0"))
local macro_rules | `(tactic| walk_at "go") => `(tactic| repeat first | walk_at "ite1" | walk_at "st")
local macro_rules | `(tactic| walk_at "gs") => `(tactic| repeat' first | walk_at "ite1" | walk_at "st" | walk_at "ifs")
local macro_rules | `(tactic| walk_at "jsd") => `(tactic| first
  | exact trivial | with_reducible assumption | with_reducible rfl | (show _ ≤ sizeLine; decide) | (refine Nat.le_trans (Nat.le_of_ble_eq_true (m := 1000) rfl) (by decide)) | decide | omega
  | (simp only [List.length_append, List.length_cons, List.length_nil, List.length_map, List.length_range, natsD_len, verL_len, tabXs_len, List.length_replicate, Int.toNat_natCast, rgD_len, List.length_take, List.length_drop, zipD_len, enumD_len]; omega)
  | exact IntMulOk.of_right (intBits_le_64 (by omega) (by omega)) | exact IntMulOk.of_left (intBits_le_64 (by omega) (by omega))
  | (refine' Or.inl ⟨?_, ?_⟩ <;> omega) | (refine' Or.inr ⟨?_, ?_⟩ <;> omega)
  | (refine' ⟨?_, ?_⟩ <;> walk_at "jsd") | (refine' ⟨?_, ?_, ?_⟩ <;> walk_at "jsd") | (refine' ⟨?_, ?_, ?_, ?_⟩ <;> walk_at "jsd"))
local macro_rules | `(tactic| walk_at "jshp") => `(tactic| first | with_reducible assumption | (show SeqAt.shaped _ = true; first | assumption | decide))
local macro_rules | `(tactic| walk_at "jix") => `(tactic| first | with_reducible assumption | exact rfl)
local macro_rules | `(tactic| walk_at "jdrw") => `(tactic| exact ⟨by omega, Nat.lt_of_le_of_lt (Nat.log2_le_self _) (by omega)⟩)
local macro_rules | `(tactic| walk_at "jno") => `(tactic| first | exact ⟨trivial, by walk_at "jno"⟩ | exact ⟨rfl, by walk_at "jno"⟩ | exact trivial)
local macro_rules | `(tactic| walk_at "jno1") => `(tactic| (intro v_ m_; simp only [List.mem_cons, List.not_mem_nil, or_false] at m_; first | (subst m_; exact trivial) | (subst m_; exact rfl) | (rcases m_ with m_ | m_ <;> subst m_ <;> first | exact trivial | exact rfl) | (rcases m_ with m_ | m_ | m_ <;> subst m_ <;> first | exact trivial | exact rfl)))
local macro_rules | `(tactic| walk_at "jst0") => `(tactic| first
  | refine' Stp.imp ?_
  | ((with_reducible refine' x_PI2 ?e ?_); (case e => walk_at "jsd"))
  | ((with_reducible refine' x_ixAT (Vw.eq) ?e2 ?_); (case e2 => walk_at "jix"))
  | ((with_reducible refine' x_ixAL (Vw.eq) ?e2 ?_); (case e2 => walk_at "jix"))
  | ((with_reducible refine' x_RApp ?l ?_); (case l => walk_at "jsd"))
  | with_reducible refine' J_callN ?_
  | ((with_reducible refine' J_pool ?w ?e ?_); (case w => with_reducible assumption); (case e => with_reducible assumption))
  | ((with_reducible refine' J_callS ?w ?_); (case w => with_reducible assumption))
  | ((with_reducible refine' J_xw ?w ?_); (case w => with_reducible assumption))
  | ((with_reducible refine' J_isX ?w ?_); (case w => with_reducible assumption))
  | with_reducible refine' x_xwJ ?_
  | ((with_reducible refine' x_isX1 ?w ?_); (case w => with_reducible assumption))
  | ((with_reducible refine' x_isX2 ?w ?_); (case w => with_reducible assumption))
  | ((with_reducible refine' J_call ?w ?_); (case w => with_reducible assumption))
  | ((with_reducible refine' x_QDraw (SlotAt.eq) ?c ?_); (case c => walk_at "jdrw"))
  | ((with_reducible refine' x_QR1 ?c ?_); (case c => walk_at "jsd"))
  | ((with_reducible refine' x_QR2 ?c ?_); (case c => walk_at "jsd"))
  | ((with_reducible refine' x_addL (Vw.eq) (Vw.eq) ?c ?_); (case c => walk_at "jsd"))
  | ((with_reducible refine' x_addT (Vw.eq) (Vw.eq) ?c ?_); (case c => walk_at "jsd"))
  | ((with_reducible refine' x_addS' ?c ?_); (case c => walk_at "jsd"))
  | ((with_reducible refine' x_mulI ?c ?_); (case c => walk_at "jsd"))
  | ((with_reducible refine' x_mulL1 (Vw.eq) ?c ?_); (case c => walk_at "jsd"))
  | ((with_reducible refine' x_mulS ?c ?_); (case c => walk_at "jsd"))
  | ((with_reducible refine' x_isNj (Vw.eq) ?_))
  | ((with_reducible refine' x_notNj (Vw.eq) ?_))
  | ((with_reducible refine' x_eqA (Vw.eq) (Vw.eq) ?c ?d ?_); (case c => walk_at "jshp"); (case d => walk_at "jshp"))
  | ((with_reducible refine' x_neA (Vw.eq) (Vw.eq) ?c ?d ?_); (case c => walk_at "jshp"); (case d => walk_at "jshp"))
  | ((with_reducible refine' x_QIn (Vw.eq) ?e2 ?f ?g ?_); (case e2 => exact rfl); (case f => exact rfl); (case g => first | with_reducible assumption | exact rfl))
  | ((with_reducible refine' x_QInN (Vw.eq) ?e2 ?f ?g ?_); (case e2 => exact rfl); (case f => exact rfl); (case g => first | with_reducible assumption | exact rfl))
  | ((with_reducible refine' x_lenS' (Vw.eq) ?l ?_); (case l => walk_at "jsd"))
  | ((with_reducible refine' x_slS' ?l ?_); (case l => walk_at "jsd"))
  | with_reducible refine' J_raise (by with_reducible assumption) (by with_reducible assumption) ?_
  | with_reducible refine' x_X1 ?_
  | ((with_reducible refine' And.intro (a := RgOk _ _) ?c ?_); (case c => exact RgOk.of_le (by omega) (by omega) (by omega) (by omega))))
local macro_rules | `(tactic| walk_at "jite") => `(tactic| first
  | ((with_reducible refine' x_bT ?e ?_); (case e => first | exact rfl | decide | decide +kernel))
  | ((with_reducible refine' x_bF ?e ?_); (case e => first | exact rfl | decide | decide +kernel)))
local macro_rules | `(tactic| walk_at "jst") => `(tactic| walk_at "jst0")
local macro_rules | `(tactic| walk_at "jgo") => `(tactic| repeat first | walk_at "jst0" | walk_at "jite")
local macro_rules | `(tactic| walk_at "jgs") => `(tactic| repeat' first | walk_at "jst0" | walk_at "jite" | walk_at "ifs")
local macro_rules | `(tactic| walk_at "jk") => `(tactic| first | exact trivial | exact ⟨rfl, by walk_at "jk"⟩)
local macro_rules | `(tactic| walk_at "jwp") => `(tactic| exact ⟨rfl, by walk_at "jno1"⟩)
local macro_rules | `(tactic| walk_at "jif") => `(tactic| repeat ((fail_if_success (with_reducible show JS _ _ (tSeq (tIfS _ _ _) _) _ _)); first | walk_at "jst0" | walk_at "jite"))
local macro_rules | `(tactic| walk_at "jie") => `(tactic| repeat ((fail_if_success (with_reducible show J _ _ (tIf _ _ _) _ _)); first | walk_at "jst0" | walk_at "jite"))
local macro_rules | `(tactic| walk_at "nq") => `(tactic| decide +kernel)
local macro_rules | `(tactic| walk_at "nr") => `(tactic| decide +kernel)

section
variable {P : Program} {w : World} {K : PySem.W.Frag} {mg : Str → Option Value} {base : Heap}
def psp__law_image : PSp := fun ws Φ _ => ∃ a l P ds lost, ws = [.pool a l, .d (logD P ds), .d (tabD P ds), .d (natD lost)] ∧ (Wf P ds ∧ lost ≤ 1000) ∧ ∀ img, ImgOk P ds img → Φ (.d (.tuple (List.map optD img)))
theorem c_image {a l : Addr} {P lost : Nat} {ds : List Deed} {Φ : W → Prop} {Ξ : Addr → PyData → Prop} (h : Wf P ds ∧ lost ≤ 1000) (q : ∀ img, ImgOk P ds img → Φ (.d (.tuple (List.map optD img)))) : psp__law_image [.pool a l, .d (logD P ds), .d (tabD P ds), .d (natD lost)] Φ Ξ := ⟨a, l, P, ds, lost, rfl, h, q⟩
theorem sc__law_image : FnScope ["pool", "log", "table", "lost", "newest", "row", "way", "image", "page", "version"] ["pool", "log", "table", "lost"] (defScope s__law_image) := ⟨rfl, rfl, rfl, by decide +kernel, rfl, by decide +kernel, by decide +kernel⟩
theorem ok__law_image (T : G K mg) : FnOk P w K mg base CX0 2 T.f__law_image T.d__law_image ["pool", "log", "table", "lost"] (SP K psp__law_image) := by
  refine T.F__law_image.ok sc__law_image (fun vs H Q E h => ?_) (fun cdv A outer s H vs Q E hr h => ?_)
  · exact SP.len h fun ws Φ Ξ hp => by obtain ⟨a, l, P, ds, lost, rfl, ⟨wf, hlost⟩, q⟩ := hp; rfl
  · have hu := hu_of hr
    have nd := sc__law_image.nd
    refine ⟨_, (pss_cons (ps_par3 (i := 4) (j := 5) (l := 6) (by rfl) nd rfl rfl rfl (by decide) (by decide) (by decide) rfl rfl rfl (pa_cons (pe_ix (r := rIx K) ix_seq (pv 2) (pe_un un_neg pe_int) (fun _ _ => rfl)) (pa_cons (pe_ix (r := rIx K) ix_seq (pv 2) (pe_call (ok__law_draw T) (hr.mono (by decide)) rfl T.g__law_draw T.F__law_draw.kp T.b__law_draw .nil pass0 (pa_cons (pv 0) (pa_cons (pe_callB (r := rLenA K) call_lenA (by rfl) T.n_len PySem.boot_len (pa_cons (pv 2) pa_nil)) pa_nil))) (fun _ _ => rfl)) (pa_cons (pe_call (ok__law_draw T) (hr.mono (by decide)) rfl T.g__law_draw T.F__law_draw.kp T.b__law_draw .nil pass0 (pa_cons (pv 0) (pa_cons pe_int pa_nil))) pa_nil))) (by rfl))
        (pss_cons (ps_set (i := 7) nd rfl (Or.inl rfl) (pe_lst pa_nil))
        (pss_cons (ps_for PassesOwn.never rfl (pi_range1 rfl T.n_range (pa_cons (pe_ix (r := rIx K) ix_seq (pv 1) pe_int (fun _ _ => rfl)) pa_nil)) (pg_name (i := 8) nd rfl (Or.inl rfl)) (pss_cons (ps_set (i := 9) nd rfl (Or.inl rfl) (pe_call (ok__law_draw T) (hr.mono (by decide)) rfl T.g__law_draw T.F__law_draw.kp T.b__law_draw .nil pass0 (pa_cons (pv 0) (pa_cons (pe_op (r := rAddA K) op_addA (pe_ix (r := rIx K) ix_seq (pv 4) (pv 8) (fun _ _ => rfl)) pe_int) pa_nil))))
        (pss_cons (ps_if (PW.pt (pw_and (pt_cmpR (r := rGtA K) op_gtA (pv 6) pe_int (nomark _)) (pw_and1 (pt_cmpR (r := rGtA K) op_gtA (pe_call (ok__law_draw T) (hr.mono (by decide)) rfl T.g__law_draw T.F__law_draw.kp T.b__law_draw .nil pass0 (pa_cons (pv 0) (pa_cons pe_int pa_nil))) pe_int (nomark _))))) (pss_one (ps_set (i := 9) nd rfl (Or.inl rfl) (pe_ix (r := rIx K) ix_seq (pv 5) (pv 8) (fun _ _ => rfl)))) pss_nil)
        (pss_one (ps_expr (pe_bmK (K := K) rfl PySem.F.plainAttrs_list PySem.F.slot_list_append PySem.F.type_list_append mt_append (pv 7) (pa_cons (pe_ifExp (PW.pt (pw_and (pt_cmpR (r := rGtA K) op_gtA (pv 3) pe_int (nomark _)) (pw_and1 (pt_cmpR (r := rEqA K) (op_eqA hr.units) (pe_call (ok__law_draw T) (hr.mono (by decide)) rfl T.g__law_draw T.F__law_draw.kp T.b__law_draw .nil pass0 (pa_cons (pv 0) (pa_cons (pv 3) pa_nil))) pe_int (nomark _))))) pe_non (pv 9)) pa_nil)))))))
        (pss_one (ps_ret (pe_callTy (r := rTupleOf K) call_tupleOf (by rfl) T.n_tuple (by decide +kernel) (pa_cons (pv 7) pa_nil))))))), SP.run h fun ws Φ Ξ B hp hX => ?_⟩
    clear h
    obtain ⟨a, l, P, ds, lost, rfl, ⟨wf, hlost⟩, q⟩ := hp
    show JS K B _ [some (.pool a l), some (.d (logD P ds)), some (.d (tabD P ds)), some (.d (natD lost)), none, none, none, none, none, none] _
    have hz := sizeLine_eq
    have p1 := wf.p1
    have p2 := wf.p2
    have p3 := wf.n
    have t1 := tab_last P ds
    have t2 := tabXs_len P ds
    walk_at "jgo"
    intro d d0 d1
    obtain ⟨s, rfl⟩ : ∃ m : Nat, d = (m : Int) := ⟨d.toNat, by omega⟩
    have hs : s ≤ ds.length := by omega
    have t3 := tab_at (P := P) hs
    walk_at "jgo"
    intro way w0 w1
    walk_at "jgo"
    rw [rgD_nats]
    refine x_QFor (fun i ρ => ∃ (v1 v2 : Option W) (img : List (Option Nat)), ρ = [some (.pool a l), some (.d (logD P ds)), some (.d (tabD P ds)), some (.d (natD lost)), some (.d (.list (natsD (verL P ds)))), some (.d (.list (natsD (verL P (ds.take s))))), some (.d (.int way)), some (.l (img.map optD)), v1, v2] ∧ img.length = i ∧ ∀ p v, img[p]? = some (some v) → v ≤ ver ds ds.length p) ⟨none, none, [], rfl, rfl, by simp⟩ ?_ ?_
    · rintro i x ρ e ⟨v1, v2, img, rfl, h1, h2⟩
      obtain ⟨k, ek, rfl⟩ := natsD_get e
      have hi : i < P := by have := (List.getElem?_eq_some_iff.mp ek).1; simpa using this
      have hk : k = i := by rw [List.getElem?_range hi] at ek; cases ek; rfl
      subst hk
      have n1 := atI_nat (natsD_at (verF_at (ds := ds) hi))
      have n2 := atI_nat (natsD_at (ver_at (ds := ds) (s := s) hi))
      have n3 := ver_le2 ds ds.length k
      have n4 := ver_top ds s k
      walk_at "jgo"
      intro d d0 d1
      obtain ⟨v, rfl⟩ : ∃ m : Nat, d = (m : Int) := ⟨d.toNat, by omega⟩
      have hv : v ≤ ver ds ds.length k := by omega
      walk_at "jif"
      refine J_cutS (fun ρ => ∃ v : Nat, v ≤ ver ds ds.length k ∧ ρ = [some (.pool a l), some (.d (logD P ds)), some (.d (tabD P ds)), some (.d (natD lost)), some (.d (.list (natsD (verL P ds)))), some (.d (.list (natsD (verL P (ds.take s))))), some (.d (.int way)), some (.l (img.map optD)), some (.d (natD k)), some (.d (natD v))]) ?_ ?_
      · walk_at "jgo"
        refine x_dec (fun _ => ?_) (fun _ => ?_)
        · walk_at "jgo"
          intro d d0 d1
          walk_at "jgo"
          refine x_dec (fun _ => ?_) (fun _ => ?_)
          · walk_at "jgo"
            exact ⟨_, n4, rfl⟩
          · walk_at "jgo"
            exact ⟨_, hv, rfl⟩
        · walk_at "jgo"
          exact ⟨_, hv, rfl⟩
      · rintro ρ ⟨v, hv, rfl⟩
        have fin : ∀ o : Option Nat, (∀ u, o = some u → u ≤ ver ds ds.length k) → (img ++ [o]).length = k + 1 ∧ ∀ p u, (img ++ [o])[p]? = some (some u) → u ≤ ver ds ds.length p := by
          intro o ho
          refine ⟨by simp [h1], fun p u e => ?_⟩
          by_cases hp : p < img.length
          · rw [List.getElem?_append_left hp] at e; exact h2 p u e
          · have hl : p < (img ++ [o]).length := (List.getElem?_eq_some_iff.mp e).1
            rw [List.length_append, List.length_singleton] at hl
            have : p = img.length := by omega
            subst this
            rw [List.getElem?_append_right (Nat.le_refl _), Nat.sub_self] at e
            cases e
            rw [h1]; exact ho u rfl
        have hlen : (img.map optD).length = k := by rw [List.length_map]; exact h1
        walk_at "jgo"
        refine x_dec (fun _ => ?_) (fun _ => ?_)
        · walk_at "jgo"
          intro d d0 d1
          walk_at "jgo"
          refine x_dec (fun _ => ?_) (fun _ => ?_)
          · walk_at "jgo"
            exact ⟨_, _, img ++ [none], by rw [List.map_append]; rfl, fin none (by simp)⟩
          · walk_at "jgo"
            exact ⟨_, _, img ++ [some v], by rw [List.map_append]; rfl, fin (some v) (fun u e => by cases e; exact hv)⟩
        · walk_at "jgo"
          exact ⟨_, _, img ++ [some v], by rw [List.map_append]; rfl, fin (some v) (fun u e => by cases e; exact hv)⟩
    · rintro ρ ⟨v1, v2, img, rfl, h1, h2⟩
      rw [natsD_len, List.length_range] at h1
      walk_at "jgo"
      exact ⟨q img ⟨h1, h2⟩, by walk_at "jk"⟩
end
end WD

namespace WD
open PySem PySem.Spec PyProof.Rows L2
-- p ≠ q of two addresses
local macro_rules | `(tactic| walk_at "ne") => `(tactic| first
  | with_reducible assumption
  | with_reducible exact Ne.symm (by assumption)
  | exact ne_some (by with_reducible assumption) (by with_reducible assumption)
  | exact Ne.symm (ne_some (by with_reducible assumption) (by with_reducible assumption)))
local macro_rules | `(tactic| walk_at "nm") => `(tactic| first | with_reducible assumption | with_reducible exact nm0 | ((with_reducible refine' nmS ?a ?b); (case a => walk_at "ne"); (case b => walk_at "nm")))
-- H p = some ?o
local macro_rules | `(tactic| walk_at "hp") => `(tactic| first
  | with_reducible exact upd_same
  | with_reducible assumption
  | ((with_reducible refine' Eq.trans (upd_ne ?a) ?b); (case a => walk_at "ne"); (case b => walk_at "hp"))
  | exact Stay.keep (by with_reducible assumption) _ _ (by walk_at "hp") (by walk_at "nm"))
local macro_rules | `(tactic| walk_at "hpd") => `(tactic| ((refine' Eq.trans ?h ?e); (case h => walk_at "hp"); (case e => exact rfl)))
-- a new address
local macro_rules | `(tactic| walk_at "nw") => `(tactic| ((repeat first | (with_reducible refine' nw_upd ?_) | refine' nw_fr (by with_reducible assumption) ?_); intro p_; intros))
local macro_rules | `(tactic| walk_at "mem") => `(tactic| first | exact List.mem_cons_self | (refine' List.mem_cons_of_mem _ ?_; walk_at "mem"))
-- what stands stays
local macro_rules | `(tactic| walk_at "fr") => `(tactic| first
  | with_reducible assumption
  | exact Stay.refl _ _
  | ((with_reducible refine' Stay.upd ?a ?b); (case a => walk_at "fr"); (case b => walk_at "mem"))
  | ((with_reducible refine' Stay.new ?a ?b); (case b => with_reducible assumption); (case a => walk_at "fr"))
  | (refine' Stay.trans ?_ (by with_reducible assumption); walk_at "fr"))
local macro_rules | `(tactic| walk_at "sq") => `(tactic| first | with_reducible assumption | exact SqL.of (by walk_at "hp"))
local macro_rules | `(tactic| walk_at "sqt") => `(tactic| first | with_reducible assumption | exact SqT.of (by walk_at "hp"))
-- side goals
local macro_rules | `(tactic| walk_at "sd") => `(tactic| first
  | with_reducible assumption | with_reducible rfl | (show _ ≤ sizeLine; decide) | (refine Nat.le_trans (Nat.le_of_ble_eq_true (m := 1000) rfl) (by decide)) | decide | omega
  | exact IntMulOk.of_right (intBits_le_64 (by omega) (by omega)) | exact IntMulOk.of_left (intBits_le_64 (by omega) (by omega))
  | (refine' Or.inl ⟨?_, ?_⟩ <;> omega) | (refine' Or.inr ⟨?_, ?_⟩ <;> omega)
  | (refine' ⟨?_, ?_⟩ <;> walk_at "sd") | (refine' ⟨?_, ?_, ?_⟩ <;> walk_at "sd"))
local macro_rules | `(tactic| walk_at "set") => `(tactic| first | with_reducible exact set0 | with_reducible exact set1 | with_reducible exact set2 | with_reducible exact set3 | with_reducible exact set4 | with_reducible exact set5 | with_reducible exact set6 | with_reducible exact set7 | with_reducible exact set8 | with_reducible exact set9 | with_reducible exact set10 | with_reducible exact set11 | with_reducible exact set12 | with_reducible exact set13 | with_reducible exact set14 | with_reducible exact set15 | with_reducible exact set16 | with_reducible exact set17 | with_reducible exact set18 | with_reducible exact set19 | with_reducible exact set20)
-- one step
local macro_rules | `(tactic| walk_at "st0") => `(tactic| first
  | with_reducible refine' x_seq ?_
  | with_reducible refine' x_next ?_
  | with_reducible refine' x_ifS ?_
  | with_reducible refine' x_asg ?_
  | with_reducible refine' x_ret ?_
  | with_reducible refine' x_retN ?_
  | with_reducible refine' x_drop ?_
  | with_reducible refine' x_brk ?_
  | with_reducible refine' x_cont ?_
  | ((with_reducible refine' x_gName ?e ?_); (case e => walk_at "set"))
  | with_reducible refine' x_gSub ?_
  | with_reducible refine' x_gCons ?_
  | with_reducible refine' x_gNil ?_
  | with_reducible refine' x_c ?_
  | ((with_reducible refine' x_var ?e ?_); (case e => exact rfl))
  | with_reducible refine' x_op ?_
  | with_reducible refine' x_un ?_
  | with_reducible refine' x_if ?_
  | with_reducible refine' x_cb ?_
  | with_reducible refine' x_cons ?_
  | with_reducible refine' x_nil ?_
  | with_reducible refine' x_bm0 ?_
  | with_reducible refine' x_bm ?_
  | with_reducible refine' x_tup ?_
  | with_reducible refine' x_lst ?_
  | ((with_reducible refine' And.intro (a := _ ≤ sizeLine) ?e ?_); (case e => walk_at "sd"); walk_at "nw")
  | with_reducible refine' x_fld ?_
  | with_reducible refine' x_test ?_
  | with_reducible refine' x_tB ?_
  | with_reducible refine' x_and ?_
  | with_reducible refine' x_or ?_
  | with_reducible refine' x_not ?_
  | with_reducible refine' x_notV ?_
  | with_reducible refine' x_andV ?_
  | with_reducible refine' x_orV ?_
  | with_reducible refine' x_rI0 ?_
  | ((with_reducible refine' x_rI ?e ?_); (case e => walk_at "sd"))
  | with_reducible refine' x_rU ?_
  | ((with_reducible refine' x_rEq ?e ?_); (case e => exact rfl))
  | ((with_reducible refine' x_rNe ?e ?_); (case e => exact rfl))
  | ((with_reducible refine' x_ixL0 ?h ?_); (case h => walk_at "sq"))
  | ((with_reducible refine' x_ixL1 ?h ?_); (case h => walk_at "sq"))
  | ((with_reducible refine' x_ixL2 ?h ?_); (case h => walk_at "sq"))
  | ((with_reducible refine' x_ixL0I ?h ?_); (case h => walk_at "sq"))
  | ((with_reducible refine' x_ixL ?h ?e ?_); (case h => walk_at "sq"); (case e => exact rfl))
  | ((with_reducible refine' x_neNil ?h ?h2 ?_); (case h => walk_at "sq"); (case h2 => walk_at "sq"))
  | ((with_reducible refine' x_pop0I ?h ?_); (case h => walk_at "hp"))
  | ((with_reducible refine' x_pop0 ?h ?_); (case h => walk_at "hp"))
  | ((with_reducible refine' x_setL0 ?h ?_); (case h => walk_at "hp"))
  | ((with_reducible refine' x_setL1 ?h ?_); (case h => walk_at "hp"))
  | ((with_reducible refine' x_setL2 ?h ?_); (case h => walk_at "hp"))
  | ((with_reducible refine' x_setL ?h ?e ?_); (case h => walk_at "hp"); (case e => exact rfl))
  | with_reducible refine' .inl ⟨_, rfl, ?_⟩
  | ((with_reducible refine' x_tyL ?h ?_); (case h => walk_at "sq"))
  | with_reducible refine' ⟨_, rfl, ?_⟩)
-- a split
local macro_rules | `(tactic| walk_at "if") => `(tactic| (
  first
  | (with_reducible refine' x_dec (fun h_ => ?_) (fun h_ => ?_))
  | (with_reducible refine' x_decN (fun h_ => ?_) (fun h_ => ?_))
  | (with_reducible refine' x_boolN (fun h_ => ?_) (fun h_ => ?_))
  | (with_reducible refine' x_bool (fun h_ => ?_) (fun h_ => ?_))))
local macro_rules | `(tactic| walk_at "ifs") => `(tactic| (walk_at "if" <;> first
  | (exfalso; first | omega | contradiction)
  | (rename_i h_; (try simp only [BEq.rfl, List.length_map, List.length_cons, List.length_nil, Int.natCast_zero, Int.ofNat_zero, gt_iff_lt, Int.lt_irrefl, Bool.true_eq_false, Bool.false_eq_true, List.isEmpty_nil, List.isEmpty_cons, V.int.injEq, V.str.injEq, V.bl.injEq, reduceCtorEq, not_false_eq_true, not_true_eq_false] at h_); (try (exfalso; omega)))))
local macro_rules | `(tactic| walk_at "ite1") => `(tactic| first
  | with_reducible refine' x_T ?_
  | with_reducible refine' x_F ?_
  | with_reducible refine' x_nT ?_
  | with_reducible refine' x_nF ?_
  | ((with_reducible refine' x_bT ?e ?_); (case e => first | decide | decide +kernel))
  | ((with_reducible refine' x_bF ?e ?_); (case e => first | decide | decide +kernel)))
local macro_rules | `(tactic| walk_at "st") => `(tactic| ((fail_if_success (with_reducible (show (if _ then _ else _)))); walk_at "st0"))
local macro_rules | `(tactic| walk_at "go") => `(tactic| repeat first | walk_at "ite1" | walk_at "st")
local macro_rules | `(tactic| walk_at "gs") => `(tactic| repeat' first | walk_at "ite1" | walk_at "st" | walk_at "ifs")
local macro_rules | `(tactic| walk_at "jsd") => `(tactic| first
  | exact trivial | with_reducible assumption | with_reducible rfl | (show _ ≤ sizeLine; decide) | (refine Nat.le_trans (Nat.le_of_ble_eq_true (m := 1000) rfl) (by decide)) | decide | omega
  | (simp only [List.length_append, List.length_cons, List.length_nil, List.length_map, List.length_range, natsD_len, verL_len, tabXs_len, List.length_replicate, Int.toNat_natCast, rgD_len, List.length_take, List.length_drop, zipD_len, enumD_len]; omega)
  | exact IntMulOk.of_right (intBits_le_64 (by omega) (by omega)) | exact IntMulOk.of_left (intBits_le_64 (by omega) (by omega))
  | (refine' Or.inl ⟨?_, ?_⟩ <;> omega) | (refine' Or.inr ⟨?_, ?_⟩ <;> omega)
  | (refine' ⟨?_, ?_⟩ <;> walk_at "jsd") | (refine' ⟨?_, ?_, ?_⟩ <;> walk_at "jsd") | (refine' ⟨?_, ?_, ?_, ?_⟩ <;> walk_at "jsd"))
local macro_rules | `(tactic| walk_at "jshp") => `(tactic| first | with_reducible assumption | (show SeqAt.shaped _ = true; first | assumption | decide))
local macro_rules | `(tactic| walk_at "jix") => `(tactic| first | with_reducible assumption | exact rfl)
local macro_rules | `(tactic| walk_at "jdrw") => `(tactic| exact ⟨by omega, Nat.lt_of_le_of_lt (Nat.log2_le_self _) (by omega)⟩)
local macro_rules | `(tactic| walk_at "jno") => `(tactic| first | exact ⟨trivial, by walk_at "jno"⟩ | exact ⟨rfl, by walk_at "jno"⟩ | exact trivial)
local macro_rules | `(tactic| walk_at "jno1") => `(tactic| (intro v_ m_; simp only [List.mem_cons, List.not_mem_nil, or_false] at m_; first | (subst m_; exact trivial) | (subst m_; exact rfl) | (rcases m_ with m_ | m_ <;> subst m_ <;> first | exact trivial | exact rfl) | (rcases m_ with m_ | m_ | m_ <;> subst m_ <;> first | exact trivial | exact rfl)))
local macro_rules | `(tactic| walk_at "jst0") => `(tactic| first
  | refine' Stp.imp ?_
  | ((with_reducible refine' x_PI2 ?e ?_); (case e => walk_at "jsd"))
  | ((with_reducible refine' x_ixAT (Vw.eq) ?e2 ?_); (case e2 => walk_at "jix"))
  | ((with_reducible refine' x_ixAL (Vw.eq) ?e2 ?_); (case e2 => walk_at "jix"))
  | ((with_reducible refine' x_RApp ?l ?_); (case l => walk_at "jsd"))
  | with_reducible refine' J_callN ?_
  | ((with_reducible refine' J_pool ?w ?e ?_); (case w => with_reducible assumption); (case e => with_reducible assumption))
  | ((with_reducible refine' J_callS ?w ?_); (case w => with_reducible assumption))
  | ((with_reducible refine' J_xw ?w ?_); (case w => with_reducible assumption))
  | ((with_reducible refine' J_isX ?w ?_); (case w => with_reducible assumption))
  | with_reducible refine' x_xwJ ?_
  | ((with_reducible refine' x_isX1 ?w ?_); (case w => with_reducible assumption))
  | ((with_reducible refine' x_isX2 ?w ?_); (case w => with_reducible assumption))
  | ((with_reducible refine' J_call ?w ?_); (case w => with_reducible assumption))
  | ((with_reducible refine' x_QDraw (SlotAt.eq) ?c ?_); (case c => walk_at "jdrw"))
  | ((with_reducible refine' x_QR1 ?c ?_); (case c => walk_at "jsd"))
  | ((with_reducible refine' x_QR2 ?c ?_); (case c => walk_at "jsd"))
  | ((with_reducible refine' x_addL (Vw.eq) (Vw.eq) ?c ?_); (case c => walk_at "jsd"))
  | ((with_reducible refine' x_addT (Vw.eq) (Vw.eq) ?c ?_); (case c => walk_at "jsd"))
  | ((with_reducible refine' x_addS' ?c ?_); (case c => walk_at "jsd"))
  | ((with_reducible refine' x_mulI ?c ?_); (case c => walk_at "jsd"))
  | ((with_reducible refine' x_mulL1 (Vw.eq) ?c ?_); (case c => walk_at "jsd"))
  | ((with_reducible refine' x_mulS ?c ?_); (case c => walk_at "jsd"))
  | ((with_reducible refine' x_isNj (Vw.eq) ?_))
  | ((with_reducible refine' x_notNj (Vw.eq) ?_))
  | ((with_reducible refine' x_eqA (Vw.eq) (Vw.eq) ?c ?d ?_); (case c => walk_at "jshp"); (case d => walk_at "jshp"))
  | ((with_reducible refine' x_neA (Vw.eq) (Vw.eq) ?c ?d ?_); (case c => walk_at "jshp"); (case d => walk_at "jshp"))
  | ((with_reducible refine' x_QIn (Vw.eq) ?e2 ?f ?g ?_); (case e2 => exact rfl); (case f => exact rfl); (case g => first | with_reducible assumption | exact rfl))
  | ((with_reducible refine' x_QInN (Vw.eq) ?e2 ?f ?g ?_); (case e2 => exact rfl); (case f => exact rfl); (case g => first | with_reducible assumption | exact rfl))
  | ((with_reducible refine' x_lenS' (Vw.eq) ?l ?_); (case l => walk_at "jsd"))
  | ((with_reducible refine' x_slS' ?l ?_); (case l => walk_at "jsd"))
  | with_reducible refine' J_raise (by with_reducible assumption) (by with_reducible assumption) ?_
  | with_reducible refine' x_X1 ?_
  | ((with_reducible refine' And.intro (a := RgOk _ _) ?c ?_); (case c => exact RgOk.of_le (by omega) (by omega) (by omega) (by omega))))
local macro_rules | `(tactic| walk_at "jite") => `(tactic| first
  | ((with_reducible refine' x_bT ?e ?_); (case e => first | exact rfl | decide | decide +kernel))
  | ((with_reducible refine' x_bF ?e ?_); (case e => first | exact rfl | decide | decide +kernel)))
local macro_rules | `(tactic| walk_at "jst") => `(tactic| walk_at "jst0")
local macro_rules | `(tactic| walk_at "jgo") => `(tactic| repeat first | walk_at "jst0" | walk_at "jite")
local macro_rules | `(tactic| walk_at "jgs") => `(tactic| repeat' first | walk_at "jst0" | walk_at "jite" | walk_at "ifs")
local macro_rules | `(tactic| walk_at "jk") => `(tactic| first | exact trivial | exact ⟨rfl, by walk_at "jk"⟩)
local macro_rules | `(tactic| walk_at "jwp") => `(tactic| exact ⟨rfl, by walk_at "jno1"⟩)
local macro_rules | `(tactic| walk_at "jif") => `(tactic| repeat ((fail_if_success (with_reducible show JS _ _ (tSeq (tIfS _ _ _) _) _ _)); first | walk_at "jst0" | walk_at "jite"))
local macro_rules | `(tactic| walk_at "jie") => `(tactic| repeat ((fail_if_success (with_reducible show J _ _ (tIf _ _ _) _ _)); first | walk_at "jst0" | walk_at "jite"))
local macro_rules | `(tactic| walk_at "nq") => `(tactic| decide +kernel)
local macro_rules | `(tactic| walk_at "nr") => `(tactic| decide +kernel)

section
variable {P : Program} {w : World} {K : PySem.W.Frag} {mg : Str → Option Value} {base : Heap}
def psp__law_world : PSp := fun ws Φ _ => ∃ a l pages deeds lost, ws = [.pool a l, .d (natD pages), .d (natD deeds), .d (natD lost)] ∧ (2 ≤ pages ∧ pages ≤ 31 ∧ 3 ≤ deeds ∧ deeds ≤ 300 ∧ lost ≤ 1000) ∧ ∀ P ds img, Wf P ds → ImgOk P ds img → Φ (.l [logD P ds, tabD P ds, .tuple (List.map optD img)])
theorem c_world {a l : Addr} {pages deeds lost : Nat} {Φ : W → Prop} {Ξ : Addr → PyData → Prop} (h : 2 ≤ pages ∧ pages ≤ 31 ∧ 3 ≤ deeds ∧ deeds ≤ 300 ∧ lost ≤ 1000) (q : ∀ P ds img, Wf P ds → ImgOk P ds img → Φ (.l [logD P ds, tabD P ds, .tuple (List.map optD img)])) : psp__law_world [.pool a l, .d (natD pages), .d (natD deeds), .d (natD lost)] Φ Ξ := ⟨a, l, pages, deeds, lost, rfl, h, q⟩
theorem sc__law_world : FnScope ["pool", "pages", "deeds", "lost", "is_large", "many", "count", "way", "log", "table"] ["pool", "pages", "deeds", "lost"] (defScope s__law_world) := ⟨rfl, rfl, rfl, by decide +kernel, rfl, by decide +kernel, by decide +kernel⟩
theorem ok__law_world (T : G K mg) : FnOk P w K mg base CX0 4 T.f__law_world T.d__law_world ["pool", "pages", "deeds", "lost"] (SP K psp__law_world) := by
  refine T.F__law_world.ok sc__law_world (fun vs H Q E h => ?_) (fun cdv A outer s H vs Q E hr h => ?_)
  · exact SP.len h fun ws Φ Ξ hp => by obtain ⟨a, l, pages, deeds, lost, rfl, ⟨g1, g2, g3, g4, g5⟩, q⟩ := hp; rfl
  · have hu := hu_of hr
    have nd := sc__law_world.nd
    refine ⟨_, (pss_cons (ps_set (i := 4) nd rfl (Or.inl rfl) (pe_and (pe_cmpR (r := rGtA K) op_gtA (pe_ix (r := rIx K) ix_seq (pv 0) pe_int (fun _ _ => rfl)) pe_int (nomark _)) (pe_one (pe_cmpR (r := rEqA K) (op_eqA hr.units) (pe_call (ok__law_draw T) (hr.mono (by decide)) rfl T.g__law_draw T.F__law_draw.kp T.b__law_draw .nil pass0 (pa_cons (pv 0) (pa_cons pe_int pa_nil))) pe_int (nomark _)))))
        (pss_cons (ps_set (i := 5) nd rfl (Or.inl rfl) (pe_op (r := rAddA K) op_addA pe_int (pe_call (ok__law_draw T) (hr.mono (by decide)) rfl T.g__law_draw T.F__law_draw.kp T.b__law_draw .nil pass0 (pa_cons (pv 0) (pa_cons (pe_ifExp (pt_val (pv 4)) (pe_op op_sub (pv 1) pe_int) pe_int) pa_nil)))))
        (pss_cons (ps_set (i := 6) nd rfl (Or.inl rfl) (pe_op (r := rAddA K) op_addA pe_int (pe_call (ok__law_draw T) (hr.mono (by decide)) rfl T.g__law_draw T.F__law_draw.kp T.b__law_draw .nil pass0 (pa_cons (pv 0) (pa_cons (pe_ifExp (pt_val (pv 4)) (pe_op op_sub (pv 2) pe_int) pe_int) pa_nil)))))
        (pss_cons (ps_set (i := 7) nd rfl (Or.inl rfl) (pe_call (ok__law_draw T) (hr.mono (by decide)) rfl T.g__law_draw T.F__law_draw.kp T.b__law_draw .nil pass0 (pa_cons (pv 0) (pa_cons pe_int pa_nil))))
        (pss_cons (ps_set (i := 8) nd rfl (Or.inl rfl) (pe_call (ok__law_log T) (hr.mono (by decide)) rfl T.g__law_log T.F__law_log.kp T.b__law_log .nil pass0 (pa_cons (pv 0) (pa_cons (pe_ifExp (pt_cmpR (r := rEqA K) (op_eqA hr.units) (pv 7) pe_int (nomark _)) pe_int (pv 5)) (pa_cons (pe_ifExp (pt_cmpR (r := rEqA K) (op_eqA hr.units) (pv 7) pe_int (nomark _)) pe_int (pv 6)) (pa_cons (pe_cmpR (r := rEqA K) (op_eqA hr.units) (pe_call (ok__law_draw T) (hr.mono (by decide)) rfl T.g__law_draw T.F__law_draw.kp T.b__law_draw .nil pass0 (pa_cons (pv 0) (pa_cons pe_int pa_nil))) pe_int (nomark _)) pa_nil))))))
        (pss_cons (ps_set (i := 9) nd rfl (Or.inl rfl) (pe_call (ok__law_table T) (hr.mono (by decide)) rfl T.g__law_table T.F__law_table.kp T.b__law_table .nil pass0 (pa_cons (pv 8) pa_nil)))
        (pss_one (ps_ret (pe_lst (pa_cons (pv 8) (pa_cons (pv 9) (pa_cons (pe_call (ok__law_image T) (hr.mono (by decide)) rfl T.g__law_image T.F__law_image.kp T.b__law_image .nil pass0 (pa_cons (pv 0) (pa_cons (pv 8) (pa_cons (pv 9) (pa_cons (pv 3) pa_nil))))) pa_nil)))))))))))), SP.run h fun ws Φ Ξ B hp hX => ?_⟩
    clear h
    obtain ⟨a, l, pages, deeds, lost, rfl, ⟨g1, g2, g3, g4, g5⟩, q⟩ := hp
    show JS K B _ [some (.pool a l), some (.d (natD pages)), some (.d (natD deeds)), some (.d (natD lost)), none, none, none, none, none, none] _
    have hz := sizeLine_eq
    refine J_cutS (fun ρ => ∃ b : Bool, ρ = [some (.pool a l), some (.d (natD pages)), some (.d (natD deeds)), some (.d (natD lost)), some (.d (.bool b)), none, none, none, none, none]) ?_ ?_
    · walk_at "jgo"
      refine x_ixP rfl fun p0 h0 => ?_
      walk_at "jgo"
      refine x_dec (fun _ => ?_) (fun _ => ?_)
      · walk_at "jgo"
        intro d d0 d1
        walk_at "jgo"
        exact ⟨_, rfl⟩
      · walk_at "jgo"
        exact ⟨_, rfl⟩
    rintro ρ ⟨b, rfl⟩
    refine J_cutS (fun ρ => ∃ m : Nat, (1 ≤ m ∧ m ≤ 32) ∧ ρ = [some (.pool a l), some (.d (natD pages)), some (.d (natD deeds)), some (.d (natD lost)), some (.d (.bool b)), some (.d (natD m)), none, none, none, none]) ?_ ?_
    · cases b <;> walk_at "jgo" <;> intro d d0 d1 <;> obtain ⟨m, rfl⟩ : ∃ m : Nat, d = (m : Int) := ⟨d.toNat, by omega⟩
      all_goals walk_at "jgo"
      all_goals exact ⟨2 + m, by omega, rfl⟩
    rintro ρ ⟨many, hm, rfl⟩
    refine J_cutS (fun ρ => ∃ n : Nat, n ≤ 400 ∧ ρ = [some (.pool a l), some (.d (natD pages)), some (.d (natD deeds)), some (.d (natD lost)), some (.d (.bool b)), some (.d (natD many)), some (.d (natD n)), none, none, none]) ?_ ?_
    · cases b <;> walk_at "jgo" <;> intro d d0 d1 <;> obtain ⟨m, rfl⟩ : ∃ m : Nat, d = (m : Int) := ⟨d.toNat, by omega⟩
      all_goals walk_at "jgo"
      all_goals exact ⟨3 + m, by omega, rfl⟩
    rintro ρ ⟨count, hc, rfl⟩
    walk_at "jgo"
    intro way w0 w1
    walk_at "jie"
    refine J_cutE (fun t ρ' => ∃ m : Nat, (1 ≤ m ∧ m ≤ 32) ∧ t = .w (.d (natD m)) ∧ ρ' = [some (.pool a l), some (.d (natD pages)), some (.d (natD deeds)), some (.d (natD lost)), some (.d (.bool b)), some (.d (natD many)), some (.d (natD count)), some (.d (.int way)), none, none]) ?_ ?_
    · walk_at "jgo"
      refine x_dec (fun _ => ?_) (fun _ => ?_)
      · walk_at "jgo"
        exact ⟨1, by omega, rfl, rfl⟩
      · walk_at "jgo"
        exact ⟨many, hm, rfl, rfl⟩
    rintro _ _ ⟨P, hP, rfl, rfl⟩
    walk_at "jie"
    refine J_cutE (fun t ρ' => ∃ n : Nat, n ≤ 400 ∧ t = .w (.d (natD n)) ∧ ρ' = [some (.pool a l), some (.d (natD pages)), some (.d (natD deeds)), some (.d (natD lost)), some (.d (.bool b)), some (.d (natD many)), some (.d (natD count)), some (.d (.int way)), none, none]) ?_ ?_
    · walk_at "jgo"
      refine x_dec (fun _ => ?_) (fun _ => ?_)
      · walk_at "jgo"
        exact ⟨0, by omega, rfl, rfl⟩
      · walk_at "jgo"
        exact ⟨count, hc, rfl, rfl⟩
    rintro _ _ ⟨n, hn, rfl, rfl⟩
    walk_at "jgo"
    intro d d0 d1
    walk_at "jgo"
    refine c_llog ⟨hP.1, hP.2, hn⟩ fun ds wf hds => ?_
    walk_at "jgo"
    refine c_table wf ?_
    walk_at "jgo"
    refine c_image ⟨wf, g5⟩ fun img hi => ?_
    walk_at "jgo"
    exact ⟨q P ds img wf hi, by walk_at "jk"⟩
end
end WD

namespace WD
open PySem PySem.Spec PyProof.Rows L2
-- p ≠ q of two addresses
local macro_rules | `(tactic| walk_at "ne") => `(tactic| first
  | with_reducible assumption
  | with_reducible exact Ne.symm (by assumption)
  | exact ne_some (by with_reducible assumption) (by with_reducible assumption)
  | exact Ne.symm (ne_some (by with_reducible assumption) (by with_reducible assumption)))
local macro_rules | `(tactic| walk_at "nm") => `(tactic| first | with_reducible assumption | with_reducible exact nm0 | ((with_reducible refine' nmS ?a ?b); (case a => walk_at "ne"); (case b => walk_at "nm")))
-- H p = some ?o
local macro_rules | `(tactic| walk_at "hp") => `(tactic| first
  | with_reducible exact upd_same
  | with_reducible assumption
  | ((with_reducible refine' Eq.trans (upd_ne ?a) ?b); (case a => walk_at "ne"); (case b => walk_at "hp"))
  | exact Stay.keep (by with_reducible assumption) _ _ (by walk_at "hp") (by walk_at "nm"))
local macro_rules | `(tactic| walk_at "hpd") => `(tactic| ((refine' Eq.trans ?h ?e); (case h => walk_at "hp"); (case e => exact rfl)))
-- a new address
local macro_rules | `(tactic| walk_at "nw") => `(tactic| ((repeat first | (with_reducible refine' nw_upd ?_) | refine' nw_fr (by with_reducible assumption) ?_); intro p_; intros))
local macro_rules | `(tactic| walk_at "mem") => `(tactic| first | exact List.mem_cons_self | (refine' List.mem_cons_of_mem _ ?_; walk_at "mem"))
-- what stands stays
local macro_rules | `(tactic| walk_at "fr") => `(tactic| first
  | with_reducible assumption
  | exact Stay.refl _ _
  | ((with_reducible refine' Stay.upd ?a ?b); (case a => walk_at "fr"); (case b => walk_at "mem"))
  | ((with_reducible refine' Stay.new ?a ?b); (case b => with_reducible assumption); (case a => walk_at "fr"))
  | (refine' Stay.trans ?_ (by with_reducible assumption); walk_at "fr"))
local macro_rules | `(tactic| walk_at "sq") => `(tactic| first | with_reducible assumption | exact SqL.of (by walk_at "hp"))
local macro_rules | `(tactic| walk_at "sqt") => `(tactic| first | with_reducible assumption | exact SqT.of (by walk_at "hp"))
-- side goals
local macro_rules | `(tactic| walk_at "sd") => `(tactic| first
  | with_reducible assumption | with_reducible rfl | (show _ ≤ sizeLine; decide) | (refine Nat.le_trans (Nat.le_of_ble_eq_true (m := 1000) rfl) (by decide)) | decide | omega
  | exact IntMulOk.of_right (intBits_le_64 (by omega) (by omega)) | exact IntMulOk.of_left (intBits_le_64 (by omega) (by omega))
  | (refine' Or.inl ⟨?_, ?_⟩ <;> omega) | (refine' Or.inr ⟨?_, ?_⟩ <;> omega)
  | (refine' ⟨?_, ?_⟩ <;> walk_at "sd") | (refine' ⟨?_, ?_, ?_⟩ <;> walk_at "sd"))
local macro_rules | `(tactic| walk_at "set") => `(tactic| first | with_reducible exact set0 | with_reducible exact set1 | with_reducible exact set2 | with_reducible exact set3 | with_reducible exact set4 | with_reducible exact set5 | with_reducible exact set6 | with_reducible exact set7 | with_reducible exact set8 | with_reducible exact set9 | with_reducible exact set10 | with_reducible exact set11 | with_reducible exact set12 | with_reducible exact set13 | with_reducible exact set14 | with_reducible exact set15 | with_reducible exact set16 | with_reducible exact set17 | with_reducible exact set18 | with_reducible exact set19 | with_reducible exact set20)
-- one step
local macro_rules | `(tactic| walk_at "st0") => `(tactic| first
  | with_reducible refine' x_seq ?_
  | with_reducible refine' x_next ?_
  | with_reducible refine' x_ifS ?_
  | with_reducible refine' x_asg ?_
  | with_reducible refine' x_ret ?_
  | with_reducible refine' x_retN ?_
  | with_reducible refine' x_drop ?_
  | with_reducible refine' x_brk ?_
  | with_reducible refine' x_cont ?_
  | ((with_reducible refine' x_gName ?e ?_); (case e => walk_at "set"))
  | with_reducible refine' x_gSub ?_
  | with_reducible refine' x_gCons ?_
  | with_reducible refine' x_gNil ?_
  | with_reducible refine' x_c ?_
  | ((with_reducible refine' x_var ?e ?_); (case e => exact rfl))
  | with_reducible refine' x_op ?_
  | with_reducible refine' x_un ?_
  | with_reducible refine' x_if ?_
  | with_reducible refine' x_cb ?_
  | with_reducible refine' x_cons ?_
  | with_reducible refine' x_nil ?_
  | with_reducible refine' x_bm0 ?_
  | with_reducible refine' x_bm ?_
  | with_reducible refine' x_tup ?_
  | with_reducible refine' x_lst ?_
  | ((with_reducible refine' And.intro (a := _ ≤ sizeLine) ?e ?_); (case e => walk_at "sd"); walk_at "nw")
  | with_reducible refine' x_fld ?_
  | with_reducible refine' x_test ?_
  | with_reducible refine' x_tB ?_
  | with_reducible refine' x_and ?_
  | with_reducible refine' x_or ?_
  | with_reducible refine' x_not ?_
  | with_reducible refine' x_notV ?_
  | with_reducible refine' x_andV ?_
  | with_reducible refine' x_orV ?_
  | with_reducible refine' x_rI0 ?_
  | ((with_reducible refine' x_rI ?e ?_); (case e => walk_at "sd"))
  | with_reducible refine' x_rU ?_
  | ((with_reducible refine' x_rEq ?e ?_); (case e => exact rfl))
  | ((with_reducible refine' x_rNe ?e ?_); (case e => exact rfl))
  | ((with_reducible refine' x_ixL0 ?h ?_); (case h => walk_at "sq"))
  | ((with_reducible refine' x_ixL1 ?h ?_); (case h => walk_at "sq"))
  | ((with_reducible refine' x_ixL2 ?h ?_); (case h => walk_at "sq"))
  | ((with_reducible refine' x_ixL0I ?h ?_); (case h => walk_at "sq"))
  | ((with_reducible refine' x_ixL ?h ?e ?_); (case h => walk_at "sq"); (case e => exact rfl))
  | ((with_reducible refine' x_neNil ?h ?h2 ?_); (case h => walk_at "sq"); (case h2 => walk_at "sq"))
  | ((with_reducible refine' x_pop0I ?h ?_); (case h => walk_at "hp"))
  | ((with_reducible refine' x_pop0 ?h ?_); (case h => walk_at "hp"))
  | ((with_reducible refine' x_setL0 ?h ?_); (case h => walk_at "hp"))
  | ((with_reducible refine' x_setL1 ?h ?_); (case h => walk_at "hp"))
  | ((with_reducible refine' x_setL2 ?h ?_); (case h => walk_at "hp"))
  | ((with_reducible refine' x_setL ?h ?e ?_); (case h => walk_at "hp"); (case e => exact rfl))
  | with_reducible refine' .inl ⟨_, rfl, ?_⟩
  | ((with_reducible refine' x_tyL ?h ?_); (case h => walk_at "sq"))
  | with_reducible refine' ⟨_, rfl, ?_⟩)
-- a split
local macro_rules | `(tactic| walk_at "if") => `(tactic| (
  first
  | (with_reducible refine' x_dec (fun h_ => ?_) (fun h_ => ?_))
  | (with_reducible refine' x_decN (fun h_ => ?_) (fun h_ => ?_))
  | (with_reducible refine' x_boolN (fun h_ => ?_) (fun h_ => ?_))
  | (with_reducible refine' x_bool (fun h_ => ?_) (fun h_ => ?_))))
local macro_rules | `(tactic| walk_at "ifs") => `(tactic| (walk_at "if" <;> first
  | (exfalso; first | omega | contradiction)
  | (rename_i h_; (try simp only [BEq.rfl, List.length_map, List.length_cons, List.length_nil, Int.natCast_zero, Int.ofNat_zero, gt_iff_lt, Int.lt_irrefl, Bool.true_eq_false, Bool.false_eq_true, List.isEmpty_nil, List.isEmpty_cons, V.int.injEq, V.str.injEq, V.bl.injEq, reduceCtorEq, not_false_eq_true, not_true_eq_false] at h_); (try (exfalso; omega)))))
local macro_rules | `(tactic| walk_at "ite1") => `(tactic| first
  | with_reducible refine' x_T ?_
  | with_reducible refine' x_F ?_
  | with_reducible refine' x_nT ?_
  | with_reducible refine' x_nF ?_
  | ((with_reducible refine' x_bT ?e ?_); (case e => first | decide | decide +kernel))
  | ((with_reducible refine' x_bF ?e ?_); (case e => first | decide | decide +kernel)))
local macro_rules | `(tactic| walk_at "st") => `(tactic| ((fail_if_success (with_reducible (show (if _ then _ else _)))); walk_at "st0"))
local macro_rules | `(tactic| walk_at "go") => `(tactic| repeat first | walk_at "ite1" | walk_at "st")
local macro_rules | `(tactic| walk_at "gs") => `(tactic| repeat' first | walk_at "ite1" | walk_at "st" | walk_at "ifs")
local macro_rules | `(tactic| walk_at "jsd") => `(tactic| first
  | exact trivial | with_reducible assumption | with_reducible rfl | (show _ ≤ sizeLine; decide) | (refine Nat.le_trans (Nat.le_of_ble_eq_true (m := 1000) rfl) (by decide)) | decide | omega
  | (simp only [List.length_append, List.length_cons, List.length_nil, List.length_map, List.length_range, natsD_len, verL_len, tabXs_len, List.length_replicate, Int.toNat_natCast, rgD_len, List.length_take, List.length_drop, zipD_len, enumD_len]; omega)
  | exact IntMulOk.of_right (intBits_le_64 (by omega) (by omega)) | exact IntMulOk.of_left (intBits_le_64 (by omega) (by omega))
  | (refine' Or.inl ⟨?_, ?_⟩ <;> omega) | (refine' Or.inr ⟨?_, ?_⟩ <;> omega)
  | (refine' ⟨?_, ?_⟩ <;> walk_at "jsd") | (refine' ⟨?_, ?_, ?_⟩ <;> walk_at "jsd") | (refine' ⟨?_, ?_, ?_, ?_⟩ <;> walk_at "jsd"))
local macro_rules | `(tactic| walk_at "jshp") => `(tactic| first | with_reducible assumption | (show SeqAt.shaped _ = true; first | assumption | decide))
local macro_rules | `(tactic| walk_at "jix") => `(tactic| first | with_reducible assumption | exact rfl)
local macro_rules | `(tactic| walk_at "jdrw") => `(tactic| exact ⟨by omega, Nat.lt_of_le_of_lt (Nat.log2_le_self _) (by omega)⟩)
local macro_rules | `(tactic| walk_at "jno") => `(tactic| first | exact ⟨trivial, by walk_at "jno"⟩ | exact ⟨rfl, by walk_at "jno"⟩ | exact trivial)
local macro_rules | `(tactic| walk_at "jno1") => `(tactic| (intro v_ m_; simp only [List.mem_cons, List.not_mem_nil, or_false] at m_; first | (subst m_; exact trivial) | (subst m_; exact rfl) | (rcases m_ with m_ | m_ <;> subst m_ <;> first | exact trivial | exact rfl) | (rcases m_ with m_ | m_ | m_ <;> subst m_ <;> first | exact trivial | exact rfl)))
local macro_rules | `(tactic| walk_at "jst0") => `(tactic| first
  | refine' Stp.imp ?_
  | ((with_reducible refine' x_PI2 ?e ?_); (case e => walk_at "jsd"))
  | ((with_reducible refine' x_ixAT (Vw.eq) ?e2 ?_); (case e2 => walk_at "jix"))
  | ((with_reducible refine' x_ixAL (Vw.eq) ?e2 ?_); (case e2 => walk_at "jix"))
  | ((with_reducible refine' x_RApp ?l ?_); (case l => walk_at "jsd"))
  | with_reducible refine' J_callN ?_
  | ((with_reducible refine' J_pool ?w ?e ?_); (case w => with_reducible assumption); (case e => with_reducible assumption))
  | ((with_reducible refine' J_callS ?w ?_); (case w => with_reducible assumption))
  | ((with_reducible refine' J_xw ?w ?_); (case w => with_reducible assumption))
  | ((with_reducible refine' J_isX ?w ?_); (case w => with_reducible assumption))
  | with_reducible refine' x_xwJ ?_
  | ((with_reducible refine' x_isX1 ?w ?_); (case w => with_reducible assumption))
  | ((with_reducible refine' x_isX2 ?w ?_); (case w => with_reducible assumption))
  | ((with_reducible refine' J_call ?w ?_); (case w => with_reducible assumption))
  | ((with_reducible refine' x_QDraw (SlotAt.eq) ?c ?_); (case c => walk_at "jdrw"))
  | ((with_reducible refine' x_QR1 ?c ?_); (case c => walk_at "jsd"))
  | ((with_reducible refine' x_QR2 ?c ?_); (case c => walk_at "jsd"))
  | ((with_reducible refine' x_addL (Vw.eq) (Vw.eq) ?c ?_); (case c => walk_at "jsd"))
  | ((with_reducible refine' x_addT (Vw.eq) (Vw.eq) ?c ?_); (case c => walk_at "jsd"))
  | ((with_reducible refine' x_addS' ?c ?_); (case c => walk_at "jsd"))
  | ((with_reducible refine' x_mulI ?c ?_); (case c => walk_at "jsd"))
  | ((with_reducible refine' x_mulL1 (Vw.eq) ?c ?_); (case c => walk_at "jsd"))
  | ((with_reducible refine' x_mulS ?c ?_); (case c => walk_at "jsd"))
  | ((with_reducible refine' x_isNj (Vw.eq) ?_))
  | ((with_reducible refine' x_notNj (Vw.eq) ?_))
  | ((with_reducible refine' x_eqA (Vw.eq) (Vw.eq) ?c ?d ?_); (case c => walk_at "jshp"); (case d => walk_at "jshp"))
  | ((with_reducible refine' x_neA (Vw.eq) (Vw.eq) ?c ?d ?_); (case c => walk_at "jshp"); (case d => walk_at "jshp"))
  | ((with_reducible refine' x_QIn (Vw.eq) ?e2 ?f ?g ?_); (case e2 => exact rfl); (case f => exact rfl); (case g => first | with_reducible assumption | exact rfl))
  | ((with_reducible refine' x_QInN (Vw.eq) ?e2 ?f ?g ?_); (case e2 => exact rfl); (case f => exact rfl); (case g => first | with_reducible assumption | exact rfl))
  | ((with_reducible refine' x_lenS' (Vw.eq) ?l ?_); (case l => walk_at "jsd"))
  | ((with_reducible refine' x_slS' ?l ?_); (case l => walk_at "jsd"))
  | with_reducible refine' J_raise (by with_reducible assumption) (by with_reducible assumption) ?_
  | with_reducible refine' x_X1 ?_
  | ((with_reducible refine' And.intro (a := RgOk _ _) ?c ?_); (case c => exact RgOk.of_le (by omega) (by omega) (by omega) (by omega))))
local macro_rules | `(tactic| walk_at "jite") => `(tactic| first
  | ((with_reducible refine' x_bT ?e ?_); (case e => first | exact rfl | decide | decide +kernel))
  | ((with_reducible refine' x_bF ?e ?_); (case e => first | exact rfl | decide | decide +kernel)))
local macro_rules | `(tactic| walk_at "jst") => `(tactic| walk_at "jst0")
local macro_rules | `(tactic| walk_at "jgo") => `(tactic| repeat first | walk_at "jst0" | walk_at "jite")
local macro_rules | `(tactic| walk_at "jgs") => `(tactic| repeat' first | walk_at "jst0" | walk_at "jite" | walk_at "ifs")
local macro_rules | `(tactic| walk_at "jk") => `(tactic| first | exact trivial | exact ⟨rfl, by walk_at "jk"⟩)
local macro_rules | `(tactic| walk_at "jwp") => `(tactic| exact ⟨rfl, by walk_at "jno1"⟩)
local macro_rules | `(tactic| walk_at "jif") => `(tactic| repeat ((fail_if_success (with_reducible show JS _ _ (tSeq (tIfS _ _ _) _) _ _)); first | walk_at "jst0" | walk_at "jite"))
local macro_rules | `(tactic| walk_at "jie") => `(tactic| repeat ((fail_if_success (with_reducible show J _ _ (tIf _ _ _) _ _)); first | walk_at "jst0" | walk_at "jite"))
local macro_rules | `(tactic| walk_at "nq") => `(tactic| decide +kernel)
local macro_rules | `(tactic| walk_at "nr") => `(tactic| decide +kernel)

section
variable {P : Program} {w : World} {K : PySem.W.Frag} {mg : Str → Option Value} {base : Heap}
def psp__law_closed : PSp := fun ws Φ _ => ∃ P ds img, ws = [.d (logD P ds), .d (tabD P ds), .d (.tuple (List.map optD img))] ∧ Wf P ds ∧ ImgOk P ds img ∧ ∀ p qs hss, HeldOk P ds hss → Φ (.hl p qs hss)
theorem c_closed {P : Nat} {ds : List Deed} {img : List (Option Nat)} {Φ : W → Prop} {Ξ : Addr → PyData → Prop} (wf : Wf P ds) (hi : ImgOk P ds img) (q : ∀ p qs hss, HeldOk P ds hss → Φ (.hl p qs hss)) : psp__law_closed [.d (logD P ds), .d (tabD P ds), .d (.tuple (img.map optD))] Φ Ξ := ⟨P, ds, img, rfl, wf, hi, q⟩
theorem sc__law_closed : FnScope ["log", "table", "image", "page", "held", "sweep", "added", "at", "deed", "reads", "row", "one", "other", "version", "read"] ["log", "table", "image"] (defScope s__law_closed) := ⟨rfl, rfl, rfl, by decide +kernel, rfl, by decide +kernel, by decide +kernel⟩
theorem ok__law_closed (T : G K mg) : FnOk P w K mg base CX0 1 T.f__law_closed T.d__law_closed ["log", "table", "image"] (SP K psp__law_closed) := by
  refine T.F__law_closed.ok sc__law_closed (fun vs H Q E h => ?_) (fun cdv A outer s H vs Q E hr h => ?_)
  · exact SP.len h fun ws Φ Ξ hp => by obtain ⟨P, ds, img, rfl, wf, hi, q⟩ := hp; rfl
  · have hu := hu_of hr
    have nd := sc__law_closed.nd
    refine ⟨_, (pss_cons (ps_set (i := 4) nd rfl (Or.inr rfl) (pe_lc (own := [("page", 3)]) (g := gName 3) rfl nd (pi_range1 rfl T.n_range (pa_cons (pe_ix (r := rIx K) ix_seq (pv 0) pe_int (fun _ _ => rfl)) pa_nil)) (blkOk_by (own := [("page", 3)]) (N := ["log", "table", "image", "page", "held", "sweep", "added", "at", "deed", "reads", "row", "one", "other", "version", "read"]) (sc := defScope s__law_closed) (by decide +kernel)) (fun _ _ _ _ _ => (pg_name (i := 3) nd rfl (Or.inr rfl))) (fun _ _ _ _ _ => pts_nil) (fun _ _ _ _ _ => (pe_lc (own := [("version", 13)]) (g := gName 13) rfl nd (pi_range1 rfl T.n_range (pa_cons (pe_op (r := rAddA K) op_addA (pe_ix (r := rIx K) ix_seq (pe_ix (r := rIx K) ix_seq (pv 1) (pe_un un_neg pe_int) (fun _ _ => rfl)) (pv 3) (fun _ _ => rfl)) pe_int) pa_nil)) (by exact blkOk_by rfl) (fun _ _ _ _ _ => (pg_name (i := 13) nd rfl (Or.inl rfl))) (fun _ _ _ _ _ => pts_nil) (fun _ _ _ _ _ => (pe_cmpR (r := rEqA K) (op_eqA hr.units) (pv 13) (pe_ix (r := rIx K) ix_seq (pv 2) (pv 3) (fun _ _ => rfl)) (nomark _)))))))
        (pss_cons (ps_for PassesOwn.never rfl (pi_range1 rfl T.n_range (pa_cons (pe_op (r := rAddA K) op_addA (pe_callB (r := rLenA K) call_lenA (by rfl) T.n_len PySem.boot_len (pa_cons (pe_ix (r := rIx K) ix_seq (pv 0) pe_int (fun _ _ => rfl)) pa_nil)) pe_int) pa_nil)) (pg_name (i := 5) nd rfl (Or.inl rfl)) (pss_cons (ps_set (i := 6) nd rfl (Or.inl rfl) pe_int)
        (pss_cons (ps_for PassesOwn.never rfl (pi_enumK (K := K) rfl rfl T.n_enumerate (pa_cons (pe_ix (r := rIx K) ix_seq (pv 0) pe_int (fun _ _ => rfl)) pa_nil)) (pg_tupK (K := K) (n := 2) rfl rfl (pgs_cons (pg_name (i := 7) nd rfl (Or.inl rfl)) (pgs_cons (pg_name (i := 8) nd rfl (Or.inl rfl)) pgs_nil))) (pss_cons (ps_asg (pe_tup (pa_cons (pe_ix (r := rIx K) ix_seq (pv 8) pe_int (fun _ _ => rfl)) (pa_cons (pe_ix (r := rIx K) ix_seq (pv 8) pe_int (fun _ _ => rfl)) (pa_cons (pe_ix (r := rIx K) ix_seq (pv 1) (pe_op (r := rAddA K) op_addA (pv 7) pe_int) (fun _ _ => rfl)) pa_nil)))) (pg_tupK (K := K) (n := 3) rfl rfl (pgs_cons (pg_name (i := 3) nd rfl (Or.inl rfl)) (pgs_cons (pg_name (i := 9) nd rfl (Or.inl rfl)) (pgs_cons (pg_name (i := 10) nd rfl (Or.inr rfl)) pgs_nil)))))
        (pss_cons (ps_par (i := 11) (j := 12) (by rfl) nd rfl rfl (by decide) rfl rfl (pa_cons (pe_ix (r := rIx K) ix_seq (pe_ix (r := rIx K) ix_seq (pv 4) (pv 3) (fun _ _ => rfl)) (pe_op op_sub (pe_ix (r := rIx K) ix_seq (pv 10) (pv 3) (fun _ _ => rfl)) pe_int) (fun _ _ => rfl)) (pa_cons (pe_ix (r := rIx K) ix_seq (pe_ix (r := rIx K) ix_seq (pv 4) (pv 3) (fun _ _ => rfl)) (pe_ix (r := rIx K) ix_seq (pv 10) (pv 3) (fun _ _ => rfl)) (fun _ _ => rfl)) pa_nil)) (by rfl))
        (pss_one (ps_if (PW.pt (pw_and (pt_cmpR (r := rNeA K) (op_neA hr.units) (pv 11) (pv 12) (nomark _)) (pw_and1 (pt_cmpR (r := rEqA K) (op_eqA hr.units) (pe_lc (own := [("read", 14)]) (g := gName 14) rfl nd (pi_anyK (K := K) rfl (pv 9)) (blkOk_by (own := [("read", 14)]) (N := ["log", "table", "image", "page", "held", "sweep", "added", "at", "deed", "reads", "row", "one", "other", "version", "read"]) (sc := defScope s__law_closed) (by decide +kernel)) (fun _ _ _ _ _ => (pg_name (i := 14) nd rfl (Or.inl rfl))) (fun _ _ _ _ _ => (pts_one (pt_not (pt_val (pe_ix (r := rIx K) ix_seq (pe_ix (r := rIx K) ix_seq (pv 4) (pv 14) (fun _ _ => rfl)) (pe_ix (r := rIx K) ix_seq (pv 10) (pv 14) (fun _ _ => rfl)) (fun _ _ => rfl)))))) (fun _ _ _ _ _ => (pv 14))) (pe_lst pa_nil) (nomark _))))) (pss_cons (ps_asg (pe_tup (pa_cons pe_bl (pa_cons pe_bl pa_nil))) (pg_tupK (K := K) (n := 2) rfl rfl (pgs_cons (pg_sub (pe_ix (r := rIx K) ix_seq (pv 4) (pv 3) (fun _ _ => rfl)) (pe_op op_sub (pe_ix (r := rIx K) ix_seq (pv 10) (pv 3) (fun _ _ => rfl)) pe_int) set_list) (pgs_cons (pg_sub (pe_ix (r := rIx K) ix_seq (pv 4) (pv 3) (fun _ _ => rfl)) (pe_ix (r := rIx K) ix_seq (pv 10) (pv 3) (fun _ _ => rfl)) set_list) pgs_nil))))
        (pss_one (ps_set (i := 6) nd rfl (Or.inl rfl) (pe_op (r := rAddA K) op_addA (pv 6) pe_int)))) pss_nil)))))
        (pss_one (ps_if (pt_cmpR (r := rEqA K) (op_eqA hr.units) (pv 6) pe_int (nomark _)) (pss_one ps_break) pss_nil)))))
        (pss_one (ps_ret (pv 4))))), SP.run h fun ws Φ Ξ B hp hX => ?_⟩
    clear h
    obtain ⟨P, ds, img, rfl, wf, hi, q⟩ := hp
    show JS K B _ [some (.d (logD P ds)), some (.d (tabD P ds)), some (.d (.tuple (img.map optD))), none, none, none, none, none, none, none, none, none, none, none, none] _
    have hz := sizeLine_eq
    have p1 := wf.p1
    have p2 := wf.p2
    have p3 := wf.n
    have t1 := tab_last P ds
    have t2 := tabXs_len P ds
    walk_at "jgo"
    refine x_LcOwn (fun i ys => ∃ bs : List Bool, ys = bs.map PyData.bool ∧ bs.length = ver ds ds.length i + 1) (by walk_at "jno") (by rw [rgD_len]; omega) (fun i x e => ?_) fun p qs hss l1 l2 hP => ?_
    · obtain ⟨hx, rfl⟩ := rgD_at e
      have n1 := atI_nat (natsD_at (verF_at (ds := ds) hx))
      have n2 := ver_le2 ds ds.length i
      walk_at "jgo"
      refine ⟨by walk_at "jwp", ?_⟩
      walk_at "jgo"
      refine x_LcInv (fun j acc => ∃ bs : List Bool, acc = bs.map PyData.bool ∧ bs.length = j) (by walk_at "jno") (by rw [rgD_len]; omega) ⟨[], rfl, rfl⟩ (fun j acc ⟨bs, e1, e2⟩ => by rw [e1, List.length_map, e2]; exact Nat.le_refl _) (fun j x acc e ⟨bs, e1, e2⟩ => ?_) fun acc ⟨bs, e1, e2⟩ => ?_
      · obtain ⟨hj, rfl⟩ := rgD_get e
        subst e1
        have io : atI (img.map optD) (i : Int) = some (optD (img.getD i none)) := atI_nat (by
          rw [List.getElem?_map, List.getElem?_eq_getElem (by rw [hi.1]; exact hx), List.getD_eq_getElem?_getD, List.getElem?_eq_getElem (by rw [hi.1]; exact hx)]; rfl)
        have s1 : Shp (.int (0 + (j : Int))) := (dpt_int _).shp (by omega)
        have s2 : Shp (optD (img.getD i none)) := (dpt_opt _).shp (by omega)
        walk_at "jgo"
        refine ⟨by walk_at "jwp", ?_⟩
        walk_at "jgo"
        exact ⟨_, rfl, by walk_at "jwp", bs ++ [PyData.eqv (.int (0 + (j : Int))) (optD (img.getD i none))], by rw [List.map_append]; rfl, by simp [e2]⟩
      · rw [rgD_len] at e2
        refine ⟨_, rfl, by walk_at "jwp", bs, e1, ?_⟩
        rw [e2]; omega
    · rw [rgD_len] at l2
      have hs : HeldOk P ds hss := ⟨by omega, hP⟩
      clear hP l1 l2
      walk_at "jgo"
      refine x_QFor (fun i ρ => ∃ (hss : List (List PyData)) (v3 v5 v6 v7 v8 v9 v10 v11 v12 : Option W), HeldOk P ds hss ∧ ρ = [some (.d (logD P ds)), some (.d (tabD P ds)), some (.d (.tuple (img.map optD))), v3, some (.hl p qs hss), v5, v6, v7, v8, v9, v10, v11, v12, none, none]) ⟨hss, _, _, _, _, _, _, _, _, _, hs, rfl⟩ ?_ ?_
      · rintro sw x ρ e ⟨hss, v3, v5, v6, v7, v8, v9, v10, v11, v12, hs, rfl⟩
        clear e
        walk_at "jgo"
        refine x_QFor (fun i ρ => ∃ (hss : List (List PyData)) (n : Int) (v3 v7 v8 v9 v10 v11 v12 : Option W), HeldOk P ds hss ∧ ρ = [some (.d (logD P ds)), some (.d (tabD P ds)), some (.d (.tuple (img.map optD))), v3, some (.hl p qs hss), some (.d x), some (.d (.int n)), v7, v8, v9, v10, v11, v12, none, none]) ⟨hss, _, _, _, _, _, _, _, _, hs, rfl⟩ ?_ ?_
        · rintro i y ρ e ⟨hss, n, v3, v7, v8, v9, v10, v11, v12, hs, rfl⟩
          obtain ⟨z, e1, rfl⟩ := enumD_get e
          obtain ⟨d, ed, rfl⟩ := map_get e1
          have hi := (List.getElem?_eq_some_iff.mp ed).1
          have hw := wf.d d (List.mem_of_getElem? ed)
          have t3 : atI (tabXs P ds) (0 + (i : Int) + 1) = some (.list (natsD (verL P (ds.take (i + 1))))) := atI_i (i := i + 1) (by omega) (tabXs_at (by omega))
          have t4 := atI_nat (natsD_at (ver_at (ds := ds) (s := i + 1) hw.pg))
          have t5 := ver_step ed
          have t6 := ver_top ds (i + 1) d.1
          obtain ⟨bs, hb1, hb2⟩ := hs.at hw.pg
          have ix1 : ixN hss.length (d.1 : Int) = some d.1 := ixN_nat (by rw [hs.1]; exact hw.pg)
          have a1 : atI (bs.map PyData.bool) ((ver ds (i + 1) d.1 : Int) - 1) = some (.bool bs[ver ds i d.1]) := atI_i (i := ver ds i d.1) (by omega) (boolD_at (by omega))
          have a2 : atI (bs.map PyData.bool) (ver ds (i + 1) d.1 : Int) = some (.bool bs[ver ds (i + 1) d.1]) := atI_nat (boolD_at (by omega))
          walk_at "jgo"
          refine x_ixH (i := 4) rfl ix1 fun q1 hq1 => ?_
          walk_at "jgo"
          refine x_ixQ (i := 4) rfl hq1 hb1 a1 ?_
          walk_at "jgo"
          refine x_ixH (i := 4) rfl ix1 fun q2 hq2 => ?_
          walk_at "jgo"
          refine x_ixQ (i := 4) rfl hq2 hb1 a2 ?_
          walk_at "jgo"
          refine x_bool (fun _ => ?_) (fun _ => ?_)
          · walk_at "jgo"
            have hl2 := hw.len
            refine x_LcSub (ns := d.2) (fun _ => True) rfl (by walk_at "jno") (by omega) (fun r hr => ?_) fun zs hzs _ => ?_
            · have hr2 := (hw.rd r hr).1
              have u4 := atI_nat (natsD_at (ver_at (ds := ds) (s := i + 1) hr2))
              have u6 := ver_top ds (i + 1) r
              obtain ⟨cs, hc1, hc2⟩ := hs.at hr2
              have ix2 : ixN hss.length (r : Int) = some r := ixN_nat (by rw [hs.1]; exact hr2)
              have a3 : atI (cs.map PyData.bool) (ver ds (i + 1) r : Int) = some (.bool cs[ver ds (i + 1) r]) := atI_nat (boolD_at (by omega))
              walk_at "jgo"
              refine ⟨by walk_at "jwp", ?_⟩
              walk_at "jgo"
              refine x_ixH (i := 4) rfl ix2 fun q3 hq3 => ?_
              walk_at "jgo"
              refine x_ixQ (i := 4) rfl hq3 hc1 a3 ?_
              walk_at "jgo"
              refine x_boolN (fun _ => ?_) (fun _ => ?_)
              · refine ⟨trivial, ?_⟩
                walk_at "jgo"
                exact ⟨rfl, by walk_at "jwp"⟩
              · walk_at "jwp"
            · have s1 : Shp (.list (natsD zs)) := (dpt_lst (dpt_nats zs)).shp (by omega)
              have s2 : Shp (.list []) := by decide
              walk_at "jgo"
              refine x_bool (fun _ => ?_) (fun _ => ?_)
              · have m1 : ixN (bs.map PyData.bool).length ((ver ds (i + 1) d.1 : Int) - 1) = some (ver ds i d.1) := by
                  rw [show (ver ds (i + 1) d.1 : Int) - 1 = ((ver ds i d.1 : Nat) : Int) from by omega]
                  exact ixN_nat (by rw [List.length_map]; omega)
                walk_at "jgo"
                refine x_ixH (i := 4) rfl ix1 fun q4 hq4 => ?_
                walk_at "jgo"
                refine x_QSetHN (i := 4) rfl hq4 hb1 m1 ?_
                have hs2 := hs.set hb1 (j := ver ds i d.1) true
                obtain ⟨cs, hc1, hc2⟩ := hs2.at hw.pg
                have ix3 : ixN (hss.set d.1 ((bs.map PyData.bool).set (ver ds i d.1) (.bool true))).length (d.1 : Int) = some d.1 := ixN_nat (by rw [hs2.1]; exact hw.pg)
                have m2 : ixN (cs.map PyData.bool).length (ver ds (i + 1) d.1 : Int) = some (ver ds (i + 1) d.1) := ixN_nat (by rw [List.length_map]; omega)
                have hs3 := hs2.set hc1 (j := ver ds (i + 1) d.1) true
                generalize hss.set d.1 ((bs.map PyData.bool).set (ver ds i d.1) (.bool true)) = hss2 at hs2 hc1 ix3 hs3 ⊢
                walk_at "jgo"
                refine x_ixH (i := 4) rfl ix3 fun q5 hq5 => ?_
                walk_at "jgo"
                refine x_QSetHN (i := 4) rfl hq5 hc1 m2 ?_
                generalize hss2.set d.1 ((cs.map PyData.bool).set (ver ds (i + 1) d.1) (.bool true)) = hss3 at hs3 ⊢
                walk_at "jgo"
                exact ⟨hss3, _, _, _, _, _, _, _, _, hs3, rfl⟩
              · walk_at "jgo"
                exact ⟨hss, _, _, _, _, _, _, _, _, hs, rfl⟩
          · walk_at "jgo"
            exact ⟨hss, _, _, _, _, _, _, _, _, hs, rfl⟩
        · rintro ρ ⟨hss, n, v3, v7, v8, v9, v10, v11, v12, hs, rfl⟩
          walk_at "jgo"
          refine x_dec (fun _ => ?_) (fun _ => ?_)
          · walk_at "jgo"
            exact ⟨q p qs hss hs, by walk_at "jk"⟩
          · walk_at "jgo"
            exact ⟨hss, _, _, _, _, _, _, _, _, _, hs, rfl⟩
      · rintro ρ ⟨hss, v3, v5, v6, v7, v8, v9, v10, v11, v12, hs, rfl⟩
        walk_at "jgo"
        exact ⟨q p qs hss hs, by walk_at "jk"⟩
end
end WD

namespace WD
open PySem PySem.Spec PyProof.Rows L2
-- p ≠ q of two addresses
local macro_rules | `(tactic| walk_at "ne") => `(tactic| first
  | with_reducible assumption
  | with_reducible exact Ne.symm (by assumption)
  | exact ne_some (by with_reducible assumption) (by with_reducible assumption)
  | exact Ne.symm (ne_some (by with_reducible assumption) (by with_reducible assumption)))
local macro_rules | `(tactic| walk_at "nm") => `(tactic| first | with_reducible assumption | with_reducible exact nm0 | ((with_reducible refine' nmS ?a ?b); (case a => walk_at "ne"); (case b => walk_at "nm")))
-- H p = some ?o
local macro_rules | `(tactic| walk_at "hp") => `(tactic| first
  | with_reducible exact upd_same
  | with_reducible assumption
  | ((with_reducible refine' Eq.trans (upd_ne ?a) ?b); (case a => walk_at "ne"); (case b => walk_at "hp"))
  | exact Stay.keep (by with_reducible assumption) _ _ (by walk_at "hp") (by walk_at "nm"))
local macro_rules | `(tactic| walk_at "hpd") => `(tactic| ((refine' Eq.trans ?h ?e); (case h => walk_at "hp"); (case e => exact rfl)))
-- a new address
local macro_rules | `(tactic| walk_at "nw") => `(tactic| ((repeat first | (with_reducible refine' nw_upd ?_) | refine' nw_fr (by with_reducible assumption) ?_); intro p_; intros))
local macro_rules | `(tactic| walk_at "mem") => `(tactic| first | exact List.mem_cons_self | (refine' List.mem_cons_of_mem _ ?_; walk_at "mem"))
-- what stands stays
local macro_rules | `(tactic| walk_at "fr") => `(tactic| first
  | with_reducible assumption
  | exact Stay.refl _ _
  | ((with_reducible refine' Stay.upd ?a ?b); (case a => walk_at "fr"); (case b => walk_at "mem"))
  | ((with_reducible refine' Stay.new ?a ?b); (case b => with_reducible assumption); (case a => walk_at "fr"))
  | (refine' Stay.trans ?_ (by with_reducible assumption); walk_at "fr"))
local macro_rules | `(tactic| walk_at "sq") => `(tactic| first | with_reducible assumption | exact SqL.of (by walk_at "hp"))
local macro_rules | `(tactic| walk_at "sqt") => `(tactic| first | with_reducible assumption | exact SqT.of (by walk_at "hp"))
-- side goals
local macro_rules | `(tactic| walk_at "sd") => `(tactic| first
  | with_reducible assumption | with_reducible rfl | (show _ ≤ sizeLine; decide) | (refine Nat.le_trans (Nat.le_of_ble_eq_true (m := 1000) rfl) (by decide)) | decide | omega
  | exact IntMulOk.of_right (intBits_le_64 (by omega) (by omega)) | exact IntMulOk.of_left (intBits_le_64 (by omega) (by omega))
  | (refine' Or.inl ⟨?_, ?_⟩ <;> omega) | (refine' Or.inr ⟨?_, ?_⟩ <;> omega)
  | (refine' ⟨?_, ?_⟩ <;> walk_at "sd") | (refine' ⟨?_, ?_, ?_⟩ <;> walk_at "sd"))
local macro_rules | `(tactic| walk_at "set") => `(tactic| first | with_reducible exact set0 | with_reducible exact set1 | with_reducible exact set2 | with_reducible exact set3 | with_reducible exact set4 | with_reducible exact set5 | with_reducible exact set6 | with_reducible exact set7 | with_reducible exact set8 | with_reducible exact set9 | with_reducible exact set10 | with_reducible exact set11 | with_reducible exact set12 | with_reducible exact set13 | with_reducible exact set14 | with_reducible exact set15 | with_reducible exact set16 | with_reducible exact set17 | with_reducible exact set18 | with_reducible exact set19 | with_reducible exact set20)
-- one step
local macro_rules | `(tactic| walk_at "st0") => `(tactic| first
  | with_reducible refine' x_seq ?_
  | with_reducible refine' x_next ?_
  | with_reducible refine' x_ifS ?_
  | with_reducible refine' x_asg ?_
  | with_reducible refine' x_ret ?_
  | with_reducible refine' x_retN ?_
  | with_reducible refine' x_drop ?_
  | with_reducible refine' x_brk ?_
  | with_reducible refine' x_cont ?_
  | ((with_reducible refine' x_gName ?e ?_); (case e => walk_at "set"))
  | with_reducible refine' x_gSub ?_
  | with_reducible refine' x_gCons ?_
  | with_reducible refine' x_gNil ?_
  | with_reducible refine' x_c ?_
  | ((with_reducible refine' x_var ?e ?_); (case e => exact rfl))
  | with_reducible refine' x_op ?_
  | with_reducible refine' x_un ?_
  | with_reducible refine' x_if ?_
  | with_reducible refine' x_cb ?_
  | with_reducible refine' x_cons ?_
  | with_reducible refine' x_nil ?_
  | with_reducible refine' x_bm0 ?_
  | with_reducible refine' x_bm ?_
  | with_reducible refine' x_tup ?_
  | with_reducible refine' x_lst ?_
  | ((with_reducible refine' And.intro (a := _ ≤ sizeLine) ?e ?_); (case e => walk_at "sd"); walk_at "nw")
  | with_reducible refine' x_fld ?_
  | with_reducible refine' x_test ?_
  | with_reducible refine' x_tB ?_
  | with_reducible refine' x_and ?_
  | with_reducible refine' x_or ?_
  | with_reducible refine' x_not ?_
  | with_reducible refine' x_notV ?_
  | with_reducible refine' x_andV ?_
  | with_reducible refine' x_orV ?_
  | with_reducible refine' x_rI0 ?_
  | ((with_reducible refine' x_rI ?e ?_); (case e => walk_at "sd"))
  | with_reducible refine' x_rU ?_
  | ((with_reducible refine' x_rEq ?e ?_); (case e => exact rfl))
  | ((with_reducible refine' x_rNe ?e ?_); (case e => exact rfl))
  | ((with_reducible refine' x_ixL0 ?h ?_); (case h => walk_at "sq"))
  | ((with_reducible refine' x_ixL1 ?h ?_); (case h => walk_at "sq"))
  | ((with_reducible refine' x_ixL2 ?h ?_); (case h => walk_at "sq"))
  | ((with_reducible refine' x_ixL0I ?h ?_); (case h => walk_at "sq"))
  | ((with_reducible refine' x_ixL ?h ?e ?_); (case h => walk_at "sq"); (case e => exact rfl))
  | ((with_reducible refine' x_neNil ?h ?h2 ?_); (case h => walk_at "sq"); (case h2 => walk_at "sq"))
  | ((with_reducible refine' x_pop0I ?h ?_); (case h => walk_at "hp"))
  | ((with_reducible refine' x_pop0 ?h ?_); (case h => walk_at "hp"))
  | ((with_reducible refine' x_setL0 ?h ?_); (case h => walk_at "hp"))
  | ((with_reducible refine' x_setL1 ?h ?_); (case h => walk_at "hp"))
  | ((with_reducible refine' x_setL2 ?h ?_); (case h => walk_at "hp"))
  | ((with_reducible refine' x_setL ?h ?e ?_); (case h => walk_at "hp"); (case e => exact rfl))
  | with_reducible refine' .inl ⟨_, rfl, ?_⟩
  | ((with_reducible refine' x_tyL ?h ?_); (case h => walk_at "sq"))
  | with_reducible refine' ⟨_, rfl, ?_⟩)
-- a split
local macro_rules | `(tactic| walk_at "if") => `(tactic| (
  first
  | (with_reducible refine' x_dec (fun h_ => ?_) (fun h_ => ?_))
  | (with_reducible refine' x_decN (fun h_ => ?_) (fun h_ => ?_))
  | (with_reducible refine' x_boolN (fun h_ => ?_) (fun h_ => ?_))
  | (with_reducible refine' x_bool (fun h_ => ?_) (fun h_ => ?_))))
local macro_rules | `(tactic| walk_at "ifs") => `(tactic| (walk_at "if" <;> first
  | (exfalso; first | omega | contradiction)
  | (rename_i h_; (try simp only [BEq.rfl, List.length_map, List.length_cons, List.length_nil, Int.natCast_zero, Int.ofNat_zero, gt_iff_lt, Int.lt_irrefl, Bool.true_eq_false, Bool.false_eq_true, List.isEmpty_nil, List.isEmpty_cons, V.int.injEq, V.str.injEq, V.bl.injEq, reduceCtorEq, not_false_eq_true, not_true_eq_false] at h_); (try (exfalso; omega)))))
local macro_rules | `(tactic| walk_at "ite1") => `(tactic| first
  | with_reducible refine' x_T ?_
  | with_reducible refine' x_F ?_
  | with_reducible refine' x_nT ?_
  | with_reducible refine' x_nF ?_
  | ((with_reducible refine' x_bT ?e ?_); (case e => first | decide | decide +kernel))
  | ((with_reducible refine' x_bF ?e ?_); (case e => first | decide | decide +kernel)))
local macro_rules | `(tactic| walk_at "st") => `(tactic| ((fail_if_success (with_reducible (show (if _ then _ else _)))); walk_at "st0"))
local macro_rules | `(tactic| walk_at "go") => `(tactic| repeat first | walk_at "ite1" | walk_at "st")
local macro_rules | `(tactic| walk_at "gs") => `(tactic| repeat' first | walk_at "ite1" | walk_at "st" | walk_at "ifs")
local macro_rules | `(tactic| walk_at "jsd") => `(tactic| first
  | exact trivial | with_reducible assumption | with_reducible rfl | (show _ ≤ sizeLine; decide) | (refine Nat.le_trans (Nat.le_of_ble_eq_true (m := 1000) rfl) (by decide)) | decide | omega
  | (simp only [List.length_append, List.length_cons, List.length_nil, List.length_map, List.length_range, natsD_len, verL_len, tabXs_len, List.length_replicate, Int.toNat_natCast, rgD_len, List.length_take, List.length_drop, zipD_len, enumD_len]; omega)
  | exact IntMulOk.of_right (intBits_le_64 (by omega) (by omega)) | exact IntMulOk.of_left (intBits_le_64 (by omega) (by omega))
  | (refine' Or.inl ⟨?_, ?_⟩ <;> omega) | (refine' Or.inr ⟨?_, ?_⟩ <;> omega)
  | (refine' ⟨?_, ?_⟩ <;> walk_at "jsd") | (refine' ⟨?_, ?_, ?_⟩ <;> walk_at "jsd") | (refine' ⟨?_, ?_, ?_, ?_⟩ <;> walk_at "jsd"))
local macro_rules | `(tactic| walk_at "jshp") => `(tactic| first | with_reducible assumption | (show SeqAt.shaped _ = true; first | assumption | decide))
local macro_rules | `(tactic| walk_at "jix") => `(tactic| first | with_reducible assumption | exact rfl)
local macro_rules | `(tactic| walk_at "jdrw") => `(tactic| exact ⟨by omega, Nat.lt_of_le_of_lt (Nat.log2_le_self _) (by omega)⟩)
local macro_rules | `(tactic| walk_at "jno") => `(tactic| first | exact ⟨trivial, by walk_at "jno"⟩ | exact ⟨rfl, by walk_at "jno"⟩ | exact trivial)
local macro_rules | `(tactic| walk_at "jno1") => `(tactic| (intro v_ m_; simp only [List.mem_cons, List.not_mem_nil, or_false] at m_; first | (subst m_; exact trivial) | (subst m_; exact rfl) | (rcases m_ with m_ | m_ <;> subst m_ <;> first | exact trivial | exact rfl) | (rcases m_ with m_ | m_ | m_ <;> subst m_ <;> first | exact trivial | exact rfl)))
local macro_rules | `(tactic| walk_at "jst0") => `(tactic| first
  | refine' Stp.imp ?_
  | ((with_reducible refine' x_PI2 ?e ?_); (case e => walk_at "jsd"))
  | ((with_reducible refine' x_ixAT (Vw.eq) ?e2 ?_); (case e2 => walk_at "jix"))
  | ((with_reducible refine' x_ixAL (Vw.eq) ?e2 ?_); (case e2 => walk_at "jix"))
  | ((with_reducible refine' x_RApp ?l ?_); (case l => walk_at "jsd"))
  | with_reducible refine' J_callN ?_
  | ((with_reducible refine' J_pool ?w ?e ?_); (case w => with_reducible assumption); (case e => with_reducible assumption))
  | ((with_reducible refine' J_callS ?w ?_); (case w => with_reducible assumption))
  | ((with_reducible refine' J_xw ?w ?_); (case w => with_reducible assumption))
  | ((with_reducible refine' J_isX ?w ?_); (case w => with_reducible assumption))
  | with_reducible refine' x_xwJ ?_
  | ((with_reducible refine' x_isX1 ?w ?_); (case w => with_reducible assumption))
  | ((with_reducible refine' x_isX2 ?w ?_); (case w => with_reducible assumption))
  | ((with_reducible refine' J_call ?w ?_); (case w => with_reducible assumption))
  | ((with_reducible refine' x_QDraw (SlotAt.eq) ?c ?_); (case c => walk_at "jdrw"))
  | ((with_reducible refine' x_QR1 ?c ?_); (case c => walk_at "jsd"))
  | ((with_reducible refine' x_QR2 ?c ?_); (case c => walk_at "jsd"))
  | ((with_reducible refine' x_addL (Vw.eq) (Vw.eq) ?c ?_); (case c => walk_at "jsd"))
  | ((with_reducible refine' x_addT (Vw.eq) (Vw.eq) ?c ?_); (case c => walk_at "jsd"))
  | ((with_reducible refine' x_addS' ?c ?_); (case c => walk_at "jsd"))
  | ((with_reducible refine' x_mulI ?c ?_); (case c => walk_at "jsd"))
  | ((with_reducible refine' x_mulL1 (Vw.eq) ?c ?_); (case c => walk_at "jsd"))
  | ((with_reducible refine' x_mulS ?c ?_); (case c => walk_at "jsd"))
  | ((with_reducible refine' x_isNj (Vw.eq) ?_))
  | ((with_reducible refine' x_notNj (Vw.eq) ?_))
  | ((with_reducible refine' x_eqA (Vw.eq) (Vw.eq) ?c ?d ?_); (case c => walk_at "jshp"); (case d => walk_at "jshp"))
  | ((with_reducible refine' x_neA (Vw.eq) (Vw.eq) ?c ?d ?_); (case c => walk_at "jshp"); (case d => walk_at "jshp"))
  | ((with_reducible refine' x_QIn (Vw.eq) ?e2 ?f ?g ?_); (case e2 => exact rfl); (case f => exact rfl); (case g => first | with_reducible assumption | exact rfl))
  | ((with_reducible refine' x_QInN (Vw.eq) ?e2 ?f ?g ?_); (case e2 => exact rfl); (case f => exact rfl); (case g => first | with_reducible assumption | exact rfl))
  | ((with_reducible refine' x_lenS' (Vw.eq) ?l ?_); (case l => walk_at "jsd"))
  | ((with_reducible refine' x_slS' ?l ?_); (case l => walk_at "jsd"))
  | with_reducible refine' J_raise (by with_reducible assumption) (by with_reducible assumption) ?_
  | with_reducible refine' x_X1 ?_
  | ((with_reducible refine' And.intro (a := RgOk _ _) ?c ?_); (case c => exact RgOk.of_le (by omega) (by omega) (by omega) (by omega))))
local macro_rules | `(tactic| walk_at "jite") => `(tactic| first
  | ((with_reducible refine' x_bT ?e ?_); (case e => first | exact rfl | decide | decide +kernel))
  | ((with_reducible refine' x_bF ?e ?_); (case e => first | exact rfl | decide | decide +kernel)))
local macro_rules | `(tactic| walk_at "jst") => `(tactic| walk_at "jst0")
local macro_rules | `(tactic| walk_at "jgo") => `(tactic| repeat first | walk_at "jst0" | walk_at "jite")
local macro_rules | `(tactic| walk_at "jgs") => `(tactic| repeat' first | walk_at "jst0" | walk_at "jite" | walk_at "ifs")
local macro_rules | `(tactic| walk_at "jk") => `(tactic| first | exact trivial | exact ⟨rfl, by walk_at "jk"⟩)
local macro_rules | `(tactic| walk_at "jwp") => `(tactic| exact ⟨rfl, by walk_at "jno1"⟩)
local macro_rules | `(tactic| walk_at "jif") => `(tactic| repeat ((fail_if_success (with_reducible show JS _ _ (tSeq (tIfS _ _ _) _) _ _)); first | walk_at "jst0" | walk_at "jite"))
local macro_rules | `(tactic| walk_at "jie") => `(tactic| repeat ((fail_if_success (with_reducible show J _ _ (tIf _ _ _) _ _)); first | walk_at "jst0" | walk_at "jite"))
local macro_rules | `(tactic| walk_at "nq") => `(tactic| decide +kernel)
local macro_rules | `(tactic| walk_at "nr") => `(tactic| decide +kernel)

section
variable {P : Program} {w : World} {K : PySem.W.Frag} {mg : Str → Option Value} {base : Heap}
def psp__law_lots : PSp := fun ws Φ _ => ∃ bss, ws = [.d (.list (List.map boolsD bss))] ∧ (bss.length ≤ 1000 ∧ ∀ bs ∈ bss, bs.length ≤ 1000) ∧ Φ (.d (.tuple ((List.map lotB bss).map lotD)))
theorem c_lots {bss : List (List Bool)} {Φ : W → Prop} {Ξ : Addr → PyData → Prop} (h : bss.length ≤ 1000 ∧ ∀ bs ∈ bss, bs.length ≤ 1000) (q : Φ (.d (.tuple ((List.map lotB bss).map lotD)))) : psp__law_lots [.d (.list (bss.map boolsD))] Φ Ξ := ⟨bss, rfl, h, q⟩
theorem sc__law_lots : FnScope ["held", "found", "truths", "some", "version"] ["held"] (defScope s__law_lots) := ⟨rfl, rfl, rfl, by decide +kernel, rfl, by decide +kernel, by decide +kernel⟩
theorem ok__law_lots (T : G K mg) : FnOk P w K mg base CX0 1 T.f__law_lots T.d__law_lots ["held"] (SP K psp__law_lots) := by
  refine T.F__law_lots.ok sc__law_lots (fun vs H Q E h => ?_) (fun cdv A outer s H vs Q E hr h => ?_)
  · exact SP.len h fun ws Φ Ξ hp => by obtain ⟨bss, rfl, ⟨h1, h2⟩, q⟩ := hp; rfl
  · have hu := hu_of hr
    have nd := sc__law_lots.nd
    refine ⟨_, (pss_cons (ps_set (i := 1) nd rfl (Or.inl rfl) (pe_lst pa_nil))
        (pss_cons (ps_for PassesOwn.never rfl (pi_anyK (K := K) rfl (pv 0)) (pg_name (i := 2) nd rfl (Or.inr rfl)) (pss_cons (ps_setLc (i := 3) (own := [("version", 4)]) (g := gName 4) rfl nd rfl rfl (sw_true rfl rfl rfl (by decide +kernel)) (pi_range1 rfl T.n_range (pa_cons (pe_callB (r := rLenA K) call_lenA (by rfl) T.n_len PySem.boot_len (pa_cons (pv 2) pa_nil)) pa_nil)) (blkOk_by (own := [("version", 4)]) (N := ["held", "found", "truths", "some", "version"]) (sc := defScope s__law_lots) (by decide +kernel)) (fun _ _ _ _ _ => (pg_name (i := 4) nd rfl (Or.inl rfl))) (fun _ _ _ _ _ => (pts_one (pt_val (pe_ix (r := rIx K) ix_seq (pv 2) (pv 4) (fun _ _ => rfl))))) (fun _ _ _ _ _ => (pv 4)))
        (pss_one (ps_expr (pe_bmK (K := K) rfl PySem.F.plainAttrs_list PySem.F.slot_list_append PySem.F.type_list_append mt_append (pv 1) (pa_cons (pe_ifExp (pt_cmpR (r := rEqA K) (op_eqA hr.units) (pv 3) (pe_lst pa_nil) (nomark _)) pe_non (pe_tup (pa_cons (pe_ix (r := rIx K) ix_seq (pv 3) pe_int (fun _ _ => rfl)) (pa_cons (pe_ix (r := rIx K) ix_seq (pv 3) (pe_un un_neg pe_int) (fun _ _ => rfl)) pa_nil)))) pa_nil))))))
        (pss_one (ps_ret (pe_callTy (r := rTupleOf K) call_tupleOf (by rfl) T.n_tuple (by decide +kernel) (pa_cons (pv 1) pa_nil)))))), SP.run h fun ws Φ Ξ B hp hX => ?_⟩
    clear h
    obtain ⟨bss, rfl, ⟨h1, h2⟩, q⟩ := hp
    show JS K B _ [some (.d (.list (bss.map boolsD))), none, none, none, none] _
    have hz := sizeLine_eq
    walk_at "jgo"
    refine x_QFor (fun i ρ => ∃ v1 v2 : Option W, ρ = [some (.d (.list (bss.map boolsD))), some (.l (((bss.take i).map lotB).map lotD)), v1, v2, none]) ⟨none, none, rfl⟩ ?_ ?_
    · rintro i x ρ e ⟨v1, v2, rfl⟩
      obtain ⟨bs, eb, rfl⟩ := map_get e
      have hb := h2 bs (List.mem_of_getElem? eb)
      have hi := (List.getElem?_eq_some_iff.mp eb).1
      have hl : (((bss.take i).map lotB).map lotD).length ≤ 1000 := by rw [List.length_map, List.length_map, List.length_take]; omega
      have up : ((bss.take (i + 1)).map lotB).map lotD = ((bss.take i).map lotB).map lotD ++ [lotD (lotB bs)] := by
        rw [List.take_succ, eb]; simp
      walk_at "jgo"
      refine x_LcFilN (ns := List.range bs.length) (fun i => bs.getD i false) (by rw [List.length_map]; exact rgD_nats _) (by walk_at "jno") (by rw [List.length_range]; omega) (fun n hn => ?_) ?_
      · have hn' := List.mem_range.mp hn
        have ia := atI_nat (boolD_at hn')
        walk_at "jgo"
        refine ⟨by walk_at "jwp", ?_⟩
        walk_at "jgo"
        refine ⟨by rw [List.getD_eq_getElem?_getD, List.getElem?_eq_getElem hn']; rfl, ?_⟩
        refine x_bool (fun _ => ?_) (fun _ => ?_)
        · walk_at "jgo"
          exact ⟨rfl, by walk_at "jwp"⟩
        · walk_at "jwp"
      · have s1 : Shp (.list (natsD ((List.range bs.length).filter fun i => bs.getD i false))) := (dpt_lst (dpt_nats _)).shp (by omega)
        have s2 : Shp (.list []) := by decide
        walk_at "jgo"
        have eb2 : lotB bs = match (List.range bs.length).filter (fun i => bs.getD i false) with
          | [] => none
          | a :: r => some (a, (a :: r).getLast (by simp)) := rfl
        generalize (List.range bs.length).filter (fun i => bs.getD i false) = zs at s1 eb2 ⊢
        cases zs with
        | nil =>
          walk_at "jgo"
          exact ⟨_, some (.l (natsD [])), by rw [up, eb2]; rfl⟩
        | cons a r =>
          have a1 : atI (natsD (a :: r)) 0 = some (natD a) := atI_nat (i := 0) rfl
          have a2 : atI (natsD (a :: r)) (-1) = some (natD ((a :: r).getLast (by simp))) := atI_last (by
            unfold natsD
            rw [List.getLast?_map, List.getLast?_eq_some_getLast (by simp)]; rfl)
          walk_at "jgo"
          exact ⟨_, some (.l (natsD (a :: r))), by rw [up, eb2]; rfl⟩
    · rintro ρ ⟨v1, v2, rfl⟩
      rw [List.length_map, List.take_length]
      walk_at "jgo"
      exact ⟨q, by walk_at "jk"⟩
end
end WD

namespace WD
open PySem PySem.Spec PyProof.Rows L2
-- p ≠ q of two addresses
local macro_rules | `(tactic| walk_at "ne") => `(tactic| first
  | with_reducible assumption
  | with_reducible exact Ne.symm (by assumption)
  | exact ne_some (by with_reducible assumption) (by with_reducible assumption)
  | exact Ne.symm (ne_some (by with_reducible assumption) (by with_reducible assumption)))
local macro_rules | `(tactic| walk_at "nm") => `(tactic| first | with_reducible assumption | with_reducible exact nm0 | ((with_reducible refine' nmS ?a ?b); (case a => walk_at "ne"); (case b => walk_at "nm")))
-- H p = some ?o
local macro_rules | `(tactic| walk_at "hp") => `(tactic| first
  | with_reducible exact upd_same
  | with_reducible assumption
  | ((with_reducible refine' Eq.trans (upd_ne ?a) ?b); (case a => walk_at "ne"); (case b => walk_at "hp"))
  | exact Stay.keep (by with_reducible assumption) _ _ (by walk_at "hp") (by walk_at "nm"))
local macro_rules | `(tactic| walk_at "hpd") => `(tactic| ((refine' Eq.trans ?h ?e); (case h => walk_at "hp"); (case e => exact rfl)))
-- a new address
local macro_rules | `(tactic| walk_at "nw") => `(tactic| ((repeat first | (with_reducible refine' nw_upd ?_) | refine' nw_fr (by with_reducible assumption) ?_); intro p_; intros))
local macro_rules | `(tactic| walk_at "mem") => `(tactic| first | exact List.mem_cons_self | (refine' List.mem_cons_of_mem _ ?_; walk_at "mem"))
-- what stands stays
local macro_rules | `(tactic| walk_at "fr") => `(tactic| first
  | with_reducible assumption
  | exact Stay.refl _ _
  | ((with_reducible refine' Stay.upd ?a ?b); (case a => walk_at "fr"); (case b => walk_at "mem"))
  | ((with_reducible refine' Stay.new ?a ?b); (case b => with_reducible assumption); (case a => walk_at "fr"))
  | (refine' Stay.trans ?_ (by with_reducible assumption); walk_at "fr"))
local macro_rules | `(tactic| walk_at "sq") => `(tactic| first | with_reducible assumption | exact SqL.of (by walk_at "hp"))
local macro_rules | `(tactic| walk_at "sqt") => `(tactic| first | with_reducible assumption | exact SqT.of (by walk_at "hp"))
-- side goals
local macro_rules | `(tactic| walk_at "sd") => `(tactic| first
  | with_reducible assumption | with_reducible rfl | (show _ ≤ sizeLine; decide) | (refine Nat.le_trans (Nat.le_of_ble_eq_true (m := 1000) rfl) (by decide)) | decide | omega
  | exact IntMulOk.of_right (intBits_le_64 (by omega) (by omega)) | exact IntMulOk.of_left (intBits_le_64 (by omega) (by omega))
  | (refine' Or.inl ⟨?_, ?_⟩ <;> omega) | (refine' Or.inr ⟨?_, ?_⟩ <;> omega)
  | (refine' ⟨?_, ?_⟩ <;> walk_at "sd") | (refine' ⟨?_, ?_, ?_⟩ <;> walk_at "sd"))
local macro_rules | `(tactic| walk_at "set") => `(tactic| first | with_reducible exact set0 | with_reducible exact set1 | with_reducible exact set2 | with_reducible exact set3 | with_reducible exact set4 | with_reducible exact set5 | with_reducible exact set6 | with_reducible exact set7 | with_reducible exact set8 | with_reducible exact set9 | with_reducible exact set10 | with_reducible exact set11 | with_reducible exact set12 | with_reducible exact set13 | with_reducible exact set14 | with_reducible exact set15 | with_reducible exact set16 | with_reducible exact set17 | with_reducible exact set18 | with_reducible exact set19 | with_reducible exact set20)
-- one step
local macro_rules | `(tactic| walk_at "st0") => `(tactic| first
  | with_reducible refine' x_seq ?_
  | with_reducible refine' x_next ?_
  | with_reducible refine' x_ifS ?_
  | with_reducible refine' x_asg ?_
  | with_reducible refine' x_ret ?_
  | with_reducible refine' x_retN ?_
  | with_reducible refine' x_drop ?_
  | with_reducible refine' x_brk ?_
  | with_reducible refine' x_cont ?_
  | ((with_reducible refine' x_gName ?e ?_); (case e => walk_at "set"))
  | with_reducible refine' x_gSub ?_
  | with_reducible refine' x_gCons ?_
  | with_reducible refine' x_gNil ?_
  | with_reducible refine' x_c ?_
  | ((with_reducible refine' x_var ?e ?_); (case e => exact rfl))
  | with_reducible refine' x_op ?_
  | with_reducible refine' x_un ?_
  | with_reducible refine' x_if ?_
  | with_reducible refine' x_cb ?_
  | with_reducible refine' x_cons ?_
  | with_reducible refine' x_nil ?_
  | with_reducible refine' x_bm0 ?_
  | with_reducible refine' x_bm ?_
  | with_reducible refine' x_tup ?_
  | with_reducible refine' x_lst ?_
  | ((with_reducible refine' And.intro (a := _ ≤ sizeLine) ?e ?_); (case e => walk_at "sd"); walk_at "nw")
  | with_reducible refine' x_fld ?_
  | with_reducible refine' x_test ?_
  | with_reducible refine' x_tB ?_
  | with_reducible refine' x_and ?_
  | with_reducible refine' x_or ?_
  | with_reducible refine' x_not ?_
  | with_reducible refine' x_notV ?_
  | with_reducible refine' x_andV ?_
  | with_reducible refine' x_orV ?_
  | with_reducible refine' x_rI0 ?_
  | ((with_reducible refine' x_rI ?e ?_); (case e => walk_at "sd"))
  | with_reducible refine' x_rU ?_
  | ((with_reducible refine' x_rEq ?e ?_); (case e => exact rfl))
  | ((with_reducible refine' x_rNe ?e ?_); (case e => exact rfl))
  | ((with_reducible refine' x_ixL0 ?h ?_); (case h => walk_at "sq"))
  | ((with_reducible refine' x_ixL1 ?h ?_); (case h => walk_at "sq"))
  | ((with_reducible refine' x_ixL2 ?h ?_); (case h => walk_at "sq"))
  | ((with_reducible refine' x_ixL0I ?h ?_); (case h => walk_at "sq"))
  | ((with_reducible refine' x_ixL ?h ?e ?_); (case h => walk_at "sq"); (case e => exact rfl))
  | ((with_reducible refine' x_neNil ?h ?h2 ?_); (case h => walk_at "sq"); (case h2 => walk_at "sq"))
  | ((with_reducible refine' x_pop0I ?h ?_); (case h => walk_at "hp"))
  | ((with_reducible refine' x_pop0 ?h ?_); (case h => walk_at "hp"))
  | ((with_reducible refine' x_setL0 ?h ?_); (case h => walk_at "hp"))
  | ((with_reducible refine' x_setL1 ?h ?_); (case h => walk_at "hp"))
  | ((with_reducible refine' x_setL2 ?h ?_); (case h => walk_at "hp"))
  | ((with_reducible refine' x_setL ?h ?e ?_); (case h => walk_at "hp"); (case e => exact rfl))
  | with_reducible refine' .inl ⟨_, rfl, ?_⟩
  | ((with_reducible refine' x_tyL ?h ?_); (case h => walk_at "sq"))
  | with_reducible refine' ⟨_, rfl, ?_⟩)
-- a split
local macro_rules | `(tactic| walk_at "if") => `(tactic| (
  first
  | (with_reducible refine' x_dec (fun h_ => ?_) (fun h_ => ?_))
  | (with_reducible refine' x_decN (fun h_ => ?_) (fun h_ => ?_))
  | (with_reducible refine' x_boolN (fun h_ => ?_) (fun h_ => ?_))
  | (with_reducible refine' x_bool (fun h_ => ?_) (fun h_ => ?_))))
local macro_rules | `(tactic| walk_at "ifs") => `(tactic| (walk_at "if" <;> first
  | (exfalso; first | omega | contradiction)
  | (rename_i h_; (try simp only [BEq.rfl, List.length_map, List.length_cons, List.length_nil, Int.natCast_zero, Int.ofNat_zero, gt_iff_lt, Int.lt_irrefl, Bool.true_eq_false, Bool.false_eq_true, List.isEmpty_nil, List.isEmpty_cons, V.int.injEq, V.str.injEq, V.bl.injEq, reduceCtorEq, not_false_eq_true, not_true_eq_false] at h_); (try (exfalso; omega)))))
local macro_rules | `(tactic| walk_at "ite1") => `(tactic| first
  | with_reducible refine' x_T ?_
  | with_reducible refine' x_F ?_
  | with_reducible refine' x_nT ?_
  | with_reducible refine' x_nF ?_
  | ((with_reducible refine' x_bT ?e ?_); (case e => first | decide | decide +kernel))
  | ((with_reducible refine' x_bF ?e ?_); (case e => first | decide | decide +kernel)))
local macro_rules | `(tactic| walk_at "st") => `(tactic| ((fail_if_success (with_reducible (show (if _ then _ else _)))); walk_at "st0"))
local macro_rules | `(tactic| walk_at "go") => `(tactic| repeat first | walk_at "ite1" | walk_at "st")
local macro_rules | `(tactic| walk_at "gs") => `(tactic| repeat' first | walk_at "ite1" | walk_at "st" | walk_at "ifs")
local macro_rules | `(tactic| walk_at "jsd") => `(tactic| first
  | exact trivial | with_reducible assumption | with_reducible rfl | (show _ ≤ sizeLine; decide) | (refine Nat.le_trans (Nat.le_of_ble_eq_true (m := 1000) rfl) (by decide)) | decide | omega
  | (simp only [List.length_append, List.length_cons, List.length_nil, List.length_map, List.length_range, natsD_len, verL_len, tabXs_len, List.length_replicate, Int.toNat_natCast, rgD_len, List.length_take, List.length_drop, zipD_len, enumD_len]; omega)
  | exact IntMulOk.of_right (intBits_le_64 (by omega) (by omega)) | exact IntMulOk.of_left (intBits_le_64 (by omega) (by omega))
  | (refine' Or.inl ⟨?_, ?_⟩ <;> omega) | (refine' Or.inr ⟨?_, ?_⟩ <;> omega)
  | (refine' ⟨?_, ?_⟩ <;> walk_at "jsd") | (refine' ⟨?_, ?_, ?_⟩ <;> walk_at "jsd") | (refine' ⟨?_, ?_, ?_, ?_⟩ <;> walk_at "jsd"))
local macro_rules | `(tactic| walk_at "jshp") => `(tactic| first | with_reducible assumption | (show SeqAt.shaped _ = true; first | assumption | decide))
local macro_rules | `(tactic| walk_at "jix") => `(tactic| first | with_reducible assumption | exact rfl)
local macro_rules | `(tactic| walk_at "jdrw") => `(tactic| exact ⟨by omega, Nat.lt_of_le_of_lt (Nat.log2_le_self _) (by omega)⟩)
local macro_rules | `(tactic| walk_at "jno") => `(tactic| first | exact ⟨trivial, by walk_at "jno"⟩ | exact ⟨rfl, by walk_at "jno"⟩ | exact trivial)
local macro_rules | `(tactic| walk_at "jno1") => `(tactic| (intro v_ m_; simp only [List.mem_cons, List.not_mem_nil, or_false] at m_; first | (subst m_; exact trivial) | (subst m_; exact rfl) | (rcases m_ with m_ | m_ <;> subst m_ <;> first | exact trivial | exact rfl) | (rcases m_ with m_ | m_ | m_ <;> subst m_ <;> first | exact trivial | exact rfl)))
local macro_rules | `(tactic| walk_at "jst0") => `(tactic| first
  | refine' Stp.imp ?_
  | ((with_reducible refine' x_PI2 ?e ?_); (case e => walk_at "jsd"))
  | ((with_reducible refine' x_ixAT (Vw.eq) ?e2 ?_); (case e2 => walk_at "jix"))
  | ((with_reducible refine' x_ixAL (Vw.eq) ?e2 ?_); (case e2 => walk_at "jix"))
  | ((with_reducible refine' x_RApp ?l ?_); (case l => walk_at "jsd"))
  | with_reducible refine' J_callN ?_
  | ((with_reducible refine' J_pool ?w ?e ?_); (case w => with_reducible assumption); (case e => with_reducible assumption))
  | ((with_reducible refine' J_callS ?w ?_); (case w => with_reducible assumption))
  | ((with_reducible refine' J_xw ?w ?_); (case w => with_reducible assumption))
  | ((with_reducible refine' J_isX ?w ?_); (case w => with_reducible assumption))
  | with_reducible refine' x_xwJ ?_
  | ((with_reducible refine' x_isX1 ?w ?_); (case w => with_reducible assumption))
  | ((with_reducible refine' x_isX2 ?w ?_); (case w => with_reducible assumption))
  | ((with_reducible refine' J_call ?w ?_); (case w => with_reducible assumption))
  | ((with_reducible refine' x_QDraw (SlotAt.eq) ?c ?_); (case c => walk_at "jdrw"))
  | ((with_reducible refine' x_QR1 ?c ?_); (case c => walk_at "jsd"))
  | ((with_reducible refine' x_QR2 ?c ?_); (case c => walk_at "jsd"))
  | ((with_reducible refine' x_addL (Vw.eq) (Vw.eq) ?c ?_); (case c => walk_at "jsd"))
  | ((with_reducible refine' x_addT (Vw.eq) (Vw.eq) ?c ?_); (case c => walk_at "jsd"))
  | ((with_reducible refine' x_addS' ?c ?_); (case c => walk_at "jsd"))
  | ((with_reducible refine' x_mulI ?c ?_); (case c => walk_at "jsd"))
  | ((with_reducible refine' x_mulL1 (Vw.eq) ?c ?_); (case c => walk_at "jsd"))
  | ((with_reducible refine' x_mulS ?c ?_); (case c => walk_at "jsd"))
  | ((with_reducible refine' x_isNj (Vw.eq) ?_))
  | ((with_reducible refine' x_notNj (Vw.eq) ?_))
  | ((with_reducible refine' x_eqA (Vw.eq) (Vw.eq) ?c ?d ?_); (case c => walk_at "jshp"); (case d => walk_at "jshp"))
  | ((with_reducible refine' x_neA (Vw.eq) (Vw.eq) ?c ?d ?_); (case c => walk_at "jshp"); (case d => walk_at "jshp"))
  | ((with_reducible refine' x_QIn (Vw.eq) ?e2 ?f ?g ?_); (case e2 => exact rfl); (case f => exact rfl); (case g => first | with_reducible assumption | exact rfl))
  | ((with_reducible refine' x_QInN (Vw.eq) ?e2 ?f ?g ?_); (case e2 => exact rfl); (case f => exact rfl); (case g => first | with_reducible assumption | exact rfl))
  | ((with_reducible refine' x_lenS' (Vw.eq) ?l ?_); (case l => walk_at "jsd"))
  | ((with_reducible refine' x_slS' ?l ?_); (case l => walk_at "jsd"))
  | with_reducible refine' J_raise (by with_reducible assumption) (by with_reducible assumption) ?_
  | with_reducible refine' x_X1 ?_
  | ((with_reducible refine' And.intro (a := RgOk _ _) ?c ?_); (case c => exact RgOk.of_le (by omega) (by omega) (by omega) (by omega))))
local macro_rules | `(tactic| walk_at "jite") => `(tactic| first
  | ((with_reducible refine' x_bT ?e ?_); (case e => first | exact rfl | decide | decide +kernel))
  | ((with_reducible refine' x_bF ?e ?_); (case e => first | exact rfl | decide | decide +kernel)))
local macro_rules | `(tactic| walk_at "jst") => `(tactic| walk_at "jst0")
local macro_rules | `(tactic| walk_at "jgo") => `(tactic| repeat first | walk_at "jst0" | walk_at "jite")
local macro_rules | `(tactic| walk_at "jgs") => `(tactic| repeat' first | walk_at "jst0" | walk_at "jite" | walk_at "ifs")
local macro_rules | `(tactic| walk_at "jk") => `(tactic| first | exact trivial | exact ⟨rfl, by walk_at "jk"⟩)
local macro_rules | `(tactic| walk_at "jwp") => `(tactic| exact ⟨rfl, by walk_at "jno1"⟩)
local macro_rules | `(tactic| walk_at "jif") => `(tactic| repeat ((fail_if_success (with_reducible show JS _ _ (tSeq (tIfS _ _ _) _) _ _)); first | walk_at "jst0" | walk_at "jite"))
local macro_rules | `(tactic| walk_at "jie") => `(tactic| repeat ((fail_if_success (with_reducible show J _ _ (tIf _ _ _) _ _)); first | walk_at "jst0" | walk_at "jite"))
local macro_rules | `(tactic| walk_at "nq") => `(tactic| decide +kernel)
local macro_rules | `(tactic| walk_at "nr") => `(tactic| decide +kernel)

section
variable {P : Program} {w : World} {K : PySem.W.Frag} {mg : Str → Option Value} {base : Heap}
def psp__law_sliced : PSp := fun ws Φ _ => ∃ P ds lots s, ws = [.d (tabD P ds), .d (.tuple (List.map lotD lots)), .d (natD s)] ∧ Wf P ds ∧ (lots.length = P ∧ s ≤ ds.length ∧ ∀ (i a b : Nat), lots[i]? = some (some (a, b)) → a ≤ b) ∧ Φ (.d (.tuple (slD ds lots s)))
theorem c_sliced {P s : Nat} {ds : List Deed} {lots : List (Option (Nat × Nat))} {Φ : W → Prop} {Ξ : Addr → PyData → Prop} (w : Wf P ds) (h : lots.length = P ∧ s ≤ ds.length ∧ ∀ (i a b : Nat), lots[i]? = some (some (a, b)) → a ≤ b) (q : Φ (.d (.tuple (slD ds lots s)))) : psp__law_sliced [.d (tabD P ds), .d (.tuple (lots.map lotD)), .d (natD s)] Φ Ξ := ⟨P, ds, lots, s, rfl, w, h, q⟩
theorem sc__law_sliced : FnScope ["table", "lots", "s", "found", "page", "lot"] ["table", "lots", "s"] (defScope s__law_sliced) := ⟨rfl, rfl, rfl, by decide +kernel, rfl, by decide +kernel, by decide +kernel⟩
theorem ok__law_sliced (T : G K mg) : FnOk P w K mg base CX0 1 T.f__law_sliced T.d__law_sliced ["table", "lots", "s"] (SP K psp__law_sliced) := by
  refine T.F__law_sliced.ok sc__law_sliced (fun vs H Q E h => ?_) (fun cdv A outer s H vs Q E hr h => ?_)
  · exact SP.len h fun ws Φ Ξ hp => by obtain ⟨P, ds, lots, s, rfl, wf, ⟨hl, hs, hab⟩, q⟩ := hp; rfl
  · have hu := hu_of hr
    have nd := sc__law_sliced.nd
    refine ⟨_, (pss_cons (ps_set (i := 3) nd rfl (Or.inl rfl) (pe_lst pa_nil))
        (pss_cons (ps_for PassesOwn.never rfl (pi_enumK (K := K) rfl rfl T.n_enumerate (pa_cons (pv 1) pa_nil)) (pg_tupK (K := K) (n := 2) rfl rfl (pgs_cons (pg_name (i := 4) nd rfl (Or.inl rfl)) (pgs_cons (pg_name (i := 5) nd rfl (Or.inl rfl)) pgs_nil))) (pss_one (ps_if (pt_cmpR op_isN (pv 5) pe_non (nomark _)) (pss_one (ps_expr (pe_bmK (K := K) rfl PySem.F.plainAttrs_list PySem.F.slot_list_append PySem.F.type_list_append mt_append (pv 3) (pa_cons pe_non pa_nil)))) (pss_one (ps_expr (pe_bmK (K := K) rfl PySem.F.plainAttrs_list PySem.F.slot_list_append PySem.F.type_list_append mt_append (pv 3) (pa_cons (pe_ifExp (pt_cmpR (r := rLtA K) op_ltA (pe_ix (r := rIx K) ix_seq (pe_ix (r := rIx K) ix_seq (pv 0) (pv 2) (fun _ _ => rfl)) (pv 4) (fun _ _ => rfl)) (pe_ix (r := rIx K) ix_seq (pv 5) pe_int (fun _ _ => rfl)) (nomark _)) (pe_ix (r := rIx K) ix_seq (pv 5) pe_int (fun _ _ => rfl)) (pe_ifExp (pt_cmpR (r := rGtA K) op_gtA (pe_ix (r := rIx K) ix_seq (pe_ix (r := rIx K) ix_seq (pv 0) (pv 2) (fun _ _ => rfl)) (pv 4) (fun _ _ => rfl)) (pe_ix (r := rIx K) ix_seq (pv 5) pe_int (fun _ _ => rfl)) (nomark _)) (pe_ix (r := rIx K) ix_seq (pv 5) pe_int (fun _ _ => rfl)) (pe_ix (r := rIx K) ix_seq (pe_ix (r := rIx K) ix_seq (pv 0) (pv 2) (fun _ _ => rfl)) (pv 4) (fun _ _ => rfl)))) pa_nil)))))))
        (pss_one (ps_ret (pe_callTy (r := rTupleOf K) call_tupleOf (by rfl) T.n_tuple (by decide +kernel) (pa_cons (pv 3) pa_nil)))))), SP.run h fun ws Φ Ξ B hp hX => ?_⟩
    clear h
    obtain ⟨P, ds, lots, s, rfl, wf, ⟨hl, hs, hab⟩, q⟩ := hp
    show JS K B _ [some (.d (tabD P ds)), some (.d (.tuple (lots.map lotD))), some (.d (natD s)), none, none, none] _
    have hz := sizeLine_eq
    have p1 := wf.p1
    have p2 := wf.p2
    have p3 := wf.n
    have t3 := tab_at (P := P) hs
    walk_at "jgo"
    refine x_QFor (fun i ρ => ∃ v1 v2 : Option W, ρ = [some (.d (tabD P ds)), some (.d (.tuple (lots.map lotD))), some (.d (natD s)), some (.l ((List.range i).map fun p => optD (near (lots.getD p none) (ver ds s p)))), v1, v2]) ⟨none, none, rfl⟩ ?_ ?_
    · rintro i x ρ e ⟨v1, v2, rfl⟩
      obtain ⟨z, e1, rfl⟩ := enumD_get e
      obtain ⟨lot, el, rfl⟩ := map_get e1
      have hi := (List.getElem?_eq_some_iff.mp el).1
      have hlen : ((List.range i).map fun p => optD (near (lots.getD p none) (ver ds s p))).length = i := by simp
      have t4 : atI (natsD (verL P (ds.take s))) (0 + (i : Int)) = some (natD (ver ds s i)) := atI_i (i := i) (by omega) (natsD_at (ver_at (by omega)))
      have up : ∀ y, y = optD (near (lots.getD i none) (ver ds s i)) → ((List.range i).map fun p => optD (near (lots.getD p none) (ver ds s p))) ++ [y] = (List.range (i + 1)).map fun p => optD (near (lots.getD p none) (ver ds s p)) := fun y ey => by
        rw [List.range_succ, List.map_append, ey]; rfl
      have gd : lots.getD i none = lot := by rw [List.getD_eq_getElem?_getD, el]; rfl
      rw [gd] at up
      cases lot with
      | none =>
        walk_at "jgo"
        exact ⟨_, _, by rw [up .none rfl]⟩
      | some ab =>
        obtain ⟨a, b⟩ := ab
        have hab' := hab i a b el
        show JG K B true _ (.w (.d (.tuple [.int (0 + (i : Int)), .tuple [natD a, natD b]]))) _ _
        have a1 : atI [natD a, natD b] 0 = some (natD a) := atI_nat (i := 0) rfl
        have a2 : atI [natD a, natD b] 1 = some (natD b) := atI_nat (i := 1) rfl
        walk_at "jgo"
        have fin : ∀ v : Nat, v = max a (min b (ver ds s i)) → PyData.int (v : Int) = optD (near (some (a, b)) (ver ds s i)) := fun v ev => by rw [ev]; rfl
        refine x_dec (fun z => ?_) (fun z => ?_)
        · walk_at "jgo"
          exact ⟨_, _, by rw [up _ (fin a (by omega))]⟩
        · walk_at "jgo"
          refine x_dec (fun z2 => ?_) (fun z2 => ?_)
          · walk_at "jgo"
            exact ⟨_, _, by rw [up _ (fin b (by omega))]⟩
          · walk_at "jgo"
            exact ⟨_, _, by rw [up _ (fin (ver ds s i) (by omega))]⟩
    · rintro ρ ⟨v1, v2, rfl⟩
      rw [enumD_len, List.length_map]
      walk_at "jgo"
      exact ⟨q, by walk_at "jk"⟩
end
end WD

namespace WD
open PySem PySem.Spec PyProof.Rows L2
-- p ≠ q of two addresses
local macro_rules | `(tactic| walk_at "ne") => `(tactic| first
  | with_reducible assumption
  | with_reducible exact Ne.symm (by assumption)
  | exact ne_some (by with_reducible assumption) (by with_reducible assumption)
  | exact Ne.symm (ne_some (by with_reducible assumption) (by with_reducible assumption)))
local macro_rules | `(tactic| walk_at "nm") => `(tactic| first | with_reducible assumption | with_reducible exact nm0 | ((with_reducible refine' nmS ?a ?b); (case a => walk_at "ne"); (case b => walk_at "nm")))
-- H p = some ?o
local macro_rules | `(tactic| walk_at "hp") => `(tactic| first
  | with_reducible exact upd_same
  | with_reducible assumption
  | ((with_reducible refine' Eq.trans (upd_ne ?a) ?b); (case a => walk_at "ne"); (case b => walk_at "hp"))
  | exact Stay.keep (by with_reducible assumption) _ _ (by walk_at "hp") (by walk_at "nm"))
local macro_rules | `(tactic| walk_at "hpd") => `(tactic| ((refine' Eq.trans ?h ?e); (case h => walk_at "hp"); (case e => exact rfl)))
-- a new address
local macro_rules | `(tactic| walk_at "nw") => `(tactic| ((repeat first | (with_reducible refine' nw_upd ?_) | refine' nw_fr (by with_reducible assumption) ?_); intro p_; intros))
local macro_rules | `(tactic| walk_at "mem") => `(tactic| first | exact List.mem_cons_self | (refine' List.mem_cons_of_mem _ ?_; walk_at "mem"))
-- what stands stays
local macro_rules | `(tactic| walk_at "fr") => `(tactic| first
  | with_reducible assumption
  | exact Stay.refl _ _
  | ((with_reducible refine' Stay.upd ?a ?b); (case a => walk_at "fr"); (case b => walk_at "mem"))
  | ((with_reducible refine' Stay.new ?a ?b); (case b => with_reducible assumption); (case a => walk_at "fr"))
  | (refine' Stay.trans ?_ (by with_reducible assumption); walk_at "fr"))
local macro_rules | `(tactic| walk_at "sq") => `(tactic| first | with_reducible assumption | exact SqL.of (by walk_at "hp"))
local macro_rules | `(tactic| walk_at "sqt") => `(tactic| first | with_reducible assumption | exact SqT.of (by walk_at "hp"))
-- side goals
local macro_rules | `(tactic| walk_at "sd") => `(tactic| first
  | with_reducible assumption | with_reducible rfl | (show _ ≤ sizeLine; decide) | (refine Nat.le_trans (Nat.le_of_ble_eq_true (m := 1000) rfl) (by decide)) | decide | omega
  | exact IntMulOk.of_right (intBits_le_64 (by omega) (by omega)) | exact IntMulOk.of_left (intBits_le_64 (by omega) (by omega))
  | (refine' Or.inl ⟨?_, ?_⟩ <;> omega) | (refine' Or.inr ⟨?_, ?_⟩ <;> omega)
  | (refine' ⟨?_, ?_⟩ <;> walk_at "sd") | (refine' ⟨?_, ?_, ?_⟩ <;> walk_at "sd"))
local macro_rules | `(tactic| walk_at "set") => `(tactic| first | with_reducible exact set0 | with_reducible exact set1 | with_reducible exact set2 | with_reducible exact set3 | with_reducible exact set4 | with_reducible exact set5 | with_reducible exact set6 | with_reducible exact set7 | with_reducible exact set8 | with_reducible exact set9 | with_reducible exact set10 | with_reducible exact set11 | with_reducible exact set12 | with_reducible exact set13 | with_reducible exact set14 | with_reducible exact set15 | with_reducible exact set16 | with_reducible exact set17 | with_reducible exact set18 | with_reducible exact set19 | with_reducible exact set20)
-- one step
local macro_rules | `(tactic| walk_at "st0") => `(tactic| first
  | with_reducible refine' x_seq ?_
  | with_reducible refine' x_next ?_
  | with_reducible refine' x_ifS ?_
  | with_reducible refine' x_asg ?_
  | with_reducible refine' x_ret ?_
  | with_reducible refine' x_retN ?_
  | with_reducible refine' x_drop ?_
  | with_reducible refine' x_brk ?_
  | with_reducible refine' x_cont ?_
  | ((with_reducible refine' x_gName ?e ?_); (case e => walk_at "set"))
  | with_reducible refine' x_gSub ?_
  | with_reducible refine' x_gCons ?_
  | with_reducible refine' x_gNil ?_
  | with_reducible refine' x_c ?_
  | ((with_reducible refine' x_var ?e ?_); (case e => exact rfl))
  | with_reducible refine' x_op ?_
  | with_reducible refine' x_un ?_
  | with_reducible refine' x_if ?_
  | with_reducible refine' x_cb ?_
  | with_reducible refine' x_cons ?_
  | with_reducible refine' x_nil ?_
  | with_reducible refine' x_bm0 ?_
  | with_reducible refine' x_bm ?_
  | with_reducible refine' x_tup ?_
  | with_reducible refine' x_lst ?_
  | ((with_reducible refine' And.intro (a := _ ≤ sizeLine) ?e ?_); (case e => walk_at "sd"); walk_at "nw")
  | with_reducible refine' x_fld ?_
  | with_reducible refine' x_test ?_
  | with_reducible refine' x_tB ?_
  | with_reducible refine' x_and ?_
  | with_reducible refine' x_or ?_
  | with_reducible refine' x_not ?_
  | with_reducible refine' x_notV ?_
  | with_reducible refine' x_andV ?_
  | with_reducible refine' x_orV ?_
  | with_reducible refine' x_rI0 ?_
  | ((with_reducible refine' x_rI ?e ?_); (case e => walk_at "sd"))
  | with_reducible refine' x_rU ?_
  | ((with_reducible refine' x_rEq ?e ?_); (case e => exact rfl))
  | ((with_reducible refine' x_rNe ?e ?_); (case e => exact rfl))
  | ((with_reducible refine' x_ixL0 ?h ?_); (case h => walk_at "sq"))
  | ((with_reducible refine' x_ixL1 ?h ?_); (case h => walk_at "sq"))
  | ((with_reducible refine' x_ixL2 ?h ?_); (case h => walk_at "sq"))
  | ((with_reducible refine' x_ixL0I ?h ?_); (case h => walk_at "sq"))
  | ((with_reducible refine' x_ixL ?h ?e ?_); (case h => walk_at "sq"); (case e => exact rfl))
  | ((with_reducible refine' x_neNil ?h ?h2 ?_); (case h => walk_at "sq"); (case h2 => walk_at "sq"))
  | ((with_reducible refine' x_pop0I ?h ?_); (case h => walk_at "hp"))
  | ((with_reducible refine' x_pop0 ?h ?_); (case h => walk_at "hp"))
  | ((with_reducible refine' x_setL0 ?h ?_); (case h => walk_at "hp"))
  | ((with_reducible refine' x_setL1 ?h ?_); (case h => walk_at "hp"))
  | ((with_reducible refine' x_setL2 ?h ?_); (case h => walk_at "hp"))
  | ((with_reducible refine' x_setL ?h ?e ?_); (case h => walk_at "hp"); (case e => exact rfl))
  | with_reducible refine' .inl ⟨_, rfl, ?_⟩
  | ((with_reducible refine' x_tyL ?h ?_); (case h => walk_at "sq"))
  | with_reducible refine' ⟨_, rfl, ?_⟩)
-- a split
local macro_rules | `(tactic| walk_at "if") => `(tactic| (
  first
  | (with_reducible refine' x_dec (fun h_ => ?_) (fun h_ => ?_))
  | (with_reducible refine' x_decN (fun h_ => ?_) (fun h_ => ?_))
  | (with_reducible refine' x_boolN (fun h_ => ?_) (fun h_ => ?_))
  | (with_reducible refine' x_bool (fun h_ => ?_) (fun h_ => ?_))))
local macro_rules | `(tactic| walk_at "ifs") => `(tactic| (walk_at "if" <;> first
  | (exfalso; first | omega | contradiction)
  | (rename_i h_; (try simp only [BEq.rfl, List.length_map, List.length_cons, List.length_nil, Int.natCast_zero, Int.ofNat_zero, gt_iff_lt, Int.lt_irrefl, Bool.true_eq_false, Bool.false_eq_true, List.isEmpty_nil, List.isEmpty_cons, V.int.injEq, V.str.injEq, V.bl.injEq, reduceCtorEq, not_false_eq_true, not_true_eq_false] at h_); (try (exfalso; omega)))))
local macro_rules | `(tactic| walk_at "ite1") => `(tactic| first
  | with_reducible refine' x_T ?_
  | with_reducible refine' x_F ?_
  | with_reducible refine' x_nT ?_
  | with_reducible refine' x_nF ?_
  | ((with_reducible refine' x_bT ?e ?_); (case e => first | decide | decide +kernel))
  | ((with_reducible refine' x_bF ?e ?_); (case e => first | decide | decide +kernel)))
local macro_rules | `(tactic| walk_at "st") => `(tactic| ((fail_if_success (with_reducible (show (if _ then _ else _)))); walk_at "st0"))
local macro_rules | `(tactic| walk_at "go") => `(tactic| repeat first | walk_at "ite1" | walk_at "st")
local macro_rules | `(tactic| walk_at "gs") => `(tactic| repeat' first | walk_at "ite1" | walk_at "st" | walk_at "ifs")
local macro_rules | `(tactic| walk_at "jsd") => `(tactic| first
  | exact trivial | with_reducible assumption | with_reducible rfl | (show _ ≤ sizeLine; decide) | (refine Nat.le_trans (Nat.le_of_ble_eq_true (m := 1000) rfl) (by decide)) | decide | omega
  | (simp only [List.length_append, List.length_cons, List.length_nil, List.length_map, List.length_range, natsD_len, verL_len, tabXs_len, List.length_replicate, Int.toNat_natCast, rgD_len, List.length_take, List.length_drop, zipD_len, enumD_len]; omega)
  | exact IntMulOk.of_right (intBits_le_64 (by omega) (by omega)) | exact IntMulOk.of_left (intBits_le_64 (by omega) (by omega))
  | (refine' Or.inl ⟨?_, ?_⟩ <;> omega) | (refine' Or.inr ⟨?_, ?_⟩ <;> omega)
  | (refine' ⟨?_, ?_⟩ <;> walk_at "jsd") | (refine' ⟨?_, ?_, ?_⟩ <;> walk_at "jsd") | (refine' ⟨?_, ?_, ?_, ?_⟩ <;> walk_at "jsd"))
local macro_rules | `(tactic| walk_at "jshp") => `(tactic| first | with_reducible assumption | (show SeqAt.shaped _ = true; first | assumption | decide))
local macro_rules | `(tactic| walk_at "jix") => `(tactic| first | with_reducible assumption | exact rfl)
local macro_rules | `(tactic| walk_at "jdrw") => `(tactic| exact ⟨by omega, Nat.lt_of_le_of_lt (Nat.log2_le_self _) (by omega)⟩)
local macro_rules | `(tactic| walk_at "jno") => `(tactic| first | exact ⟨trivial, by walk_at "jno"⟩ | exact ⟨rfl, by walk_at "jno"⟩ | exact trivial)
local macro_rules | `(tactic| walk_at "jno1") => `(tactic| (intro v_ m_; simp only [List.mem_cons, List.not_mem_nil, or_false] at m_; first | (subst m_; exact trivial) | (subst m_; exact rfl) | (rcases m_ with m_ | m_ <;> subst m_ <;> first | exact trivial | exact rfl) | (rcases m_ with m_ | m_ | m_ <;> subst m_ <;> first | exact trivial | exact rfl)))
local macro_rules | `(tactic| walk_at "jst0") => `(tactic| first
  | refine' Stp.imp ?_
  | ((with_reducible refine' x_PI2 ?e ?_); (case e => walk_at "jsd"))
  | ((with_reducible refine' x_ixAT (Vw.eq) ?e2 ?_); (case e2 => walk_at "jix"))
  | ((with_reducible refine' x_ixAL (Vw.eq) ?e2 ?_); (case e2 => walk_at "jix"))
  | ((with_reducible refine' x_RApp ?l ?_); (case l => walk_at "jsd"))
  | with_reducible refine' J_callN ?_
  | ((with_reducible refine' J_pool ?w ?e ?_); (case w => with_reducible assumption); (case e => with_reducible assumption))
  | ((with_reducible refine' J_callS ?w ?_); (case w => with_reducible assumption))
  | ((with_reducible refine' J_xw ?w ?_); (case w => with_reducible assumption))
  | ((with_reducible refine' J_isX ?w ?_); (case w => with_reducible assumption))
  | with_reducible refine' x_xwJ ?_
  | ((with_reducible refine' x_isX1 ?w ?_); (case w => with_reducible assumption))
  | ((with_reducible refine' x_isX2 ?w ?_); (case w => with_reducible assumption))
  | ((with_reducible refine' J_call ?w ?_); (case w => with_reducible assumption))
  | ((with_reducible refine' x_QDraw (SlotAt.eq) ?c ?_); (case c => walk_at "jdrw"))
  | ((with_reducible refine' x_QR1 ?c ?_); (case c => walk_at "jsd"))
  | ((with_reducible refine' x_QR2 ?c ?_); (case c => walk_at "jsd"))
  | ((with_reducible refine' x_addL (Vw.eq) (Vw.eq) ?c ?_); (case c => walk_at "jsd"))
  | ((with_reducible refine' x_addT (Vw.eq) (Vw.eq) ?c ?_); (case c => walk_at "jsd"))
  | ((with_reducible refine' x_addS' ?c ?_); (case c => walk_at "jsd"))
  | ((with_reducible refine' x_mulI ?c ?_); (case c => walk_at "jsd"))
  | ((with_reducible refine' x_mulL1 (Vw.eq) ?c ?_); (case c => walk_at "jsd"))
  | ((with_reducible refine' x_mulS ?c ?_); (case c => walk_at "jsd"))
  | ((with_reducible refine' x_isNj (Vw.eq) ?_))
  | ((with_reducible refine' x_notNj (Vw.eq) ?_))
  | ((with_reducible refine' x_eqA (Vw.eq) (Vw.eq) ?c ?d ?_); (case c => walk_at "jshp"); (case d => walk_at "jshp"))
  | ((with_reducible refine' x_neA (Vw.eq) (Vw.eq) ?c ?d ?_); (case c => walk_at "jshp"); (case d => walk_at "jshp"))
  | ((with_reducible refine' x_QIn (Vw.eq) ?e2 ?f ?g ?_); (case e2 => exact rfl); (case f => exact rfl); (case g => first | with_reducible assumption | exact rfl))
  | ((with_reducible refine' x_QInN (Vw.eq) ?e2 ?f ?g ?_); (case e2 => exact rfl); (case f => exact rfl); (case g => first | with_reducible assumption | exact rfl))
  | ((with_reducible refine' x_lenS' (Vw.eq) ?l ?_); (case l => walk_at "jsd"))
  | ((with_reducible refine' x_slS' ?l ?_); (case l => walk_at "jsd"))
  | with_reducible refine' J_raise (by with_reducible assumption) (by with_reducible assumption) ?_
  | with_reducible refine' x_X1 ?_
  | ((with_reducible refine' And.intro (a := RgOk _ _) ?c ?_); (case c => exact RgOk.of_le (by omega) (by omega) (by omega) (by omega))))
local macro_rules | `(tactic| walk_at "jite") => `(tactic| first
  | ((with_reducible refine' x_bT ?e ?_); (case e => first | exact rfl | decide | decide +kernel))
  | ((with_reducible refine' x_bF ?e ?_); (case e => first | exact rfl | decide | decide +kernel)))
local macro_rules | `(tactic| walk_at "jst") => `(tactic| walk_at "jst0")
local macro_rules | `(tactic| walk_at "jgo") => `(tactic| repeat first | walk_at "jst0" | walk_at "jite")
local macro_rules | `(tactic| walk_at "jgs") => `(tactic| repeat' first | walk_at "jst0" | walk_at "jite" | walk_at "ifs")
local macro_rules | `(tactic| walk_at "jk") => `(tactic| first | exact trivial | exact ⟨rfl, by walk_at "jk"⟩)
local macro_rules | `(tactic| walk_at "jwp") => `(tactic| exact ⟨rfl, by walk_at "jno1"⟩)
local macro_rules | `(tactic| walk_at "jif") => `(tactic| repeat ((fail_if_success (with_reducible show JS _ _ (tSeq (tIfS _ _ _) _) _ _)); first | walk_at "jst0" | walk_at "jite"))
local macro_rules | `(tactic| walk_at "jie") => `(tactic| repeat ((fail_if_success (with_reducible show J _ _ (tIf _ _ _) _ _)); first | walk_at "jst0" | walk_at "jite"))
local macro_rules | `(tactic| walk_at "nq") => `(tactic| decide +kernel)
local macro_rules | `(tactic| walk_at "nr") => `(tactic| decide +kernel)

section
variable {P : Program} {w : World} {K : PySem.W.Frag} {mg : Str → Option Value} {base : Heap}
def isRowD : PyData → Bool
  | .none => true
  | .int _ => true
  | _ => false
def psp__law_is_row : PSp := fun ws Φ _ => ∃ xs n, ws = [.d (.tuple xs), .d (natD n)] ∧ (xs.length = n ∧ n ≤ 1000 ∧ xs.all isRowD = true) ∧ Φ (.d (.bool true))
theorem c_isrow {n : Nat} {xs : List PyData} {Φ : W → Prop} {Ξ : Addr → PyData → Prop} (h : xs.length = n ∧ n ≤ 1000 ∧ xs.all isRowD = true) (q : Φ (.d (.bool true))) : psp__law_is_row [.d (.tuple xs), .d (natD n)] Φ Ξ := ⟨xs, n, rfl, h, q⟩
theorem sc__law_is_row : FnScope ["thing", "many", "part"] ["thing", "many"] (defScope s__law_is_row) := ⟨rfl, rfl, rfl, by decide +kernel, rfl, by decide +kernel, by decide +kernel⟩
theorem ok__law_is_row (T : G K mg) : FnOk P w K mg base CX0 1 T.f__law_is_row T.d__law_is_row ["thing", "many"] (SP K psp__law_is_row) := by
  refine T.F__law_is_row.ok sc__law_is_row (fun vs H Q E h => ?_) (fun cdv A outer s H vs Q E hr h => ?_)
  · exact SP.len h fun ws Φ Ξ hp => by obtain ⟨xs, n, rfl, ⟨hl, hn, ha⟩, q⟩ := hp; rfl
  · have hu := hu_of hr
    have nd := sc__law_is_row.nd
    refine ⟨_, (pss_cons (ps_if (PW.pt (pw_or (pt_not (pt_val (pe_callB (r := rIsi K) call_isi (by rfl) T.n_isinstance (by decide +kernel) (pa_cons (pv 0) (pa_cons (pe_bltn (v := .ty "tuple") (by rfl) T.n_tuple (by decide +kernel) rfl) pa_nil))))) (pw_or1 (pt_cmpR (r := rNeA K) (op_neA hr.units) (pe_callB (r := rLenA K) call_lenA (by rfl) T.n_len PySem.boot_len (pa_cons (pv 0) pa_nil)) (pv 1) (nomark _))))) (pss_one (ps_ret pe_bl)) pss_nil)
        (pss_one (ps_ret (pe_cmpR (r := rEqA K) (op_eqA hr.units) (pe_lc (own := [("part", 2)]) (g := gName 2) rfl nd (pi_anyK (K := K) rfl (pv 0)) (blkOk_by (own := [("part", 2)]) (N := ["thing", "many", "part"]) (sc := defScope s__law_is_row) (by decide +kernel)) (fun _ _ _ _ _ => (pg_name (i := 2) nd rfl (Or.inl rfl))) (fun _ _ _ _ _ => (pts_one (PW.pt (pw_and (pt_cmpR op_notN (pv 2) pe_non (nomark _)) (pw_and1 (PW.pt (pw_or (pt_not (pt_val (pe_callB (r := rIsi K) call_isi (by rfl) T.n_isinstance (by decide +kernel) (pa_cons (pv 2) (pa_cons (pe_bltn (v := .ty "int") (by rfl) T.n_int (by decide +kernel) rfl) pa_nil))))) (pw_or1 (pt_val (pe_callB (r := rIsi K) call_isi (by rfl) T.n_isinstance (by decide +kernel) (pa_cons (pv 2) (pa_cons (pe_bltn (v := .ty "bool") (by rfl) T.n_bool (by decide +kernel) rfl) pa_nil)))))))))))) (fun _ _ _ _ _ => (pv 2))) (pe_lst pa_nil) (nomark _))))), SP.run h fun ws Φ Ξ B hp hX => ?_⟩
    clear h
    obtain ⟨xs, n, rfl, ⟨hl, hn, ha⟩, q⟩ := hp
    show JS K B _ [some (.d (.tuple xs)), some (.d (natD n)), none] _
    have hz := sizeLine_eq
    walk_at "jgo"
    refine x_decN (fun z => absurd (by rw [hl]) z) (fun _ => ?_)
    walk_at "jgo"
    refine x_LcInv (fun i acc => acc = []) (by walk_at "jno") (by omega) rfl (fun i acc e => by rw [e]; exact Nat.zero_le _) (fun i x acc e h => ?_) fun acc h => ?_
    · have hx := (List.all_eq_true.mp ha) x (List.mem_of_getElem? e)
      walk_at "jgo"
      refine ⟨by walk_at "jwp", ?_⟩
      cases x <;> first | (cases hx; done) | skip
      · walk_at "jgo"
        exact ⟨by walk_at "jwp", h⟩
      · walk_at "jgo"
        exact ⟨by walk_at "jwp", h⟩
    · subst h
      walk_at "jgo"
      exact ⟨q, by walk_at "jk"⟩
end
end WD

namespace WD
open PySem PySem.Spec PyProof.Rows L2
-- p ≠ q of two addresses
local macro_rules | `(tactic| walk_at "ne") => `(tactic| first
  | with_reducible assumption
  | with_reducible exact Ne.symm (by assumption)
  | exact ne_some (by with_reducible assumption) (by with_reducible assumption)
  | exact Ne.symm (ne_some (by with_reducible assumption) (by with_reducible assumption)))
local macro_rules | `(tactic| walk_at "nm") => `(tactic| first | with_reducible assumption | with_reducible exact nm0 | ((with_reducible refine' nmS ?a ?b); (case a => walk_at "ne"); (case b => walk_at "nm")))
-- H p = some ?o
local macro_rules | `(tactic| walk_at "hp") => `(tactic| first
  | with_reducible exact upd_same
  | with_reducible assumption
  | ((with_reducible refine' Eq.trans (upd_ne ?a) ?b); (case a => walk_at "ne"); (case b => walk_at "hp"))
  | exact Stay.keep (by with_reducible assumption) _ _ (by walk_at "hp") (by walk_at "nm"))
local macro_rules | `(tactic| walk_at "hpd") => `(tactic| ((refine' Eq.trans ?h ?e); (case h => walk_at "hp"); (case e => exact rfl)))
-- a new address
local macro_rules | `(tactic| walk_at "nw") => `(tactic| ((repeat first | (with_reducible refine' nw_upd ?_) | refine' nw_fr (by with_reducible assumption) ?_); intro p_; intros))
local macro_rules | `(tactic| walk_at "mem") => `(tactic| first | exact List.mem_cons_self | (refine' List.mem_cons_of_mem _ ?_; walk_at "mem"))
-- what stands stays
local macro_rules | `(tactic| walk_at "fr") => `(tactic| first
  | with_reducible assumption
  | exact Stay.refl _ _
  | ((with_reducible refine' Stay.upd ?a ?b); (case a => walk_at "fr"); (case b => walk_at "mem"))
  | ((with_reducible refine' Stay.new ?a ?b); (case b => with_reducible assumption); (case a => walk_at "fr"))
  | (refine' Stay.trans ?_ (by with_reducible assumption); walk_at "fr"))
local macro_rules | `(tactic| walk_at "sq") => `(tactic| first | with_reducible assumption | exact SqL.of (by walk_at "hp"))
local macro_rules | `(tactic| walk_at "sqt") => `(tactic| first | with_reducible assumption | exact SqT.of (by walk_at "hp"))
-- side goals
local macro_rules | `(tactic| walk_at "sd") => `(tactic| first
  | with_reducible assumption | with_reducible rfl | (show _ ≤ sizeLine; decide) | (refine Nat.le_trans (Nat.le_of_ble_eq_true (m := 1000) rfl) (by decide)) | decide | omega
  | exact IntMulOk.of_right (intBits_le_64 (by omega) (by omega)) | exact IntMulOk.of_left (intBits_le_64 (by omega) (by omega))
  | (refine' Or.inl ⟨?_, ?_⟩ <;> omega) | (refine' Or.inr ⟨?_, ?_⟩ <;> omega)
  | (refine' ⟨?_, ?_⟩ <;> walk_at "sd") | (refine' ⟨?_, ?_, ?_⟩ <;> walk_at "sd"))
local macro_rules | `(tactic| walk_at "set") => `(tactic| first | with_reducible exact set0 | with_reducible exact set1 | with_reducible exact set2 | with_reducible exact set3 | with_reducible exact set4 | with_reducible exact set5 | with_reducible exact set6 | with_reducible exact set7 | with_reducible exact set8 | with_reducible exact set9 | with_reducible exact set10 | with_reducible exact set11 | with_reducible exact set12 | with_reducible exact set13 | with_reducible exact set14 | with_reducible exact set15 | with_reducible exact set16 | with_reducible exact set17 | with_reducible exact set18 | with_reducible exact set19 | with_reducible exact set20)
-- one step
local macro_rules | `(tactic| walk_at "st0") => `(tactic| first
  | with_reducible refine' x_seq ?_
  | with_reducible refine' x_next ?_
  | with_reducible refine' x_ifS ?_
  | with_reducible refine' x_asg ?_
  | with_reducible refine' x_ret ?_
  | with_reducible refine' x_retN ?_
  | with_reducible refine' x_drop ?_
  | with_reducible refine' x_brk ?_
  | with_reducible refine' x_cont ?_
  | ((with_reducible refine' x_gName ?e ?_); (case e => walk_at "set"))
  | with_reducible refine' x_gSub ?_
  | with_reducible refine' x_gCons ?_
  | with_reducible refine' x_gNil ?_
  | with_reducible refine' x_c ?_
  | ((with_reducible refine' x_var ?e ?_); (case e => exact rfl))
  | with_reducible refine' x_op ?_
  | with_reducible refine' x_un ?_
  | with_reducible refine' x_if ?_
  | with_reducible refine' x_cb ?_
  | with_reducible refine' x_cons ?_
  | with_reducible refine' x_nil ?_
  | with_reducible refine' x_bm0 ?_
  | with_reducible refine' x_bm ?_
  | with_reducible refine' x_tup ?_
  | with_reducible refine' x_lst ?_
  | ((with_reducible refine' And.intro (a := _ ≤ sizeLine) ?e ?_); (case e => walk_at "sd"); walk_at "nw")
  | with_reducible refine' x_fld ?_
  | with_reducible refine' x_test ?_
  | with_reducible refine' x_tB ?_
  | with_reducible refine' x_and ?_
  | with_reducible refine' x_or ?_
  | with_reducible refine' x_not ?_
  | with_reducible refine' x_notV ?_
  | with_reducible refine' x_andV ?_
  | with_reducible refine' x_orV ?_
  | with_reducible refine' x_rI0 ?_
  | ((with_reducible refine' x_rI ?e ?_); (case e => walk_at "sd"))
  | with_reducible refine' x_rU ?_
  | ((with_reducible refine' x_rEq ?e ?_); (case e => exact rfl))
  | ((with_reducible refine' x_rNe ?e ?_); (case e => exact rfl))
  | ((with_reducible refine' x_ixL0 ?h ?_); (case h => walk_at "sq"))
  | ((with_reducible refine' x_ixL1 ?h ?_); (case h => walk_at "sq"))
  | ((with_reducible refine' x_ixL2 ?h ?_); (case h => walk_at "sq"))
  | ((with_reducible refine' x_ixL0I ?h ?_); (case h => walk_at "sq"))
  | ((with_reducible refine' x_ixL ?h ?e ?_); (case h => walk_at "sq"); (case e => exact rfl))
  | ((with_reducible refine' x_neNil ?h ?h2 ?_); (case h => walk_at "sq"); (case h2 => walk_at "sq"))
  | ((with_reducible refine' x_pop0I ?h ?_); (case h => walk_at "hp"))
  | ((with_reducible refine' x_pop0 ?h ?_); (case h => walk_at "hp"))
  | ((with_reducible refine' x_setL0 ?h ?_); (case h => walk_at "hp"))
  | ((with_reducible refine' x_setL1 ?h ?_); (case h => walk_at "hp"))
  | ((with_reducible refine' x_setL2 ?h ?_); (case h => walk_at "hp"))
  | ((with_reducible refine' x_setL ?h ?e ?_); (case h => walk_at "hp"); (case e => exact rfl))
  | with_reducible refine' .inl ⟨_, rfl, ?_⟩
  | ((with_reducible refine' x_tyL ?h ?_); (case h => walk_at "sq"))
  | with_reducible refine' ⟨_, rfl, ?_⟩)
-- a split
local macro_rules | `(tactic| walk_at "if") => `(tactic| (
  first
  | (with_reducible refine' x_dec (fun h_ => ?_) (fun h_ => ?_))
  | (with_reducible refine' x_decN (fun h_ => ?_) (fun h_ => ?_))
  | (with_reducible refine' x_boolN (fun h_ => ?_) (fun h_ => ?_))
  | (with_reducible refine' x_bool (fun h_ => ?_) (fun h_ => ?_))))
local macro_rules | `(tactic| walk_at "ifs") => `(tactic| (walk_at "if" <;> first
  | (exfalso; first | omega | contradiction)
  | (rename_i h_; (try simp only [BEq.rfl, List.length_map, List.length_cons, List.length_nil, Int.natCast_zero, Int.ofNat_zero, gt_iff_lt, Int.lt_irrefl, Bool.true_eq_false, Bool.false_eq_true, List.isEmpty_nil, List.isEmpty_cons, V.int.injEq, V.str.injEq, V.bl.injEq, reduceCtorEq, not_false_eq_true, not_true_eq_false] at h_); (try (exfalso; omega)))))
local macro_rules | `(tactic| walk_at "ite1") => `(tactic| first
  | with_reducible refine' x_T ?_
  | with_reducible refine' x_F ?_
  | with_reducible refine' x_nT ?_
  | with_reducible refine' x_nF ?_
  | ((with_reducible refine' x_bT ?e ?_); (case e => first | decide | decide +kernel))
  | ((with_reducible refine' x_bF ?e ?_); (case e => first | decide | decide +kernel)))
local macro_rules | `(tactic| walk_at "st") => `(tactic| ((fail_if_success (with_reducible (show (if _ then _ else _)))); walk_at "st0"))
local macro_rules | `(tactic| walk_at "go") => `(tactic| repeat first | walk_at "ite1" | walk_at "st")
local macro_rules | `(tactic| walk_at "gs") => `(tactic| repeat' first | walk_at "ite1" | walk_at "st" | walk_at "ifs")
local macro_rules | `(tactic| walk_at "jsd") => `(tactic| first
  | exact trivial | with_reducible assumption | with_reducible rfl | (show _ ≤ sizeLine; decide) | (refine Nat.le_trans (Nat.le_of_ble_eq_true (m := 1000) rfl) (by decide)) | decide | omega
  | (simp only [List.length_append, List.length_cons, List.length_nil, List.length_map, List.length_range, natsD_len, verL_len, tabXs_len, List.length_replicate, Int.toNat_natCast, rgD_len, List.length_take, List.length_drop, zipD_len, enumD_len]; omega)
  | exact IntMulOk.of_right (intBits_le_64 (by omega) (by omega)) | exact IntMulOk.of_left (intBits_le_64 (by omega) (by omega))
  | (refine' Or.inl ⟨?_, ?_⟩ <;> omega) | (refine' Or.inr ⟨?_, ?_⟩ <;> omega)
  | (refine' ⟨?_, ?_⟩ <;> walk_at "jsd") | (refine' ⟨?_, ?_, ?_⟩ <;> walk_at "jsd") | (refine' ⟨?_, ?_, ?_, ?_⟩ <;> walk_at "jsd"))
local macro_rules | `(tactic| walk_at "jshp") => `(tactic| first | with_reducible assumption | (show SeqAt.shaped _ = true; first | assumption | decide))
local macro_rules | `(tactic| walk_at "jix") => `(tactic| first | with_reducible assumption | exact rfl)
local macro_rules | `(tactic| walk_at "jdrw") => `(tactic| exact ⟨by omega, Nat.lt_of_le_of_lt (Nat.log2_le_self _) (by omega)⟩)
local macro_rules | `(tactic| walk_at "jno") => `(tactic| first | exact ⟨trivial, by walk_at "jno"⟩ | exact ⟨rfl, by walk_at "jno"⟩ | exact trivial)
local macro_rules | `(tactic| walk_at "jno1") => `(tactic| (intro v_ m_; simp only [List.mem_cons, List.not_mem_nil, or_false] at m_; first | (subst m_; exact trivial) | (subst m_; exact rfl) | (rcases m_ with m_ | m_ <;> subst m_ <;> first | exact trivial | exact rfl) | (rcases m_ with m_ | m_ | m_ <;> subst m_ <;> first | exact trivial | exact rfl)))
local macro_rules | `(tactic| walk_at "jst0") => `(tactic| first
  | refine' Stp.imp ?_
  | ((with_reducible refine' x_PI2 ?e ?_); (case e => walk_at "jsd"))
  | ((with_reducible refine' x_ixAT (Vw.eq) ?e2 ?_); (case e2 => walk_at "jix"))
  | ((with_reducible refine' x_ixAL (Vw.eq) ?e2 ?_); (case e2 => walk_at "jix"))
  | ((with_reducible refine' x_RApp ?l ?_); (case l => walk_at "jsd"))
  | with_reducible refine' J_callN ?_
  | ((with_reducible refine' J_pool ?w ?e ?_); (case w => with_reducible assumption); (case e => with_reducible assumption))
  | ((with_reducible refine' J_callS ?w ?_); (case w => with_reducible assumption))
  | ((with_reducible refine' J_xw ?w ?_); (case w => with_reducible assumption))
  | ((with_reducible refine' J_isX ?w ?_); (case w => with_reducible assumption))
  | with_reducible refine' x_xwJ ?_
  | ((with_reducible refine' x_isX1 ?w ?_); (case w => with_reducible assumption))
  | ((with_reducible refine' x_isX2 ?w ?_); (case w => with_reducible assumption))
  | ((with_reducible refine' J_call ?w ?_); (case w => with_reducible assumption))
  | ((with_reducible refine' x_QDraw (SlotAt.eq) ?c ?_); (case c => walk_at "jdrw"))
  | ((with_reducible refine' x_QR1 ?c ?_); (case c => walk_at "jsd"))
  | ((with_reducible refine' x_QR2 ?c ?_); (case c => walk_at "jsd"))
  | ((with_reducible refine' x_addL (Vw.eq) (Vw.eq) ?c ?_); (case c => walk_at "jsd"))
  | ((with_reducible refine' x_addT (Vw.eq) (Vw.eq) ?c ?_); (case c => walk_at "jsd"))
  | ((with_reducible refine' x_addS' ?c ?_); (case c => walk_at "jsd"))
  | ((with_reducible refine' x_mulI ?c ?_); (case c => walk_at "jsd"))
  | ((with_reducible refine' x_mulL1 (Vw.eq) ?c ?_); (case c => walk_at "jsd"))
  | ((with_reducible refine' x_mulS ?c ?_); (case c => walk_at "jsd"))
  | ((with_reducible refine' x_isNj (Vw.eq) ?_))
  | ((with_reducible refine' x_notNj (Vw.eq) ?_))
  | ((with_reducible refine' x_eqA (Vw.eq) (Vw.eq) ?c ?d ?_); (case c => walk_at "jshp"); (case d => walk_at "jshp"))
  | ((with_reducible refine' x_neA (Vw.eq) (Vw.eq) ?c ?d ?_); (case c => walk_at "jshp"); (case d => walk_at "jshp"))
  | ((with_reducible refine' x_QIn (Vw.eq) ?e2 ?f ?g ?_); (case e2 => exact rfl); (case f => exact rfl); (case g => first | with_reducible assumption | exact rfl))
  | ((with_reducible refine' x_QInN (Vw.eq) ?e2 ?f ?g ?_); (case e2 => exact rfl); (case f => exact rfl); (case g => first | with_reducible assumption | exact rfl))
  | ((with_reducible refine' x_lenS' (Vw.eq) ?l ?_); (case l => walk_at "jsd"))
  | ((with_reducible refine' x_slS' ?l ?_); (case l => walk_at "jsd"))
  | with_reducible refine' J_raise (by with_reducible assumption) (by with_reducible assumption) ?_
  | with_reducible refine' x_X1 ?_
  | ((with_reducible refine' And.intro (a := RgOk _ _) ?c ?_); (case c => exact RgOk.of_le (by omega) (by omega) (by omega) (by omega))))
local macro_rules | `(tactic| walk_at "jite") => `(tactic| first
  | ((with_reducible refine' x_bT ?e ?_); (case e => first | exact rfl | decide | decide +kernel))
  | ((with_reducible refine' x_bF ?e ?_); (case e => first | exact rfl | decide | decide +kernel)))
local macro_rules | `(tactic| walk_at "jst") => `(tactic| walk_at "jst0")
local macro_rules | `(tactic| walk_at "jgo") => `(tactic| repeat first | walk_at "jst0" | walk_at "jite")
local macro_rules | `(tactic| walk_at "jgs") => `(tactic| repeat' first | walk_at "jst0" | walk_at "jite" | walk_at "ifs")
local macro_rules | `(tactic| walk_at "jk") => `(tactic| first | exact trivial | exact ⟨rfl, by walk_at "jk"⟩)
local macro_rules | `(tactic| walk_at "jwp") => `(tactic| exact ⟨rfl, by walk_at "jno1"⟩)
local macro_rules | `(tactic| walk_at "jif") => `(tactic| repeat ((fail_if_success (with_reducible show JS _ _ (tSeq (tIfS _ _ _) _) _ _)); first | walk_at "jst0" | walk_at "jite"))
local macro_rules | `(tactic| walk_at "jie") => `(tactic| repeat ((fail_if_success (with_reducible show J _ _ (tIf _ _ _) _ _)); first | walk_at "jst0" | walk_at "jite"))
local macro_rules | `(tactic| walk_at "nq") => `(tactic| decide +kernel)
local macro_rules | `(tactic| walk_at "nr") => `(tactic| decide +kernel)

section
variable {P : Program} {w : World} {K : PySem.W.Frag} {mg : Str → Option Value} {base : Heap}
def psp__law_is_refused : PSp := fun ws Φ _ => ∃ P ds lots s, ws = [.d (logD P ds), .d (.tuple (List.map lotD lots)), .d (.int s)] ∧ Wf P ds ∧ lots.length = P ∧ ¬ (0 ≤ s ∧ s ≤ ds.length) ∧ Φ (.d (.bool true))
theorem c_refused {P : Nat} {s : Int} {ds : List Deed} {lots : List (Option (Nat × Nat))} {Φ : W → Prop} {Ξ : Addr → PyData → Prop} (w : Wf P ds) (l : lots.length = P) (hn : ¬ (0 ≤ s ∧ s ≤ ds.length)) (q : Φ (.d (.bool true))) : psp__law_is_refused [.d (logD P ds), .d (.tuple (lots.map lotD)), .d (.int s)] Φ Ξ := ⟨P, ds, lots, s, rfl, w, l, hn, q⟩
theorem sc__law_is_refused : FnScope ["log", "lots", "number", "error"] ["log", "lots", "number"] (defScope s__law_is_refused) := ⟨rfl, rfl, rfl, by decide +kernel, rfl, by decide +kernel, by decide +kernel⟩
theorem ok__law_is_refused (T : G K mg) : FnOk P w K mg base CX0 6 T.f__law_is_refused T.d__law_is_refused ["log", "lots", "number"] (SP K psp__law_is_refused) := by
  refine T.F__law_is_refused.ok sc__law_is_refused (fun vs H Q E h => ?_) (fun cdv A outer s H vs Q E hr h => ?_)
  · exact SP.len h fun ws Φ Ξ hp => by obtain ⟨P, ds, lots, s, rfl, wf, hl, hs, q⟩ := hp; rfl
  · have hu := hu_of hr
    have nd := sc__law_is_refused.nd
    refine ⟨_, (pss_cons (ps_rowsK (K := K) rfl rfl rfl nd takes0 (fun W pn xe tk _ => (pss_one (ps_expr (pe_callS (ok_slice_at T) (hr.mono (by decide)) rfl T.g_slice_at T.F_slice_at.kp T.b_slice_at (fun σ => passAt tk σ) (pa_cons (pv 0) (pa_cons (pv 1) (pa_cons (pv 2) pa_nil))))))) (Rows.named ⟨rfl, by decide, Or.inl T.x_Refused.g⟩ (i := 3) rfl rfl (fun a oe cls dd pn hz hf => (pss_one (ps_ret (pe_and (pe_callB (r := rIsX K a cls dd) (call_isXK (K := K) rfl hz hf) (by rfl) T.n_isinstance (by decide +kernel) (pa_cons (pv 3) (pa_cons (pe_glob (v := .ref T.C_BadNumber) rfl T.x_BadNumber.g rfl) pa_nil))) (pe_and (pe_callB (r := rIsX K a cls dd) (call_isXK (K := K) rfl hz hf) (by rfl) T.n_isinstance (by decide +kernel) (pa_cons (pv 3) (pa_cons (pe_bltn (v := .ty "ValueError") (by rfl) T.n_ValueError (by decide +kernel) rfl) pa_nil))) (pe_one (pe_cmpR (r := rEqA K) (op_eqA hr.units) (pe_xwK (K := K) rfl hz hf (pv 3)) (pv 2) (nomark _)))))))) Rows.nil))
        (pss_one (ps_ret pe_bl))), SP.run h fun ws Φ Ξ B hp hX => ?_⟩
    clear h
    obtain ⟨P, ds, lots, s, rfl, wf, hl, hs, q⟩ := hp
    have hf0 := T.x_BadNumber
    have hf1 := T.x_Refused
    have hf2 := T.e_BadNumber_Refused
    have hf3 := T.k_BadNumber_BadNumber
    have hf4 := T.k_BadNumber_ValueError
    have hf5 := T.x_BadNumber
    show JS K B _ [some (.d (logD P ds)), some (.d (.tuple (lots.map lotD))), some (.d (.int s)), none] _
    walk_at "jgo"
    refine J_try (Ξ := fun _ _ _ => False) WOk.no fun B' W u hW => ?_
    walk_at "jgo"
    refine c_sliceX wf hl hs ?_
    refine x_rowNJ' (by assumption) fun a d => ?_
    walk_at "jgo"
    rw [decide_eq_true rfl]
    exact ⟨q, by walk_at "jk"⟩
end
end WD

namespace WD
open PySem PySem.Spec PyProof.Rows L2
-- p ≠ q of two addresses
local macro_rules | `(tactic| walk_at "ne") => `(tactic| first
  | with_reducible assumption
  | with_reducible exact Ne.symm (by assumption)
  | exact ne_some (by with_reducible assumption) (by with_reducible assumption)
  | exact Ne.symm (ne_some (by with_reducible assumption) (by with_reducible assumption)))
local macro_rules | `(tactic| walk_at "nm") => `(tactic| first | with_reducible assumption | with_reducible exact nm0 | ((with_reducible refine' nmS ?a ?b); (case a => walk_at "ne"); (case b => walk_at "nm")))
-- H p = some ?o
local macro_rules | `(tactic| walk_at "hp") => `(tactic| first
  | with_reducible exact upd_same
  | with_reducible assumption
  | ((with_reducible refine' Eq.trans (upd_ne ?a) ?b); (case a => walk_at "ne"); (case b => walk_at "hp"))
  | exact Stay.keep (by with_reducible assumption) _ _ (by walk_at "hp") (by walk_at "nm"))
local macro_rules | `(tactic| walk_at "hpd") => `(tactic| ((refine' Eq.trans ?h ?e); (case h => walk_at "hp"); (case e => exact rfl)))
-- a new address
local macro_rules | `(tactic| walk_at "nw") => `(tactic| ((repeat first | (with_reducible refine' nw_upd ?_) | refine' nw_fr (by with_reducible assumption) ?_); intro p_; intros))
local macro_rules | `(tactic| walk_at "mem") => `(tactic| first | exact List.mem_cons_self | (refine' List.mem_cons_of_mem _ ?_; walk_at "mem"))
-- what stands stays
local macro_rules | `(tactic| walk_at "fr") => `(tactic| first
  | with_reducible assumption
  | exact Stay.refl _ _
  | ((with_reducible refine' Stay.upd ?a ?b); (case a => walk_at "fr"); (case b => walk_at "mem"))
  | ((with_reducible refine' Stay.new ?a ?b); (case b => with_reducible assumption); (case a => walk_at "fr"))
  | (refine' Stay.trans ?_ (by with_reducible assumption); walk_at "fr"))
local macro_rules | `(tactic| walk_at "sq") => `(tactic| first | with_reducible assumption | exact SqL.of (by walk_at "hp"))
local macro_rules | `(tactic| walk_at "sqt") => `(tactic| first | with_reducible assumption | exact SqT.of (by walk_at "hp"))
-- side goals
local macro_rules | `(tactic| walk_at "sd") => `(tactic| first
  | with_reducible assumption | with_reducible rfl | (show _ ≤ sizeLine; decide) | (refine Nat.le_trans (Nat.le_of_ble_eq_true (m := 1000) rfl) (by decide)) | decide | omega
  | exact IntMulOk.of_right (intBits_le_64 (by omega) (by omega)) | exact IntMulOk.of_left (intBits_le_64 (by omega) (by omega))
  | (refine' Or.inl ⟨?_, ?_⟩ <;> omega) | (refine' Or.inr ⟨?_, ?_⟩ <;> omega)
  | (refine' ⟨?_, ?_⟩ <;> walk_at "sd") | (refine' ⟨?_, ?_, ?_⟩ <;> walk_at "sd"))
local macro_rules | `(tactic| walk_at "set") => `(tactic| first | with_reducible exact set0 | with_reducible exact set1 | with_reducible exact set2 | with_reducible exact set3 | with_reducible exact set4 | with_reducible exact set5 | with_reducible exact set6 | with_reducible exact set7 | with_reducible exact set8 | with_reducible exact set9 | with_reducible exact set10 | with_reducible exact set11 | with_reducible exact set12 | with_reducible exact set13 | with_reducible exact set14 | with_reducible exact set15 | with_reducible exact set16 | with_reducible exact set17 | with_reducible exact set18 | with_reducible exact set19 | with_reducible exact set20)
-- one step
local macro_rules | `(tactic| walk_at "st0") => `(tactic| first
  | with_reducible refine' x_seq ?_
  | with_reducible refine' x_next ?_
  | with_reducible refine' x_ifS ?_
  | with_reducible refine' x_asg ?_
  | with_reducible refine' x_ret ?_
  | with_reducible refine' x_retN ?_
  | with_reducible refine' x_drop ?_
  | with_reducible refine' x_brk ?_
  | with_reducible refine' x_cont ?_
  | ((with_reducible refine' x_gName ?e ?_); (case e => walk_at "set"))
  | with_reducible refine' x_gSub ?_
  | with_reducible refine' x_gCons ?_
  | with_reducible refine' x_gNil ?_
  | with_reducible refine' x_c ?_
  | ((with_reducible refine' x_var ?e ?_); (case e => exact rfl))
  | with_reducible refine' x_op ?_
  | with_reducible refine' x_un ?_
  | with_reducible refine' x_if ?_
  | with_reducible refine' x_cb ?_
  | with_reducible refine' x_cons ?_
  | with_reducible refine' x_nil ?_
  | with_reducible refine' x_bm0 ?_
  | with_reducible refine' x_bm ?_
  | with_reducible refine' x_tup ?_
  | with_reducible refine' x_lst ?_
  | ((with_reducible refine' And.intro (a := _ ≤ sizeLine) ?e ?_); (case e => walk_at "sd"); walk_at "nw")
  | with_reducible refine' x_fld ?_
  | with_reducible refine' x_test ?_
  | with_reducible refine' x_tB ?_
  | with_reducible refine' x_and ?_
  | with_reducible refine' x_or ?_
  | with_reducible refine' x_not ?_
  | with_reducible refine' x_notV ?_
  | with_reducible refine' x_andV ?_
  | with_reducible refine' x_orV ?_
  | with_reducible refine' x_rI0 ?_
  | ((with_reducible refine' x_rI ?e ?_); (case e => walk_at "sd"))
  | with_reducible refine' x_rU ?_
  | ((with_reducible refine' x_rEq ?e ?_); (case e => exact rfl))
  | ((with_reducible refine' x_rNe ?e ?_); (case e => exact rfl))
  | ((with_reducible refine' x_ixL0 ?h ?_); (case h => walk_at "sq"))
  | ((with_reducible refine' x_ixL1 ?h ?_); (case h => walk_at "sq"))
  | ((with_reducible refine' x_ixL2 ?h ?_); (case h => walk_at "sq"))
  | ((with_reducible refine' x_ixL0I ?h ?_); (case h => walk_at "sq"))
  | ((with_reducible refine' x_ixL ?h ?e ?_); (case h => walk_at "sq"); (case e => exact rfl))
  | ((with_reducible refine' x_neNil ?h ?h2 ?_); (case h => walk_at "sq"); (case h2 => walk_at "sq"))
  | ((with_reducible refine' x_pop0I ?h ?_); (case h => walk_at "hp"))
  | ((with_reducible refine' x_pop0 ?h ?_); (case h => walk_at "hp"))
  | ((with_reducible refine' x_setL0 ?h ?_); (case h => walk_at "hp"))
  | ((with_reducible refine' x_setL1 ?h ?_); (case h => walk_at "hp"))
  | ((with_reducible refine' x_setL2 ?h ?_); (case h => walk_at "hp"))
  | ((with_reducible refine' x_setL ?h ?e ?_); (case h => walk_at "hp"); (case e => exact rfl))
  | with_reducible refine' .inl ⟨_, rfl, ?_⟩
  | ((with_reducible refine' x_tyL ?h ?_); (case h => walk_at "sq"))
  | with_reducible refine' ⟨_, rfl, ?_⟩)
-- a split
local macro_rules | `(tactic| walk_at "if") => `(tactic| (
  first
  | (with_reducible refine' x_dec (fun h_ => ?_) (fun h_ => ?_))
  | (with_reducible refine' x_decN (fun h_ => ?_) (fun h_ => ?_))
  | (with_reducible refine' x_boolN (fun h_ => ?_) (fun h_ => ?_))
  | (with_reducible refine' x_bool (fun h_ => ?_) (fun h_ => ?_))))
local macro_rules | `(tactic| walk_at "ifs") => `(tactic| (walk_at "if" <;> first
  | (exfalso; first | omega | contradiction)
  | (rename_i h_; (try simp only [BEq.rfl, List.length_map, List.length_cons, List.length_nil, Int.natCast_zero, Int.ofNat_zero, gt_iff_lt, Int.lt_irrefl, Bool.true_eq_false, Bool.false_eq_true, List.isEmpty_nil, List.isEmpty_cons, V.int.injEq, V.str.injEq, V.bl.injEq, reduceCtorEq, not_false_eq_true, not_true_eq_false] at h_); (try (exfalso; omega)))))
local macro_rules | `(tactic| walk_at "ite1") => `(tactic| first
  | with_reducible refine' x_T ?_
  | with_reducible refine' x_F ?_
  | with_reducible refine' x_nT ?_
  | with_reducible refine' x_nF ?_
  | ((with_reducible refine' x_bT ?e ?_); (case e => first | decide | decide +kernel))
  | ((with_reducible refine' x_bF ?e ?_); (case e => first | decide | decide +kernel)))
local macro_rules | `(tactic| walk_at "st") => `(tactic| ((fail_if_success (with_reducible (show (if _ then _ else _)))); walk_at "st0"))
local macro_rules | `(tactic| walk_at "go") => `(tactic| repeat first | walk_at "ite1" | walk_at "st")
local macro_rules | `(tactic| walk_at "gs") => `(tactic| repeat' first | walk_at "ite1" | walk_at "st" | walk_at "ifs")
local macro_rules | `(tactic| walk_at "jsd") => `(tactic| first
  | exact trivial | with_reducible assumption | with_reducible rfl | (show _ ≤ sizeLine; decide) | (refine Nat.le_trans (Nat.le_of_ble_eq_true (m := 1000) rfl) (by decide)) | decide | omega
  | (simp only [List.length_append, List.length_cons, List.length_nil, List.length_map, List.length_range, natsD_len, verL_len, tabXs_len, List.length_replicate, Int.toNat_natCast, rgD_len, List.length_take, List.length_drop, zipD_len, enumD_len]; omega)
  | exact IntMulOk.of_right (intBits_le_64 (by omega) (by omega)) | exact IntMulOk.of_left (intBits_le_64 (by omega) (by omega))
  | (refine' Or.inl ⟨?_, ?_⟩ <;> omega) | (refine' Or.inr ⟨?_, ?_⟩ <;> omega)
  | (refine' ⟨?_, ?_⟩ <;> walk_at "jsd") | (refine' ⟨?_, ?_, ?_⟩ <;> walk_at "jsd") | (refine' ⟨?_, ?_, ?_, ?_⟩ <;> walk_at "jsd"))
local macro_rules | `(tactic| walk_at "jshp") => `(tactic| first | with_reducible assumption | (show SeqAt.shaped _ = true; first | assumption | decide))
local macro_rules | `(tactic| walk_at "jix") => `(tactic| first | with_reducible assumption | exact rfl)
local macro_rules | `(tactic| walk_at "jdrw") => `(tactic| exact ⟨by omega, Nat.lt_of_le_of_lt (Nat.log2_le_self _) (by omega)⟩)
local macro_rules | `(tactic| walk_at "jno") => `(tactic| first | exact ⟨trivial, by walk_at "jno"⟩ | exact ⟨rfl, by walk_at "jno"⟩ | exact trivial)
local macro_rules | `(tactic| walk_at "jno1") => `(tactic| (intro v_ m_; simp only [List.mem_cons, List.not_mem_nil, or_false] at m_; first | (subst m_; exact trivial) | (subst m_; exact rfl) | (rcases m_ with m_ | m_ <;> subst m_ <;> first | exact trivial | exact rfl) | (rcases m_ with m_ | m_ | m_ <;> subst m_ <;> first | exact trivial | exact rfl)))
local macro_rules | `(tactic| walk_at "jst0") => `(tactic| first
  | refine' Stp.imp ?_
  | ((with_reducible refine' x_PI2 ?e ?_); (case e => walk_at "jsd"))
  | ((with_reducible refine' x_ixAT (Vw.eq) ?e2 ?_); (case e2 => walk_at "jix"))
  | ((with_reducible refine' x_ixAL (Vw.eq) ?e2 ?_); (case e2 => walk_at "jix"))
  | ((with_reducible refine' x_RApp ?l ?_); (case l => walk_at "jsd"))
  | with_reducible refine' J_callN ?_
  | ((with_reducible refine' J_pool ?w ?e ?_); (case w => with_reducible assumption); (case e => with_reducible assumption))
  | ((with_reducible refine' J_callS ?w ?_); (case w => with_reducible assumption))
  | ((with_reducible refine' J_xw ?w ?_); (case w => with_reducible assumption))
  | ((with_reducible refine' J_isX ?w ?_); (case w => with_reducible assumption))
  | with_reducible refine' x_xwJ ?_
  | ((with_reducible refine' x_isX1 ?w ?_); (case w => with_reducible assumption))
  | ((with_reducible refine' x_isX2 ?w ?_); (case w => with_reducible assumption))
  | ((with_reducible refine' J_call ?w ?_); (case w => with_reducible assumption))
  | ((with_reducible refine' x_QDraw (SlotAt.eq) ?c ?_); (case c => walk_at "jdrw"))
  | ((with_reducible refine' x_QR1 ?c ?_); (case c => walk_at "jsd"))
  | ((with_reducible refine' x_QR2 ?c ?_); (case c => walk_at "jsd"))
  | ((with_reducible refine' x_addL (Vw.eq) (Vw.eq) ?c ?_); (case c => walk_at "jsd"))
  | ((with_reducible refine' x_addT (Vw.eq) (Vw.eq) ?c ?_); (case c => walk_at "jsd"))
  | ((with_reducible refine' x_addS' ?c ?_); (case c => walk_at "jsd"))
  | ((with_reducible refine' x_mulI ?c ?_); (case c => walk_at "jsd"))
  | ((with_reducible refine' x_mulL1 (Vw.eq) ?c ?_); (case c => walk_at "jsd"))
  | ((with_reducible refine' x_mulS ?c ?_); (case c => walk_at "jsd"))
  | ((with_reducible refine' x_isNj (Vw.eq) ?_))
  | ((with_reducible refine' x_notNj (Vw.eq) ?_))
  | ((with_reducible refine' x_eqA (Vw.eq) (Vw.eq) ?c ?d ?_); (case c => walk_at "jshp"); (case d => walk_at "jshp"))
  | ((with_reducible refine' x_neA (Vw.eq) (Vw.eq) ?c ?d ?_); (case c => walk_at "jshp"); (case d => walk_at "jshp"))
  | ((with_reducible refine' x_QIn (Vw.eq) ?e2 ?f ?g ?_); (case e2 => exact rfl); (case f => exact rfl); (case g => first | with_reducible assumption | exact rfl))
  | ((with_reducible refine' x_QInN (Vw.eq) ?e2 ?f ?g ?_); (case e2 => exact rfl); (case f => exact rfl); (case g => first | with_reducible assumption | exact rfl))
  | ((with_reducible refine' x_lenS' (Vw.eq) ?l ?_); (case l => walk_at "jsd"))
  | ((with_reducible refine' x_slS' ?l ?_); (case l => walk_at "jsd"))
  | with_reducible refine' J_raise (by with_reducible assumption) (by with_reducible assumption) ?_
  | with_reducible refine' x_X1 ?_
  | ((with_reducible refine' And.intro (a := RgOk _ _) ?c ?_); (case c => exact RgOk.of_le (by omega) (by omega) (by omega) (by omega))))
local macro_rules | `(tactic| walk_at "jite") => `(tactic| first
  | ((with_reducible refine' x_bT ?e ?_); (case e => first | exact rfl | decide | decide +kernel))
  | ((with_reducible refine' x_bF ?e ?_); (case e => first | exact rfl | decide | decide +kernel)))
local macro_rules | `(tactic| walk_at "jst") => `(tactic| walk_at "jst0")
local macro_rules | `(tactic| walk_at "jgo") => `(tactic| repeat first | walk_at "jst0" | walk_at "jite")
local macro_rules | `(tactic| walk_at "jgs") => `(tactic| repeat' first | walk_at "jst0" | walk_at "jite" | walk_at "ifs")
local macro_rules | `(tactic| walk_at "jk") => `(tactic| first | exact trivial | exact ⟨rfl, by walk_at "jk"⟩)
local macro_rules | `(tactic| walk_at "jwp") => `(tactic| exact ⟨rfl, by walk_at "jno1"⟩)
local macro_rules | `(tactic| walk_at "jif") => `(tactic| repeat ((fail_if_success (with_reducible show JS _ _ (tSeq (tIfS _ _ _) _) _ _)); first | walk_at "jst0" | walk_at "jite"))
local macro_rules | `(tactic| walk_at "jie") => `(tactic| repeat ((fail_if_success (with_reducible show J _ _ (tIf _ _ _) _ _)); first | walk_at "jst0" | walk_at "jite"))
local macro_rules | `(tactic| walk_at "nq") => `(tactic| decide +kernel)
local macro_rules | `(tactic| walk_at "nr") => `(tactic| decide +kernel)

section
variable {P : Program} {w : World} {K : PySem.W.Frag} {mg : Str → Option Value} {base : Heap}

theorem sc_law : FnScope ["script", "pool", "log", "table", "image", "lots", "last", "s", "told", "number"] ["script"] (defScope s_law) := ⟨rfl, rfl, rfl, by decide +kernel, rfl, by decide +kernel, by decide +kernel⟩
theorem ok_law (T : G K mg) : FnOk P w K mg base CX0 7 T.f_law T.d_law ["script"] (sp_law K) := by
  refine T.F_law.ok sc_law (fun vs H Q E h => ?_) (fun cdv A outer s H vs Q E hr h => ?_)
  · obtain ⟨a, ns, rfl, hS, k⟩ := h; rfl
  · obtain ⟨a, ns, rfl, hS, k⟩ := h
    have hu := hu_of hr
    have nd := sc_law.nd
    refine ⟨_, (pss_cons (ps_set (i := 1) nd rfl (Or.inl rfl) (pe_call (ok__law_pool T) (hr.mono (by decide)) rfl T.g__law_pool T.F__law_pool.kp T.b__law_pool .nil pass0 (pa_cons (pv 0) pa_nil)))
        (pss_cons (ps_asg (pe_call (ok__law_world T) (hr.mono (by decide)) rfl T.g__law_world T.F__law_world.kp T.b__law_world .nil pass0 (pa_cons (pv 1) (pa_cons pe_int (pa_cons pe_int (pa_cons (pe_ix (r := rIx K) ix_seq (pe_lst (pa_cons pe_int (pa_cons pe_int (pa_cons pe_int pa_nil)))) (pe_call (ok__law_draw T) (hr.mono (by decide)) rfl T.g__law_draw T.F__law_draw.kp T.b__law_draw .nil pass0 (pa_cons (pv 1) (pa_cons pe_int pa_nil))) (fun _ _ => rfl)) pa_nil))))) (pg_tupK (K := K) (n := 3) rfl rfl (pgs_cons (pg_name (i := 2) nd rfl (Or.inl rfl)) (pgs_cons (pg_name (i := 3) nd rfl (Or.inl rfl)) (pgs_cons (pg_name (i := 4) nd rfl (Or.inl rfl)) pgs_nil)))))
        (pss_cons (ps_par (i := 5) (j := 6) (by rfl) nd rfl rfl (by decide) rfl rfl (pa_cons (pe_call (ok__law_lots T) (hr.mono (by decide)) rfl T.g__law_lots T.F__law_lots.kp T.b__law_lots .nil pass0 (pa_cons (pe_call (ok__law_closed T) (hr.mono (by decide)) rfl T.g__law_closed T.F__law_closed.kp T.b__law_closed .nil pass0 (pa_cons (pv 2) (pa_cons (pv 3) (pa_cons (pv 4) pa_nil)))) pa_nil)) (pa_cons (pe_callB (r := rLenA K) call_lenA (by rfl) T.n_len PySem.boot_len (pa_cons (pe_ix (r := rIx K) ix_seq (pv 2) pe_int (fun _ _ => rfl)) pa_nil)) pa_nil)) (by rfl))
        (pss_cons (ps_for PassesOwn.never rfl (pi_range1 rfl T.n_range (pa_cons (pe_op (r := rAddA K) op_addA (pv 6) pe_int) pa_nil)) (pg_name (i := 7) nd rfl (Or.inl rfl)) (pss_cons (ps_set (i := 8) nd rfl (Or.inl rfl) (pe_call (ok_slice_at T) (hr.mono (by decide)) rfl T.g_slice_at T.F_slice_at.kp T.b_slice_at .nil passL (pa_cons (pv 2) (pa_cons (pv 5) (pa_cons (pv 7) pa_nil)))))
        (pss_one (ps_if (PW.pt (pw_or (pt_not (pt_val (pe_call (ok__law_is_row T) (hr.mono (by decide)) rfl T.g__law_is_row T.F__law_is_row.kp T.b__law_is_row .nil pass0 (pa_cons (pv 8) (pa_cons (pe_ix (r := rIx K) ix_seq (pv 2) pe_int (fun _ _ => rfl)) pa_nil))))) (pw_or1 (pt_cmpR (r := rNeA K) (op_neA hr.units) (pv 8) (pe_call (ok__law_sliced T) (hr.mono (by decide)) rfl T.g__law_sliced T.F__law_sliced.kp T.b__law_sliced .nil pass0 (pa_cons (pv 3) (pa_cons (pv 5) (pa_cons (pv 7) pa_nil)))) (nomark _))))) (pss_one (ps_ret pe_bl)) pss_nil))))
        (pss_cons (ps_for PassesOwn.never rfl (pi_anyK (K := K) rfl (pe_tup (pa_cons (pe_un un_neg pe_int) (pa_cons (pe_op (r := rAddA K) op_addA (pv 6) pe_int) (pa_cons (pe_op op_sub (pe_un un_neg pe_int) (pe_call (ok__law_draw T) (hr.mono (by decide)) rfl T.g__law_draw T.F__law_draw.kp T.b__law_draw .nil pass0 (pa_cons (pv 1) (pa_cons pe_int pa_nil)))) (pa_cons (pe_op (r := rAddA K) op_addA (pe_op (r := rAddA K) op_addA (pv 6) pe_int) (pe_call (ok__law_draw T) (hr.mono (by decide)) rfl T.g__law_draw T.F__law_draw.kp T.b__law_draw .nil pass0 (pa_cons (pv 1) (pa_cons pe_int pa_nil)))) pa_nil)))))) (pg_name (i := 9) nd rfl (Or.inl rfl)) (pss_one (ps_if (pt_not (pt_val (pe_call (ok__law_is_refused T) (hr.mono (by decide)) rfl T.g__law_is_refused T.F__law_is_refused.kp T.b__law_is_refused .nil pass0 (pa_cons (pv 2) (pa_cons (pv 5) (pa_cons (pv 9) pa_nil)))))) (pss_one (ps_ret pe_bl)) pss_nil)))
        (pss_one (ps_ret (pe_cmpR (r := rEqA K) (op_eqA hr.units) (pe_call (ok_slice_at T) (hr.mono (by decide)) rfl T.g_slice_at T.F_slice_at.kp T.b_slice_at .nil passL (pa_cons (pv 2) (pa_cons (pv 5) (pa_cons pe_int pa_nil)))) (pe_call (ok__law_sliced T) (hr.mono (by decide)) rfl T.g__law_sliced T.F__law_sliced.kp T.b__law_sliced .nil pass0 (pa_cons (pv 3) (pa_cons (pv 5) (pa_cons pe_int pa_nil)))) (nomark _))))))))), ?_⟩
    refine J_law hS k ?_
    have hS2 : SqL K (Base.mk H [] fun _ => none).H a (ns.map V.int) := hS
    have hB : (Base.mk H [] fun _ => none).S = [] := rfl
    show JS K _ _ [some (.v (.ref a)), none, none, none, none, none, none, none, none, none] _
    generalize (Base.mk H [] fun _ => none) = B at hS2 hB ⊢
    clear hS k
    have hz := sizeLine_eq
    walk_at "jgo"
    refine ⟨rfl, fun pa pl => ?_⟩
    walk_at "jgo"
    intro d d0 d1
    have hd : ∃ n : Nat, n ≤ 1000 ∧ atI [PyData.int 0, PyData.int 0, PyData.int 4] d = some (natD n) := by
      rcases (show d = 0 ∨ d = 1 ∨ d = 2 by omega) with rfl | rfl | rfl
      · exact ⟨0, by omega, atI_nat (i := 0) rfl⟩
      · exact ⟨0, by omega, atI_nat (i := 1) rfl⟩
      · exact ⟨4, by omega, atI_nat (i := 2) rfl⟩
    obtain ⟨lost, hlost, hix⟩ := hd
    walk_at "jgo"
    refine c_world (pages := 24) (deeds := 24) (by omega) fun P ds img wf hi => ?_
    have p1 := wf.p1
    have p2 := wf.p2
    have p3 := wf.n
    walk_at "jgo"
    refine c_closed wf hi fun p qs hss hs => ?_
    walk_at "jgo"
    obtain ⟨bss, e1, e2, e3⟩ := hs.bss
    rw [e1]
    refine c_lots ⟨by omega, fun bs m => ?_⟩ ?_
    · obtain ⟨i, hi⟩ := List.getElem?_of_mem m
      rw [e3 i bs hi]
      have := ver_le2 ds ds.length i
      omega
    have hl : (bss.map lotB).length = P := by rw [List.length_map]; exact e2
    have hab : ∀ i a b : Nat, (bss.map lotB)[i]? = some (some (a, b)) → a ≤ b := fun i a b e => by
      rw [List.getElem?_map, Option.map_eq_some_iff] at e
      obtain ⟨bs, _, e⟩ := e
      exact (lotB_ok e).1
    generalize bss.map lotB = lots at hl hab ⊢
    clear e1 e2 e3 hs hss bss
    have sh : ∀ n, Shp (.tuple (slD ds lots n)) := fun n => (dpt_tup (n := 0) fun x m => by
      unfold slD at m
      obtain ⟨k, _, rfl⟩ := List.mem_map.mp m
      exact dpt_opt _).shp (by omega)
    have se : ∀ n, PyData.eqv (.tuple (slD ds lots n)) (.tuple (slD ds lots n)) = true := fun n => eqv_self (n := 0) _ (shp_iff.mp (sh n)).1
    walk_at "jgo"
    rw [List.length_map]
    refine x_QFor (fun i ρ => ∃ v1 v2 : Option W, ρ = [some (.v (.ref a)), some (.pool pa pl), some (.d (logD P ds)), some (.d (tabD P ds)), some (.d (.tuple (img.map optD))), some (.d (.tuple (lots.map lotD))), some (.d (natD ds.length)), v1, v2, none]) ⟨_, _, rfl⟩ ?_ ?_
    · rintro i x ρ e ⟨v1, v2, rfl⟩
      obtain ⟨hx, rfl⟩ := rgD_at (n := ds.length + 1) e
      have hi : i ≤ ds.length := by omega
      walk_at "jgo"
      refine c_slice wf hl hi ?_
      walk_at "jgo"
      refine c_isrow ⟨by unfold slD; rw [List.length_map, List.length_range]; exact hl, by omega, ?_⟩ ?_
      · unfold slD
        rw [List.all_map, List.all_eq_true]
        intro k _
        show isRowD (optD _) = true
        cases near (lots.getD k none) (ver ds i k) <;> rfl
      walk_at "jgo"
      refine c_sliced wf ⟨hl, hi, hab⟩ ?_
      have s1 := sh i
      walk_at "jgo"
      rw [se i]
      walk_at "jgo"
      exact ⟨_, _, rfl⟩
    · rintro ρ ⟨v1, v2, rfl⟩
      walk_at "jgo"
      intro d2 g1 g2
      walk_at "jgo"
      intro d3 g3 g4
      walk_at "jgo"
      refine x_QFor (fun i ρ => ∃ v1 v2 v3 : Option W, ρ = [some (.v (.ref a)), some (.pool pa pl), some (.d (logD P ds)), some (.d (tabD P ds)), some (.d (.tuple (img.map optD))), some (.d (.tuple (lots.map lotD))), some (.d (natD ds.length)), v1, v2, v3]) ⟨_, _, _, rfl⟩ ?_ ?_
      · rintro i x ρ e ⟨v1, v2, v3, rfl⟩
        have hx : ∃ m : Int, x = .int m ∧ ¬ (0 ≤ m ∧ m ≤ ds.length) := by
          have m := List.mem_of_getElem? e
          simp only [List.mem_cons, List.not_mem_nil, or_false] at m
          rcases m with rfl | rfl | rfl | rfl
          · exact ⟨_, rfl, by omega⟩
          · exact ⟨_, rfl, by omega⟩
          · exact ⟨_, rfl, by omega⟩
          · exact ⟨_, rfl, by omega⟩
        obtain ⟨m, rfl, hm⟩ := hx
        walk_at "jgo"
        refine c_refused wf hl hm ?_
        walk_at "jgo"
        exact ⟨_, _, _, rfl⟩
      · rintro ρ ⟨v1, v2, v3, rfl⟩
        walk_at "jgo"
        refine c_slice (n := 0) wf hl (by omega) ?_
        walk_at "jgo"
        refine c_sliced (s := 0) wf ⟨hl, by omega, hab⟩ ?_
        have s1 := sh 0
        walk_at "jgo"
        rw [se 0]
end
end WD

namespace WD
open PySem PySem.Spec PyProof.Rows L2
def endFn : List He.DefD := [
  ⟨("Refused", some "__init__"), "__init__", "Refused.__init__", defArgs s_Refused___init__, defBody s_Refused___init__, defScope s_Refused___init__, [], []⟩,
  ⟨("_law_pool", none), "_law_pool", "_law_pool", defArgs s__law_pool, defBody s__law_pool, defScope s__law_pool, [], []⟩,
  ⟨("_law_draw", none), "_law_draw", "_law_draw", defArgs s__law_draw, defBody s__law_draw, defScope s__law_draw, [], []⟩,
  ⟨("is_number", none), "is_number", "is_number", defArgs s_is_number, defBody s_is_number, defScope s_is_number, [], []⟩,
  ⟨("is_within", none), "is_within", "is_within", defArgs s_is_within, defBody s_is_within, defScope s_is_within, [], []⟩,
  ⟨("_is_bare_deed", none), "_is_bare_deed", "_is_bare_deed", defArgs s__is_bare_deed, defBody s__is_bare_deed, defScope s__is_bare_deed, [], []⟩,
  ⟨("made_log", none), "made_log", "made_log", defArgs s_made_log, defBody s_made_log, defScope s_made_log, [], []⟩,
  ⟨("versions_at", none), "versions_at", "versions_at", defArgs s_versions_at, defBody s_versions_at, defScope s_versions_at, [], []⟩,
  ⟨("_nearest", none), "_nearest", "_nearest", defArgs s__nearest, defBody s__nearest, defScope s__nearest, [], []⟩,
  ⟨("slice_at", none), "slice_at", "slice_at", defArgs s_slice_at, defBody s_slice_at, defScope s_slice_at, [], []⟩,
  ⟨("_law_turned", none), "_law_turned", "_law_turned", defArgs s__law_turned, defBody s__law_turned, defScope s__law_turned, [], []⟩,
  ⟨("_law_log", none), "_law_log", "_law_log", defArgs s__law_log, defBody s__law_log, defScope s__law_log, [], []⟩,
  ⟨("_law_table", none), "_law_table", "_law_table", defArgs s__law_table, defBody s__law_table, defScope s__law_table, [], []⟩,
  ⟨("_law_image", none), "_law_image", "_law_image", defArgs s__law_image, defBody s__law_image, defScope s__law_image, [], []⟩,
  ⟨("_law_world", none), "_law_world", "_law_world", defArgs s__law_world, defBody s__law_world, defScope s__law_world, [], []⟩,
  ⟨("_law_closed", none), "_law_closed", "_law_closed", defArgs s__law_closed, defBody s__law_closed, defScope s__law_closed, [], []⟩,
  ⟨("_law_lots", none), "_law_lots", "_law_lots", defArgs s__law_lots, defBody s__law_lots, defScope s__law_lots, [], []⟩,
  ⟨("_law_sliced", none), "_law_sliced", "_law_sliced", defArgs s__law_sliced, defBody s__law_sliced, defScope s__law_sliced, [], []⟩,
  ⟨("_law_is_row", none), "_law_is_row", "_law_is_row", defArgs s__law_is_row, defBody s__law_is_row, defScope s__law_is_row, [], []⟩,
  ⟨("_law_is_refused", none), "_law_is_refused", "_law_is_refused", defArgs s__law_is_refused, defBody s__law_is_refused, defScope s__law_is_refused, [], []⟩,
  ⟨("law", none), "law", "law", defArgs s_law, defBody s_law, defScope s_law, [], []⟩]
def endFa : List He.Fa := [.glo "_law_pool", .glo "_law_draw", .glo "is_number", .glo "is_within", .glo "_is_bare_deed", .glo "made_log", .glo "versions_at", .glo "_nearest", .glo "slice_at", .glo "_law_turned", .glo "_law_log", .glo "_law_table", .glo "_law_image", .glo "_law_world", .glo "_law_closed", .glo "_law_lots", .glo "_law_sliced", .glo "_law_is_row", .glo "_law_is_refused", .glo "law", .free "ValueError", .free "bool", .free "enumerate", .free "int", .free "isinstance", .free "len", .free "list", .free "max", .free "min", .free "range", .free "tuple", .free "zip", .int "MOST_DEEDS" 400, .int "PAGES" 32, .glo "Refused", .glo "TooMany", .glo "BadLog", .glo "BadNumber", .exm "Refused" "Refused" true, .exm "TooMany" "Refused" true, .exm "BadLog" "Refused" true, .exm "BadNumber" "Refused" true]
def endEx (K : PySem.W.Frag) : List Bool := [extB K "Refused" "Refused", extB K "TooMany" "Refused", extB K "BadLog" "Refused", extB K "BadNumber" "Refused", decide (PySem.W.kitOne K (.ref (He.ga K "BadNumber")) (.ref (He.ga K "BadNumber")) = some true), decide (PySem.W.kitOne K (.ref (He.ga K "BadNumber")) (.type "ValueError") = some true), decide (PySem.W.typeIn K (.ref (He.fAd K ("Refused", some "__init__"))) = some (.type "function"))]
def endLoose : List Str := (["__name__", "Refused", "TooMany", "BadLog", "BadNumber", "PAGES", "is_number", "is_within", "MOST_DEEDS", "made_log", "versions_at", "_is_bare_deed", "slice_at", "_nearest", "_law_pool", "_law_draw", "_law_turned", "_law_log", "_law_table", "_law_image", "_law_world", "_law_closed", "_law_lots", "_law_sliced", "_law_is_row", "_law_is_refused"] : List Str)
abbrev R : PySem.W.OpenRow := PySem.W.OpenLaw.row PySem.Challenge.rw_wendleaf_k19_slices
abbrev hk : PySem.W.Hook := He.hookX 6 endFa endFn [] [] (fun K => (endEx K).all id)
def ob (s : PySem.W.SharedT) : He.AlX := He.obsX 6 endFa endFn [] [] (fun K => (endEx K).all id) (HandSHeadRun.getT s)
theorem ob_eq (s : PySem.W.SharedT) : ob s = hk.obs s.abs := He.obsX_eq (HandSHeadRun.getT_eq s)
theorem run (w : World) : HandSHeadRun.RunEq R (PySem.W.view R.prog [30]) hk ob 4000 endLoose w := by
  intro os
  kernel_rfl
theorem mkG {K : PySem.W.Frag} {mg : Str → Option Value} {h : Heap} {w : World} (X : K.In h) (Gn : h.Ns mainGlobals mg) (c : He.SaysX endFa endFn [] [] (fun K => (endEx K).all id) w h K) : ∃ T : G K mg, T.f_law = He.ga K "law" ∧ ∀ (s : Shared) (v : Value), BindsTo s T.d_law ⟨[v], []⟩ [("script", v)] := by
  have hx : ∀ i, {b : Bool} → (endEx K)[i]? = some b → b = true := fun i b e => List.all_eq_true.mp c.more b (List.mem_of_getElem? e)
  obtain ⟨d_Refused___init__, F_Refused___init__⟩ := c.t.d.def_ 0 rfl
  have b_Refused___init__ : Binds K d_Refused___init__ ["self", "what"] [] := FunD.bindsN F_Refused___init__ fun _ _ _ _ _ _ us hl => match us, hl with | [_, _], _ => rfl
  obtain ⟨d__law_pool, F__law_pool⟩ := c.t.d.def_ 1 rfl
  have b__law_pool : Binds K d__law_pool ["script"] [] := FunD.bindsN F__law_pool fun _ _ _ _ _ _ us hl => match us, hl with | [_], _ => rfl
  obtain ⟨d__law_draw, F__law_draw⟩ := c.t.d.def_ 2 rfl
  have b__law_draw : Binds K d__law_draw ["pool", "many"] [] := FunD.bindsN F__law_draw fun _ _ _ _ _ _ us hl => match us, hl with | [_, _], _ => rfl
  obtain ⟨d_is_number, F_is_number⟩ := c.t.d.def_ 3 rfl
  have b_is_number : Binds K d_is_number ["thing"] [] := FunD.bindsN F_is_number fun _ _ _ _ _ _ us hl => match us, hl with | [_], _ => rfl
  obtain ⟨d_is_within, F_is_within⟩ := c.t.d.def_ 4 rfl
  have b_is_within : Binds K d_is_within ["thing", "low", "high"] [] := FunD.bindsN F_is_within fun _ _ _ _ _ _ us hl => match us, hl with | [_, _, _], _ => rfl
  obtain ⟨d__is_bare_deed, F__is_bare_deed⟩ := c.t.d.def_ 5 rfl
  have b__is_bare_deed : Binds K d__is_bare_deed ["thing", "many"] [] := FunD.bindsN F__is_bare_deed fun _ _ _ _ _ _ us hl => match us, hl with | [_, _], _ => rfl
  obtain ⟨d_made_log, F_made_log⟩ := c.t.d.def_ 6 rfl
  have b_made_log : Binds K d_made_log ["thing"] [] := FunD.bindsN F_made_log fun _ _ _ _ _ _ us hl => match us, hl with | [_], _ => rfl
  obtain ⟨d_versions_at, F_versions_at⟩ := c.t.d.def_ 7 rfl
  have b_versions_at : Binds K d_versions_at ["log", "moment"] [] := FunD.bindsN F_versions_at fun _ _ _ _ _ _ us hl => match us, hl with | [_, _], _ => rfl
  obtain ⟨d__nearest, F__nearest⟩ := c.t.d.def_ 8 rfl
  have b__nearest : Binds K d__nearest ["lot", "version"] [] := FunD.bindsN F__nearest fun _ _ _ _ _ _ us hl => match us, hl with | [_, _], _ => rfl
  obtain ⟨d_slice_at, F_slice_at⟩ := c.t.d.def_ 9 rfl
  have b_slice_at : Binds K d_slice_at ["log", "lots", "s"] [] := FunD.bindsN F_slice_at fun _ _ _ _ _ _ us hl => match us, hl with | [_, _, _], _ => rfl
  obtain ⟨d__law_turned, F__law_turned⟩ := c.t.d.def_ 10 rfl
  have b__law_turned : Binds K d__law_turned ["pool", "many"] [] := FunD.bindsN F__law_turned fun _ _ _ _ _ _ us hl => match us, hl with | [_, _], _ => rfl
  obtain ⟨d__law_log, F__law_log⟩ := c.t.d.def_ 11 rfl
  have b__law_log : Binds K d__law_log ["pool", "pages", "deeds", "is_ringless"] [] := FunD.bindsN F__law_log fun _ _ _ _ _ _ us hl => match us, hl with | [_, _, _, _], _ => rfl
  obtain ⟨d__law_table, F__law_table⟩ := c.t.d.def_ 12 rfl
  have b__law_table : Binds K d__law_table ["log"] [] := FunD.bindsN F__law_table fun _ _ _ _ _ _ us hl => match us, hl with | [_], _ => rfl
  obtain ⟨d__law_image, F__law_image⟩ := c.t.d.def_ 13 rfl
  have b__law_image : Binds K d__law_image ["pool", "log", "table", "lost"] [] := FunD.bindsN F__law_image fun _ _ _ _ _ _ us hl => match us, hl with | [_, _, _, _], _ => rfl
  obtain ⟨d__law_world, F__law_world⟩ := c.t.d.def_ 14 rfl
  have b__law_world : Binds K d__law_world ["pool", "pages", "deeds", "lost"] [] := FunD.bindsN F__law_world fun _ _ _ _ _ _ us hl => match us, hl with | [_, _, _, _], _ => rfl
  obtain ⟨d__law_closed, F__law_closed⟩ := c.t.d.def_ 15 rfl
  have b__law_closed : Binds K d__law_closed ["log", "table", "image"] [] := FunD.bindsN F__law_closed fun _ _ _ _ _ _ us hl => match us, hl with | [_, _, _], _ => rfl
  obtain ⟨d__law_lots, F__law_lots⟩ := c.t.d.def_ 16 rfl
  have b__law_lots : Binds K d__law_lots ["held"] [] := FunD.bindsN F__law_lots fun _ _ _ _ _ _ us hl => match us, hl with | [_], _ => rfl
  obtain ⟨d__law_sliced, F__law_sliced⟩ := c.t.d.def_ 17 rfl
  have b__law_sliced : Binds K d__law_sliced ["table", "lots", "s"] [] := FunD.bindsN F__law_sliced fun _ _ _ _ _ _ us hl => match us, hl with | [_, _, _], _ => rfl
  obtain ⟨d__law_is_row, F__law_is_row⟩ := c.t.d.def_ 18 rfl
  have b__law_is_row : Binds K d__law_is_row ["thing", "many"] [] := FunD.bindsN F__law_is_row fun _ _ _ _ _ _ us hl => match us, hl with | [_, _], _ => rfl
  obtain ⟨d__law_is_refused, F__law_is_refused⟩ := c.t.d.def_ 19 rfl
  have b__law_is_refused : Binds K d__law_is_refused ["log", "lots", "number"] [] := FunD.bindsN F__law_is_refused fun _ _ _ _ _ _ us hl => match us, hl with | [_, _, _], _ => rfl
  obtain ⟨d_law, F_law⟩ := c.t.d.def_ 20 rfl
  have b_law : Binds K d_law ["script"] [] := FunD.bindsN F_law fun _ _ _ _ _ _ us hl => match us, hl with | [_], _ => rfl
  obtain ⟨t_MOST_DEEDS, e_MOST_DEEDS⟩ := He.int_ok X Gn (c.t.d.fact 32 rfl)
  obtain ⟨t_PAGES, e_PAGES⟩ := He.int_ok X Gn (c.t.d.fact 33 rfl)
  exact ⟨{
    f_Refused___init__ := He.fAd K ("Refused", some "__init__"),
    d_Refused___init__ := d_Refused___init__,
    F_Refused___init__ := fun_of F_Refused___init__,
    b_Refused___init__ := b_Refused___init__,
    f__law_pool := He.fAd K ("_law_pool", none),
    d__law_pool := d__law_pool,
    F__law_pool := fun_of F__law_pool,
    b__law_pool := b__law_pool,
    g__law_pool := He.glo_ok X Gn (c.t.d.fact 0 rfl),
    f__law_draw := He.fAd K ("_law_draw", none),
    d__law_draw := d__law_draw,
    F__law_draw := fun_of F__law_draw,
    b__law_draw := b__law_draw,
    g__law_draw := He.glo_ok X Gn (c.t.d.fact 1 rfl),
    f_is_number := He.fAd K ("is_number", none),
    d_is_number := d_is_number,
    F_is_number := fun_of F_is_number,
    b_is_number := b_is_number,
    g_is_number := He.glo_ok X Gn (c.t.d.fact 2 rfl),
    f_is_within := He.fAd K ("is_within", none),
    d_is_within := d_is_within,
    F_is_within := fun_of F_is_within,
    b_is_within := b_is_within,
    g_is_within := He.glo_ok X Gn (c.t.d.fact 3 rfl),
    f__is_bare_deed := He.fAd K ("_is_bare_deed", none),
    d__is_bare_deed := d__is_bare_deed,
    F__is_bare_deed := fun_of F__is_bare_deed,
    b__is_bare_deed := b__is_bare_deed,
    g__is_bare_deed := He.glo_ok X Gn (c.t.d.fact 4 rfl),
    f_made_log := He.fAd K ("made_log", none),
    d_made_log := d_made_log,
    F_made_log := fun_of F_made_log,
    b_made_log := b_made_log,
    g_made_log := He.glo_ok X Gn (c.t.d.fact 5 rfl),
    f_versions_at := He.fAd K ("versions_at", none),
    d_versions_at := d_versions_at,
    F_versions_at := fun_of F_versions_at,
    b_versions_at := b_versions_at,
    g_versions_at := He.glo_ok X Gn (c.t.d.fact 6 rfl),
    f__nearest := He.fAd K ("_nearest", none),
    d__nearest := d__nearest,
    F__nearest := fun_of F__nearest,
    b__nearest := b__nearest,
    g__nearest := He.glo_ok X Gn (c.t.d.fact 7 rfl),
    f_slice_at := He.fAd K ("slice_at", none),
    d_slice_at := d_slice_at,
    F_slice_at := fun_of F_slice_at,
    b_slice_at := b_slice_at,
    g_slice_at := He.glo_ok X Gn (c.t.d.fact 8 rfl),
    f__law_turned := He.fAd K ("_law_turned", none),
    d__law_turned := d__law_turned,
    F__law_turned := fun_of F__law_turned,
    b__law_turned := b__law_turned,
    g__law_turned := He.glo_ok X Gn (c.t.d.fact 9 rfl),
    f__law_log := He.fAd K ("_law_log", none),
    d__law_log := d__law_log,
    F__law_log := fun_of F__law_log,
    b__law_log := b__law_log,
    g__law_log := He.glo_ok X Gn (c.t.d.fact 10 rfl),
    f__law_table := He.fAd K ("_law_table", none),
    d__law_table := d__law_table,
    F__law_table := fun_of F__law_table,
    b__law_table := b__law_table,
    g__law_table := He.glo_ok X Gn (c.t.d.fact 11 rfl),
    f__law_image := He.fAd K ("_law_image", none),
    d__law_image := d__law_image,
    F__law_image := fun_of F__law_image,
    b__law_image := b__law_image,
    g__law_image := He.glo_ok X Gn (c.t.d.fact 12 rfl),
    f__law_world := He.fAd K ("_law_world", none),
    d__law_world := d__law_world,
    F__law_world := fun_of F__law_world,
    b__law_world := b__law_world,
    g__law_world := He.glo_ok X Gn (c.t.d.fact 13 rfl),
    f__law_closed := He.fAd K ("_law_closed", none),
    d__law_closed := d__law_closed,
    F__law_closed := fun_of F__law_closed,
    b__law_closed := b__law_closed,
    g__law_closed := He.glo_ok X Gn (c.t.d.fact 14 rfl),
    f__law_lots := He.fAd K ("_law_lots", none),
    d__law_lots := d__law_lots,
    F__law_lots := fun_of F__law_lots,
    b__law_lots := b__law_lots,
    g__law_lots := He.glo_ok X Gn (c.t.d.fact 15 rfl),
    f__law_sliced := He.fAd K ("_law_sliced", none),
    d__law_sliced := d__law_sliced,
    F__law_sliced := fun_of F__law_sliced,
    b__law_sliced := b__law_sliced,
    g__law_sliced := He.glo_ok X Gn (c.t.d.fact 16 rfl),
    f__law_is_row := He.fAd K ("_law_is_row", none),
    d__law_is_row := d__law_is_row,
    F__law_is_row := fun_of F__law_is_row,
    b__law_is_row := b__law_is_row,
    g__law_is_row := He.glo_ok X Gn (c.t.d.fact 17 rfl),
    f__law_is_refused := He.fAd K ("_law_is_refused", none),
    d__law_is_refused := d__law_is_refused,
    F__law_is_refused := fun_of F__law_is_refused,
    b__law_is_refused := b__law_is_refused,
    g__law_is_refused := He.glo_ok X Gn (c.t.d.fact 18 rfl),
    f_law := He.fAd K ("law", none),
    d_law := d_law,
    F_law := fun_of F_law,
    b_law := b_law,
    g_law := He.glo_ok X Gn (c.t.d.fact 19 rfl),
    n_ValueError := He.free_ok X Gn (c.t.d.fact 20 rfl),
    n_bool := He.free_ok X Gn (c.t.d.fact 21 rfl),
    n_enumerate := He.free_ok X Gn (c.t.d.fact 22 rfl),
    n_int := He.free_ok X Gn (c.t.d.fact 23 rfl),
    n_isinstance := He.free_ok X Gn (c.t.d.fact 24 rfl),
    n_len := He.free_ok X Gn (c.t.d.fact 25 rfl),
    n_list := He.free_ok X Gn (c.t.d.fact 26 rfl),
    n_max := He.free_ok X Gn (c.t.d.fact 27 rfl),
    n_min := He.free_ok X Gn (c.t.d.fact 28 rfl),
    n_range := He.free_ok X Gn (c.t.d.fact 29 rfl),
    n_tuple := He.free_ok X Gn (c.t.d.fact 30 rfl),
    n_zip := He.free_ok X Gn (c.t.d.fact 31 rfl),
    v_MOST_DEEDS := .int 400 t_MOST_DEEDS,
    g_MOST_DEEDS := ⟨⟨_, rfl⟩, e_MOST_DEEDS⟩,
    v_PAGES := .int 32 t_PAGES,
    g_PAGES := ⟨⟨_, rfl⟩, e_PAGES⟩,
    C_Refused := He.ga K "Refused",
    x_Refused := extB_ok (He.glo_ok X Gn (c.t.d.fact 34 rfl)) (hx 0 rfl),
    C_TooMany := He.ga K "TooMany",
    x_TooMany := extB_ok (He.glo_ok X Gn (c.t.d.fact 35 rfl)) (hx 1 rfl),
    C_BadLog := He.ga K "BadLog",
    x_BadLog := extB_ok (He.glo_ok X Gn (c.t.d.fact 36 rfl)) (hx 2 rfl),
    C_BadNumber := He.ga K "BadNumber",
    x_BadNumber := extB_ok (He.glo_ok X Gn (c.t.d.fact 37 rfl)) (hx 3 rfl),
    e_Refused_Refused := He.exm_ok (c.t.d.fact 38 rfl),
    e_TooMany_Refused := He.exm_ok (c.t.d.fact 39 rfl),
    e_BadLog_Refused := He.exm_ok (c.t.d.fact 40 rfl),
    e_BadNumber_Refused := He.exm_ok (c.t.d.fact 41 rfl),
    k_BadNumber_BadNumber := of_decide_eq_true (hx 4 rfl),
    k_BadNumber_ValueError := of_decide_eq_true (hx 5 rfl),
    t_init := of_decide_eq_true (hx 6 rfl) }, rfl, fun s v => FunD.bindsA (ps := ["script"]) F_law (fun _ _ _ _ _ _ us hl => match us, hl with | [_], _ => rfl) s [v] rfl⟩
end WD
open PySem PySem.W PySem.Calls PyProof.Rows
set_option maxRecDepth 100000 in
set_option maxHeartbeats 8000000 in
theorem PySem.Challenge.cw_wendleaf_k19_slices_holds : PySem.Challenge.rw_wendleaf_k19_slices.Holds := by
  w_on; o_law
  refine HandSHeadRun.head_any (r := OpenLaw.row PySem.Challenge.rw_wendleaf_k19_slices) (q := view (OpenLaw.row PySem.Challenge.rw_wendleaf_k19_slices).prog [30]) (H := WD.hk) (ob := WD.ob) (M := 4000) (loose := WD.endLoose) (d := HandSHeadRun.topDef (OpenLaw.row PySem.Challenge.rw_wendleaf_k19_slices).prog 30) (kwd := []) WD.ob_eq
    (by kernel_rfl) (fun s => by kernel_rfl) WD.run (by kernel_rfl) (by kernel_rfl) (by kernel_rfl) (by rfl) (by first | assumption | decide +kernel) (by decide +kernel) ⟨rfl, rfl, rfl, rfl, rfl, by decide +kernel⟩ ?hw ?hc
  case hw => w_witness2
  case hc =>
    refine L2.walk_ofE (l := PySem.Challenge.rw_wendleaf_k19_slices) (n := 63) (k := 7) (x := "script") (CX := L2.CX0) rfl (by decide) (by kernel_rfl) ⟨rfl, by decide, by decide⟩ ?F (fun _ _ _ _ z => z)
    intro w mg fa h Y Gn hmg0
    obtain ⟨K, KX, c⟩ := Y
    have hmg : mg ("law" : PySem.Str) = some (.ref fa) := by
      have e : (HandSHeadRun.topDef (OpenLaw.row PySem.Challenge.rw_wendleaf_k19_slices).prog 30).name = ("law" : PySem.Str) := by kernel_rfl
      rw [← e]
      exact hmg0
    obtain ⟨T, e, hb⟩ := WD.mkG KX Gn c
    have e2 := T.g_law.symm.trans hmg
    cases e2
    exact ⟨K, T.d_law, WD.sp_law K, KX, hb, fun H a ns hl _ hS => ⟨a, ns, rfl, hS, fun _ => rfl⟩, fun base _ _ => WD.ok_law T⟩
