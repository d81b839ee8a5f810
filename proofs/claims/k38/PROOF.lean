import PyProof.Rows.All
import Wide.All
import OpenK.AllK
import Wide.FinOn
import HandS.ForMost
import HandS.ForExc
import HandS.Wide
import HandS.EndBits
import HandS.More
import HandS.TryMany
import HandS.ExcField
import HandS.ExcInit
import HandS.ExcIs
import HandS.IsInst
import HandS.Defaults
import HandS.MakeKw
import PyProof.StrOps2
import HandS.Small
import HandS.MakeKwOnly
import HandS.HeadHook4
import HandS.HeadEnd
import HandS.HeadWalk
import HandS.Head2
import PySem.Challenge.RW_wendleaf_k38_writes_and_fuses
set_option Elab.async false
set_option linter.all false
set_option maxRecDepth 100000
/-! steps of a reading -/
namespace WD
open PySem PySem.Spec PyProof.Rows L2
def CMulX (i j : Int) : Prop := IntMulOk i j
theorem op_mulX {X : Cx} : OpR X (binaryOp .Mult) (rI CMulX fun i j => .int (i * j)) := opI fun _ _ _ _ _ _ _ hc q => mul_int q hc
theorem ne_none {H : Hp} {a b : Addr} {o : HO} (h : H b = none) (h2 : H a = some o) : a ≠ b := ne_of_none h2 h
/-- from H to H' what stands outside S stays, and nothing goes -/
structure Stay (S : List Addr) (H H' : Hp) : Prop where
  keep : ∀ b o, H b = some o → b ∉ S → H' b = some o
  old : ∀ b, H' b = none → H b = none
theorem nm0 {b : Addr} : b ∉ ([] : List Addr) := by simp
theorem nmS {b a : Addr} {S : List Addr} (h : b ≠ a) (r : b ∉ S) : b ∉ a :: S := by simp [h, r]
theorem nw_upd {H : Hp} {a : Addr} {o : HO} {G : Addr → Prop} (h : ∀ p, H p = none → p ≠ a → G p) : ∀ p, upd H a o p = none → G p := by
  intro p hp
  by_cases e : p = a
  · rw [e, upd_same] at hp; cases hp
  · rw [upd_ne e] at hp; exact h p hp e
theorem nw_fr {S : List Addr} {H H' : Hp} {G : Addr → Prop} (r : Stay S H H') (h : ∀ p, H p = none → H' p = none → G p) : ∀ p, H' p = none → G p := fun p hp => h p (r.old p hp) hp
theorem Stay.refl (S : List Addr) (H : Hp) : Stay S H H := ⟨fun _ _ h _ => h, fun _ h => h⟩
theorem Stay.upd {S : List Addr} {H H' : Hp} {a : Addr} {o : HO} (r : Stay S H H') (h : a ∈ S) : Stay S H (upd H' a o) := by
  refine ⟨fun b u e n => ?_, fun b e => ?_⟩
  · rw [upd_ne (fun z => n (by rw [z]; exact h))]; exact r.keep b u e n
  · by_cases z : b = a
    · rw [z, upd_same] at e; cases e
    · rw [upd_ne z] at e; exact r.old b e
theorem Stay.new {S : List Addr} {H H' : Hp} {a : Addr} {o : HO} (r : Stay S H H') (h : H a = none) : Stay S H (L2.upd H' a o) := by
  refine ⟨fun b u e n => ?_, fun b e => ?_⟩
  · rw [upd_ne (ne_of_none e h)]; exact r.keep b u e n
  · by_cases z : b = a
    · rw [z]; exact h
    · rw [upd_ne z] at e; exact r.old b e
theorem Stay.trans {S : List Addr} {H H1 H2 : Hp} (a : Stay S H H1) (b : Stay S H1 H2) : Stay S H H2 := ⟨fun c o h n => b.keep c o (a.keep c o h n) n, fun c h => a.old c (b.old c h)⟩
theorem Stay.weak {S S' : List Addr} {H H' : Hp} (a : Stay S H H') (h : ∀ b, b ∈ S → b ∈ S') : Stay S' H H' := ⟨fun c o e n => a.keep c o e (fun z => n (h c z)), a.old⟩
theorem Stay.same {H H' : Hp} (a : Stay [] H H') : Same H H' := fun b o h => a.keep b o h nm0
theorem ne_some {H : Hp} {a b : Addr} {o : HO} (h2 : H a = some o) (h : H b = none) : a ≠ b := ne_of_none h2 h
section
variable {σ : L2.St} {H : Hp} {Q : VK} {D : Ends} {v x y : V} {K : PySem.W.Frag} {ta tb te : TE} {t u : TS} {c c' : TT} {a p : Addr} {xs : List V} {i j : Int} {n : Nat} {QB : Bool → Hp → Prop} {QL : List V → Hp → Prop} {QS : L2.St → Hp → Prop}
-- statements
theorem x_seq (h : t { D with nx := u D } σ H) : tSeq t u D σ H := h
theorem x_next (h : D.nx σ H) : tNext D σ H := h
theorem x_ifS (h : c σ H fun b H1 => if b = true then t D σ H1 else u D σ H1) : tIfS c t u D σ H := h
theorem x_asg {g : TG} (h : te σ H fun x H1 => g x σ H1 D.nx) : tAsg te g D σ H := h
theorem x_ret (h : te σ H D.rt) : tRet te D σ H := h
theorem x_retN (h : D.rt .non H) : tRetN D σ H := h
theorem x_drop (h : te σ H fun _ H1 => D.nx σ H1) : tDrop te D σ H := h
theorem x_brk (h : D.bk σ H) : tBreak D σ H := h
theorem x_cont (h : D.ct σ H) : tCont D σ H := h
theorem x_aug {ti : TIp} (hv : σ[n]? = some (some x)) (h : te σ H fun y H1 => ti x y H1 fun z H2 => D.nx (σ.set n (some z)) H2) : tAug n te ti D σ H := ⟨x, hv, h⟩
theorem set0 {α : Type} {v x0 : α} {r : List α} : (x0 :: r).set 0 v = v :: r := rfl
theorem set1 {α : Type} {v x0 x1 : α} {r : List α} : (x0 :: x1 :: r).set 1 v = x0 :: v :: r := rfl
theorem set2 {α : Type} {v x0 x1 x2 : α} {r : List α} : (x0 :: x1 :: x2 :: r).set 2 v = x0 :: x1 :: v :: r := rfl
theorem set3 {α : Type} {v x0 x1 x2 x3 : α} {r : List α} : (x0 :: x1 :: x2 :: x3 :: r).set 3 v = x0 :: x1 :: x2 :: v :: r := rfl
theorem set4 {α : Type} {v x0 x1 x2 x3 x4 : α} {r : List α} : (x0 :: x1 :: x2 :: x3 :: x4 :: r).set 4 v = x0 :: x1 :: x2 :: x3 :: v :: r := rfl
theorem set5 {α : Type} {v x0 x1 x2 x3 x4 x5 : α} {r : List α} : (x0 :: x1 :: x2 :: x3 :: x4 :: x5 :: r).set 5 v = x0 :: x1 :: x2 :: x3 :: x4 :: v :: r := rfl
theorem set6 {α : Type} {v x0 x1 x2 x3 x4 x5 x6 : α} {r : List α} : (x0 :: x1 :: x2 :: x3 :: x4 :: x5 :: x6 :: r).set 6 v = x0 :: x1 :: x2 :: x3 :: x4 :: x5 :: v :: r := rfl
theorem set7 {α : Type} {v x0 x1 x2 x3 x4 x5 x6 x7 : α} {r : List α} : (x0 :: x1 :: x2 :: x3 :: x4 :: x5 :: x6 :: x7 :: r).set 7 v = x0 :: x1 :: x2 :: x3 :: x4 :: x5 :: x6 :: v :: r := rfl
theorem set8 {α : Type} {v x0 x1 x2 x3 x4 x5 x6 x7 x8 : α} {r : List α} : (x0 :: x1 :: x2 :: x3 :: x4 :: x5 :: x6 :: x7 :: x8 :: r).set 8 v = x0 :: x1 :: x2 :: x3 :: x4 :: x5 :: x6 :: x7 :: v :: r := rfl
theorem set9 {α : Type} {v x0 x1 x2 x3 x4 x5 x6 x7 x8 x9 : α} {r : List α} : (x0 :: x1 :: x2 :: x3 :: x4 :: x5 :: x6 :: x7 :: x8 :: x9 :: r).set 9 v = x0 :: x1 :: x2 :: x3 :: x4 :: x5 :: x6 :: x7 :: x8 :: v :: r := rfl
theorem set10 {α : Type} {v x0 x1 x2 x3 x4 x5 x6 x7 x8 x9 x10 : α} {r : List α} : (x0 :: x1 :: x2 :: x3 :: x4 :: x5 :: x6 :: x7 :: x8 :: x9 :: x10 :: r).set 10 v = x0 :: x1 :: x2 :: x3 :: x4 :: x5 :: x6 :: x7 :: x8 :: x9 :: v :: r := rfl
theorem set11 {α : Type} {v x0 x1 x2 x3 x4 x5 x6 x7 x8 x9 x10 x11 : α} {r : List α} : (x0 :: x1 :: x2 :: x3 :: x4 :: x5 :: x6 :: x7 :: x8 :: x9 :: x10 :: x11 :: r).set 11 v = x0 :: x1 :: x2 :: x3 :: x4 :: x5 :: x6 :: x7 :: x8 :: x9 :: x10 :: v :: r := rfl
theorem set12 {α : Type} {v x0 x1 x2 x3 x4 x5 x6 x7 x8 x9 x10 x11 x12 : α} {r : List α} : (x0 :: x1 :: x2 :: x3 :: x4 :: x5 :: x6 :: x7 :: x8 :: x9 :: x10 :: x11 :: x12 :: r).set 12 v = x0 :: x1 :: x2 :: x3 :: x4 :: x5 :: x6 :: x7 :: x8 :: x9 :: x10 :: x11 :: v :: r := rfl
theorem set13 {α : Type} {v x0 x1 x2 x3 x4 x5 x6 x7 x8 x9 x10 x11 x12 x13 : α} {r : List α} : (x0 :: x1 :: x2 :: x3 :: x4 :: x5 :: x6 :: x7 :: x8 :: x9 :: x10 :: x11 :: x12 :: x13 :: r).set 13 v = x0 :: x1 :: x2 :: x3 :: x4 :: x5 :: x6 :: x7 :: x8 :: x9 :: x10 :: x11 :: x12 :: v :: r := rfl
theorem set14 {α : Type} {v x0 x1 x2 x3 x4 x5 x6 x7 x8 x9 x10 x11 x12 x13 x14 : α} {r : List α} : (x0 :: x1 :: x2 :: x3 :: x4 :: x5 :: x6 :: x7 :: x8 :: x9 :: x10 :: x11 :: x12 :: x13 :: x14 :: r).set 14 v = x0 :: x1 :: x2 :: x3 :: x4 :: x5 :: x6 :: x7 :: x8 :: x9 :: x10 :: x11 :: x12 :: x13 :: v :: r := rfl
theorem set15 {α : Type} {v x0 x1 x2 x3 x4 x5 x6 x7 x8 x9 x10 x11 x12 x13 x14 x15 : α} {r : List α} : (x0 :: x1 :: x2 :: x3 :: x4 :: x5 :: x6 :: x7 :: x8 :: x9 :: x10 :: x11 :: x12 :: x13 :: x14 :: x15 :: r).set 15 v = x0 :: x1 :: x2 :: x3 :: x4 :: x5 :: x6 :: x7 :: x8 :: x9 :: x10 :: x11 :: x12 :: x13 :: x14 :: v :: r := rfl
theorem set16 {α : Type} {v x0 x1 x2 x3 x4 x5 x6 x7 x8 x9 x10 x11 x12 x13 x14 x15 x16 : α} {r : List α} : (x0 :: x1 :: x2 :: x3 :: x4 :: x5 :: x6 :: x7 :: x8 :: x9 :: x10 :: x11 :: x12 :: x13 :: x14 :: x15 :: x16 :: r).set 16 v = x0 :: x1 :: x2 :: x3 :: x4 :: x5 :: x6 :: x7 :: x8 :: x9 :: x10 :: x11 :: x12 :: x13 :: x14 :: x15 :: v :: r := rfl
theorem set17 {α : Type} {v x0 x1 x2 x3 x4 x5 x6 x7 x8 x9 x10 x11 x12 x13 x14 x15 x16 x17 : α} {r : List α} : (x0 :: x1 :: x2 :: x3 :: x4 :: x5 :: x6 :: x7 :: x8 :: x9 :: x10 :: x11 :: x12 :: x13 :: x14 :: x15 :: x16 :: x17 :: r).set 17 v = x0 :: x1 :: x2 :: x3 :: x4 :: x5 :: x6 :: x7 :: x8 :: x9 :: x10 :: x11 :: x12 :: x13 :: x14 :: x15 :: x16 :: v :: r := rfl
theorem set18 {α : Type} {v x0 x1 x2 x3 x4 x5 x6 x7 x8 x9 x10 x11 x12 x13 x14 x15 x16 x17 x18 : α} {r : List α} : (x0 :: x1 :: x2 :: x3 :: x4 :: x5 :: x6 :: x7 :: x8 :: x9 :: x10 :: x11 :: x12 :: x13 :: x14 :: x15 :: x16 :: x17 :: x18 :: r).set 18 v = x0 :: x1 :: x2 :: x3 :: x4 :: x5 :: x6 :: x7 :: x8 :: x9 :: x10 :: x11 :: x12 :: x13 :: x14 :: x15 :: x16 :: x17 :: v :: r := rfl
theorem set19 {α : Type} {v x0 x1 x2 x3 x4 x5 x6 x7 x8 x9 x10 x11 x12 x13 x14 x15 x16 x17 x18 x19 : α} {r : List α} : (x0 :: x1 :: x2 :: x3 :: x4 :: x5 :: x6 :: x7 :: x8 :: x9 :: x10 :: x11 :: x12 :: x13 :: x14 :: x15 :: x16 :: x17 :: x18 :: x19 :: r).set 19 v = x0 :: x1 :: x2 :: x3 :: x4 :: x5 :: x6 :: x7 :: x8 :: x9 :: x10 :: x11 :: x12 :: x13 :: x14 :: x15 :: x16 :: x17 :: x18 :: v :: r := rfl
theorem set20 {α : Type} {v x0 x1 x2 x3 x4 x5 x6 x7 x8 x9 x10 x11 x12 x13 x14 x15 x16 x17 x18 x19 x20 : α} {r : List α} : (x0 :: x1 :: x2 :: x3 :: x4 :: x5 :: x6 :: x7 :: x8 :: x9 :: x10 :: x11 :: x12 :: x13 :: x14 :: x15 :: x16 :: x17 :: x18 :: x19 :: x20 :: r).set 20 v = x0 :: x1 :: x2 :: x3 :: x4 :: x5 :: x6 :: x7 :: x8 :: x9 :: x10 :: x11 :: x12 :: x13 :: x14 :: x15 :: x16 :: x17 :: x18 :: x19 :: v :: r := rfl
-- targets
theorem x_gName {σ' : L2.St} (e : σ.set n (some v) = σ') (h : QS σ' H) : gName n v σ H QS := by subst e; exact h
theorem x_gSub {to ti : TE} {tt : TSet} (h : to σ H fun o H1 => ti σ H1 fun i H2 => tt o i v H2 fun H3 => QS σ H3) : gSub to ti tt v σ H QS := h
theorem x_gTup {g : TGs} (hT : SqT K H a xs) (hl : xs.length = n) (h : g xs σ H QS) : gTup K n g (.ref a) σ H QS := ⟨a, xs, rfl, hT, hl, h⟩
theorem x_gCons {t : TG} {u : TGs} {r : List V} (h : t v σ H fun σ' H' => u r σ' H' QS) : gCons t u (v :: r) σ H QS := ⟨v, r, rfl, h⟩
theorem x_gNil (h : QS σ H) : gNil [] σ H QS := ⟨rfl, h⟩
-- expressions
theorem x_var (e : σ[n]? = some (some v)) (h : Q v H) : tVar n σ H Q := ⟨v, e, h⟩
theorem x_c (h : Q v H) : tC v σ H Q := h
theorem x_op {r : R2} (h : ta σ H fun x H1 => tb σ H1 fun y H2 => r x y H2 Q) : tOp r ta tb σ H Q := h
theorem x_un {r : V → Hp → VK → Prop} (h : ta σ H fun x H1 => r x H1 Q) : tUn r ta σ H Q := h
theorem x_if (h : c σ H fun b H1 => if b = true then ta σ H1 Q else tb σ H1 Q) : tIf c ta tb σ H Q := h
theorem x_cb {r : List V → Hp → VK → Prop} {t : TA} (h : t σ H fun vs H1 => r vs H1 Q) : tCB r t σ H Q := h
theorem x_cons {tr : TA} (h : ta σ H fun x H1 => tr σ H1 fun xs H2 => QL (x :: xs) H2) : tCons ta tr σ H QL := h
theorem x_nil (h : QL [] H) : tNil σ H QL := h
theorem x_bm0 {T : String} {r : V → List V → Hp → VK → Prop} (h : ta σ H fun x H1 => tyV K T x H1 ∧ r x [] H1 Q) : tBM0 K T r ta σ H Q := h
theorem x_bm {T : String} {r : V → List V → Hp → VK → Prop} {t : TA} (h : ta σ H fun x H1 => tyV K T x H1 ∧ t σ H1 fun xs H2 => r x xs H2 Q) : tBM K T r ta t σ H Q := h
theorem x_call {sp : Sp} {dvs : List V} {E : XK} {t : TA} (h : t σ H fun vs H1 => sp (vs ++ dvs) H1 Q E) : tCall sp dvs E t σ H Q := h
theorem x_tup {t : TA} (h : t σ H fun xs H1 => xs.length ≤ sizeLine ∧ ∀ p, H1 p = none → Q (.ref p) (upd H1 p (.tup xs))) : tTup t σ H Q := h
theorem x_lst {t : TA} (h : t σ H fun xs H1 => xs.length ≤ sizeLine ∧ ∀ p, H1 p = none → Q (.ref p) (upd H1 p (.lst xs))) : tLst t σ H Q := h
theorem x_new {o : HO} {k : Nat} (e : k ≤ sizeLine) (h : ∀ p, H p = none → Q (.ref p) (upd H p o)) : k ≤ sizeLine ∧ ∀ p, H p = none → Q (.ref p) (upd H p o) := ⟨e, h⟩
theorem x_fld {f : Str} (h : ta σ H fun x H1 => ∃ a C dx fs v, x = .ref a ∧ H1 a = some (.ins C dx fs) ∧ Cls K C ∧ NoAttr K C f ∧ fs.lookup f = some v ∧ Q v H1) : tFld K ta f σ H Q := h
theorem x_test (h : ta σ H fun x H1 => ∃ k, x = .bl k ∧ QB k H1) : tTest ta σ H QB := h
theorem x_bl {b : Bool} (h : QB b H) : ∃ k, V.bl b = .bl k ∧ QB k H := ⟨b, rfl, h⟩
theorem x_tB (h : ta σ H fun x H1 => ∃ k, x = .bl k ∧ QB k H1) : tB ta σ H QB := h
theorem x_and (h : c σ H fun b H1 => if b = true then c' σ H1 QB else QB false H1) : tAnd c c' σ H QB := h
theorem x_or (h : c σ H fun b H1 => if b = true then QB true H1 else c' σ H1 QB) : tOr c c' σ H QB := h
theorem x_not (h : c σ H fun b H1 => QB (!b) H1) : tNot c σ H QB := h
theorem x_notV (h : ta σ H fun x H1 => ∃ c, x = .bl c ∧ Q (.bl (!c)) H1) : tNotV ta σ H Q := h
theorem x_andV (h : ta σ H fun x H1 => ∃ c, x = .bl c ∧ if c = true then tb σ H1 Q else Q (.bl false) H1) : tAndV ta tb σ H Q := h
theorem x_orV (h : ta σ H fun x H1 => ∃ c, x = .bl c ∧ if c = true then Q (.bl true) H1 else tb σ H1 Q) : tOrV ta tb σ H Q := h
-- rules on values
theorem x_rI {C : Int → Int → Prop} {g : Int → Int → V} (hc : C i j) (h : Q (g i j) H) : rI C g (.int i) (.int j) H Q := ⟨i, j, rfl, rfl, hc, h⟩
theorem x_rI0 {g : Int → Int → V} (h : Q (g i j) H) : rI0 g (.int i) (.int j) H Q := ⟨i, j, rfl, rfl, h⟩
theorem x_rU {g : Int → V} (h : Q (g i) H) : rU g (.int i) H Q := ⟨i, rfl, h⟩
theorem x_rEq (e : scal x y = true) (h : Q (.bl (decide (x = y))) H) : rEq x y H Q := ⟨e, h⟩
theorem x_rNe (e : scal x y = true) (h : Q (.bl (!decide (x = y))) H) : rNe x y H Q := ⟨e, h⟩
theorem x_ixL (hs : SqL K H a xs) (e : atI xs i = some v) (h : Q v H) : rIxL K (.ref a) (.int i) H Q := ⟨a, xs, i, v, rfl, rfl, hs, e, h⟩
theorem x_setL {k : Nat} {QH : Hp → Prop} (hs : H a = some (.lst xs)) (e : ixN xs.length i = some k) (h : QH (upd H a (.lst (xs.set k v)))) : rSetL (.ref a) (.int i) v H QH := ⟨a, xs, i, k, rfl, rfl, hs, e, h⟩
theorem at0 {x : V} {r : List V} : atI (x :: r) 0 = some x := by
  unfold atI ixN
  simp
theorem at1 {x y : V} {r : List V} : atI (x :: y :: r) 1 = some y := by
  unfold atI ixN
  rw [if_pos (by decide), if_pos (by simp only [List.length_cons]; omega)]
  rfl
theorem at2 {x y z : V} {r : List V} : atI (x :: y :: z :: r) 2 = some z := by
  unfold atI ixN
  rw [if_pos (by decide), if_pos (by simp only [List.length_cons]; omega)]
  rfl
theorem x_ixL0I {z : Int} {ns : List Int} (hs : SqL K H a ((z :: ns).map V.int)) (h : Q (.int z) H) : rIxL K (.ref a) (.int 0) H Q := ⟨a, _, 0, .int z, rfl, rfl, hs, at0, h⟩
theorem x_ixL0 {x : V} {r : List V} (hs : SqL K H a (x :: r)) (h : Q x H) : rIxL K (.ref a) (.int 0) H Q := ⟨a, _, 0, x, rfl, rfl, hs, at0, h⟩
theorem x_ixL1 {x y : V} {r : List V} (hs : SqL K H a (x :: y :: r)) (h : Q y H) : rIxL K (.ref a) (.int 1) H Q := ⟨a, _, 1, y, rfl, rfl, hs, at1, h⟩
theorem x_ixL2 {x y z : V} {r : List V} (hs : SqL K H a (x :: y :: z :: r)) (h : Q z H) : rIxL K (.ref a) (.int 2) H Q := ⟨a, _, 2, z, rfl, rfl, hs, at2, h⟩
theorem x_setL0 {y : V} {r : List V} {QH : Hp → Prop} (hs : H a = some (.lst (y :: r))) (h : QH (upd H a (.lst (v :: r)))) : rSetL (.ref a) (.int 0) v H QH := ⟨a, y :: r, 0, 0, rfl, rfl, hs, by simp [ixN] , h⟩
theorem x_setL1 {y z : V} {r : List V} {QH : Hp → Prop} (hs : H a = some (.lst (y :: z :: r))) (h : QH (upd H a (.lst (y :: v :: r)))) : rSetL (.ref a) (.int 1) v H QH := ⟨a, y :: z :: r, 1, 1, rfl, rfl, hs, by simp [ixN]; omega, h⟩
theorem x_setL2 {y z u : V} {r : List V} {QH : Hp → Prop} (hs : H a = some (.lst (y :: z :: u :: r))) (h : QH (upd H a (.lst (y :: z :: v :: r)))) : rSetL (.ref a) (.int 2) v H QH := ⟨a, y :: z :: u :: r, 2, 2, rfl, rfl, hs, by simp [ixN]; omega, h⟩
theorem x_neD {d e : PyData} (h1 : Dp K H x d) (h2 : Dp K H y e) (s1 : SeqAt.shaped d = true) (s2 : SeqAt.shaped e = true) (h : Q (.bl (!PyData.eqv d e)) H) : rNeD K x y H Q := ⟨d, e, h1, h2, s1, s2, h⟩
theorem x_eqD {d e : PyData} (h1 : Dp K H x d) (h2 : Dp K H y e) (s1 : SeqAt.shaped d = true) (s2 : SeqAt.shaped e = true) (h : Q (.bl (PyData.eqv d e)) H) : rEqD K x y H Q := ⟨d, e, h1, h2, s1, s2, h⟩
theorem dpInts {K : PySem.W.Frag} {H : Hp} : ∀ ns : List Int, DpAll K H (ns.map V.int) (ns.map PyData.int)
  | [] => .nil
  | n :: r => .cons (.int n) (dpInts r)
theorem canInts : ∀ ns : List Int, PyData.canLayAll0 (ns.map PyData.int) = true
  | [] => rfl
  | n :: r => by
    show (PyData.canLay0 (.int n) && PyData.canLayAll0 (r.map PyData.int)) = true
    rw [canInts r]; rfl
theorem depthInts : ∀ ns : List Int, PyData.depthAll (ns.map PyData.int) ≤ 1
  | [] => by decide
  | n :: r => by
    show Nat.max _ _ ≤ 1
    exact Nat.max_le.mpr ⟨Nat.zero_le _, depthInts r⟩
theorem eqvNil (ns : List Int) : PyData.eqv (.list (ns.map PyData.int)) (.list []) = ns.isEmpty := by cases ns <;> rfl
theorem x_neNil {ns : List Int} (h1 : SqL K H a (ns.map V.int)) (h2 : SqL K H p []) (h : Q (.bl (!ns.isEmpty)) H) : rNeD K (.ref a) (.ref p) H Q :=
  ⟨_, _, .lst h1 (dpInts ns), .lst h2 .nil, by
    unfold SeqAt.shaped
    rw [Bool.and_eq_true]
    exact ⟨canInts ns, decide_eq_true (by have := depthInts ns; show PyData.depthAll _ + 1 ≤ 64; omega)⟩, by decide, by rw [eqvNil]; exact h⟩
theorem x_pop0 {ys : List V} (hs : H a = some (.lst (y :: ys))) (h : Q y (upd H a (.lst ys))) : rPopAt (.ref a) [.int 0] H Q :=
  ⟨a, y :: ys, 0, 0, y, rfl, rfl, hs, by decide, by decide, by simp [seqIndex?], rfl, h⟩
theorem x_pop0I {z : Int} {ns : List Int} (hs : H a = some (.lst ((z :: ns).map V.int))) (h : Q (.int z) (upd H a (.lst (ns.map V.int)))) : rPopAt (.ref a) [.int 0] H Q := x_pop0 hs h
theorem x_popAt {k : Nat} (hs : H a = some (.lst xs)) (h1 : -(2 ^ 63) ≤ i) (h2 : i < 2 ^ 63) (e : seqIndex? i xs.length = some k) (e2 : xs[k]? = some y) (h : Q y (upd H a (.lst (xs.eraseIdx k)))) : rPopAt (.ref a) [.int i] H Q := ⟨a, xs, i, k, y, rfl, rfl, hs, h1, h2, e, e2, h⟩
theorem x_int1 (h : Q (.int i) H) : (∃ z, [V.int i] = [.int z] ∧ Q (.int z) H) ∨ ∃ k, [V.int i] = [.bl k] ∧ Q (.int (if k = true then 1 else 0)) H := .inl ⟨i, rfl, h⟩
theorem x_tyL (hs : SqL K H a xs) {B : Prop} (h : B) : tyV K "list" (.ref a) H ∧ B := ⟨.inl ⟨rfl, xs, hs⟩, h⟩
theorem x_dec {p : Prop} [Decidable p] {A B : Prop} (h1 : p → A) (h2 : ¬ p → B) : if decide p = true then A else B := by
  by_cases h : p
  · rw [if_pos (decide_eq_true h)]; exact h1 h
  · rw [if_neg (by simpa using h)]; exact h2 h
theorem x_decN {p : Prop} [Decidable p] {A B : Prop} (h1 : ¬ p → A) (h2 : p → B) : if (!decide p) = true then A else B := by
  by_cases h : p
  · rw [if_neg (by simpa using h)]; exact h2 h
  · rw [if_pos (by simpa using h)]; exact h1 h
theorem x_bool {b : Bool} {A B : Prop} (h1 : b = true → A) (h2 : b = false → B) : if b = true then A else B := by
  cases b with
  | true => rw [if_pos rfl]; exact h1 rfl
  | false => rw [if_neg Bool.false_ne_true]; exact h2 rfl
theorem x_boolN {b : Bool} {A B : Prop} (h1 : b = false → A) (h2 : b = true → B) : if (!b) = true then A else B := by
  cases b with
  | true => rw [if_neg (by decide)]; exact h2 rfl
  | false => rw [if_pos (show (!false) = true from rfl)]; exact h1 rfl
theorem x_T {A B : Prop} (h : A) : if true = true then A else B := by rw [if_pos rfl]; exact h
theorem x_F {A B : Prop} (h : B) : if false = true then A else B := by rw [if_neg Bool.false_ne_true]; exact h
theorem x_nT {A B : Prop} (h : B) : if (!true) = true then A else B := by rw [if_neg (by decide)]; exact h
theorem x_nF {A B : Prop} (h : A) : if (!false) = true then A else B := by rw [if_pos (show (!false) = true from rfl)]; exact h
end
end WD

set_option Elab.async false
set_option linter.all false
set_option maxRecDepth 100000
namespace WD
open PySem PySem.Spec PyProof.Rows L2
/-- one clause: its class, the slot of its name (if it has one), its suite -/
structure Cls1 where
  c : Value
  i : Option Nat
  ts : Addr → Value → Option Addr → TS
/-- leaving a suite that held the exception in a slot -/
def leave1 (D : Ends) : Option Nat → Ends
  | none => D
  | some i => ⟨fun τ G => D.nx (τ.set i none) G, D.rt, fun τ G => D.bk (τ.set i none) G, fun τ G => D.ct (τ.set i none) G⟩
def enter1 (σ : L2.St) (a : Addr) : Option Nat → L2.St
  | none => σ
  | some i => σ.set i (some (.ref a))
/-- what a row of clauses wishes of an exception -/
def wRow (K : PySem.W.Frag) (Wo : WX) (D : Ends) : List Cls1 → WX
  | [] => Wo
  | z :: r => fun cl dd τ G => ∃ yes, PySem.W.exmOne K cl z.c = some yes ∧ (yes = true → ∀ a, G a = none → z.ts a cl dd (leave1 D z.i) (enter1 τ a z.i) G) ∧ (yes = false → wRow K Wo D r cl dd τ G)
inductive Rows (X : Cx) : List ExceptHandler → List Cls1 → Prop
  | nil : Rows X [] []
  | bare {x : Str} {c : Value} {ts : Addr → Value → Option Addr → TS} {b0 : Stmt} {su : List Stmt} {p p' : Pos} {hs : List ExceptHandler} {l : List Cls1} (nm : Names X x c)
      (sc : ∀ (a : Addr) (ob : Obj) (cl : Value) (dd : Option Addr) (pn : List (Addr × Obj)), Zc cl dd ob → (∃ vs, ob.data = .fields vs) → PSs (X.suite a ((a, ob) :: pn)) (b0 :: su) (ts a cl dd)) (r : Rows X hs l) :
      Rows X (.ExceptHandler (some (.Name x p)) none (b0 :: su) p' :: hs) (⟨c, none, ts⟩ :: l)
  | named {x n : Str} {i : Nat} {c : Value} {ts : Addr → Value → Option Addr → TS} {b0 : Stmt} {su : List Stmt} {p p' : Pos} {hs : List ExceptHandler} {l : List Cls1} (nm : Names X x c) (hi : X.N[i]? = some n) (hl : X.env.kindOf n = some .local)
      (sc : ∀ (a : Addr) (ob : Obj) (cl : Value) (dd : Option Addr) (pn : List (Addr × Obj)), Zc cl dd ob → (∃ vs, ob.data = .fields vs) → PSs (X.suite a ((a, ob) :: pn)) (b0 :: su) (ts a cl dd)) (r : Rows X hs l) :
      Rows X (.ExceptHandler (some (.Name x p)) (some n) (b0 :: su) p' :: hs) (⟨c, some i, ts⟩ :: l)
section
variable {X : Cx} {bd : List Stmt} {h0 : ExceptHandler} {hs : List ExceptHandler} {l : List Cls1} {pos : Pos} {tb : WX → TS} {Wo : WX}
theorem ps_rows (st : X.stack = X.env :: X.outer) (hf : X.env.frame = some X.env.locals) (hN : X.N.Nodup) (tk : Takes X Wo)
    (hb : ∀ (V : WX) (pn : List (Addr × Obj)) (xe : Value → Shared → Prop), Takes (X.tr pn xe) V → PassesOwn (model X.prog X.w) X.A X.env xe → PSs (X.tr pn xe) bd (tb V))
    (hr : Rows X (h0 :: hs) l) : PS X (.Try bd (h0 :: hs) [] [] pos) (fun D σ H => tb (wRow X.K Wo D l) D σ H) := by
  constructor
  intro pins s σ H D I hq
  have okX := I.ok
  have frX : X.A.frames = some (X.env :: X.outer) := by rw [okX.frames, st]
  refine wpAny_Try_except ?_
  have body := (hb (wRow X.K Wo D l) (X.pn ++ pins) (fun e z1 => wpAny (model X.prog X.w) X.A (noteFrame e X.env) (fun _ z2 => wpAny (model X.prog X.w) X.A (setFlight e none)
    (fun _ z3 => wpAny (model X.prog X.w) X.A (handleBy e X.env (h0 :: hs)) (SP X pins D) X.xe z3) X.xe z2) X.xe z1) ?caught PassesOwn.looking).run [] s σ H D (I.toTry _) hq
  case caught =>
    rintro u z ⟨a, B, zI, pins', τ, G, cl, dd, rfl, J0, nb, up, sky, na, os, ag, wish⟩
    have J : Inv X pins τ G zI := J0.ofTry okX
    have sky1 : Sky B (X.env :: X.outer) a (Zc cl dd) X.env.locals z.heap := by rw [← st]; exact sky
    show wpAny (model X.prog X.w) X.A (noteFrame (.ref a) X.env) _ _ _
    refine Sky.land Zc.steady frX hf sky1 fun g3 fly3 up3 => ?_
    have J3 : Inv X pins τ G { z with heap := g3 } := J.landed nb fly3.1 (up.trans up3) os ag
    obtain ⟨ob3, v3, at3, zc3, da3⟩ := fly3.there
    have away : a ∉ frs (X.env :: X.outer) := by
      intro hm
      obtain ⟨_, ob', at', nf⟩ := fly3.2.2.1.mem hm
      rw [at3] at at'
      cases at'
      exact nf _ da3
    have aL : a ≠ X.env.locals := fun e => away (List.mem_filterMap.mpr ⟨X.env, List.mem_cons_self, by rw [hf, e]⟩)
    have aF : a ∉ X.fs := by
      intro hm
      obtain ⟨e, he, q⟩ := List.mem_filterMap.mp hm
      exact away (List.mem_filterMap.mpr ⟨e, List.mem_cons_of_mem _ he, q⟩)
    have S3 := J3.suite at3 da3 na aL aF
    have go : ∀ {ks : List ExceptHandler} {m : List Cls1}, Rows X ks m → wRow X.K Wo D m cl dd τ G →
        wpAny (model X.prog X.w) X.A (handleBy (.ref a) X.env ks) (SP X pins D) X.xe { z with heap := g3 } := by
      intro ks m rk
      have asked : ∀ {x : Str} {c : Value} {p : Pos} {Q : Value → Shared → Prop} {E : Value → Shared → Prop}, Names X x c → Q c { z with heap := g3 } →
          wpAny (model X.prog X.w) (X.A.mark (some (.ref a))) (eval (.Name x p) X.env) Q E { z with heap := g3 } := by
        rintro x c p Q E ⟨gl, db, mm | ⟨mm, bv, nn⟩⟩ q
        · exact ld_glob (X := X.suite a ((a, ob3) :: (X.pn ++ pins))) S3 gl mm q db
        · exact ld_blt (X := X.suite a ((a, ob3) :: (X.pn ++ pins))) S3 gl mm bv q nn db
      have LT : PySem.W.Looks (model X.prog X.w) g3 (typeOf (.ref a)) cl := fun _ _ _ _ kk q => wpAny_typeOf_ref (kk _ _ at3) (by rw [zc3.1]; exact q)
      induction rk with
      | nil =>
        intro w
        refine wpAny_handleBy_nil ?_
        obtain ⟨_, _, _, ob, vs, T, _, _, hat, _, hda, h1, _⟩ := id fly3
        unfold PySem.passOn
        refine wpAny_bind (wpAny_field hat hda h1 ?_)
        have nn : ¬ ((Value.ref T == Value.none) = true) := by simp
        rw [if_neg nn]
        have out : wpAny (model X.prog X.w) X.A (setFlight (.ref a) X.env.frame) (fun _ z4 => wpAny (model X.prog X.w) X.A (throw (.ref a) : Sem Flow) (SP X pins D) X.xe z4) X.xe { z with heap := g3 } := by
          rw [hf]
          refine HandSPX.setFlight_upZ fly3 fun g4 held4 up4 => wpAny_throw (tk _ _ ⟨a, B, zI, pins, τ, G, cl, dd, rfl, J, nb, ?_, ?_, na, os, ag, w⟩)
          · exact (up.trans up3).trans up4
          · exact .inr (.inr (by rw [st]; exact held4))
        first
          | exact wpAny_bind out
          | exact wpAny_bind (wpAny_pure (wpAny_bind out))
      | @bare x c ts b0 su p p' ks2 m2 nm sc r ih =>
        rintro ⟨yes, ey, hy, hn⟩
        refine wpAny_handleBy_cons (codeAny_handlers_test ?_) (by intro q; cases q)
        refine asked nm ((PySem.W.exm_one (M := model X.prog X.w) J3.kIn LT ey).here ?_)
        cases yes with
        | false => exact ih (hn rfl)
        | true =>
          refine codeAny_handlers_suite (HandSPX.lands_againZ fly3 fun g4 fly4 up4 => ?_)
          have J4 : Inv X pins τ G { z with heap := g4 } := J.landed nb fly4.1 ((up.trans up3).trans up4) os ag
          obtain ⟨ob4, v4, at4, zc4, da4⟩ := fly4.there
          have ran := (sc a ob4 cl dd (X.pn ++ pins) zc4 ⟨_, da4⟩).run [] _ _ G _ (J4.suite at4 da4 na aL aF) (hy rfl a na)
          refine wpAny_mono ran (fun fl z6 hz => ?_) (fun _ _ ff => ff.elim)
          cases fl with
          | ret u =>
            obtain ⟨_, _, _, S6, r6, q6⟩ := hz
            exact ⟨_, _, _, S6.unsuite okX, r6, q6⟩
          | next => obtain ⟨_, _, S6, q6⟩ := hz; exact ⟨_, _, S6.unsuite okX, q6⟩
          | brk => obtain ⟨_, _, S6, q6⟩ := hz; exact ⟨_, _, S6.unsuite okX, q6⟩
          | cont => obtain ⟨_, _, S6, q6⟩ := hz; exact ⟨_, _, S6.unsuite okX, q6⟩
      | @named x n i c ts b0 su p p' ks2 m2 nm hi hl sc r ih =>
        rintro ⟨yes, ey, hy, hn⟩
        refine wpAny_handleBy_cons (codeAny_handlers_test ?_) (by intro q; cases q)
        refine asked nm ((PySem.W.exm_one (M := model X.prog X.w) J3.kIn LT ey).here ?_)
        cases yes with
        | false => exact ih (hn rfl)
        | true =>
          refine codeAny_handlers_suite_as (HandSPX.lands_againZ fly3 fun g4 fly4 up4 => ?_)
          have J4 : Inv X pins τ G { z with heap := g4 } := J.landed nb fly4.1 ((up.trans up3).trans up4) os ag
          obtain ⟨ob4, v4, at4, zc4, da4⟩ := fly4.there
          have S4 := J4.suite at4 da4 na aL aF
          refine store_ok (X := X.suite a ((a, ob4) :: (X.pn ++ pins))) (v := .ref a) S4 hN hi (.inl hl) rfl (fun z5 S5 => ?_) (.inr hl)
          have ran := (sc a ob4 cl dd (X.pn ++ pins) zc4 ⟨_, da4⟩).run [] z5 _ G _ S5 (hy rfl a na)
          refine wpAny_mono ran (fun fl z6 hz => ?_) (fun _ _ ff => ff.elim)
          have gone : ∀ {τ6 : L2.St} {G6 : Hp} {R : Shared → Prop}, Inv (X.suite a ((a, ob4) :: (X.pn ++ pins))) [] τ6 G6 z6 → (∀ z7, Inv X pins (τ6.set i none) G6 z7 → R z7) →
              wpAny (model X.prog X.w) X.A (do bindName X.env n .none; unbindBehindTheSuite X.env n p') (fun _ z7 => R z7) X.xe z6 :=
            fun S6 k => gone_ok (S6.unsuite okX) hN hi hl k
          cases fl with
          | ret u =>
            obtain ⟨_, _, _, S6, r6, q6⟩ := hz
            exact gone S6 fun _ J7 => ⟨_, _, _, J7, r6, q6⟩
          | next => obtain ⟨_, _, S6, q6⟩ := hz; exact gone S6 fun _ J7 => ⟨_, _, J7, q6⟩
          | brk => obtain ⟨_, _, S6, q6⟩ := hz; exact gone S6 fun _ J7 => ⟨_, _, J7, q6⟩
          | cont => obtain ⟨_, _, S6, q6⟩ := hz; exact gone S6 fun _ J7 => ⟨_, _, J7, q6⟩
    exact go hr wish
  refine wpAny_mono body (fun fl z1 hz => ?_) (fun _ _ he => he)
  cases fl with
  | ret u =>
    obtain ⟨_, _, _, J1, r1, q⟩ := hz
    exact ⟨_, _, _, J1.ofTry okX, r1, q⟩
  | next =>
    obtain ⟨_, _, J1, q⟩ := hz
    exact wpAny_execs_nil ⟨_, _, J1.ofTry okX, q⟩
  | brk => obtain ⟨_, _, J1, q⟩ := hz; exact ⟨_, _, J1.ofTry okX, q⟩
  | cont => obtain ⟨_, _, J1, q⟩ := hz; exact ⟨_, _, J1.ofTry okX, q⟩
end
end WD

set_option Elab.async false
set_option linter.all false
set_option maxRecDepth 100000
set_option maxHeartbeats 4000000
namespace WD
open PySem PySem.Spec PyProof.Rows L2
section
open PySem.W PySem.Calls
variable {prog : Program} {w : World} {A : Around} {E : Value → Shared → Prop} {s : Shared} {K : Frag} {x D : Addr} {ox : Obj}
/-- the class of an own exception that has its dict -/
theorem cls_of_exc {od : Obj} {Q : Option Value → Shared → Prop} (C : ExcC K D) (X : K.In s.heap) (I : InstAt s.heap x ox D (some od)) (h : Q (some (.ref D)) { s with toks := s.toks + 1 }) :
    wpAny (model prog w) A (getAttr? (.ref x) "__class__") Q E s := by
  have found : findObj K D (some od) "__class__" = some (.bind (.builtin "getset_descriptor.__get__") (.builtin "object.__class__")) := by
    refine findObj_data ?_ C.ha C.hn C.ht
    obtain ⟨cd, hc, _⟩ := any_some C.hd
    rw [hc]; rfl
  obtain ⟨hp, gs, dr, tk, os⟩ := s
  have A0 := I.type (M := model prog w)
  have A1 := looks_findIn (M := model prog w) X C.hg
  have A2 := looks_findIn (M := model prog w) X C.hk
  have A3 := looks_find (M := model prog w) X I found
  have under : Looks (model prog w) hp (isInstance (.ref x) (.type "BaseException")) true := A0.andThen (looks_subIn X C.hs)
  have n0 : (Value.builtin "BaseException.__getattribute__" == Value.builtin "object.__getattribute__") = false := by decide +kernel
  have n1 : (onTheHeap (Value.ref D) && (Value.builtin "BaseException.__getattribute__" == Value.builtin "object.__getattribute__")) = false := by rw [n0]; rfl
  have n2 : (false && onTheHeap (Value.builtin "BaseException.__getattribute__")) = false := rfl
  unfold getAttr? getAttrBy? getAttrBy
  refine wpAny_bind (wpAny_mkText (wpAny_bind (wpAny_attempt (wpAny_holding ?_))))
  refine wpAny_bind (A0.at (wpAny_bind (A1.at ?_)))
  refine (show wpAny _ _ (if (onTheHeap (Value.ref D) && (Value.builtin "BaseException.__getattribute__" == Value.builtin "object.__getattribute__")) = true then _ else _) _ _ _ from ?_)
  rw [n1, if_neg Bool.false_ne_true]
  unfold getAttrByItsOwn hookBefore
  refine wpAny_bind ?_
  have onh : onTheHeap (Value.ref D) = true := rfl
  rw [if_pos onh]
  refine A2.at (wpAny_bind (wpAny_attempt (wpAny_holding ?_)))
  unfold callGetattribute
  rw [n2, if_neg Bool.false_ne_true]
  unfold boundAndCalled
  rw [PySem.F.excAttr_ValueError.ga.bind (.ref x)]
  refine wpAny_bind (wpAny_pure ?_)
  refine (show wpAny _ _ (call (.builtin "BaseException.__getattribute__") [.ref x, .str "__class__" tk]) _ _ _ from ?_)
  refine wpAny_call (codeAny_call_builtin PySem.F.excAttr_ValueError.ga.plain PySem.F.entry_bexc_ga ?_)
  refine @check_slot (model prog w) _ _ ⟨hp, gs, dr, tk + 1, os⟩ "BaseException.__getattribute__" "BaseException" "__getattribute__" (.ref x)
    [.str "__class__" tk] [] _ (by decide +kernel) (by decide +kernel) under (PySem.F.args_bexc_ga (.ref x) (.str "__class__" tk)) ?_
  unfold Builtin.«object.__getattribute__»
  refine wpAny_bind (wpAny_of_eq (a := ((Value.ref x : Value), [Value.str "__class__" tk])) (by first | rfl | (simp only [slotArgs]; rfl)) ?_)
  refine wpAny_bind (wpAny_pure ?_)
  refine wpAny_bind (A0.at (wpAny_bind (A3.at ?_)))
  refine (show wpAny _ _ (holding [Value.builtin "object.__class__"] (call (.builtin "getset_descriptor.__get__") [.builtin "object.__class__", .ref x, .ref D]) >>= ret) _ _ _ from ?_)
  refine wpAny_bind (wpAny_holding (wpAny_call ?_))
  refine class_get (s := ⟨hp, gs, dr, tk + 1, os⟩) (ox := ox) (od := some od) X I C.hm ?_
  refine wpAny_pure ?_
  refine (show wpAny _ _ (handedOut (.ref D)) _ _ _ from ?_)
  rw [handedOut_of (v := .ref D) rfl]
  first
    | exact wpAny_pure (wpAny_pure h)
    | exact wpAny_pure h
    | exact wpAny_pure (wpAny_bind (wpAny_pure (wpAny_pure h)))
theorem kit_exc (C : ExcC K D) : KitX K (.ref x) (.ref D) (fun h => ∃ od, InstAt h x ox D (some od)) where
  ty := fun _ _ _ ⟨_, I⟩ => I.type
  it := fun M h X _ => by
    obtain ⟨cd, hc, _⟩ := any_some C.hd
    unfold clsIn at hc
    split at hc
    · rename_i o2 d2 c2 s2 found
      intro A' Q' E' s' kk q
      unfold isType loadHead
      exact wpAny_bind (wpAny_loadPart (kk _ _ (X _ _ found)) (wpAny_pure q))
    · cases hc
  ne := fun h tp dd its n sl X at_ => by
    obtain ⟨cd, hc, _⟩ := any_some C.hd
    refine Bool.eq_false_iff.mpr fun q => ?_
    cases (Value.ref.inj (beq_iff_eq.mp q) : D = tp)
    unfold clsIn at hc
    split at hc
    · rename_i o2 d2 c2 s2 found
      cases (X _ _ found).symm.trans at_
    · cases hc
  ca := fun X ⟨_, I⟩ k => cls_of_exc C X I k
end
/-- isinstance(e, c), e the exception that the suite holds (at a; its class cl, its dict dd) -/
def rIsX (K : PySem.W.Frag) (a : Addr) (cl : Value) (dd : Option Addr) : List V → Hp → VK → Prop := fun xs H Q => ∃ (c : V) (cv : Value) (D d : Addr) (fs : List (Str × V)) (b : Bool),
  xs = [.ref a, c] ∧ ClsV c cv ∧ cl = .ref D ∧ dd = some d ∧ ExcC K D ∧ H d = some (.xd fs) ∧ PySem.W.kitOne K (.ref D) cv = some b ∧ Q (.bl b) H
theorem call_isX {X : Cx} {a : Addr} {cl : Value} {dd : Option Addr} {ob : Obj} {pn : List (Addr × Obj)} (hz : Zc cl dd ob) (hf : ∃ vs, ob.data = .fields vs) : CallR (X.suite a ((a, ob) :: pn)) (.builtin "isinstance") (rIsX X.K a cl dd) := by
  intro pins s σ H xs us Q I r h
  obtain ⟨c, cv, D, d, fs, b, rfl, kc, rfl, rfl, C, hd, e, q⟩ := h
  obtain ⟨u1, u2, rfl, r1, r2⟩ := vals2 r
  cases kc.eq r2
  cases (show u1 = Value.ref a from r1)
  obtain ⟨at_, _⟩ := I.pin (a, ob) (List.mem_append_left _ List.mem_cons_self)
  obtain ⟨vs, hv⟩ := hf
  obtain ⟨mA, ns, _⟩ := (show ObjOk X.prog X.w H s.heap d (.xd fs) from I.hok d _ hd)
  obtain ⟨od, ho, _⟩ := lookIn_ns ns
  have J : PySem.W.InstAt s.heap a ob D (some od) := ⟨at_, hz.1, by unfold PySem.W.notCls; rw [hv] <;> rfl, by rw [hz.2]; exact ho⟩
  exact PySem.W.kia_one (kit_exc C) I.kIn ⟨od, J⟩ e (fun z => nomatch z) fun tk => ⟨.bl b, H, I.kept (t' := tk) fun _ _ z => z, rfl, q⟩
/-- e.f, e the exception that the suite holds -/
def tXw (K : PySem.W.Frag) (a : Addr) (cl : Value) (dd : Option Addr) (f : Str) (te : TE) : TE := fun σ H Q => te σ H fun x H1 => x = .ref a ∧ ∃ (C d : Addr) (fs : List (Str × V)) (v : V), cl = .ref C ∧ XfC K C ∧ PySem.W.findIn K (.ref C) f = some none ∧
  dd = some d ∧ H1 d = some (.xd fs) ∧ fs.lookup f = some v ∧ Q v H1
theorem pe_xw {X : Cx} {a : Addr} {cl : Value} {dd : Option Addr} {ob : Obj} {pn : List (Addr × Obj)} {e : Expr} {te : TE} {pos : Pos} {n : Str} (hz : Zc cl dd ob) (hf : ∃ vs, ob.data = .fields vs)
    (he : PE (X.suite a ((a, ob) :: pn)) e te) (hb : attributeBase e n X.env (eval e X.env) = eval e X.env := by rfl) : PE (X.suite a ((a, ob) :: pn)) (.Attribute e n pos) (tXw X.K a cl dd n te) := by
  constructor
  intro pins s σ H Q I h
  refine attr_of hb (thn (he.run pins s σ H _ I h) ?_)
  rintro u s1 ⟨x, H1, I1, rx, rfl, C, d, fs, v, rfl, T, no, rfl, hd, hl, q⟩
  cases (show u = Value.ref a from rx)
  obtain ⟨at_, _⟩ := I1.pin (a, ob) (List.mem_append_left _ List.mem_cons_self)
  obtain ⟨vs, hv⟩ := hf
  obtain ⟨mA, ns, hr⟩ := (show ObjOk X.prog X.w H1 s1.heap d (.xd fs) from I1.hok d _ hd)
  obtain ⟨od, ho, hlo⟩ := lookIn_ns ns
  obtain ⟨u2, hu, ru⟩ := RelO.some_of (v := v) (o := mA n) (by rw [← hl]; exact hr n)
  have J : PySem.W.InstAt s1.heap a ob C (some od) := ⟨at_, hz.1, by unfold PySem.W.notCls; rw [hv] <;> rfl, by rw [hz.2]; exact ho⟩
  refine HandSPX.exc_get I1.kIn J T.ga T.gg T.exC (PySem.W.findObj_own T.hdC no rfl ?_) (handed_of ru) ⟨v, H1, I1.tok _, ru, q⟩
  rw [hlo, hu]
end WD

set_option Elab.async false
set_option linter.all false
set_option maxRecDepth 100000
set_option maxHeartbeats 1000000
namespace WD
open PySem PySem.Spec PyProof.Rows L2
section
variable {X : Cx} {o e : Expr} {es : List Expr} {ta : TE} {t : TA} {C f : Addr} {m x : Str} {fd : FuncData} {ps : List Str} {sp : Sp} {E : L2.St → XK} {CT : CXT} {k : Nat} {ds : List Value} {dvs : List V} {p apos pos : Pos}
/-- a def's run where what it raises is wished for at the caller's slots; ds: the values of its defaults -/
theorem run_at {pins : List (Addr × Obj)} {σ : L2.St} {H : Hp} {s : Shared} {Q : VK} {us : List Value} {vs : List V} (F : FnOk X.prog X.w X.K X.mg X.base CT k f fd ps sp) (hr : Room k X.A) (hb : Binds X.K fd ps ds) (hd : Vals dvs ds) (hx : PassesAt CT X σ (E σ))
    (I : Inv X pins σ H s) (r : Vals vs us) (h : sp (vs ++ dvs) H Q (E σ)) : wpAny (model X.prog X.w) X.A (call (.ref f) us) (EP X pins σ Q) X.xe s := by
  have rr := r.append hd
  have len : (us ++ ds).length = ps.length := rr.length.symm.trans (F.len _ _ _ _ h)
  have ran := F.run X.A X.stack s H ⟨us, []⟩ (us ++ ds) (vs ++ dvs) Q (E σ) hr I.env0 (hb s us I.kIn len) rr h
  refine wpAny_call (codeAny_mono ran ?_)
  rintro (er | fl) s' hq
  · exact hx pins H s er s' I hq
  · cases fl with
    | ret u => exact I.after hq
    | next => exact hq.elim
    | brk => exact hq.elim
    | cont => exact hq.elim
def tMethW (C : Addr) (m : Str) (sp : Sp) (dvs : List V) (E : L2.St → XK) (ta : TE) (t : TA) : TE := fun σ H Q => ta σ H fun x H1 => ∃ a dx fs, x = .ref a ∧ H1 a = some (.ins C dx fs) ∧ fs.lookup m = none ∧ t σ H1 fun vs H2 => sp (x :: (vs ++ dvs)) H2 Q (E σ)
theorem pe_methW {pl : Sem Bool} (he : PE X o ta) (c : Cls X.K C) (hm : Meth X.K C m f) (F : FnOk X.prog X.w X.K X.mg X.base CT k f fd ps sp) (hr : Room k X.A) (hb : Binds X.K fd ps ds) (hd : Vals dvs ds) (hx : ∀ σ, PassesAt CT X σ (E σ)) (ha : PA X (e :: es) t)
    (hst : starEach (e :: es) X.env = (false, eval e X.env) :: starEach es X.env := by rfl) (hpl : (backTo pos (starEach es X.env)).any (·.1) = false := by rfl)
    (ht : eval (.Call (.Attribute o m apos) (e :: es) [] pos) X.env = (do
      let val ← eval o X.env
      standAt apos.atName
      let (g, fst) ← holding [val] (getMethod val m pl)
      callWith pos g fst (backTo pos (starEach (e :: es) X.env)) (backToKw pos (keywordEach [] X.env))) := by rfl) :
    PE X (.Call (.Attribute o m apos) (e :: es) [] pos) (tMethW C m sp dvs E ta t) := by
  constructor
  intro pins s σ H Q I h
  refine PySem.W.methodCall_KW (pl := pl) (thn (he.run pins s σ H _ I h) ?_) ht
  rintro u s1 ⟨x, H1, I1, rx, a, dx, fs, rfl, ea, l, q⟩
  cases (show u = Value.ref a from rx)
  refine getmeth_ok I1 ea c hm l ?_
  refine PySem.W.callWith_K (first := [.ref a]) (h₀ := X.base) I.ok.mod.kin hm.kp (thn (ha.run pos pins s1 σ H1 _ I1 q) ?_) hst hpl
  rintro us s2 ⟨vs, H2, I2, r, q2⟩
  exact ⟨I2.kIn, run_at (us := .ref a :: us) (vs := .ref a :: vs) F hr hb hd (hx σ) I2 (.cons rfl r) q2⟩
theorem pe_methW0 {pl : Sem Bool} (he : PE X o ta) (c : Cls X.K C) (hm : Meth X.K C m f) (F : FnOk X.prog X.w X.K X.mg X.base CT k f fd ps sp) (hr : Room k X.A) (hb : Binds X.K fd ps ds) (hd : Vals dvs ds) (hx : ∀ σ, PassesAt CT X σ (E σ))
    (ht : eval (.Call (.Attribute o m apos) [] [] pos) X.env = (do
      let val ← eval o X.env
      standAt apos.atName
      let (g, fst) ← holding [val] (getMethod val m pl)
      callWith pos g fst (backTo pos (starEach [] X.env)) (backToKw pos (keywordEach [] X.env))) := by rfl) :
    PE X (.Call (.Attribute o m apos) [] [] pos) (tMethW C m sp dvs E ta tNil) := by
  constructor
  intro pins s σ H Q I h
  refine PySem.W.methodCall_KW (pl := pl) (thn (he.run pins s σ H _ I h) ?_) ht
  rintro u s1 ⟨x, H1, I1, rx, a, dx, fs, rfl, ea, l, q⟩
  cases (show u = Value.ref a from rx)
  refine getmeth_ok I1 ea c hm l ?_
  exact PySem.W.callWith_K0 (first := [.ref a]) I1.kIn hm.kp (run_at (us := [.ref a]) (vs := [.ref a]) F hr hb hd (hx σ) I1 (.cons rfl .nil) q)
def tMakeW (C : Addr) (sp : Sp) (dvs : List V) (E : L2.St → XK) (t : TA) : TE := fun σ H Q => t σ H fun vs H1 => ∀ x dx, H1 x = none → H1 dx = none → dx ≠ x →
  sp (.ref x :: (vs ++ dvs)) (upd (upd H1 dx (.own x)) x (.ins C dx [])) (fun v H2 => v = .non ∧ Q (.ref x) H2) (E σ)
theorem pe_makeW (M : Mk X.K C f) (F : FnOk X.prog X.w X.K X.mg X.base CT k f fd ps sp) (hr : Room (k + 1) X.A) (hg : Gl X x) (hm : X.mg x = some (.ref C)) (hb : Binds X.K fd ps ds) (hd : Vals dvs ds) (hx : ∀ σ, PassesAt CT X σ (E σ))
    (ha : PA X (e :: es) t) (hdb : (x == ("__debug__" : Str)) = false := by decide) (he : starEach (e :: es) X.env = (false, eval e X.env) :: starEach es X.env := by rfl) (hpl : (backTo pos (starEach es X.env)).any (·.1) = false := by rfl) :
    PE X (.Call (.Name x p) (e :: es) [] pos) (tMakeW C sp dvs E t) := by
  constructor
  intro pins s σ H Q I h
  refine wpAny_Call_Name_kw (ld_glob I hg hm ?_ hdb)
  refine PySem.W.callWith_K (h₀ := X.base) I.ok.mod.kin M.kp (thn (ha.run pos pins s σ H _ I h) ?_) he hpl
  rintro us s1 ⟨vs, H1, I1, r, q⟩
  refine ⟨I1.kIn, ?_⟩
  have fr := I1.hok.fresh (Nat.le_succ s1.heap.objs.size)
  have q0 := q _ _ fr (I1.hok.fresh (Nat.le_refl _)) (Nat.ne_of_lt (Nat.lt_succ_self _))
  have I2 := Inv.made (C := C) I1
  have rr : Vals (V.ref (s1.heap.objs.size + 1) :: (vs ++ dvs)) (Value.ref (s1.heap.objs.size + 1) :: (us ++ ds)) := .cons rfl (r.append hd)
  have len : (Value.ref (s1.heap.objs.size + 1) :: us ++ ds).length = ps.length := rr.length.symm.trans (F.len _ _ _ _ q0)
  have ran := F.run _ X.stack _ _ ⟨Value.ref (s1.heap.objs.size + 1) :: us, []⟩ (Value.ref (s1.heap.objs.size + 1) :: (us ++ ds)) _ _ (E σ) (hr.make C us []) (I2.env0.make C us []) (hb _ (Value.ref (s1.heap.objs.size + 1) :: us) I2.kIn len) rr q0
  refine wpAny_call (make_map (f := f) I1.kIn M.makes M.init (beq_iff_eq.mp M.fn) (codeAny_mono ran ?_))
  rintro (er | fl) s' hq
  · exact hx σ pins _ _ er s' I2 hq
  · cases fl with
    | ret u =>
      obtain ⟨v, H', I3, rv, rfl, q3⟩ := I2.after hq
      exact ⟨rv, ⟨V.ref (s1.heap.objs.size + 1), H', I3, rfl, q3⟩⟩
    | next => exact hq.elim
    | brk => exact hq.elim
    | cont => exact hq.elim
end
/-! an own exception whose __init__ keeps its argument in what -/
structure ExT (K : PySem.W.Frag) (mg : Str → Option Value) (nm : Str) (C fI : Addr) : Prop where
  g : mg nm = some (.ref C)
  oex : OexC K C
  init : PySem.W.findIn K (.ref C) "__init__" = some (some (.ref fI))
  xc : ExcC K C
  nw : PySem.W.findIn K (.ref C) "what" = some none
theorem ExT.xf {K : PySem.W.Frag} {mg : Str → Option Value} {nm : Str} {C fI : Addr} (T : ExT K mg nm C fI) : XfC K C := ⟨T.xc.hg, T.xc.hk, T.xc.hs, T.xc.hd⟩
/-- __init__(self, what) -/
def sp_Refused___init__ (K : PySem.W.Frag) : Sp := fun vs H Q _ => ∃ (a C : Addr) (v : V), vs = [.ref a, v] ∧ H a = some (exo a C none) ∧ OexC K C ∧ PySem.W.findIn K (.ref C) "what" = some none ∧
  ∀ dx, H dx = none → dx ≠ a → Q .non (upd (upd H dx (exd dx [(("what" : Str), v)])) a (exo a C (some dx)))
section
variable {K : PySem.W.Frag} {mg : Str → Option Value} {nm : Str} {C fI a : Addr} {v : V} {σ : L2.St} {H : Hp} {Q : XK} {ta : TA}
def RzQ (K : PySem.W.Frag) (C : Addr) (vs : List V) (H1 : Hp) (Q : XK) : Prop := vs.length ≤ 1000 ∧ ∀ a, H1 a = none → sp_Refused___init__ K (.ref a :: (vs ++ [])) (upd H1 a (exo a C none))
  (fun v H2 => v = .non ∧ ∃ (d : Addr) (fs : List (Str × V)), H2 a = some (exo a C (some d)) ∧ H2 d = some (exd d fs) ∧ H1 d = none ∧ Q (.ref C) (some d) (upd (del H2 a) d (.xd fs))) (fun _ _ _ => False)
theorem x_raise0 {ts : L2.St → Hp → XK → Prop} {W : WX} {D : Ends} (h : ts σ H fun cls d H' => W cls d σ H') : (fun (_ : Ends) σ H => ts σ H fun cls d H' => W cls d σ H') D σ H := h
theorem x_mkO (h : ta σ H fun vs H1 => RzQ K C vs H1 Q) : tMkO C (sp_Refused___init__ K) [] ta σ H Q := h
theorem x_rz (T : ExT K mg nm C fI) (h : ∀ d, H d = none → Q (.ref C) (some d) (upd H d (.xd [(("what" : Str), v)]))) : RzQ K C [v] H Q := by
  refine ⟨Nat.le_of_ble_eq_true rfl, fun a ha => ?_⟩
  refine ⟨a, C, v, rfl, upd_same, T.oex, T.nw, fun dx hx ne => ?_⟩
  rw [upd_ne ne] at hx
  have ex : (upd (upd (upd H a (exo a C none)) dx (exd dx [(("what" : Str), v)])) a (exo a C (some dx))) dx = some (exd dx [(("what" : Str), v)]) := by rw [upd_ne ne, upd_same]
  refine ⟨rfl, dx, [(("what" : Str), v)], upd_same, ex, hx, ?_⟩
  have same : upd (del (upd (upd (upd H a (exo a C none)) dx (exd dx [(("what" : Str), v)])) a (exo a C (some dx))) a) dx (.xd [(("what" : Str), v)]) = upd H dx (.xd [(("what" : Str), v)]) := by
    funext b
    by_cases hb : b = dx
    · rw [hb, upd_same, upd_same]
    · rw [upd_ne hb, upd_ne hb]
      by_cases hba : b = a
      · rw [hba, del_same, ha]
      · rw [del_ne hba, upd_ne hba, upd_ne hb, upd_ne hba]
  rw [same]
  exact h dx hx
end
end WD

set_option Elab.async false
set_option linter.all false
set_option maxRecDepth 100000
set_option maxHeartbeats 1000000
namespace WD
open PySem PySem.Spec PyProof.Rows L2
/-! kinds of values -/
def kinds7 : List String := ["NoneType", "bool", "int", "str", "list", "tuple", "dict"]
def isT (s c : String) : Bool := s == c || (s == "bool" && c == "int")
theorem isT_ok : ∀ s ∈ kinds7, ∀ c ∈ kinds7, kitB s c = some (isT s c) := by decide +kernel
structure Ty1 (K : PySem.W.Frag) (H : Hp) (v : V) (s : String) : Prop where
  ty : TyX K H v (.type s)
  ks : s ∈ kinds7
theorem Ty1.int {K : PySem.W.Frag} {H : Hp} (i : Int) : Ty1 K H (.int i) "int" := ⟨.base (.int i), by decide⟩
theorem Ty1.bl {K : PySem.W.Frag} {H : Hp} (i : Bool) : Ty1 K H (.bl i) "bool" := ⟨.base (.bl i), by decide⟩
theorem Ty1.str {K : PySem.W.Frag} {H : Hp} (i : Str) : Ty1 K H (.str i) "str" := ⟨.base (.str i), by decide⟩
theorem Ty1.non {K : PySem.W.Frag} {H : Hp} : Ty1 K H .non "NoneType" := ⟨.base .non, by decide⟩
theorem Ty1.tup {K : PySem.W.Frag} {H : Hp} {a : Addr} {xs : List V} (e : H a = some (.tup xs)) : Ty1 K H (.ref a) "tuple" := ⟨.base (.tup e), by decide⟩
theorem Ty1.lst {K : PySem.W.Frag} {H : Hp} {a : Addr} {xs : List V} (e : H a = some (.lst xs)) : Ty1 K H (.ref a) "list" := ⟨.base (.lst e), by decide⟩
theorem tyx_int {K : PySem.W.Frag} {H : Hp} {v : V} {t : Value} (h : TyX K H v t) (e : t = .type "int") : ∃ i, v = .int i := by
  cases h with
  | base h =>
    cases h with
    | int i => exact ⟨i, rfl⟩
    | _ => exact absurd e (by first | decide | (intro z; cases z))
  | _ => exact absurd e (by first | decide | (intro z; cases z))
theorem Ty1.isInt {K : PySem.W.Frag} {H : Hp} {v : V} (h : Ty1 K H v "int") : ∃ i, v = .int i := tyx_int h.ty rfl
section
variable {σ : L2.St} {H : Hp} {Q : VK} {D : Ends} {v x y : V} {K : PySem.W.Frag} {ta tb tc te : TE} {t u : TS} {c c' : TT} {a p C dx : Addr} {xs : List V} {i j : Int} {n : Nat} {QB : Bool → Hp → Prop} {QL : List V → Hp → Prop} {QS : L2.St → Hp → Prop}
  {sp : Sp} {E : XK} {tt : TA} {m f : Str} {fs : List (Str × V)} {r r' : R2} {ES : L2.St → XK}
theorem x_call0 (h : tt σ H fun vs H1 => sp vs H1 Q E) : tCall sp [] E tt σ H Q := by
  show tt σ H fun vs H1 => sp (vs ++ []) H1 Q E
  simp only [List.append_nil]; exact h
theorem x_callS (h : tt σ H fun vs H1 => sp vs H1 Q (ES σ)) : tCallS sp ES tt σ H Q := h
theorem x_meth0 (h : ta σ H fun x H1 => ∃ a dx fs, x = .ref a ∧ H1 a = some (.ins C dx fs) ∧ fs.lookup m = none ∧ tt σ H1 fun vs H2 => sp (x :: vs) H2 Q E) : tMeth C m sp [] E ta tt σ H Q := by
  show ta σ H fun x H1 => ∃ a dx fs, x = .ref a ∧ H1 a = some (.ins C dx fs) ∧ fs.lookup m = none ∧ tt σ H1 fun vs H2 => sp (x :: (vs ++ [])) H2 Q E
  simp only [List.append_nil]; exact h
theorem x_methW0 (h : ta σ H fun x H1 => ∃ a dx fs, x = .ref a ∧ H1 a = some (.ins C dx fs) ∧ fs.lookup m = none ∧ tt σ H1 fun vs H2 => sp (x :: vs) H2 Q (ES σ)) : tMethW C m sp [] ES ta tt σ H Q := by
  show ta σ H fun x H1 => ∃ a dx fs, x = .ref a ∧ H1 a = some (.ins C dx fs) ∧ fs.lookup m = none ∧ tt σ H1 fun vs H2 => sp (x :: (vs ++ [])) H2 Q (ES σ)
  simp only [List.append_nil]; exact h
theorem x_onIns {P : Prop} (hp : H p = some (.ins C dx fs)) (no : fs.lookup m = none) (h : P) : ∃ a dx fs, V.ref p = .ref a ∧ H a = some (.ins C dx fs) ∧ fs.lookup m = none ∧ P := ⟨p, dx, fs, rfl, hp, no, h⟩
theorem x_make0 (h : tt σ H fun vs H1 => ∀ x dx, H1 x = none → H1 dx = none → dx ≠ x → sp (.ref x :: vs) (upd (upd H1 dx (.own x)) x (.ins C dx [])) (fun v H2 => v = .non ∧ Q (.ref x) H2) E) : tMake C sp [] E tt σ H Q := by
  show tt σ H fun vs H1 => ∀ x dx, H1 x = none → H1 dx = none → dx ≠ x → sp (.ref x :: (vs ++ [])) (upd (upd H1 dx (.own x)) x (.ins C dx [])) (fun v H2 => v = .non ∧ Q (.ref x) H2) E
  simp only [List.append_nil]; exact h
theorem x_makeW0 (h : tt σ H fun vs H1 => ∀ x dx, H1 x = none → H1 dx = none → dx ≠ x → sp (.ref x :: vs) (upd (upd H1 dx (.own x)) x (.ins C dx [])) (fun v H2 => v = .non ∧ Q (.ref x) H2) (ES σ)) : tMakeW C sp [] ES tt σ H Q := by
  show tt σ H fun vs H1 => ∀ x dx, H1 x = none → H1 dx = none → dx ≠ x → sp (.ref x :: (vs ++ [])) (upd (upd H1 dx (.own x)) x (.ins C dx [])) (fun v H2 => v = .non ∧ Q (.ref x) H2) (ES σ)
  simp only [List.append_nil]; exact h
theorem x_fldR {P : V → Prop} (hp : H p = some (.ins C dx fs)) (c : Cls K C) (no : NoAttr K C f) (e : fs.lookup f = some v) (h : P v) : ∃ a C dx fs v, V.ref p = .ref a ∧ H a = some (.ins C dx fs) ∧ Cls K C ∧ NoAttr K C f ∧ fs.lookup f = some v ∧ P v := ⟨p, C, dx, fs, v, rfl, hp, c, no, e, h⟩
theorem x_sFld {tv : TE} (h : tv σ H fun y H1 => ta σ H1 fun x H2 => ∃ a C dx fs, x = .ref a ∧ H2 a = some (.ins C dx fs) ∧ Cls K C ∧ NoAttr K C f ∧ fs.length < 1000 ∧ D.nx σ (upd H2 a (.ins C dx (putF f y fs)))) : sFld K ta tv f D σ H := h
theorem x_sFldR {fs' : List (Str × V)} (hp : H p = some (.ins C dx fs)) (c : Cls K C) (no : NoAttr K C f) (l : fs.length < 1000) (e : putF f y fs = fs') (h : QS σ (upd H p (.ins C dx fs'))) :
    ∃ a C dx fs, V.ref p = .ref a ∧ H a = some (.ins C dx fs) ∧ Cls K C ∧ NoAttr K C f ∧ fs.length < 1000 ∧ QS σ (upd H a (.ins C dx (putF f y fs))) := ⟨p, C, dx, fs, rfl, hp, c, no, l, by rw [e]; exact h⟩
theorem x_chain (h : ta σ H fun x H1 => tb σ H1 fun y H2 => r x y H2 fun z H3 => ∃ k, z = .bl k ∧ (if k = true then tc σ H3 fun w' H4 => r' y w' H4 Q else Q (.bl false) H3)) : tChain r r' ta tb tc σ H Q := h
theorem x_isN (h : Q (.bl (decide (x = .non))) H) : (fun (x y : V) (H : Hp) (Q : VK) => y = .non ∧ Q (.bl (decide (x = .non))) H) x .non H Q := ⟨rfl, h⟩
theorem x_isi {s c : String} (hy : Ty1 K H x s) (hc : c ∈ kinds7) (h : Q (.bl (isT s c)) H) : rIsi K [x, .ty c] H Q := ⟨x, .ty c, .type s, .type c, isT s c, rfl, .ty c, hy.ty, kit_ty (isT_ok s hy.ks c hc), h⟩
theorem x_bT {b : Bool} {A B : Prop} (e : b = true) (h : A) : if b = true then A else B := by rw [if_pos e]; exact h
theorem x_bF {b : Bool} {A B : Prop} (e : b = false) (h : B) : if b = true then A else B := by rw [e, if_neg Bool.false_ne_true]; exact h
theorem x_ret2 {ts : TS} (h : ts D σ H) : ts D σ H := h
-- dicts
theorem x_dget {td ty : TE} (h : td σ H fun x H1 => ty σ H1 fun y H2 => ∃ a v, x = .ref a ∧ DGet H2 a y (some v) ∧ Q v H2) : tDGet td ty σ H Q := h
theorem x_dgetK {P : V → Prop} {kvs : List (Key × V)} (k : Key) (ek : kV k = y) (hd : H a = some (.dK kvs)) (e : valV kvs k = some v) (h : P v) : ∃ a' v, V.ref a = .ref a' ∧ DGet H a' y (some v) ∧ P v := by
  subst ek; exact ⟨a, v, rfl, by rw [← e]; exact DGet.k hd, h⟩
theorem x_dget1 {td ty : TE} (h : td σ H fun x H1 => ∃ a, x = .ref a ∧ IsD H1 a ∧ ty σ H1 fun y H2 => ∃ o, DGet H2 a y o ∧ Q (o.getD .non) H2) : tDGet1 td ty σ H Q := h
theorem x_dget2 {td ty tx : TE} (h : td σ H fun x H1 => ∃ a, x = .ref a ∧ IsD H1 a ∧ ty σ H1 fun y H2 => tx σ H2 fun z H3 => ∃ o, DGet H3 a y o ∧ Q (o.getD z) H3) : tDGet2 td ty tx σ H Q := h
theorem x_isD {kvs : List (Key × V)} {P : Prop} (hd : H a = some (.dK kvs)) (h : P) : ∃ a', V.ref a = .ref a' ∧ IsD H a' ∧ P := ⟨a, rfl, .inl ⟨kvs, .inl hd⟩, h⟩
theorem x_addS {P : Str → Str → Prop} {i j : Str} (l : i.length + j.length ≤ sizeLine) (h : P i j) : ∃ i' j', V.str i = .str i' ∧ V.str j = .str j' ∧ i'.length + j'.length ≤ sizeLine ∧ P i' j' := ⟨i, j, rfl, rfl, l, h⟩
theorem x_listOf {P : Addr → List V → Prop} (hs : SqL K H a xs ∨ SqT K H a xs) (h : P a xs) : ∃ p ys, [V.ref a] = [.ref p] ∧ (SqL K H p ys ∨ SqT K H p ys) ∧ P p ys := ⟨a, xs, rfl, hs, h⟩
theorem x_lenS {P : Str → Prop} {i : Str} (l : i.length ≤ sizeLine) (h : P i) : ∃ i', [V.str i] = [.str i'] ∧ i'.length ≤ sizeLine ∧ P i' := ⟨i, rfl, l, h⟩
theorem x_isD2 {kvs : List (Key × V)} {P : Prop} (hd : H a = some (.dK kvs)) (h : P) : IsD H a ∧ P := ⟨.inl ⟨kvs, .inl hd⟩, h⟩
theorem x_getI {P : Option V → Prop} {kvs : List (Key × V)} {n : Int} (hd : H a = some (.dK kvs)) (h : P (valV kvs (Sum.inl n))) : ∃ o, DGet H a (.int n) o ∧ P o := ⟨_, DGet.k (k := Sum.inl n) hd, h⟩
theorem x_getS {P : Option V → Prop} {kvs : List (Key × V)} {n : Str} (hd : H a = some (.dK kvs)) (h : P (valV kvs (Sum.inr n))) : ∃ o, DGet H a (.str n) o ∧ P o := ⟨_, DGet.k (k := Sum.inr n) hd, h⟩
theorem x_dgetS {P : V → Prop} {kvs : List (Key × V)} {n : Str} (hd : H a = some (.dK kvs)) (e : valV kvs (Sum.inr n) = some v) (h : P v) : ∃ a' v, V.ref a = .ref a' ∧ DGet H a' (.str n) (some v) ∧ P v := ⟨a, v, rfl, by rw [← e]; exact DGet.k (k := Sum.inr n) hd, h⟩
theorem x_getK {P : Option V → Prop} {kvs : List (Key × V)} (k : Key) (ek : kV k = y) (hd : H a = some (.dK kvs)) (h : P (valV kvs k)) : ∃ o, DGet H a y o ∧ P o := by
  subst ek; exact ⟨_, DGet.k hd, h⟩
theorem x_sDPut {td ty tv : TE} (h : tv σ H fun v H1 => td σ H1 fun x H2 => ty σ H2 fun y H3 => ∃ a H4, x = .ref a ∧ DPut H3 a y v H4 ∧ D.nx σ H4) : sDPut td ty tv D σ H := h
theorem x_putK {P : Hp → Prop} {kvs kvs' : List (Key × V)} (k : Key) (ek : kV k = y) (hd : H a = some (.dK kvs)) (l : kvs.length < sizeLine) (e : putK kvs k v = kvs') (h : P (upd H a (.dK kvs'))) : ∃ a' H4, V.ref a = .ref a' ∧ DPut H a' y v H4 ∧ P H4 := by
  subst ek; subst e; exact ⟨a, _, rfl, DPut.k hd l, h⟩
theorem x_dnew (h : ∀ p, H p = none → Q (.ref p) (upd H p (.dK []))) : tDNewK σ H Q := h
theorem x_disp {trs : List (TE × TE)} (h : ∀ p, H p = none → tPairs trs σ (upd H p (.dK [])) fun ps H2 => H2 p = some (.dK []) ∧ ∃ kvs : List (Key × V), ps = kvs.map (fun kv => (kV kv.1, kv.2)) ∧ kvs.length ≤ 15 ∧ Q (.ref p) (upd H2 p (.dK (mergeK [] kvs)))) : tDisp trs σ H Q := h
theorem x_pairs {tk tv : TE} {trs : List (TE × TE)} {QP : List (V × V) → Hp → Prop} (h : tk σ H fun x H1 => tv σ H1 fun y H2 => tPairs trs σ H2 fun ps H3 => QP ((x, y) :: ps) H3) : tPairs ((tk, tv) :: trs) σ H QP := h
theorem x_pairs0 {QP : List (V × V) → Hp → Prop} (h : QP [] H) : tPairs [] σ H QP := h
-- lists, texts
theorem x_lenL {P : Addr → List V → Prop} (hs : SqL K H a xs ∨ SqT K H a xs) (h : P a xs) : ∃ p ys, [V.ref a] = [.ref p] ∧ (SqL K H p ys ∨ SqT K H p ys) ∧ P p ys := ⟨a, xs, rfl, hs, h⟩
theorem x_ixT (hs : SqT K H a xs) (e : atI xs i = some v) (h : Q v H) : rIxT K (.ref a) (.int i) H Q := ⟨a, xs, i, v, rfl, rfl, hs, e, h⟩
-- loops
theorem x_for {wi : TI} {g : TG} {tb : TS} (h : wi σ H fun J H1 => ∃ W : Nat → Nat → L2.St → Hp → Prop, (∃ m, W 0 m σ H1) ∧ ∀ i m σ H, W i m σ H →
      (J.stop i H ∧ D.nx σ H) ∨ (J.go i H ∧ ∃ N : L2.St → Hp → Prop, (∀ σ' H', N σ' H' → ∃ m', m' < m ∧ W (i + 1) m' σ' H') ∧ ∀ x H', J.yld i H x H' → g x σ H' fun σ2 H2 => tb { D with nx := N, ct := N, bk := D.nx } σ2 H2)) : tFor wi g tb D σ H := h
end
end WD
namespace WD
open PySem PySem.Spec PyProof.Rows L2
section
variable {σ : L2.St} {H : Hp} {Q : VK} {te : TE} {K : PySem.W.Frag} {a : Addr} {xs : List V} {QO : Option Int → Hp → Prop} {tl th : TO} {i : Int}
theorem x_sl {sl : V → Option Int → Option Int → Hp → VK → Prop} (h : te σ H fun x H1 => tl σ H1 fun l H2 => th σ H2 fun u H3 => sl x l u H3 Q) : tSl sl te tl th σ H Q := h
theorem x_noPart (h : QO none H) : tNoPart σ H QO := h
theorem x_part (h : te σ H fun x H1 => ∃ i, x = .int i ∧ QO (some i) H1) : tPart te σ H QO := h
theorem x_partI (h : QO (some i) H) : ∃ j, V.int i = .int j ∧ QO (some j) H := ⟨i, rfl, h⟩
theorem x_slL {lo hi : Option Int} {ys : List V} (hs : SqL K H a xs) (e : cutV xs lo hi = ys) (h : ∀ p, H p = none → Q (.ref p) (upd H p (.lst ys))) : rSlL K (.ref a) lo hi H Q := by subst e; exact ⟨a, xs, rfl, hs, h⟩
theorem cut_tail (y : V) (r : List V) : cutV (y :: r) (some 1) none = r := by
  simp [cutV, HT.sIx]
theorem cut_tail0 : cutV [] (some 1) none = [] := rfl
end
end WD

set_option Elab.async false
set_option linter.all false
set_option maxRecDepth 100000
set_option maxHeartbeats 1000000
namespace WD
open PySem PySem.Spec PyProof.Rows L2
/-! attributes by their names, dicts by written keys -/
section
variable {f g : Str} {v x : V} {r r' : List (Str × V)} {o : Option V}
theorem lk_hd : List.lookup f ((f, v) :: r) = some v := by simp [List.lookup]
theorem lk_tl (n : (f == g) = false) (h : List.lookup f r = o) : List.lookup f ((g, x) :: r) = o := by simp only [List.lookup, n]; exact h
theorem lk_nil : List.lookup f ([] : List (Str × V)) = none := rfl
theorem pf_hd : putF f v ((f, x) :: r) = (f, v) :: r := by simp [putF]
theorem pf_tl (n : (g == f) = false) (h : putF f v r = r') : putF f v ((g, x) :: r) = (g, x) :: r' := by
  have : ¬ g = f := by simpa using n
  simp only [putF, if_neg this, h]
theorem pf_nil : putF f v [] = [(f, v)] := rfl
end
section
variable {k j : Key} {v x : V} {r r' : List (Key × V)} {o : Option V}
theorem vl_hd : valV ((k, v) :: r) k = some v := by simp [valV]
theorem vl_tl (n : decide (j = k) = false) (h : valV r k = o) : valV ((j, x) :: r) k = o := by
  have : ¬ j = k := by simpa using n
  simp only [valV, List.find?_cons, decide_eq_false this] at *
  exact h
theorem vl_nil : valV ([] : List (Key × V)) k = none := rfl
theorem pk_hd (n : (r.all fun kv => !decide (kv.1 = k)) = true) : putK ((k, x) :: r) k v = (k, v) :: r := by
  have e : r.map (fun kv => if kv.1 = k then (kv.1, v) else kv) = r := by
    have h : ∀ kv ∈ r, (if kv.1 = k then (kv.1, v) else kv) = kv := by
      intro kv hk
      have := List.all_eq_true.mp n kv hk
      simp at this
      rw [if_neg this]
    rw [List.map_congr_left h, List.map_id']
  simp [putK, e]
theorem pk_tl (n : decide (j = k) = false) (t : (r.any fun kv => decide (kv.1 = k)) = true) (h : putK r k v = r') : putK ((j, x) :: r) k v = (j, x) :: r' := by
  have nn : ¬ j = k := by simpa using n
  rw [← h]
  unfold putK
  rw [if_pos t, if_pos (by rw [List.any_cons, t, Bool.or_true]), List.map_cons, if_neg nn]
end
theorem merge_gen : ∀ (kvs acc : List (Key × V)), ((acc ++ kvs).map (·.1)).Nodup → mergeK acc kvs = acc ++ kvs
  | [], acc, _ => by simp [mergeK]
  | (k, v) :: r, acc, h => by
    have nk : (acc.any fun kv => decide (kv.1 = k)) = false := by
      rw [List.any_eq_false]
      intro kv hk
      simp only [decide_eq_true_eq]
      intro e
      rw [List.map_append, List.nodup_append] at h
      exact h.2.2 kv.1 (List.mem_map_of_mem hk) k (by simp) e
    have st : mergeK acc ((k, v) :: r) = mergeK (acc ++ [(k, v)]) r := by
      show mergeK (putK acc k v) r = _
      unfold putK
      rw [nk, if_neg Bool.false_ne_true]
    rw [st, merge_gen r (acc ++ [(k, v)]) (by simpa using h)]
    simp
theorem mergeK_nil {kvs : List (Key × V)} (h : (kvs.map (·.1)).Nodup) : mergeK [] kvs = kvs := by simpa using merge_gen kvs [] (by simpa using h)
section
variable {H : Hp} {Q : VK} {p : Addr} {kvs : List (Key × V)}
theorem x_dispEnd {ps : List (V × V)} (h0 : H p = some (.dK [])) (e : ps = kvs.map (fun kv => (kV kv.1, kv.2))) (l : kvs.length ≤ 15) (nd : (kvs.map (·.1)).Nodup) (h : Q (.ref p) (upd H p (.dK kvs))) :
    H p = some (.dK []) ∧ ∃ kvs : List (Key × V), ps = kvs.map (fun kv => (kV kv.1, kv.2)) ∧ kvs.length ≤ 15 ∧ Q (.ref p) (upd H p (.dK (mergeK [] kvs))) := ⟨h0, kvs, e, l, by rw [mergeK_nil nd]; exact h⟩
end
end WD

set_option Elab.async false
set_option linter.all false
set_option maxRecDepth 100000
set_option maxHeartbeats 1000000
namespace WD
open PySem PySem.Spec PyProof.Rows L2
/-! a text times a number -/
def rep (z : Str) (n : Nat) : Str := ⟨(List.replicate n z.cps).foldl (· ++ ·) #[]⟩
theorem foldl_sz : ∀ (n : Nat) (c acc : Array Nat), ((List.replicate n c).foldl (· ++ ·) acc).size = acc.size + n * c.size
  | 0, c, acc => by simp
  | n + 1, c, acc => by
    rw [List.replicate_succ, List.foldl_cons, foldl_sz n c, Array.size_append, Nat.succ_mul]; omega
theorem rep_len (z : Str) (n : Nat) : (rep z n).length = n * z.length := by
  show ((List.replicate n z.cps).foldl (· ++ ·) #[]).size = _
  rw [foldl_sz]; simp [Str.length]
theorem foldl_all (p : Nat → Bool) : ∀ (n : Nat) (c acc : Array Nat), c.all p = true → acc.all p = true → ((List.replicate n c).foldl (· ++ ·) acc).all p = true
  | 0, c, acc, _, h => by simpa using h
  | n + 1, c, acc, hc, h => by
    rw [List.replicate_succ, List.foldl_cons]
    exact foldl_all p n c _ hc (by rw [Array.all_append, h, hc]; rfl)
theorem strOk_rep {z : Str} {n : Nat} (h : PyData.strOk z = true) : PyData.strOk (rep z n) = true := foldl_all _ n z.cps #[] h (by simp)
theorem strOk_add {x y : Str} (h : PyData.strOk x = true) (h2 : PyData.strOk y = true) : PyData.strOk (x ++ y) = true := by
  show (x.cps ++ y.cps).all _ = true
  rw [Array.all_append]
  unfold PyData.strOk at h h2
  rw [h, h2]; rfl
theorem len_add (x y : Str) : (x ++ y).length = x.length + y.length := by
  show (x.cps ++ y.cps).size = _
  rw [Array.size_append]; rfl
section
variable {X : Cx}
theorem op_strmul : OpR X (binaryOp .Mult) (fun x y H Q => ∃ z k, x = .str z ∧ y = .int k ∧ (0 ≤ k ∧ k ≤ 1000 ∧ z.length ≤ 1000) ∧ Q (.str (rep z k.toNat)) H) := by
  intro pins s σ H x y v u Q I rx ry h
  obtain ⟨z, k, rfl, rfl, ⟨h0, h1, hl⟩, q⟩ := h
  obtain ⟨t, rfl⟩ := rx
  obtain ⟨t', rfl⟩ := ry
  have big : z.length * k.toNat ≤ sizeLine := by
    have : z.length * k.toNat ≤ 1000 * 1000 := Nat.mul_le_mul hl (by omega)
    have e := sizeLine_eq
    omega
  have lrep : (rep z k.toNat).length ≤ sizeLine := by rw [rep_len, Nat.mul_comm]; exact big
  refine PySem.P.mul_str ?_ ?_ ?_ ?_
  · rw [decide_eq_false (by omega), decide_eq_false (by omega)]; rfl
  · intro hk _
    have hpos : 0 < k := by omega
    have : (1000 : Int) * k ≤ 2 ^ 63 - 1 := by omega
    have d : (1000 : Int) ≤ (2 ^ 63 - 1) / k := (Int.le_ediv_iff_mul_le hpos).mpr this
    omega
  · intro _ _
    exact decide_eq_false (by omega)
  · by_cases c : k < 1
    · rw [if_pos c]
      have e : k.toNat = 0 := by omega
      rw [e] at q
      exact ⟨by decide, .str (rep z 0), H, I.tok _, ⟨_, rfl⟩, q⟩
    · rw [if_neg c]
      by_cases c2 : (k == 1 || z.length == 0) = true
      · rw [if_pos c2]
        have e : rep z k.toNat = z := by
          rw [Bool.or_eq_true] at c2
          rcases c2 with c2 | c2
          · have : k = 1 := by simpa using c2
            rw [this]
            show (⟨(List.replicate 1 z.cps).foldl (· ++ ·) #[]⟩ : Str) = z
            simp
          · have zl : z.cps.size = 0 := by simpa [Str.length] using c2
            have zn : z.cps = #[] := Array.eq_empty_of_size_eq_zero zl
            have r0 : (rep z k.toNat).cps.size = 0 := by
              have := rep_len z k.toNat
              simp only [Str.length] at this
              rw [this, zl]; simp
            have rn := Array.eq_empty_of_size_eq_zero r0
            cases z with
            | mk c =>
              have e1 : c = #[] := zn
              show (⟨(List.replicate k.toNat c).foldl (· ++ ·) #[]⟩ : Str) = ⟨c⟩
              have : (List.replicate k.toNat c).foldl (· ++ ·) #[] = #[] := rn
              rw [this, e1]
        rw [e] at q
        exact ⟨.str z, H, I, ⟨t, rfl⟩, q⟩
      · rw [if_neg c2]
        exact ⟨lrep, .str _, H, I.tok _, ⟨_, rfl⟩, q⟩
end
section
variable {H : Hp} {Q : VK} {a p : Addr} {K : PySem.W.Frag} {v : V} {xs : List V}
theorem x_strmul {P : Str → Int → Prop} {z : Str} {k : Int} (c : 0 ≤ k ∧ k ≤ 1000 ∧ z.length ≤ 1000) (h : P z k) : ∃ z' k', V.str z = .str z' ∧ V.int k = .int k' ∧ (0 ≤ k' ∧ k' ≤ 1000 ∧ z'.length ≤ 1000) ∧ P z' k' := ⟨z, k, rfl, rfl, c, h⟩
theorem at_mem {i : Int} {n : Int} (h0 : 0 ≤ i) (h1 : i < n) (hn : n = xs.length) : ∃ v, atI xs i = some v ∧ v ∈ xs := by
  have hl : i.toNat < xs.length := by omega
  refine ⟨xs[i.toNat], ?_, List.getElem_mem hl⟩
  unfold atI ixN
  rw [if_pos h0, if_pos (by omega)]
  simp [hl]
/-- an item of a written list at a drawn place -/
theorem x_ixMem {i n : Int} (hs : SqL K H a xs) (h0 : 0 ≤ i) (h1 : i < n) (hn : n = xs.length) (h : ∀ v, v ∈ xs → Q v H) : rIxL K (.ref a) (.int i) H Q := by
  obtain ⟨v, e, m⟩ := at_mem h0 h1 hn
  exact ⟨a, xs, i, v, rfl, rfl, hs, e, h v m⟩
theorem x_setD {QH : Hp → Prop} {kvs kvs' : List (Key × V)} {n : Str} (hd : H a = some (.dK kvs)) (l : kvs.length < sizeLine) (e : putK kvs (Sum.inr n) v = kvs') (h : QH (upd H a (.dK kvs'))) : rSetD (.ref a) (.str n) v H QH := by
  subst e; exact ⟨a, _, rfl, DPut.k (k := Sum.inr n) hd l, h⟩
theorem x_putS {P : Hp → Prop} {kvs kvs' : List (Key × V)} {n : Str} (hd : H a = some (.dK kvs)) (l : kvs.length < sizeLine) (e : putK kvs (Sum.inr n) v = kvs') (h : P (upd H a (.dK kvs'))) : ∃ a' H4, V.ref a = .ref a' ∧ DPut H a' (.str n) v H4 ∧ P H4 := by
  subst e; exact ⟨a, _, rfl, DPut.k (k := Sum.inr n) hd l, h⟩
theorem x_putI {P : Hp → Prop} {kvs : List (Key × V)} {n : Int} (hd : H a = some (.dK kvs)) (l : kvs.length < sizeLine) (h : P (upd H a (.dK (putK kvs (Sum.inl n) v)))) : ∃ a' H4, V.ref a = .ref a' ∧ DPut H a' (.int n) v H4 ∧ P H4 := ⟨a, _, rfl, DPut.k (k := Sum.inl n) hd l, h⟩
theorem x_rowN {Wo : WX} {D : Ends} {c cl : Value} {i : Nat} {ts : Addr → Value → Option Addr → TS} {r : List Cls1} {τ : L2.St} {dd : Option Addr} {G : Hp} (e : PySem.W.exmOne K cl c = some true)
    (h : ∀ a, G a = none → ts a cl dd ⟨fun τ G => D.nx (τ.set i none) G, D.rt, fun τ G => D.bk (τ.set i none) G, fun τ G => D.ct (τ.set i none) G⟩ (τ.set i (some (.ref a))) G) : WE (wRow K Wo D (⟨c, some i, ts⟩ :: r)) τ cl dd G :=
  ⟨true, e, fun _ => h, fun z => nomatch z⟩
theorem x_rowF {Wo : WX} {D : Ends} {z : Cls1} {cl : Value} {r : List Cls1} {τ : L2.St} {dd : Option Addr} {G : Hp} (e : PySem.W.exmOne K cl z.c = some false) (h : WE (wRow K Wo D r) τ cl dd G) : WE (wRow K Wo D (z :: r)) τ cl dd G :=
  ⟨false, e, (fun z => nomatch z), fun _ => h⟩
theorem x_xw {cl : Value} {dd : Option Addr} {f : Str} {te : TE} {σ : L2.St} (h : te σ H fun x H1 => x = .ref a ∧ ∃ (C d : Addr) (fs : List (Str × V)) (v : V), cl = .ref C ∧ XfC K C ∧ PySem.W.findIn K (.ref C) f = some none ∧
  dd = some d ∧ H1 d = some (.xd fs) ∧ fs.lookup f = some v ∧ Q v H1) : tXw K a cl dd f te σ H Q := h
theorem x_xwR {mg : Str → Option Value} {nm : Str} {C fI d : Addr} {P : V → Prop} (T : ExT K mg nm C fI) (hd : H d = some (.xd [(("what" : Str), v)])) (h : P v) : V.ref a = .ref a ∧ ∃ (C' d' : Addr) (fs : List (Str × V)) (v : V), Value.ref C = .ref C' ∧ XfC K C' ∧ PySem.W.findIn K (.ref C') "what" = some none ∧
  some d = some d' ∧ H d' = some (.xd fs) ∧ fs.lookup ("what" : Str) = some v ∧ P v := ⟨rfl, C, d, _, v, rfl, T.xf, T.nw, rfl, hd, lk_hd, h⟩
theorem x_isXR {c : V} {cv : Value} {C d : Addr} {b : Bool} {fs : List (Str × V)} (k : ClsV c cv) (X : ExcC K C) (hd : H d = some (.xd fs)) (e : PySem.W.kitOne K (.ref C) cv = some b) (h : Q (.bl b) H) : rIsX K a (.ref C) (some d) [.ref a, c] H Q :=
  ⟨c, cv, C, d, fs, b, rfl, k, rfl, rfl, X, hd, e, h⟩
theorem x_tupleOfL (hs : SqL K H a xs) {P : Addr → List V → Prop} {P2 : Addr → List V → Prop} (h : P a xs) : ∃ p ys, [V.ref a] = [.ref p] ∧ ((SqL K H p ys ∧ P p ys) ∨ P2 p ys) := ⟨a, xs, rfl, .inl ⟨hs, h⟩⟩
end
end WD

set_option Elab.async false
set_option linter.all false
set_option maxRecDepth 100000
set_option maxHeartbeats 1000000
namespace WD
open PySem PySem.Spec PyProof.Rows L2
/-! loops, comprehensions: how their readings open -/
section
variable {σ : L2.St} {H : Hp} {Q : VK} {D : Ends} {v x y : V} {K : PySem.W.Frag} {ta tb te tl : TE} {t u : TS} {tt : TT} {ts : TA} {a p : Addr} {xs : List V} {i j : Int} {n : Nat} {R : It → Hp → Prop} {wi : TI} {g : TG} {vs : List Nat}
theorem x_rng1 (h : ts σ H fun vs H1 => ∃ j : Int, vs = [.int j] ∧ -(2 ^ 62) ≤ j ∧ j < 2 ^ 62 ∧ R (Itr 0 j.toNat) H1) : iRng1 ts σ H R := h
theorem x_rng2 (h : ts σ H fun vs H1 => ∃ i j : Int, vs = [.int i, .int j] ∧ (-(2 ^ 62) ≤ i ∧ i < 2 ^ 62 ∧ -(2 ^ 62) ≤ j ∧ j < 2 ^ 62) ∧ R (Itr i (j - i).toNat) H1) : iRng2 ts σ H R := h
theorem x_rng1I {j : Int} {P : It → Prop} (h1 : -(2 ^ 62) ≤ j ∧ j < 2 ^ 62) (h : P (Itr 0 j.toNat)) : ∃ j' : Int, [V.int j] = [.int j'] ∧ -(2 ^ 62) ≤ j' ∧ j' < 2 ^ 62 ∧ P (Itr 0 j'.toNat) := ⟨j, rfl, h1.1, h1.2, h⟩
theorem x_rng2I {i j : Int} {P : It → Prop} (h1 : -(2 ^ 62) ≤ i ∧ i < 2 ^ 62 ∧ -(2 ^ 62) ≤ j ∧ j < 2 ^ 62) (h : P (Itr i (j - i).toNat)) : ∃ i' j' : Int, [V.int i, V.int j] = [.int i', .int j'] ∧ (-(2 ^ 62) ≤ i' ∧ i' < 2 ^ 62 ∧ -(2 ^ 62) ≤ j' ∧ j' < 2 ^ 62) ∧ P (Itr i' (j' - i').toNat) := ⟨i, j, rfl, h1, h⟩
def qList (K : PySem.W.Frag) (R : It → Hp → Prop) : VK := fun x H1 => ∃ a, x = .ref a ∧ (∃ xs, SqL K H1 a xs) ∧ R (Itl K a) H1
def qTup (K : PySem.W.Frag) (R : It → Hp → Prop) : VK := fun x H1 => ∃ a, x = .ref a ∧ (∃ xs, SqT K H1 a xs) ∧ R (Itt K a) H1
theorem x_iList (h : tl σ H (qList K R)) : iList K tl σ H R := h
theorem x_iTup (h : tl σ H (qTup K R)) : iTup K tl σ H R := h
theorem x_itL (hs : SqL K H a xs) (h : R (Itl K a) H) : qList K R (.ref a) H := ⟨a, rfl, ⟨xs, hs⟩, h⟩
theorem x_itT (hs : SqT K H a xs) (h : R (Itt K a) H) : qTup K R (.ref a) H := ⟨a, rfl, ⟨xs, hs⟩, h⟩
def rSortDI : List V → Hp → VK → Prop := fun xs H Q => ∃ (a : Addr) (kvs : List (Key × V)) (ks : List Int), xs = [.ref a] ∧ Rd H a (.dK kvs) ∧ kvs.map (·.1) = ks.map Sum.inl ∧ ks.length < 64 ∧
    ∀ (ys : List Int) (p : Addr), ys.Perm ks → ys.Pairwise (· ≤ ·) → H p = none → Q (.ref p) (upd H p (.lst (ys.map V.int)))
theorem call_sortDI {X : Cx} (h : X.calm = true) : CallR X (.builtin "sorted") rSortDI := call_sortedDI h
theorem x_sortDI {kvs : List (Key × V)} {ks : List Int} (hd : H a = some (.dK kvs)) (hk : kvs.map (·.1) = ks.map Sum.inl) (h64 : ks.length < 64) (h : ∀ ys : List Int, ys.Perm ks → ys.Pairwise (· ≤ ·) → ∀ p, H p = none → Q (.ref p) (upd H p (.lst (ys.map V.int)))) :
    rSortDI [.ref a] H Q := ⟨a, kvs, ks, rfl, .inl hd, hk, h64, fun ys p p1 p2 p3 => h ys p1 p2 p p3⟩
theorem x_par {i j : Nat} (h : ta σ H fun x H1 => tb σ H1 fun y H2 => gName i x σ H2 fun σ1 H3 => gName j y σ1 H3 D.nx) : tPar i j (tCons ta (tCons tb tNil)) D σ H := by
  show ta σ H fun x H1 => tb σ H1 fun y H2 => ∃ v w, [x, y] = [v, w] ∧ D.nx ((σ.set i (some v)).set j (some w)) H2
  have e : (fun x H1 => tb σ H1 fun y H2 => ∃ v w, [x, y] = [v, w] ∧ D.nx ((σ.set i (some v)).set j (some w)) H2) = fun x H1 => tb σ H1 fun y H2 => gName i x σ H2 fun σ1 H3 => gName j y σ1 H3 D.nx := by
    funext x H1
    congr 1
    funext y H2
    apply propext
    constructor
    · rintro ⟨v, w, e, q⟩
      cases e
      exact q
    · intro q
      exact ⟨x, y, rfl, q⟩
  rw [e]
  exact h
theorem x_lc (h : wi σ H fun J H1 => ∀ D, H1 D = none → ∃ W : Nat → Nat → Hp → Prop, (∃ m, W 0 m (upd H1 D (.lst []))) ∧ ∀ i m H, W i m H →
  (J.stop i H ∧ Q (.ref D) H) ∨ (J.go i H ∧ ∃ Nx : Hp → Prop, (∀ H', Nx H' → ∃ m', m' < m ∧ W (i + 1) m' H') ∧ ∀ x H', J.yld i H x H' → g x (wipe σ vs) H' fun σ2 H2 => wipe σ2 vs = wipe σ vs ∧ tt σ2 H2 fun b H3 =>
    if b = true then te σ2 H3 fun y H4 => ∃ acc, H4 D = some (.lst acc) ∧ acc.length < sizeLine ∧ Nx (upd H4 D (.lst (acc ++ [y]))) else Nx H3)) : tLc wi g tt te vs σ H Q := h
theorem x_cat {ys : List V} (h1 : SqL K H a xs) (h2 : SqL K H p ys) (l : xs.length + ys.length ≤ sizeLine) {P : Prop} (h : P) : SqL K H a xs ∧ SqL K H p ys ∧ xs.length + ys.length ≤ sizeLine ∧ P := ⟨h1, h2, l, h⟩
theorem x_catL {ys : List V} (h1 : H a = some (.lst xs)) (h2 : H p = some (.lst ys)) (l : xs.length + ys.length ≤ sizeLine) (h : ∀ q, H q = none → Q (.ref q) (upd H q (.lst (xs ++ ys)))) : rCat (.ref a) (.ref p) H Q := ⟨a, p, xs, ys, rfl, rfl, h1, h2, l, h⟩
theorem x_gNameS {m : Nat} {σ1 σ2 : L2.St} {QS : L2.St → Hp → Prop} (e1 : σ.set m none = σ1) (e : σ1.set n (some v) = σ2) (h : QS σ2 H) : gName n v (σ.set m none) H QS := by subst e1; subst e; exact h
theorem x_yes {QB : Bool → Hp → Prop} (h : QB true H) : tYes σ H QB := h
theorem x_neD2 {d e : PyData} (h1 : Dp K H x d) (h2 : Dp K H y e) (s1 : SeqAt.shaped d = true) (s2 : SeqAt.shaped e = true) (ne : PyData.eqv d e = true) (h : Q (.bl false) H) : rNeD K x y H Q := ⟨d, e, h1, h2, s1, s2, by rw [ne]; exact h⟩
theorem x_eqD2 {d e : PyData} (h1 : Dp K H x d) (h2 : Dp K H y e) (s1 : SeqAt.shaped d = true) (s2 : SeqAt.shaped e = true) (ne : PyData.eqv d e = true) (h : Q (.bl true) H) : rEqD K x y H Q := ⟨d, e, h1, h2, s1, s2, by rw [ne]; exact h⟩
end
section
variable {K : PySem.W.Frag} {a : Addr} {xs : List V} {g : TG} {tt : TT} {te : TE} {vs : List Nat} {σ σw : L2.St} {H1 : Hp} {D : Addr} {Qd : Hp → Prop}
theorem lc_listW (ew : wipe σ vs = σw) (Pv : Nat → Hp → Prop) (h0 : Pv 0 (upd H1 D (.lst []))) (hl : ∀ i H, i ≤ xs.length → Pv i H → SqL K H a xs)
    (hs : ∀ i x H, xs[i]? = some x → Pv i H → g x σw H fun σ2 H2 => wipe σ2 vs = σw ∧ tt σ2 H2 fun b H3 =>
      if b = true then te σ2 H3 fun y H4 => ∃ acc, H4 D = some (.lst acc) ∧ acc.length < sizeLine ∧ Pv (i + 1) (upd H4 D (.lst (acc ++ [y]))) else Pv (i + 1) H3) (hd : ∀ H, Pv xs.length H → Qd H) :
    ∃ W : Nat → Nat → Hp → Prop, (∃ m, W 0 m (upd H1 D (.lst []))) ∧ ∀ i m H, W i m H →
      ((Itl K a).stop i H ∧ Qd H) ∨ ((Itl K a).go i H ∧ ∃ Nx : Hp → Prop, (∀ H', Nx H' → ∃ m', m' < m ∧ W (i + 1) m' H') ∧ ∀ x H', (Itl K a).yld i H x H' → g x (wipe σ vs) H' fun σ2 H2 => wipe σ2 vs = wipe σ vs ∧ tt σ2 H2 fun b H3 =>
        if b = true then te σ2 H3 fun y H4 => ∃ acc, H4 D = some (.lst acc) ∧ acc.length < sizeLine ∧ Nx (upd H4 D (.lst (acc ++ [y]))) else Nx H3) := by
  subst ew; exact lc_list Pv h0 hl hs hd
theorem lc_tupW (ew : wipe σ vs = σw) (Pv : Nat → Hp → Prop) (h0 : Pv 0 (upd H1 D (.lst []))) (hl : ∀ i H, i ≤ xs.length → Pv i H → SqT K H a xs)
    (hs : ∀ i x H, xs[i]? = some x → Pv i H → g x σw H fun σ2 H2 => wipe σ2 vs = σw ∧ tt σ2 H2 fun b H3 =>
      if b = true then te σ2 H3 fun y H4 => ∃ acc, H4 D = some (.lst acc) ∧ acc.length < sizeLine ∧ Pv (i + 1) (upd H4 D (.lst (acc ++ [y]))) else Pv (i + 1) H3) (hd : ∀ H, Pv xs.length H → Qd H) :
    ∃ W : Nat → Nat → Hp → Prop, (∃ m, W 0 m (upd H1 D (.lst []))) ∧ ∀ i m H, W i m H →
      ((Itt K a).stop i H ∧ Qd H) ∨ ((Itt K a).go i H ∧ ∃ Nx : Hp → Prop, (∀ H', Nx H' → ∃ m', m' < m ∧ W (i + 1) m' H') ∧ ∀ x H', (Itt K a).yld i H x H' → g x (wipe σ vs) H' fun σ2 H2 => wipe σ2 vs = wipe σ vs ∧ tt σ2 H2 fun b H3 =>
        if b = true then te σ2 H3 fun y H4 => ∃ acc, H4 D = some (.lst acc) ∧ acc.length < sizeLine ∧ Nx (upd H4 D (.lst (acc ++ [y]))) else Nx H3) := by
  subst ew; exact lc_tup Pv h0 hl hs hd
theorem lc_rangeW {lo : Int} {n : Nat} (ew : wipe σ vs = σw) (Pv : Nat → Hp → Prop) (h0 : Pv 0 (upd H1 D (.lst [])))
    (hs : ∀ i H, i < n → Pv i H → g (.int (lo + i)) σw H fun σ2 H2 => wipe σ2 vs = σw ∧ tt σ2 H2 fun b H3 =>
      if b = true then te σ2 H3 fun y H4 => ∃ acc, H4 D = some (.lst acc) ∧ acc.length < sizeLine ∧ Pv (i + 1) (upd H4 D (.lst (acc ++ [y]))) else Pv (i + 1) H3) (hd : ∀ H, Pv n H → Qd H) :
    ∃ W : Nat → Nat → Hp → Prop, (∃ m, W 0 m (upd H1 D (.lst []))) ∧ ∀ i m H, W i m H →
      ((Itr lo n).stop i H ∧ Qd H) ∨ ((Itr lo n).go i H ∧ ∃ Nx : Hp → Prop, (∀ H', Nx H' → ∃ m', m' < m ∧ W (i + 1) m' H') ∧ ∀ x H', (Itr lo n).yld i H x H' → g x (wipe σ vs) H' fun σ2 H2 => wipe σ2 vs = wipe σ vs ∧ tt σ2 H2 fun b H3 =>
        if b = true then te σ2 H3 fun y H4 => ∃ acc, H4 D = some (.lst acc) ∧ acc.length < sizeLine ∧ Nx (upd H4 D (.lst (acc ++ [y]))) else Nx H3) := by
  subst ew; exact lc_range Pv h0 hs hd
end
theorem shapedInts (ns : List Int) : SeqAt.shaped (.tuple (ns.map PyData.int)) = true := by
  unfold SeqAt.shaped
  rw [Bool.and_eq_true]
  exact ⟨canInts ns, decide_eq_true (by have := depthInts ns; show PyData.depthAll _ + 1 ≤ 64; omega)⟩
theorem shapedIntsL (ns : List Int) : SeqAt.shaped (.list (ns.map PyData.int)) = true := by
  unfold SeqAt.shaped
  rw [Bool.and_eq_true]
  exact ⟨canInts ns, decide_eq_true (by have := depthInts ns; show PyData.depthAll _ + 1 ≤ 64; omega)⟩
theorem eqvSelf {d : PyData} (h : SeqAt.shaped d = true) : PyData.eqv d d = true := by
  unfold SeqAt.shaped at h
  rw [Bool.and_eq_true] at h
  exact SeqAt.eqv_refl d h.1
/-- two sorted lists of the same ints are one -/
theorem sorted_one {ks ys zs : List Int} (p1 : ys.Perm ks) (s1 : ys.Pairwise (· ≤ ·)) (p2 : zs.Perm ks) (s2 : zs.Pairwise (· ≤ ·)) : ys = zs := by
  have pm := p1.trans p2.symm
  clear p1 p2
  induction ys generalizing zs with
  | nil => exact (List.nil_perm.mp pm).symm
  | cons a r ih =>
    cases zs with
    | nil => exact absurd pm (by simp)
    | cons b q =>
      have ha : a ∈ b :: q := pm.subset List.mem_cons_self
      have hb : b ∈ a :: r := pm.symm.subset List.mem_cons_self
      rw [List.pairwise_cons] at s1 s2
      have h1 : a ≤ b := by
        rcases List.mem_cons.mp hb with e | m
        · omega
        · exact s1.1 b m
      have h2 : b ≤ a := by
        rcases List.mem_cons.mp ha with e | m
        · omega
        · exact s2.1 a m
      have e : a = b := by omega
      subst e
      rw [ih s1.2 s2.2 (List.Perm.cons_inv pm)]
end WD

set_option Elab.async false
set_option linter.all false
set_option maxRecDepth 100000
set_option maxHeartbeats 1000000
namespace WD
open PySem PySem.Spec PyProof.Rows L2
/-! the end: facts of the top as Bools of the written part -/
theorem fun_of {K : PySem.W.Frag} {x qual : Str} {st : Stmt} {f : Addr} {fd : FuncData} (F : FunD K x qual (defArgs st) (defBody st) (defScope st) [] [] f fd) : Fun K x qual st f fd := by
  obtain ⟨oc, od, dV, kV, doc, pm, an, cdv, ct, osl, e, lk, hcd, hD, _⟩ := F.ex
  rcases hD with ⟨_, rfl⟩ | ⟨z, _⟩
  · exact ⟨⟨oc, od, kV, doc, pm, an, cdv, ct, osl, e, lk, hcd⟩, F.kp⟩
  · exact absurd rfl z
/-- a def with defaults, all arguments written -/
theorem binds_full {K : PySem.W.Frag} {x qual : Str} {params : Arguments} {body : List Stmt} {scope : Scope} {dvs : List V} {f : Addr} {fd : FuncData} {ps : List Str} (F : FunD K x qual params body scope dvs [] f fd) (hd : dvs ≠ []) (h0 : dvs.drop dvs.length = [])
    (h : ∀ (T : Addr) (kV doc pm : Value) (an : Option Addr) (cdv ct : Value) (us its : List Value), us.length = ps.length → its.length = dvs.length →
      ∃ k, bindArgs (PySem.W.fnOf x qual params body scope (.ref T) kV doc pm an cdv ct) ⟨us, []⟩ = seqItems? (.ref T) >>= k ∧ k (some its.toArray) = pure (ps.zip (us ++ its.drop dvs.length))) : Binds K fd ps [] := by
  obtain ⟨ds, r, b⟩ := F.binds1 ps.length dvs.length hd (by omega) h
  rw [h0] at r
  cases r
  exact b
/-- an own exception class over ValueError whose instances have a dict -/
def oexB (K : PySem.W.Frag) (C : Addr) : Bool := (match K.lookup C with
  | some ⟨.type "type", _, .cls cd, sl⟩ => (match cd.mro, sl.toList with
    | .ref C' :: bm, [_, _, _, _, some (.builtin n), _] => C' == C && n == "ValueError.__new__" && !cd.hasDel && cd.hasDict && PySem.HandSPX.refsVE bm
    | _, _ => false)
  | _ => false) && (decide (PySem.W.findIn K (.ref C) "__setattr__" = some (some (.builtin "object.__setattr__"))) && (decide (PySem.W.subIn K (.ref C) (.type "BaseException") = some true) &&
    (decide (PySem.W.typeIn K (.ref C) = some (.type "type")) && PySem.W.keepIn K (.ref C))))
theorem oexB_ok {K : PySem.W.Frag} {C : Addr} (h : oexB K C = true) : OexC K C := by
  unfold oexB at h
  simp only [Bool.and_eq_true, decide_eq_true_eq] at h
  obtain ⟨q, sa, eC, tC, kC⟩ := h
  refine ⟨?_, sa, eC, tC, kC⟩
  split at q
  · rename_i dd cd sl ho
    split at q
    · rename_i C' bm k0 k1 k2 k3 n k5 hm hs
      simp only [Bool.and_eq_true, beq_iff_eq, Bool.not_eq_true'] at q
      obtain ⟨⟨⟨⟨rfl, rfl⟩, hdel⟩, hdc⟩, hr⟩ := q
      obtain ⟨nm, bs, mro, ns, qn, hd, sn, sub, ab, col, del⟩ := cd
      dsimp only at hm hdel hdc
      subst hm hdel hdc
      have hsl : sl = #[k0, k1, k2, k3, some (.builtin "ValueError.__new__"), k5] := by
        obtain ⟨l⟩ := sl
        simp only at hs
        rw [hs]
      subst hsl
      exact ⟨nm, qn, ns, bs, bm, sn, sub, ab, col, dd, k0, k1, k2, k3, k5, ho, hr⟩
    · cases q
  · cases q
/-- isinstance and .what of such an instance -/
def excB (K : PySem.W.Frag) (C : Addr) : Bool := decide (PySem.W.findIn K (.ref C) "__getattribute__" = some (some (.builtin "BaseException.__getattribute__"))) && (decide (PySem.W.findIn K (.ref C) "__getattr__" = some none) &&
  (decide (PySem.W.subIn K (.ref C) (.type "BaseException") = some true) && (PySem.W.hasDictIn K C && (decide (PySem.W.findIn K (.ref C) "__class__" = some (some (.builtin "object.__class__"))) &&
  (decide (PySem.W.specialIn K (.builtin "object.__class__") "__get__" = some (some (.builtin "getset_descriptor.__get__"))) && (decide (PySem.W.takesIn K (.builtin "object.__class__") = some true) && decide (PySem.W.mroIn K C (.type "object") = some true)))))))
theorem excB_ok {K : PySem.W.Frag} {C : Addr} (h : excB K C = true) : ExcC K C := by
  unfold excB at h
  simp only [Bool.and_eq_true, decide_eq_true_eq] at h
  obtain ⟨h1, h2, h3, h4, h5, h6, h7, h8⟩ := h
  exact ⟨h1, h2, h3, h4, h5, h6, h7, h8⟩
/-- class x with the __init__ of class y (one attribute: what) -/
def extB (K : PySem.W.Frag) (x y : Str) : Bool := oexB K (He.ga K x) && (excB K (He.ga K x) && (decide (PySem.W.findIn K (.ref (He.ga K x)) "__init__" = some (some (.ref (He.ma K (He.ga K y) "__init__")))) && decide (PySem.W.findIn K (.ref (He.ga K x)) "what" = some none)))
theorem extB_ok {K : PySem.W.Frag} {mg : Str → Option Value} {x y : Str} (g : mg x = some (.ref (He.ga K x))) (h : extB K x y = true) : ExT K mg x (He.ga K x) (He.ma K (He.ga K y) "__init__") := by
  unfold extB at h
  simp only [Bool.and_eq_true, decide_eq_true_eq] at h
  obtain ⟨h1, h2, h3, h4⟩ := h
  exact ⟨g, oexB_ok h1, h3, excB_ok h2, h4⟩
end WD

set_option maxHeartbeats 8000000

namespace WD
open PySem PySem.Spec PyProof.Rows L2
-- p ≠ q of two addresses
local macro_rules | `(tactic| walk_at "ne") => `(tactic| first
  | with_reducible assumption
  | with_reducible exact Ne.symm (by assumption)
  | exact ne_some (by with_reducible assumption) (by with_reducible assumption)
  | exact Ne.symm (ne_some (by with_reducible assumption) (by with_reducible assumption)))
local macro_rules | `(tactic| walk_at "nm") => `(tactic| first | with_reducible assumption | with_reducible exact nm0 | ((with_reducible refine' nmS ?a ?b); (case a => walk_at "ne"); (case b => walk_at "nm")))
-- H p = some ?o
local macro_rules | `(tactic| walk_at "hp") => `(tactic| first
  | with_reducible exact upd_same
  | with_reducible assumption
  | ((with_reducible refine' Eq.trans (upd_ne ?a) ?b); (case a => walk_at "ne"); (case b => walk_at "hp"))
  | exact Stay.keep (by with_reducible assumption) _ _ (by walk_at "hp") (by walk_at "nm"))
local macro_rules | `(tactic| walk_at "hpd") => `(tactic| ((refine' Eq.trans ?h ?e); (case h => walk_at "hp"); (case e => exact rfl)))
-- a new address
local macro_rules | `(tactic| walk_at "nw") => `(tactic| ((repeat first | (with_reducible refine' nw_upd ?_) | refine' nw_fr (by with_reducible assumption) ?_); intro p_; intros))
local macro_rules | `(tactic| walk_at "mem") => `(tactic| first | exact List.mem_cons_self | (refine' List.mem_cons_of_mem _ ?_; walk_at "mem"))
-- what stands stays
local macro_rules | `(tactic| walk_at "fr") => `(tactic| first
  | with_reducible assumption
  | exact Stay.refl _ _
  | ((with_reducible refine' Stay.upd ?a ?b); (case a => walk_at "fr"); (case b => walk_at "mem"))
  | ((with_reducible refine' Stay.new ?a ?b); (case b => with_reducible assumption); (case a => walk_at "fr"))
  | (refine' Stay.trans ?_ (by with_reducible assumption); walk_at "fr"))
local macro_rules | `(tactic| walk_at "sq") => `(tactic| first | with_reducible assumption | exact SqL.of (by walk_at "hp"))
local macro_rules | `(tactic| walk_at "sqt") => `(tactic| first | with_reducible assumption | exact SqT.of (by walk_at "hp"))
-- side goals
local macro_rules | `(tactic| walk_at "sd") => `(tactic| first
  | with_reducible assumption | with_reducible rfl | (show _ ≤ sizeLine; decide) | (refine Nat.le_trans (Nat.le_of_ble_eq_true (m := 1000) rfl) (by decide)) | decide | omega
  | exact IntMulOk.of_right (intBits_le_64 (by omega) (by omega)) | exact IntMulOk.of_left (intBits_le_64 (by omega) (by omega))
  | (refine' Or.inl ⟨?_, ?_⟩ <;> omega) | (refine' Or.inr ⟨?_, ?_⟩ <;> omega)
  | (refine' ⟨?_, ?_⟩ <;> walk_at "sd") | (refine' ⟨?_, ?_, ?_⟩ <;> walk_at "sd"))
local macro_rules | `(tactic| walk_at "set") => `(tactic| first | with_reducible exact set0 | with_reducible exact set1 | with_reducible exact set2 | with_reducible exact set3 | with_reducible exact set4 | with_reducible exact set5 | with_reducible exact set6 | with_reducible exact set7 | with_reducible exact set8 | with_reducible exact set9 | with_reducible exact set10 | with_reducible exact set11 | with_reducible exact set12 | with_reducible exact set13 | with_reducible exact set14 | with_reducible exact set15 | with_reducible exact set16 | with_reducible exact set17 | with_reducible exact set18 | with_reducible exact set19 | with_reducible exact set20)
-- one step
local macro_rules | `(tactic| walk_at "st0") => `(tactic| first
  | with_reducible refine' x_seq ?_
  | with_reducible refine' x_next ?_
  | with_reducible refine' x_ifS ?_
  | with_reducible refine' x_asg ?_
  | with_reducible refine' x_ret ?_
  | with_reducible refine' x_retN ?_
  | with_reducible refine' x_drop ?_
  | with_reducible refine' x_brk ?_
  | with_reducible refine' x_cont ?_
  | ((with_reducible refine' x_gName ?e ?_); (case e => walk_at "set"))
  | with_reducible refine' x_gSub ?_
  | with_reducible refine' x_gCons ?_
  | with_reducible refine' x_gNil ?_
  | with_reducible refine' x_c ?_
  | ((with_reducible refine' x_var ?e ?_); (case e => exact rfl))
  | with_reducible refine' x_op ?_
  | with_reducible refine' x_un ?_
  | with_reducible refine' x_if ?_
  | with_reducible refine' x_cb ?_
  | with_reducible refine' x_cons ?_
  | with_reducible refine' x_nil ?_
  | with_reducible refine' x_bm0 ?_
  | with_reducible refine' x_bm ?_
  | with_reducible refine' x_tup ?_
  | with_reducible refine' x_lst ?_
  | ((with_reducible refine' And.intro (a := _ ≤ sizeLine) ?e ?_); (case e => walk_at "sd"); walk_at "nw")
  | with_reducible refine' x_fld ?_
  | with_reducible refine' x_test ?_
  | with_reducible refine' x_tB ?_
  | with_reducible refine' x_and ?_
  | with_reducible refine' x_or ?_
  | with_reducible refine' x_not ?_
  | with_reducible refine' x_notV ?_
  | with_reducible refine' x_andV ?_
  | with_reducible refine' x_orV ?_
  | with_reducible refine' x_rI0 ?_
  | ((with_reducible refine' x_rI ?e ?_); (case e => walk_at "sd"))
  | with_reducible refine' x_rU ?_
  | ((with_reducible refine' x_rEq ?e ?_); (case e => exact rfl))
  | ((with_reducible refine' x_rNe ?e ?_); (case e => exact rfl))
  | ((with_reducible refine' x_ixL0 ?h ?_); (case h => walk_at "sq"))
  | ((with_reducible refine' x_ixL1 ?h ?_); (case h => walk_at "sq"))
  | ((with_reducible refine' x_ixL2 ?h ?_); (case h => walk_at "sq"))
  | ((with_reducible refine' x_ixL0I ?h ?_); (case h => walk_at "sq"))
  | ((with_reducible refine' x_ixL ?h ?e ?_); (case h => walk_at "sq"); (case e => exact rfl))
  | ((with_reducible refine' x_neNil ?h ?h2 ?_); (case h => walk_at "sq"); (case h2 => walk_at "sq"))
  | ((with_reducible refine' x_pop0I ?h ?_); (case h => walk_at "hp"))
  | ((with_reducible refine' x_pop0 ?h ?_); (case h => walk_at "hp"))
  | ((with_reducible refine' x_setL0 ?h ?_); (case h => walk_at "hp"))
  | ((with_reducible refine' x_setL1 ?h ?_); (case h => walk_at "hp"))
  | ((with_reducible refine' x_setL2 ?h ?_); (case h => walk_at "hp"))
  | ((with_reducible refine' x_setL ?h ?e ?_); (case h => walk_at "hp"); (case e => exact rfl))
  | with_reducible refine' .inl ⟨_, rfl, ?_⟩
  | ((with_reducible refine' x_tyL ?h ?_); (case h => walk_at "sq"))
  | with_reducible refine' ⟨_, rfl, ?_⟩)
-- a split
local macro_rules | `(tactic| walk_at "if") => `(tactic| (
  first
  | (with_reducible refine' x_dec (fun h_ => ?_) (fun h_ => ?_))
  | (with_reducible refine' x_decN (fun h_ => ?_) (fun h_ => ?_))
  | (with_reducible refine' x_boolN (fun h_ => ?_) (fun h_ => ?_))
  | (with_reducible refine' x_bool (fun h_ => ?_) (fun h_ => ?_))))
local macro_rules | `(tactic| walk_at "ifs") => `(tactic| (walk_at "if" <;> first
  | (exfalso; first | omega | contradiction)
  | (rename_i h_; (try simp only [BEq.rfl, List.length_map, List.length_cons, List.length_nil, Int.natCast_zero, Int.ofNat_zero, gt_iff_lt, Int.lt_irrefl, Bool.true_eq_false, Bool.false_eq_true, List.isEmpty_nil, List.isEmpty_cons, V.int.injEq, V.str.injEq, V.bl.injEq, reduceCtorEq, not_false_eq_true, not_true_eq_false] at h_); (try (exfalso; omega)))))
local macro_rules | `(tactic| walk_at "ite1") => `(tactic| first
  | with_reducible refine' x_T ?_
  | with_reducible refine' x_F ?_
  | with_reducible refine' x_nT ?_
  | with_reducible refine' x_nF ?_
  | ((with_reducible refine' x_bT ?e ?_); (case e => first | decide | decide +kernel))
  | ((with_reducible refine' x_bF ?e ?_); (case e => first | decide | decide +kernel)))
local macro_rules | `(tactic| walk_at "st") => `(tactic| ((fail_if_success (with_reducible (show (if _ then _ else _)))); walk_at "st0"))
local macro_rules | `(tactic| walk_at "go") => `(tactic| repeat first | walk_at "ite1" | walk_at "st")
local macro_rules | `(tactic| walk_at "gs") => `(tactic| repeat' first | walk_at "ite1" | walk_at "st" | walk_at "ifs")
local macro_rules | `(tactic| walk_at "sz") => `(tactic| first | with_reducible assumption | (refine Nat.le_trans (by assumption) (by decide : 100000 ≤ sizeLine)) | (refine Nat.le_trans (m := 100000) ?_ (by decide); (try simp only [len_add, rep_len]); (try rw [show (Str.ofString "z").length = 1 from rfl]); omega))
local macro_rules | `(tactic| walk_at "hn") => `(tactic| first | with_reducible assumption)
local macro_rules | `(tactic| walk_at "sqo") => `(tactic| first | exact Or.inl (by walk_at "sq") | exact Or.inr (by walk_at "sqt"))
local macro_rules | `(tactic| walk_at "ty1") => `(tactic| first | with_reducible assumption | exact Ty1.int _ | exact Ty1.str _ | exact Ty1.bl _ | exact Ty1.non | exact Ty1.tup (by walk_at "hp") | exact Ty1.lst (by walk_at "hp"))
local macro_rules | `(tactic| walk_at "st2") => `(tactic| first
  | with_reducible refine' And.intro (a := V.non = V.non) rfl ?_
  | with_reducible refine' x_call0 ?_
  | with_reducible refine' x_callS ?_
  | with_reducible refine' x_meth0 ?_
  | with_reducible refine' x_methW0 ?_
  | with_reducible refine' x_make0 ?_
  | with_reducible refine' x_makeW0 ?_
  | with_reducible refine' x_sFld ?_
  | with_reducible refine' x_mkO ?_
  | with_reducible refine' x_chain ?_
  | with_reducible refine' x_dget ?_
  | with_reducible refine' x_dget1 ?_
  | with_reducible refine' x_dget2 ?_
  | with_reducible refine' x_sDPut ?_
  | with_reducible refine' x_pairs ?_
  | with_reducible refine' x_pairs0 ?_
  | with_reducible refine' x_sl ?_
  | with_reducible refine' x_noPart ?_
  | with_reducible refine' x_part ?_
  | ((with_reducible refine' x_disp ?_); walk_at "nw")
  | ((with_reducible refine' x_dnew ?_); walk_at "nw")
  | ((with_reducible refine' x_rz ?h ?_); (case h => walk_at "cf"); walk_at "nw")
  | ((with_reducible refine' x_isi ?h ?e ?_); (case h => walk_at "ty1"); (case e => decide))
  | ((with_reducible refine' x_fldR ?h ?c ?n ?e ?_); (case h => walk_at "hp"); (case c => walk_at "cf"); (case n => walk_at "cf"); (case e => walk_at "fl"))
  | ((with_reducible refine' x_onIns ?h ?n ?_); (case h => walk_at "hp"); (case n => walk_at "fl"))
  | ((with_reducible refine' x_addS ?l ?_); (case l => walk_at "sz"))
  | ((with_reducible refine' x_lenS ?l ?_); (case l => walk_at "sz"))
  | ((with_reducible refine' x_lenL ?h ?_); (case h => walk_at "sqo"))
  | ((with_reducible refine' x_slL ?h rfl ?_); (case h => walk_at "sq"); walk_at "nw")
  | ((with_reducible refine' x_listOf ?h ?_); (case h => walk_at "sqo"); walk_at "nw")
  | ((with_reducible refine' x_strmul ?c ?_); (case c => (refine' ⟨?_, ?_, ?_⟩ <;> first | omega | decide +kernel)))
  | ((with_reducible refine' x_isD2 ?h ?_); (case h => walk_at "hp"))
  | ((with_reducible refine' x_getI ?h ?_); (case h => walk_at "hp"))
  | ((with_reducible refine' x_getS ?h ?_); (case h => walk_at "hp"))
  | ((with_reducible refine' x_dgetS ?h ?e ?_); (case h => walk_at "hp"); (case e => walk_at "fl"))
  | ((with_reducible refine' x_ixT ?h ?e ?_); (case h => walk_at "sqt"); (case e => exact rfl))
  | ((with_reducible refine' x_gTup ?h ?e ?_); (case h => walk_at "sqt"); (case e => exact rfl)))
local macro_rules | `(tactic| walk_at "st0") => `(tactic| walk_at "st2")
local macro_rules | `(tactic| walk_at "fl") => `(tactic| first
  | with_reducible exact lk_hd
  | ((with_reducible refine' lk_tl ?n ?h); (case n => walk_at "nq"); (case h => walk_at "fl"))
  | with_reducible exact lk_nil
  | with_reducible exact pf_hd
  | ((with_reducible refine' pf_tl ?n ?h); (case n => walk_at "nq"); (case h => walk_at "fl"))
  | with_reducible exact pf_nil
  | with_reducible exact vl_hd
  | ((with_reducible refine' vl_tl ?n ?h); (case n => walk_at "nr"); (case h => walk_at "fl"))
  | with_reducible exact vl_nil
  | ((with_reducible refine' pk_hd ?n); (case n => rfl))
  | ((with_reducible refine' pk_tl ?n ?t ?h); (case n => walk_at "nr"); (case t => rfl); (case h => walk_at "fl")))
local macro_rules | `(tactic| walk_at "cf") => `(tactic| with_reducible assumption)
local macro_rules | `(tactic| walk_at "st0") => `(tactic| first
  | ((with_reducible refine' x_sFldR ?h ?c ?n ?l ?e ?_); (case h => walk_at "hp"); (case c => walk_at "cf"); (case n => walk_at "cf"); (case l => exact Nat.le_of_ble_eq_true rfl); (case e => walk_at "fl")))
local macro_rules | `(tactic| walk_at "pool") => `(tactic| first
  | with_reducible assumption
  | exact Pool.ne (by walk_at "pool") (by walk_at "ne") (by walk_at "ne")
  | exact Pool.stay (by walk_at "pool") (by with_reducible assumption) (by walk_at "nm") (by walk_at "nm"))
local macro_rules | `(tactic| walk_at "szl") => `(tactic| first | exact Nat.lt_of_le_of_lt (Nat.le_of_ble_eq_true (m := 1000) rfl) (by decide) | exact Nat.lt_of_le_of_lt (by with_reducible assumption) (by decide : 1000 < sizeLine))
local macro_rules | `(tactic| walk_at "st0") => `(tactic| first
  | ((with_reducible refine' x_putS ?h ?l ?e ?_); (case h => walk_at "hp"); (case l => walk_at "szl"); (case e => walk_at "fl"))
  | ((with_reducible refine' x_setD ?h ?l ?e ?_); (case h => walk_at "hp"); (case l => walk_at "szl"); (case e => walk_at "fl"))
  | ((with_reducible refine' x_putI ?h ?l ?_); (case h => walk_at "hp"); (case l => walk_at "szl")))
local macro_rules | `(tactic| walk_at "st0") => `(tactic| first
  | ((with_reducible refine' x_rowN ?e ?_); (case e => walk_at "cf"); walk_at "nw"; (try dsimp only [List.set]))
  | ((with_reducible refine' x_rowF ?e ?_); (case e => walk_at "cf"))
  | with_reducible refine' x_xw ?_
  | ((with_reducible refine' x_xwR ?t ?h ?_); (case t => walk_at "cf"); (case h => walk_at "hp")))
local macro_rules | `(tactic| walk_at "st0") => `(tactic| first
  | ((with_reducible refine' x_isXR ?k ?x ?h ?e ?_); (case k => exact ClsV.own _); (case x => exact ExT.xc (by with_reducible assumption)); (case h => walk_at "hp"); (case e => walk_at "cf")))
def top (i : Nat) : Stmt := PySem.Challenge.pw_wendleaf_k38_writes_and_fuses.main.body.getD i (.Pass ⟨0, 0, 0, 0⟩)
abbrev s_Refused___init__ : Stmt := inClass (top 2) 0
abbrev s_is_number : Stmt := top 8
abbrev s_is_within : Stmt := top 9
abbrev s_is_page : Stmt := top 10
abbrev s__check_page : Stmt := top 13
abbrev s_Disk___init__ : Stmt := inClass (top 12) 0
abbrev s_Disk_tape : Stmt := inClass (top 12) 3
abbrev s_Disk_safe : Stmt := inClass (top 12) 4
abbrev s_Disk_shelf : Stmt := inClass (top 12) 5
abbrev s_Disk_writes : Stmt := inClass (top 12) 6
abbrev s_Disk_frame : Stmt := inClass (top 12) 1
abbrev s_Disk__count_write : Stmt := inClass (top 12) 15
abbrev s_Disk_put_frame : Stmt := inClass (top 12) 7
abbrev s_Disk_add_tape : Stmt := inClass (top 12) 8
abbrev s_Disk_sync : Stmt := inClass (top 12) 9
abbrev s_Disk_put_shelf : Stmt := inClass (top 12) 10
abbrev s_Disk_cut_tape : Stmt := inClass (top 12) 11
abbrev s_Disk_frame_ids : Stmt := inClass (top 12) 2
abbrev s__law_pool : Stmt := top 15
abbrev s__law_draw : Stmt := top 16
abbrev s__law_text : Stmt := top 17
abbrev s__law_call : Stmt := top 18
abbrev s__law_model : Stmt := top 24
abbrev s__law_due : Stmt := top 20
abbrev s__law_is_no_page : Stmt := top 23
abbrev s__law_is_refused : Stmt := top 22
abbrev s__law_made : Stmt := top 19
abbrev s__law_is_same : Stmt := top 21
abbrev s_law : Stmt := top 25
structure G (K : PySem.W.Frag) (mg : Str → Option Value) where
  n_bool : mg "bool" = none
  n_int : mg "int" = none
  n_isinstance : mg "isinstance" = none
  n_len : mg "len" = none
  n_list : mg "list" = none
  n_range : mg "range" = none
  n_sorted : mg "sorted" = none
  n_tuple : mg "tuple" = none
  v_PAGES : Value
  g_PAGES : RelV (.int 32) v_PAGES ∧ mg "PAGES" = some v_PAGES
  f_Refused___init__ : Addr
  d_Refused___init__ : FuncData
  F_Refused___init__ : Fun K "__init__" "Refused.__init__" s_Refused___init__ f_Refused___init__ d_Refused___init__
  b_Refused___init__ : Binds K d_Refused___init__ ["self", "what"] []
  f_is_number : Addr
  d_is_number : FuncData
  F_is_number : Fun K "is_number" "is_number" s_is_number f_is_number d_is_number
  g_is_number : mg "is_number" = some (.ref f_is_number)
  b_is_number : Binds K d_is_number ["thing"] []
  f_is_within : Addr
  d_is_within : FuncData
  F_is_within : Fun K "is_within" "is_within" s_is_within f_is_within d_is_within
  g_is_within : mg "is_within" = some (.ref f_is_within)
  b_is_within : Binds K d_is_within ["thing", "low", "high"] []
  f_is_page : Addr
  d_is_page : FuncData
  F_is_page : Fun K "is_page" "is_page" s_is_page f_is_page d_is_page
  g_is_page : mg "is_page" = some (.ref f_is_page)
  b_is_page : Binds K d_is_page ["thing"] []
  f__check_page : Addr
  d__check_page : FuncData
  F__check_page : Fun K "_check_page" "_check_page" s__check_page f__check_page d__check_page
  g__check_page : mg "_check_page" = some (.ref f__check_page)
  b__check_page : Binds K d__check_page ["page"] []
  f_Disk___init__ : Addr
  d_Disk___init__ : FuncData
  F_Disk___init__ : FunD K "__init__" "Disk.__init__" (defArgs s_Disk___init__) (defBody s_Disk___init__) (defScope s_Disk___init__) [.non] [] f_Disk___init__ d_Disk___init__
  b_Disk___init__ : Binds K d_Disk___init__ ["self", "fuse"] []
  b1_Disk___init__ : Binds K d_Disk___init__ ["self", "fuse"] [.none]
  kb_Disk___init__ : KBn K d_Disk___init__ ["self", "fuse"] 1 ["fuse"] (fun us ws => us ++ ws) (fun vs zs => vs ++ zs)
  f_Disk_tape : Addr
  d_Disk_tape : FuncData
  F_Disk_tape : Fun K "tape" "Disk.tape" s_Disk_tape f_Disk_tape d_Disk_tape
  b_Disk_tape : Binds K d_Disk_tape ["self"] []
  f_Disk_safe : Addr
  d_Disk_safe : FuncData
  F_Disk_safe : Fun K "safe" "Disk.safe" s_Disk_safe f_Disk_safe d_Disk_safe
  b_Disk_safe : Binds K d_Disk_safe ["self"] []
  f_Disk_shelf : Addr
  d_Disk_shelf : FuncData
  F_Disk_shelf : Fun K "shelf" "Disk.shelf" s_Disk_shelf f_Disk_shelf d_Disk_shelf
  b_Disk_shelf : Binds K d_Disk_shelf ["self"] []
  f_Disk_writes : Addr
  d_Disk_writes : FuncData
  F_Disk_writes : Fun K "writes" "Disk.writes" s_Disk_writes f_Disk_writes d_Disk_writes
  b_Disk_writes : Binds K d_Disk_writes ["self"] []
  f_Disk_frame : Addr
  d_Disk_frame : FuncData
  F_Disk_frame : Fun K "frame" "Disk.frame" s_Disk_frame f_Disk_frame d_Disk_frame
  b_Disk_frame : Binds K d_Disk_frame ["self", "page"] []
  f_Disk__count_write : Addr
  d_Disk__count_write : FuncData
  F_Disk__count_write : Fun K "_count_write" "Disk._count_write" s_Disk__count_write f_Disk__count_write d_Disk__count_write
  b_Disk__count_write : Binds K d_Disk__count_write ["self"] []
  f_Disk_put_frame : Addr
  d_Disk_put_frame : FuncData
  F_Disk_put_frame : Fun K "put_frame" "Disk.put_frame" s_Disk_put_frame f_Disk_put_frame d_Disk_put_frame
  b_Disk_put_frame : Binds K d_Disk_put_frame ["self", "page", "text"] []
  f_Disk_add_tape : Addr
  d_Disk_add_tape : FuncData
  F_Disk_add_tape : Fun K "add_tape" "Disk.add_tape" s_Disk_add_tape f_Disk_add_tape d_Disk_add_tape
  b_Disk_add_tape : Binds K d_Disk_add_tape ["self", "text"] []
  f_Disk_sync : Addr
  d_Disk_sync : FuncData
  F_Disk_sync : Fun K "sync" "Disk.sync" s_Disk_sync f_Disk_sync d_Disk_sync
  b_Disk_sync : Binds K d_Disk_sync ["self"] []
  f_Disk_put_shelf : Addr
  d_Disk_put_shelf : FuncData
  F_Disk_put_shelf : Fun K "put_shelf" "Disk.put_shelf" s_Disk_put_shelf f_Disk_put_shelf d_Disk_put_shelf
  b_Disk_put_shelf : Binds K d_Disk_put_shelf ["self", "text"] []
  f_Disk_cut_tape : Addr
  d_Disk_cut_tape : FuncData
  F_Disk_cut_tape : Fun K "cut_tape" "Disk.cut_tape" s_Disk_cut_tape f_Disk_cut_tape d_Disk_cut_tape
  b_Disk_cut_tape : Binds K d_Disk_cut_tape ["self", "text"] []
  f_Disk_frame_ids : Addr
  d_Disk_frame_ids : FuncData
  F_Disk_frame_ids : Fun K "frame_ids" "Disk.frame_ids" s_Disk_frame_ids f_Disk_frame_ids d_Disk_frame_ids
  b_Disk_frame_ids : Binds K d_Disk_frame_ids ["self"] []
  f__law_pool : Addr
  d__law_pool : FuncData
  F__law_pool : Fun K "_law_pool" "_law_pool" s__law_pool f__law_pool d__law_pool
  g__law_pool : mg "_law_pool" = some (.ref f__law_pool)
  b__law_pool : Binds K d__law_pool ["script"] []
  f__law_draw : Addr
  d__law_draw : FuncData
  F__law_draw : Fun K "_law_draw" "_law_draw" s__law_draw f__law_draw d__law_draw
  g__law_draw : mg "_law_draw" = some (.ref f__law_draw)
  b__law_draw : Binds K d__law_draw ["pool", "many"] []
  f__law_text : Addr
  d__law_text : FuncData
  F__law_text : Fun K "_law_text" "_law_text" s__law_text f__law_text d__law_text
  g__law_text : mg "_law_text" = some (.ref f__law_text)
  b__law_text : Binds K d__law_text ["pool"] []
  f__law_call : Addr
  d__law_call : FuncData
  F__law_call : Fun K "_law_call" "_law_call" s__law_call f__law_call d__law_call
  g__law_call : mg "_law_call" = some (.ref f__law_call)
  b__law_call : Binds K d__law_call ["pool"] []
  f__law_model : Addr
  d__law_model : FuncData
  F__law_model : Fun K "_law_model" "_law_model" s__law_model f__law_model d__law_model
  g__law_model : mg "_law_model" = some (.ref f__law_model)
  b__law_model : Binds K d__law_model ["fuse"] []
  f__law_due : Addr
  d__law_due : FuncData
  F__law_due : Fun K "_law_due" "_law_due" s__law_due f__law_due d__law_due
  g__law_due : mg "_law_due" = some (.ref f__law_due)
  b__law_due : Binds K d__law_due ["model", "call"] []
  f__law_is_no_page : Addr
  d__law_is_no_page : FuncData
  F__law_is_no_page : Fun K "_law_is_no_page" "_law_is_no_page" s__law_is_no_page f__law_is_no_page d__law_is_no_page
  g__law_is_no_page : mg "_law_is_no_page" = some (.ref f__law_is_no_page)
  b__law_is_no_page : Binds K d__law_is_no_page ["disk", "page"] []
  f__law_is_refused : Addr
  d__law_is_refused : FuncData
  F__law_is_refused : Fun K "_law_is_refused" "_law_is_refused" s__law_is_refused f__law_is_refused d__law_is_refused
  g__law_is_refused : mg "_law_is_refused" = some (.ref f__law_is_refused)
  b__law_is_refused : Binds K d__law_is_refused ["fuse"] []
  f__law_made : Addr
  d__law_made : FuncData
  F__law_made : Fun K "_law_made" "_law_made" s__law_made f__law_made d__law_made
  g__law_made : mg "_law_made" = some (.ref f__law_made)
  b__law_made : Binds K d__law_made ["disk", "call"] []
  f__law_is_same : Addr
  d__law_is_same : FuncData
  F__law_is_same : Fun K "_law_is_same" "_law_is_same" s__law_is_same f__law_is_same d__law_is_same
  g__law_is_same : mg "_law_is_same" = some (.ref f__law_is_same)
  b__law_is_same : Binds K d__law_is_same ["disk", "model"] []
  f_law : Addr
  d_law : FuncData
  F_law : Fun K "law" "law" s_law f_law d_law
  g_law : mg "law" = some (.ref f_law)
  b_law : Binds K d_law ["script"] []
  C_Disk : Addr
  c_Disk : Cls K C_Disk
  g_Disk : mg "Disk" = some (.ref C_Disk)
  mk_Disk : Mk K C_Disk f_Disk___init__
  a_Disk_fuse : NoAttr K C_Disk "_fuse"
  a_Disk_frames : NoAttr K C_Disk "_frames"
  a_Disk_tape : NoAttr K C_Disk "_tape"
  a_Disk_safe : NoAttr K C_Disk "_safe"
  a_Disk_shelf : NoAttr K C_Disk "_shelf"
  a_Disk_writes : NoAttr K C_Disk "_writes"
  m_Disk_tape : Meth K C_Disk "tape" f_Disk_tape
  m_Disk_safe : Meth K C_Disk "safe" f_Disk_safe
  m_Disk_shelf : Meth K C_Disk "shelf" f_Disk_shelf
  m_Disk_writes : Meth K C_Disk "writes" f_Disk_writes
  m_Disk_frame : Meth K C_Disk "frame" f_Disk_frame
  m_Disk__count_write : Meth K C_Disk "_count_write" f_Disk__count_write
  m_Disk_put_frame : Meth K C_Disk "put_frame" f_Disk_put_frame
  m_Disk_add_tape : Meth K C_Disk "add_tape" f_Disk_add_tape
  m_Disk_sync : Meth K C_Disk "sync" f_Disk_sync
  m_Disk_put_shelf : Meth K C_Disk "put_shelf" f_Disk_put_shelf
  m_Disk_cut_tape : Meth K C_Disk "cut_tape" f_Disk_cut_tape
  m_Disk_frame_ids : Meth K C_Disk "frame_ids" f_Disk_frame_ids
  C_Refused : Addr
  x_Refused : ExT K mg "Refused" C_Refused f_Refused___init__
  C_BadPage : Addr
  x_BadPage : ExT K mg "BadPage" C_BadPage f_Refused___init__
  C_BadNumber : Addr
  x_BadNumber : ExT K mg "BadNumber" C_BadNumber f_Refused___init__
  C_Fallen : Addr
  x_Fallen : ExT K mg "Fallen" C_Fallen f_Refused___init__
  e_Refused_BadPage : PySem.W.exmOne K (.ref C_Refused) (.ref C_BadPage) = some false
  e_Refused_BadNumber : PySem.W.exmOne K (.ref C_Refused) (.ref C_BadNumber) = some false
  e_Refused_Fallen : PySem.W.exmOne K (.ref C_Refused) (.ref C_Fallen) = some false
  e_BadPage_BadPage : PySem.W.exmOne K (.ref C_BadPage) (.ref C_BadPage) = some true
  e_BadPage_BadNumber : PySem.W.exmOne K (.ref C_BadPage) (.ref C_BadNumber) = some false
  e_BadPage_Fallen : PySem.W.exmOne K (.ref C_BadPage) (.ref C_Fallen) = some false
  e_BadNumber_BadPage : PySem.W.exmOne K (.ref C_BadNumber) (.ref C_BadPage) = some false
  e_BadNumber_BadNumber : PySem.W.exmOne K (.ref C_BadNumber) (.ref C_BadNumber) = some true
  e_BadNumber_Fallen : PySem.W.exmOne K (.ref C_BadNumber) (.ref C_Fallen) = some false
  e_Fallen_BadPage : PySem.W.exmOne K (.ref C_Fallen) (.ref C_BadPage) = some false
  e_Fallen_BadNumber : PySem.W.exmOne K (.ref C_Fallen) (.ref C_BadNumber) = some false
  e_Fallen_Fallen : PySem.W.exmOne K (.ref C_Fallen) (.ref C_Fallen) = some true
  k_Fallen_Refused : PySem.W.kitOne K (.ref C_Fallen) (.ref C_Refused) = some true
  k_Fallen_BadPage : PySem.W.kitOne K (.ref C_Fallen) (.ref C_BadPage) = some false
  t_init : PySem.W.typeIn K (.ref f_Refused___init__) = some (.type "function")
theorem q_fuse__frames : (("_fuse" : Str) == "_frames") = false := by decide +kernel
theorem q_fuse__tape : (("_fuse" : Str) == "_tape") = false := by decide +kernel
theorem q_fuse__safe : (("_fuse" : Str) == "_safe") = false := by decide +kernel
theorem q_fuse__shelf : (("_fuse" : Str) == "_shelf") = false := by decide +kernel
theorem q_fuse__writes : (("_fuse" : Str) == "_writes") = false := by decide +kernel
theorem q_frames__fuse : (("_frames" : Str) == "_fuse") = false := by decide +kernel
theorem q_frames__tape : (("_frames" : Str) == "_tape") = false := by decide +kernel
theorem q_frames__safe : (("_frames" : Str) == "_safe") = false := by decide +kernel
theorem q_frames__shelf : (("_frames" : Str) == "_shelf") = false := by decide +kernel
theorem q_frames__writes : (("_frames" : Str) == "_writes") = false := by decide +kernel
theorem q_tape__fuse : (("_tape" : Str) == "_fuse") = false := by decide +kernel
theorem q_tape__frames : (("_tape" : Str) == "_frames") = false := by decide +kernel
theorem q_tape__safe : (("_tape" : Str) == "_safe") = false := by decide +kernel
theorem q_tape__shelf : (("_tape" : Str) == "_shelf") = false := by decide +kernel
theorem q_tape__writes : (("_tape" : Str) == "_writes") = false := by decide +kernel
theorem q_safe__fuse : (("_safe" : Str) == "_fuse") = false := by decide +kernel
theorem q_safe__frames : (("_safe" : Str) == "_frames") = false := by decide +kernel
theorem q_safe__tape : (("_safe" : Str) == "_tape") = false := by decide +kernel
theorem q_safe__shelf : (("_safe" : Str) == "_shelf") = false := by decide +kernel
theorem q_safe__writes : (("_safe" : Str) == "_writes") = false := by decide +kernel
theorem q_shelf__fuse : (("_shelf" : Str) == "_fuse") = false := by decide +kernel
theorem q_shelf__frames : (("_shelf" : Str) == "_frames") = false := by decide +kernel
theorem q_shelf__tape : (("_shelf" : Str) == "_tape") = false := by decide +kernel
theorem q_shelf__safe : (("_shelf" : Str) == "_safe") = false := by decide +kernel
theorem q_shelf__writes : (("_shelf" : Str) == "_writes") = false := by decide +kernel
theorem q_writes__fuse : (("_writes" : Str) == "_fuse") = false := by decide +kernel
theorem q_writes__frames : (("_writes" : Str) == "_frames") = false := by decide +kernel
theorem q_writes__tape : (("_writes" : Str) == "_tape") = false := by decide +kernel
theorem q_writes__safe : (("_writes" : Str) == "_safe") = false := by decide +kernel
theorem q_writes__shelf : (("_writes" : Str) == "_shelf") = false := by decide +kernel
theorem rfuse_frames : decide ((Sum.inr ("fuse" : Str) : Key) = Sum.inr ("frames" : Str)) = false := by decide +kernel
theorem rfuse_tape : decide ((Sum.inr ("fuse" : Str) : Key) = Sum.inr ("tape" : Str)) = false := by decide +kernel
theorem rfuse_safe : decide ((Sum.inr ("fuse" : Str) : Key) = Sum.inr ("safe" : Str)) = false := by decide +kernel
theorem rfuse_shelf : decide ((Sum.inr ("fuse" : Str) : Key) = Sum.inr ("shelf" : Str)) = false := by decide +kernel
theorem rfuse_writes : decide ((Sum.inr ("fuse" : Str) : Key) = Sum.inr ("writes" : Str)) = false := by decide +kernel
theorem rframes_fuse : decide ((Sum.inr ("frames" : Str) : Key) = Sum.inr ("fuse" : Str)) = false := by decide +kernel
theorem rframes_tape : decide ((Sum.inr ("frames" : Str) : Key) = Sum.inr ("tape" : Str)) = false := by decide +kernel
theorem rframes_safe : decide ((Sum.inr ("frames" : Str) : Key) = Sum.inr ("safe" : Str)) = false := by decide +kernel
theorem rframes_shelf : decide ((Sum.inr ("frames" : Str) : Key) = Sum.inr ("shelf" : Str)) = false := by decide +kernel
theorem rframes_writes : decide ((Sum.inr ("frames" : Str) : Key) = Sum.inr ("writes" : Str)) = false := by decide +kernel
theorem rtape_fuse : decide ((Sum.inr ("tape" : Str) : Key) = Sum.inr ("fuse" : Str)) = false := by decide +kernel
theorem rtape_frames : decide ((Sum.inr ("tape" : Str) : Key) = Sum.inr ("frames" : Str)) = false := by decide +kernel
theorem rtape_safe : decide ((Sum.inr ("tape" : Str) : Key) = Sum.inr ("safe" : Str)) = false := by decide +kernel
theorem rtape_shelf : decide ((Sum.inr ("tape" : Str) : Key) = Sum.inr ("shelf" : Str)) = false := by decide +kernel
theorem rtape_writes : decide ((Sum.inr ("tape" : Str) : Key) = Sum.inr ("writes" : Str)) = false := by decide +kernel
theorem rsafe_fuse : decide ((Sum.inr ("safe" : Str) : Key) = Sum.inr ("fuse" : Str)) = false := by decide +kernel
theorem rsafe_frames : decide ((Sum.inr ("safe" : Str) : Key) = Sum.inr ("frames" : Str)) = false := by decide +kernel
theorem rsafe_tape : decide ((Sum.inr ("safe" : Str) : Key) = Sum.inr ("tape" : Str)) = false := by decide +kernel
theorem rsafe_shelf : decide ((Sum.inr ("safe" : Str) : Key) = Sum.inr ("shelf" : Str)) = false := by decide +kernel
theorem rsafe_writes : decide ((Sum.inr ("safe" : Str) : Key) = Sum.inr ("writes" : Str)) = false := by decide +kernel
theorem rshelf_fuse : decide ((Sum.inr ("shelf" : Str) : Key) = Sum.inr ("fuse" : Str)) = false := by decide +kernel
theorem rshelf_frames : decide ((Sum.inr ("shelf" : Str) : Key) = Sum.inr ("frames" : Str)) = false := by decide +kernel
theorem rshelf_tape : decide ((Sum.inr ("shelf" : Str) : Key) = Sum.inr ("tape" : Str)) = false := by decide +kernel
theorem rshelf_safe : decide ((Sum.inr ("shelf" : Str) : Key) = Sum.inr ("safe" : Str)) = false := by decide +kernel
theorem rshelf_writes : decide ((Sum.inr ("shelf" : Str) : Key) = Sum.inr ("writes" : Str)) = false := by decide +kernel
theorem rwrites_fuse : decide ((Sum.inr ("writes" : Str) : Key) = Sum.inr ("fuse" : Str)) = false := by decide +kernel
theorem rwrites_frames : decide ((Sum.inr ("writes" : Str) : Key) = Sum.inr ("frames" : Str)) = false := by decide +kernel
theorem rwrites_tape : decide ((Sum.inr ("writes" : Str) : Key) = Sum.inr ("tape" : Str)) = false := by decide +kernel
theorem rwrites_safe : decide ((Sum.inr ("writes" : Str) : Key) = Sum.inr ("safe" : Str)) = false := by decide +kernel
theorem rwrites_shelf : decide ((Sum.inr ("writes" : Str) : Key) = Sum.inr ("shelf" : Str)) = false := by decide +kernel
local macro_rules | `(tactic| walk_at "nq") => `(tactic| first | with_reducible exact q_fuse__frames | with_reducible exact q_fuse__tape | with_reducible exact q_fuse__safe | with_reducible exact q_fuse__shelf | with_reducible exact q_fuse__writes | with_reducible exact q_frames__fuse | with_reducible exact q_frames__tape | with_reducible exact q_frames__safe | with_reducible exact q_frames__shelf | with_reducible exact q_frames__writes | with_reducible exact q_tape__fuse | with_reducible exact q_tape__frames | with_reducible exact q_tape__safe | with_reducible exact q_tape__shelf | with_reducible exact q_tape__writes | with_reducible exact q_safe__fuse | with_reducible exact q_safe__frames | with_reducible exact q_safe__tape | with_reducible exact q_safe__shelf | with_reducible exact q_safe__writes | with_reducible exact q_shelf__fuse | with_reducible exact q_shelf__frames | with_reducible exact q_shelf__tape | with_reducible exact q_shelf__safe | with_reducible exact q_shelf__writes | with_reducible exact q_writes__fuse | with_reducible exact q_writes__frames | with_reducible exact q_writes__tape | with_reducible exact q_writes__safe | with_reducible exact q_writes__shelf | decide +kernel)
local macro_rules | `(tactic| walk_at "nr") => `(tactic| first | with_reducible exact rfuse_frames | with_reducible exact rfuse_tape | with_reducible exact rfuse_safe | with_reducible exact rfuse_shelf | with_reducible exact rfuse_writes | with_reducible exact rframes_fuse | with_reducible exact rframes_tape | with_reducible exact rframes_safe | with_reducible exact rframes_shelf | with_reducible exact rframes_writes | with_reducible exact rtape_fuse | with_reducible exact rtape_frames | with_reducible exact rtape_safe | with_reducible exact rtape_shelf | with_reducible exact rtape_writes | with_reducible exact rsafe_fuse | with_reducible exact rsafe_frames | with_reducible exact rsafe_tape | with_reducible exact rsafe_shelf | with_reducible exact rsafe_writes | with_reducible exact rshelf_fuse | with_reducible exact rshelf_frames | with_reducible exact rshelf_tape | with_reducible exact rshelf_safe | with_reducible exact rshelf_writes | with_reducible exact rwrites_fuse | with_reducible exact rwrites_frames | with_reducible exact rwrites_tape | with_reducible exact rwrites_safe | with_reducible exact rwrites_shelf | decide +kernel)

section
variable {P : Program} {w : World} {K : PySem.W.Frag} {mg : Str → Option Value} {base : Heap}

theorem sc_Refused___init__ : FnScope ["self", "what"] ["self", "what"] (defScope s_Refused___init__) := ⟨rfl, rfl, rfl, by decide +kernel, rfl, by decide +kernel, by decide +kernel⟩
theorem ok_Refused___init__ (T : G K mg) : FnOk P w K mg base CX0 1 T.f_Refused___init__ T.d_Refused___init__ ["self", "what"] (sp_Refused___init__ K) := by
  refine T.F_Refused___init__.ok sc_Refused___init__ (fun vs H Q E h => ?_) (fun cdv A outer s H vs Q E hr h => ?_)
  · obtain ⟨a, C, v, rfl, h1, hC, hw, k⟩ := h
    rfl
  · obtain ⟨a, C, v, rfl, h1, hC, hw, k⟩ := h
    have hu := hu_of hr
    have nd := sc_Refused___init__.nd
    refine ⟨_, (pss_one (ps_ost (pv 0) (pv 1))), ?_⟩
    try dsimp only [L2.cxOf, L2.Cx.nox, L2.Cx.wish]
    rw [show L2.start ["self", "what"] [V.ref a, v] = [some (V.ref a), some (v)] from rfl]
    refine ⟨v, rfl, _, rfl, a, C, rfl, hC, hw, .inl ⟨h1, fun dx hx ne => ?_⟩⟩
    exact k dx hx ne
def sp_is_number (K : PySem.W.Frag) : Sp := fun vs H Q _ => ∃ (v : V) (s : String), vs = [v] ∧ Ty1 K H v s ∧ Q (.bl (s == "int")) H
theorem c_is_number {K : PySem.W.Frag} {v : V} {s : String} {H : Hp} {Q : VK} {E : XK} (h : Ty1 K H v s) (q : Q (.bl (s == "int")) H) : sp_is_number K [v] H Q E := ⟨v, s, rfl, h, q⟩
theorem sc_is_number : FnScope ["thing"] ["thing"] (defScope s_is_number) := ⟨rfl, rfl, rfl, by decide +kernel, rfl, by decide +kernel, by decide +kernel⟩
theorem ok_is_number (T : G K mg) : FnOk P w K mg base CX0 1 T.f_is_number T.d_is_number ["thing"] (sp_is_number K) := by
  refine T.F_is_number.ok sc_is_number (fun vs H Q E h => ?_) (fun cdv A outer s H vs Q E hr h => ?_)
  · obtain ⟨v, s, rfl, ⟨ty, hs⟩, k⟩ := h
    rfl
  · obtain ⟨v, s, rfl, ⟨ty, hs⟩, k⟩ := h
    have hu := hu_of hr
    have nd := sc_is_number.nd
    refine ⟨_, (pss_one (ps_ret (pe_and (pe_callB call_isi (by rfl) T.n_isinstance (by decide +kernel) (pa_cons (pv 0) (pa_cons (pe_bltn (v := .ty "int") (by rfl) T.n_int (by decide +kernel) rfl) pa_nil))) (pe_one (pe_not (pe_callB call_isi (by rfl) T.n_isinstance (by decide +kernel) (pa_cons (pv 0) (pa_cons (pe_bltn (v := .ty "bool") (by rfl) T.n_bool (by decide +kernel) rfl) pa_nil)))))))), ?_⟩
    try dsimp only [L2.cxOf, L2.Cx.nox, L2.Cx.wish]
    rw [show L2.start ["thing"] [v] = [some (v)] from rfl]
    simp only [kinds7, List.mem_cons, List.not_mem_nil, or_false] at hs
    rcases hs with rfl | rfl | rfl | rfl | rfl | rfl | rfl
    all_goals (have t1 : Ty1 K H v _ := ⟨ty, by decide⟩)
    all_goals walk_at "go"
    all_goals exact k
local macro_rules | `(tactic| walk_at "st0") => `(tactic| ((with_reducible refine' c_is_number ?h ?_); (case h => walk_at "ty1")))
def within (v : V) (lo hi : Int) : Bool := match v with | .int i => decide (lo ≤ i) && decide (i ≤ hi) | _ => false
def sp_is_within (K : PySem.W.Frag) : Sp := fun vs H Q _ => ∃ (v : V) (s : String) (lo hi : Int), vs = [v, .int lo, .int hi] ∧ Ty1 K H v s ∧ Q (.bl (within v lo hi)) H
theorem c_is_within {K : PySem.W.Frag} {v : V} {s : String} {lo hi : Int} {H : Hp} {Q : VK} {E : XK} (h : Ty1 K H v s) (q : Q (.bl (within v lo hi)) H) : sp_is_within K [v, .int lo, .int hi] H Q E := ⟨v, s, lo, hi, rfl, h, q⟩
theorem within_not {K : PySem.W.Frag} {H : Hp} {v : V} {s : String} {lo hi : Int} (h : Ty1 K H v s) (n : (s == "int") = false) : within v lo hi = false := by
  cases v with
  | int i =>
    have : s = "int" := by
      obtain ⟨ty, _⟩ := h
      cases ty with
      | base b => cases b; rfl
    rw [this] at n
    exact absurd n (by decide)
  | _ => rfl
theorem sc_is_within : FnScope ["thing", "low", "high"] ["thing", "low", "high"] (defScope s_is_within) := ⟨rfl, rfl, rfl, by decide +kernel, rfl, by decide +kernel, by decide +kernel⟩
theorem ok_is_within (T : G K mg) : FnOk P w K mg base CX0 2 T.f_is_within T.d_is_within ["thing", "low", "high"] (sp_is_within K) := by
  refine T.F_is_within.ok sc_is_within (fun vs H Q E h => ?_) (fun cdv A outer s H vs Q E hr h => ?_)
  · obtain ⟨v, s, lo, hi, rfl, t1, k⟩ := h
    rfl
  · obtain ⟨v, s, lo, hi, rfl, t1, k⟩ := h
    have hu := hu_of hr
    have nd := sc_is_within.nd
    refine ⟨_, (pss_one (ps_ret (pe_and (pe_call (ok_is_number T) (hr.mono (by decide)) rfl T.g_is_number T.F_is_number.kp T.b_is_number .nil pass0 (pa_cons (pv 0) pa_nil)) (pe_one (pe_chain op_le op_le (pv 1) (pv 0) (pv 2)))))), ?_⟩
    try dsimp only [L2.cxOf, L2.Cx.nox, L2.Cx.wish]
    rw [show L2.start ["thing", "low", "high"] [v, V.int lo, V.int hi] = [some (v), some (V.int lo), some (V.int hi)] from rfl]
    walk_at "go"
    refine x_bool (fun e => ?_) (fun e => ?_)
    · obtain rfl : s = "int" := by simpa using e
      obtain ⟨i, rfl⟩ := t1.isInt
      walk_at "go"
      refine x_dec (fun z => ?_) (fun z => ?_)
      · walk_at "go"
        have : within (.int i) lo hi = decide (i ≤ hi) := by
          show (decide (lo ≤ i) && decide (i ≤ hi)) = _
          rw [decide_eq_true z]; rfl
        rw [this] at k
        exact k
      · have : within (.int i) lo hi = false := by
          show (decide (lo ≤ i) && decide (i ≤ hi)) = _
          rw [decide_eq_false z]; rfl
        rw [this] at k
        exact k
    · rw [within_not t1 e] at k
      exact k
local macro_rules | `(tactic| walk_at "st0") => `(tactic| ((with_reducible refine' c_is_within ?h ?_); (case h => walk_at "ty1")))
def sp_is_page (K : PySem.W.Frag) : Sp := fun vs H Q _ => ∃ (v : V) (s : String), vs = [v] ∧ Ty1 K H v s ∧ Q (.bl (within v 0 31)) H
theorem c_is_page {K : PySem.W.Frag} {v : V} {s : String} {H : Hp} {Q : VK} {E : XK} (h : Ty1 K H v s) (q : Q (.bl (within v 0 31)) H) : sp_is_page K [v] H Q E := ⟨v, s, rfl, h, q⟩
theorem sc_is_page : FnScope ["thing"] ["thing"] (defScope s_is_page) := ⟨rfl, rfl, rfl, by decide +kernel, rfl, by decide +kernel, by decide +kernel⟩
theorem ok_is_page (T : G K mg) : FnOk P w K mg base CX0 3 T.f_is_page T.d_is_page ["thing"] (sp_is_page K) := by
  refine T.F_is_page.ok sc_is_page (fun vs H Q E h => ?_) (fun cdv A outer s H vs Q E hr h => ?_)
  · obtain ⟨v, s, rfl, t1, k⟩ := h
    rfl
  · obtain ⟨v, s, rfl, t1, k⟩ := h
    have hu := hu_of hr
    have nd := sc_is_page.nd
    refine ⟨_, (pss_one (ps_ret (pe_call (ok_is_within T) (hr.mono (by decide)) rfl T.g_is_within T.F_is_within.kp T.b_is_within .nil pass0 (pa_cons (pv 0) (pa_cons pe_int (pa_cons (pe_op op_sub (pe_glob rfl T.g_PAGES.2 T.g_PAGES.1) pe_int) pa_nil)))))), ?_⟩
    try dsimp only [L2.cxOf, L2.Cx.nox, L2.Cx.wish]
    rw [show L2.start ["thing"] [v] = [some (v)] from rfl]
    walk_at "go"
    exact k
local macro_rules | `(tactic| walk_at "st0") => `(tactic| ((with_reducible refine' c_is_page ?h ?_); (case h => walk_at "ty1")))
def inP (n : Int) : Prop := 0 ≤ n ∧ n ≤ 31
theorem within_p {n : Int} : within (.int n) 0 31 = true ↔ inP n := by unfold within inP; simp
def sp_check (CB : Addr) : Sp := fun vs H Q E => ∃ n : Int, vs = [.int n] ∧ (inP n → Q .non H) ∧ (¬ inP n → ∀ d, H d = none → E (.ref CB) (some d) (upd H d (.xd [(("what" : Str), .int n)])))
theorem c_check {CB : Addr} {n : Int} {H : Hp} {Q : VK} {E : XK} (h : inP n → Q .non H) (h2 : ¬ inP n → ∀ d, H d = none → E (.ref CB) (some d) (upd H d (.xd [(("what" : Str), .int n)]))) : sp_check CB [.int n] H Q E := ⟨n, rfl, h, h2⟩
theorem sc__check_page : FnScope ["page"] ["page"] (defScope s__check_page) := ⟨rfl, rfl, rfl, by decide +kernel, rfl, by decide +kernel, by decide +kernel⟩
theorem ok__check_page (T : G K mg) : FnOk P w K mg base (L2.CX P w) 4 T.f__check_page T.d__check_page ["page"] (sp_check T.C_BadPage) := by
  refine T.F__check_page.okX sc__check_page (fun vs H Q E h => ?_) (fun cdv A outer s H vs Q E hr h => ?_)
  · obtain ⟨n, rfl, k1, k2⟩ := h
    rfl
  · obtain ⟨n, rfl, k1, k2⟩ := h
    have hu := hu_of hr
    have nd := sc__check_page.nd
    refine ⟨_, (pss_one (ps_if (pt_not (pt_val (pe_call (ok_is_page T) (hr.mono (by decide)) rfl T.g_is_page T.F_is_page.kp T.b_is_page .nil pass0 (pa_cons (pv 0) pa_nil)))) (pss_one (ps_raise rfl (takes_of rfl rfl rfl rfl) (pmk_oex T.x_BadPage.oex T.x_BadPage.init T.t_init (ok_Refused___init__ T) (hr.mono (by decide)) T.b_Refused___init__ .nil pass0 rfl T.x_BadPage.g (pa_cons (pv 0) pa_nil)))) pss_nil)), ?_⟩
    have hf0 := T.x_BadPage
    try dsimp only [L2.cxOf, L2.Cx.nox, L2.Cx.wish]
    rw [show L2.start ["page"] [V.int n] = [some (V.int n)] from rfl]
    walk_at "go"
    refine x_boolN (fun e => ?_) (fun e => ?_)
    · walk_at "go"
      exact k2 (fun z => by rw [within_p.mpr z] at e; cases e) _ (by assumption)
    · walk_at "go"
      exact k1 (within_p.mp e)
local macro_rules | `(tactic| walk_at "st0") => `(tactic| (with_reducible refine' c_check (fun hz_ => ?_) (fun hz_ => ?_)))
structure DS where
  f : V
  fr : List (Key × V)
  t : Str
  s : Int
  sh : Str
  w : Int
def fls (f : V) (d : Addr) (t : Str) (s : Int) (sh : Str) (w : Int) : List (Str × V) := [(("_fuse" : Str), f), ("_frames", .ref d), ("_tape", .str t), ("_safe", .int s), ("_shelf", .str sh), ("_writes", .int w)]
def FuseOk (v : V) : Prop := v = .non ∨ ∃ n, v = .int n
structure DiskAt (C : Addr) (H : Hp) (p d : Addr) (S : DS) : Prop where
  ob : ∃ dx, H p = some (.ins C dx [(("_fuse" : Str), S.f), ("_frames", .ref d), ("_tape", .str S.t), ("_safe", .int S.s), ("_shelf", .str S.sh), ("_writes", .int S.w)])
  fr : H d = some (.dK S.fr)
  fk : FuseOk S.f
def new0 (f : V) : DS := ⟨f, [], "", 0, "", 0⟩
def sp_init (C CB : Addr) : Sp := fun vs H Q E => ∃ (p dx : Addr) (f : V), vs = [.ref p, f] ∧ H p = some (.ins C dx []) ∧ FuseOk f ∧
  ((∀ n, f = .int n → 0 ≤ n) → ∀ d H', H d = none → DiskAt C H' p d (new0 f) → Stay [p] H H' → Q .non H') ∧
  (∀ n, f = .int n → n < 0 → ∀ e, H e = none → E (.ref CB) (some e) (upd H e (.xd [(("what" : Str), .int n)])))
theorem sc_Disk___init__ : FnScope ["self", "fuse"] ["self", "fuse"] (defScope s_Disk___init__) := ⟨rfl, rfl, rfl, by decide +kernel, rfl, by decide +kernel, by decide +kernel⟩
theorem ok_Disk___init__ (T : G K mg) : FnOk P w K mg base (L2.CX P w) 3 T.f_Disk___init__ T.d_Disk___init__ ["self", "fuse"] (sp_init T.C_Disk T.C_BadNumber) := by
  refine T.F_Disk___init__.ok sc_Disk___init__ (fun vs H Q E h => ?_) (fun cdv A outer s H vs Q E hr h => ?_)
  · obtain ⟨p, dx, f, rfl, hp, fk, k1, k2⟩ := h
    rfl
  · obtain ⟨p, dx, f, rfl, hp, fk, k1, k2⟩ := h
    have hu := hu_of hr
    have nd := sc_Disk___init__.nd
    refine ⟨_, (pss_cons (ps_if (PW.pt (pw_and (pt_cmpR op_notN (pv 1) pe_non (nomark _)) (pw_and1 (PW.pt (pw_or (pt_not (pt_val (pe_call (ok_is_number T) (hr.mono (by decide)) rfl T.g_is_number T.F_is_number.kp T.b_is_number .nil pass0 (pa_cons (pv 1) pa_nil)))) (pw_or1 (pt_cmpR op_lt (pv 1) pe_int (nomark _)))))))) (pss_one (ps_raise rfl (takes_of rfl rfl rfl rfl) (pmk_oex T.x_BadNumber.oex T.x_BadNumber.init T.t_init (ok_Refused___init__ T) (hr.mono (by decide)) T.b_Refused___init__ .nil pass0 rfl T.x_BadNumber.g (pa_cons (pv 1) pa_nil)))) pss_nil)
        (pss_cons (ps_fld (pv 0) (pv 1) rfl)
        (pss_cons (ps_fld (pv 0) pe_dnewK rfl)
        (pss_cons (ps_fld (pv 0) pe_str rfl)
        (pss_cons (ps_fld (pv 0) pe_int rfl)
        (pss_cons (ps_fld (pv 0) pe_str rfl)
        (pss_one (ps_fld (pv 0) pe_int rfl)))))))), ?_⟩
    have hf0 := T.x_BadNumber
    have hf1 := T.c_Disk
    have hf2 := T.a_Disk_fuse
    have hf3 := T.a_Disk_frames
    have hf4 := T.a_Disk_tape
    have hf5 := T.a_Disk_safe
    have hf6 := T.a_Disk_shelf
    have hf7 := T.a_Disk_writes
    try dsimp only [L2.cxOf, L2.Cx.nox, L2.Cx.wish]
    rw [show L2.start ["self", "fuse"] [V.ref p, f] = [some (V.ref p), some (f)] from rfl]
    rcases fk with rfl | ⟨n, rfl⟩
    · walk_at "gs"
      refine k1 (fun n z => by cases z) _ _ (by assumption) ⟨⟨_, by walk_at "hpd"⟩, by walk_at "hpd", .inl rfl⟩ (by walk_at "fr")
    · walk_at "gs"
      · exact k2 n rfl (by assumption) _ (by assumption)
      · refine k1 (fun m e => ?_) _ _ (by assumption) ⟨⟨_, by walk_at "hpd"⟩, by walk_at "hpd", .inr ⟨n, rfl⟩⟩ (by walk_at "fr")
        cases e; omega
def sp_tape (C : Addr) : Sp := fun vs H Q _ => ∃ (p d : Addr) (S : DS), vs = [.ref p] ∧ DiskAt C H p d S ∧ Q (.str S.t) H
theorem c_tape {C p d : Addr} {S : DS} {H : Hp} {Q : VK} {E : XK} (h : DiskAt C H p d S) (q : Q (.str S.t) H) : sp_tape C [.ref p] H Q E := ⟨p, d, S, rfl, h, q⟩
theorem sc_Disk_tape : FnScope ["self"] ["self"] (defScope s_Disk_tape) := ⟨rfl, rfl, rfl, by decide +kernel, rfl, by decide +kernel, by decide +kernel⟩
theorem ok_Disk_tape (T : G K mg) : FnOk P w K mg base CX0 1 T.f_Disk_tape T.d_Disk_tape ["self"] (sp_tape T.C_Disk) := by
  refine T.F_Disk_tape.ok sc_Disk_tape (fun vs H Q E h => ?_) (fun cdv A outer s H vs Q E hr h => ?_)
  · obtain ⟨p, d, S, rfl, ⟨⟨dx, h1⟩, h2, fk⟩, k⟩ := h
    rfl
  · obtain ⟨p, d, S, rfl, ⟨⟨dx, h1⟩, h2, fk⟩, k⟩ := h
    have hu := hu_of hr
    have nd := sc_Disk_tape.nd
    refine ⟨_, (pss_one (ps_ret (pe_fld (pv 0) rfl))), ?_⟩
    have hf0 := T.c_Disk
    have hf1 := T.a_Disk_fuse
    have hf2 := T.a_Disk_frames
    have hf3 := T.a_Disk_tape
    have hf4 := T.a_Disk_safe
    have hf5 := T.a_Disk_shelf
    have hf6 := T.a_Disk_writes
    try dsimp only [L2.cxOf, L2.Cx.nox, L2.Cx.wish]
    rw [show L2.start ["self"] [V.ref p] = [some (V.ref p)] from rfl]
    walk_at "go"
    exact k
local macro_rules | `(tactic| walk_at "st0") => `(tactic| ((with_reducible refine' c_tape ?h ?_); (case h => with_reducible assumption)))
def sp_safe (C : Addr) : Sp := fun vs H Q _ => ∃ (p d : Addr) (S : DS), vs = [.ref p] ∧ DiskAt C H p d S ∧ Q (.int S.s) H
theorem c_safe {C p d : Addr} {S : DS} {H : Hp} {Q : VK} {E : XK} (h : DiskAt C H p d S) (q : Q (.int S.s) H) : sp_safe C [.ref p] H Q E := ⟨p, d, S, rfl, h, q⟩
theorem sc_Disk_safe : FnScope ["self"] ["self"] (defScope s_Disk_safe) := ⟨rfl, rfl, rfl, by decide +kernel, rfl, by decide +kernel, by decide +kernel⟩
theorem ok_Disk_safe (T : G K mg) : FnOk P w K mg base CX0 1 T.f_Disk_safe T.d_Disk_safe ["self"] (sp_safe T.C_Disk) := by
  refine T.F_Disk_safe.ok sc_Disk_safe (fun vs H Q E h => ?_) (fun cdv A outer s H vs Q E hr h => ?_)
  · obtain ⟨p, d, S, rfl, ⟨⟨dx, h1⟩, h2, fk⟩, k⟩ := h
    rfl
  · obtain ⟨p, d, S, rfl, ⟨⟨dx, h1⟩, h2, fk⟩, k⟩ := h
    have hu := hu_of hr
    have nd := sc_Disk_safe.nd
    refine ⟨_, (pss_one (ps_ret (pe_fld (pv 0) rfl))), ?_⟩
    have hf0 := T.c_Disk
    have hf1 := T.a_Disk_fuse
    have hf2 := T.a_Disk_frames
    have hf3 := T.a_Disk_tape
    have hf4 := T.a_Disk_safe
    have hf5 := T.a_Disk_shelf
    have hf6 := T.a_Disk_writes
    try dsimp only [L2.cxOf, L2.Cx.nox, L2.Cx.wish]
    rw [show L2.start ["self"] [V.ref p] = [some (V.ref p)] from rfl]
    walk_at "go"
    exact k
local macro_rules | `(tactic| walk_at "st0") => `(tactic| ((with_reducible refine' c_safe ?h ?_); (case h => with_reducible assumption)))
def sp_shelf (C : Addr) : Sp := fun vs H Q _ => ∃ (p d : Addr) (S : DS), vs = [.ref p] ∧ DiskAt C H p d S ∧ Q (.str S.sh) H
theorem c_shelf {C p d : Addr} {S : DS} {H : Hp} {Q : VK} {E : XK} (h : DiskAt C H p d S) (q : Q (.str S.sh) H) : sp_shelf C [.ref p] H Q E := ⟨p, d, S, rfl, h, q⟩
theorem sc_Disk_shelf : FnScope ["self"] ["self"] (defScope s_Disk_shelf) := ⟨rfl, rfl, rfl, by decide +kernel, rfl, by decide +kernel, by decide +kernel⟩
theorem ok_Disk_shelf (T : G K mg) : FnOk P w K mg base CX0 1 T.f_Disk_shelf T.d_Disk_shelf ["self"] (sp_shelf T.C_Disk) := by
  refine T.F_Disk_shelf.ok sc_Disk_shelf (fun vs H Q E h => ?_) (fun cdv A outer s H vs Q E hr h => ?_)
  · obtain ⟨p, d, S, rfl, ⟨⟨dx, h1⟩, h2, fk⟩, k⟩ := h
    rfl
  · obtain ⟨p, d, S, rfl, ⟨⟨dx, h1⟩, h2, fk⟩, k⟩ := h
    have hu := hu_of hr
    have nd := sc_Disk_shelf.nd
    refine ⟨_, (pss_one (ps_ret (pe_fld (pv 0) rfl))), ?_⟩
    have hf0 := T.c_Disk
    have hf1 := T.a_Disk_fuse
    have hf2 := T.a_Disk_frames
    have hf3 := T.a_Disk_tape
    have hf4 := T.a_Disk_safe
    have hf5 := T.a_Disk_shelf
    have hf6 := T.a_Disk_writes
    try dsimp only [L2.cxOf, L2.Cx.nox, L2.Cx.wish]
    rw [show L2.start ["self"] [V.ref p] = [some (V.ref p)] from rfl]
    walk_at "go"
    exact k
local macro_rules | `(tactic| walk_at "st0") => `(tactic| ((with_reducible refine' c_shelf ?h ?_); (case h => with_reducible assumption)))
def sp_writes (C : Addr) : Sp := fun vs H Q _ => ∃ (p d : Addr) (S : DS), vs = [.ref p] ∧ DiskAt C H p d S ∧ Q (.int S.w) H
theorem c_writes {C p d : Addr} {S : DS} {H : Hp} {Q : VK} {E : XK} (h : DiskAt C H p d S) (q : Q (.int S.w) H) : sp_writes C [.ref p] H Q E := ⟨p, d, S, rfl, h, q⟩
theorem sc_Disk_writes : FnScope ["self"] ["self"] (defScope s_Disk_writes) := ⟨rfl, rfl, rfl, by decide +kernel, rfl, by decide +kernel, by decide +kernel⟩
theorem ok_Disk_writes (T : G K mg) : FnOk P w K mg base CX0 1 T.f_Disk_writes T.d_Disk_writes ["self"] (sp_writes T.C_Disk) := by
  refine T.F_Disk_writes.ok sc_Disk_writes (fun vs H Q E h => ?_) (fun cdv A outer s H vs Q E hr h => ?_)
  · obtain ⟨p, d, S, rfl, ⟨⟨dx, h1⟩, h2, fk⟩, k⟩ := h
    rfl
  · obtain ⟨p, d, S, rfl, ⟨⟨dx, h1⟩, h2, fk⟩, k⟩ := h
    have hu := hu_of hr
    have nd := sc_Disk_writes.nd
    refine ⟨_, (pss_one (ps_ret (pe_fld (pv 0) rfl))), ?_⟩
    have hf0 := T.c_Disk
    have hf1 := T.a_Disk_fuse
    have hf2 := T.a_Disk_frames
    have hf3 := T.a_Disk_tape
    have hf4 := T.a_Disk_safe
    have hf5 := T.a_Disk_shelf
    have hf6 := T.a_Disk_writes
    try dsimp only [L2.cxOf, L2.Cx.nox, L2.Cx.wish]
    rw [show L2.start ["self"] [V.ref p] = [some (V.ref p)] from rfl]
    walk_at "go"
    exact k
local macro_rules | `(tactic| walk_at "st0") => `(tactic| ((with_reducible refine' c_writes ?h ?_); (case h => with_reducible assumption)))
def sp_frame (C CB : Addr) : Sp := fun vs H Q E => ∃ (p d : Addr) (S : DS) (n : Int), vs = [.ref p, .int n] ∧ DiskAt C H p d S ∧ (inP n → Q ((valV S.fr (Sum.inl n)).getD .non) H) ∧ (¬ inP n → ∀ d, H d = none → E (.ref CB) (some d) (upd H d (.xd [(("what" : Str), .int n)])))
theorem c_frame {C CB p d : Addr} {S : DS} {n : Int} {H : Hp} {Q : VK} {E : XK} (h : DiskAt C H p d S) (q : inP n → Q ((valV S.fr (Sum.inl n)).getD .non) H) (q2 : ¬ inP n → ∀ d, H d = none → E (.ref CB) (some d) (upd H d (.xd [(("what" : Str), .int n)]))) : sp_frame C CB [.ref p, .int n] H Q E := ⟨p, d, S, n, rfl, h, q, q2⟩
theorem sc_Disk_frame : FnScope ["self", "page"] ["self", "page"] (defScope s_Disk_frame) := ⟨rfl, rfl, rfl, by decide +kernel, rfl, by decide +kernel, by decide +kernel⟩
theorem ok_Disk_frame (T : G K mg) : FnOk P w K mg base (L2.CX P w) 5 T.f_Disk_frame T.d_Disk_frame ["self", "page"] (sp_frame T.C_Disk T.C_BadPage) := by
  refine T.F_Disk_frame.okX sc_Disk_frame (fun vs H Q E h => ?_) (fun cdv A outer s H vs Q E hr h => ?_)
  · obtain ⟨p, d, S, n, rfl, ⟨⟨dx, h1⟩, h2, fk⟩, k1, k2⟩ := h
    rfl
  · obtain ⟨p, d, S, n, rfl, ⟨⟨dx, h1⟩, h2, fk⟩, k1, k2⟩ := h
    have hu := hu_of hr
    have nd := sc_Disk_frame.nd
    refine ⟨_, (pss_cons (ps_expr (pe_call (ok__check_page T) (hr.mono (by decide)) rfl T.g__check_page T.F__check_page.kp T.b__check_page .nil (passes_call (takes_of rfl rfl rfl rfl) (fun _ _ _ _ z => z)) (pa_cons (pv 1) pa_nil)))
        (pss_one (ps_ret (pe_dget1 hu (pe_fld (pv 0) rfl) (pv 1) ⟨rfl, rfl, rfl, rfl⟩)))), ?_⟩
    have hf0 := T.c_Disk
    have hf1 := T.a_Disk_fuse
    have hf2 := T.a_Disk_frames
    have hf3 := T.a_Disk_tape
    have hf4 := T.a_Disk_safe
    have hf5 := T.a_Disk_shelf
    have hf6 := T.a_Disk_writes
    try dsimp only [L2.cxOf, L2.Cx.nox, L2.Cx.wish]
    rw [show L2.start ["self", "page"] [V.ref p, V.int n] = [some (V.ref p), some (V.int n)] from rfl]
    walk_at "gs"
    · exact k1 (by assumption)
    · exact k2 (by assumption)
def full (S : DS) (n : Int) : Prop := S.f = .int n ∧ n ≤ S.w
def sp_cw (C CF : Addr) : Sp := fun vs H Q E => ∃ (p d : Addr) (S : DS), vs = [.ref p] ∧ DiskAt C H p d S ∧ ((∀ n, ¬ full S n) → ∀ H', DiskAt C H' p d { S with w := S.w + 1 } → Stay [p] H H' → Q .non H') ∧
  (∀ n, full S n → ∀ e, H e = none → E (.ref CF) (some e) (upd H e (.xd [(("what" : Str), .int n)])))
theorem c_cw {C CF p d : Addr} {S : DS} {H : Hp} {Q : VK} {E : XK} (h : DiskAt C H p d S) (q : (∀ n, ¬ full S n) → ∀ H', DiskAt C H' p d { S with w := S.w + 1 } → Stay [p] H H' → Q .non H')
  (q2 : ∀ n, full S n → ∀ e, H e = none → E (.ref CF) (some e) (upd H e (.xd [(("what" : Str), .int n)]))) : sp_cw C CF [.ref p] H Q E := ⟨p, d, S, rfl, h, q, q2⟩
theorem sc_Disk__count_write : FnScope ["self"] ["self"] (defScope s_Disk__count_write) := ⟨rfl, rfl, rfl, by decide +kernel, rfl, by decide +kernel, by decide +kernel⟩
theorem ok_Disk__count_write (T : G K mg) : FnOk P w K mg base (L2.CX P w) 3 T.f_Disk__count_write T.d_Disk__count_write ["self"] (sp_cw T.C_Disk T.C_Fallen) := by
  refine T.F_Disk__count_write.okX sc_Disk__count_write (fun vs H Q E h => ?_) (fun cdv A outer s H vs Q E hr h => ?_)
  · obtain ⟨p, d, S, rfl, ⟨⟨dx, h1⟩, h2, fk⟩, k1, k2⟩ := h
    rfl
  · obtain ⟨p, d, S, rfl, ⟨⟨dx, h1⟩, h2, fk⟩, k1, k2⟩ := h
    have hu := hu_of hr
    have nd := sc_Disk__count_write.nd
    refine ⟨_, (pss_cons (ps_if (PW.pt (pw_and (pt_cmpR op_notN (pe_fld (pv 0) rfl) pe_non (nomark _)) (pw_and1 (pt_cmpR op_ge (pe_fld (pv 0) rfl) (pe_fld (pv 0) rfl) (nomark _))))) (pss_one (ps_raise rfl (takes_of rfl rfl rfl rfl) (pmk_oex T.x_Fallen.oex T.x_Fallen.init T.t_init (ok_Refused___init__ T) (hr.mono (by decide)) T.b_Refused___init__ .nil pass0 rfl T.x_Fallen.g (pa_cons (pe_fld (pv 0) rfl) pa_nil)))) pss_nil)
        (pss_one (ps_fld (pv 0) (pe_op op_add (pe_fld (pv 0) rfl) pe_int) rfl))), ?_⟩
    have hf0 := T.x_Fallen
    have hf1 := T.c_Disk
    have hf2 := T.a_Disk_fuse
    have hf3 := T.a_Disk_frames
    have hf4 := T.a_Disk_tape
    have hf5 := T.a_Disk_safe
    have hf6 := T.a_Disk_shelf
    have hf7 := T.a_Disk_writes
    try dsimp only [L2.cxOf, L2.Cx.nox, L2.Cx.wish]
    rw [show L2.start ["self"] [V.ref p] = [some (V.ref p)] from rfl]
    obtain ⟨f, fr, t, s, sh, w⟩ := S
    dsimp only at h1 h2 fk
    have npd : p ≠ d := ne_of h1 h2 (by intro z; cases z)
    rcases fk with rfl | ⟨n, rfl⟩
    · walk_at "gs"
      exact k1 (fun n z => by cases z.1) _ ⟨⟨_, by walk_at "hpd"⟩, by walk_at "hpd", .inl rfl⟩ (by walk_at "fr")
    · walk_at "gs"
      · exact k2 n ⟨rfl, by assumption⟩ _ (by assumption)
      · refine k1 (fun m z => ?_) _ ⟨⟨_, by walk_at "hpd"⟩, by walk_at "hpd", .inr ⟨n, rfl⟩⟩ (by walk_at "fr")
        obtain ⟨z1, z2⟩ := z
        cases z1
        dsimp only at z2
        omega
def sp_put (C CB CF : Addr) : Sp := fun vs H Q E => ∃ (p d : Addr) (S : DS) (n : Int) (t : Str), vs = [.ref p, .int n, .str t] ∧ DiskAt C H p d S ∧ S.fr.length ≤ 1000 ∧
  (inP n → (∀ m, ¬ full S m) → ∀ H', DiskAt C H' p d { S with w := S.w + 1, fr := putK S.fr (Sum.inl n) (.str t) } → Stay [p, d] H H' → Q .non H') ∧
  (inP n → ∀ m, full S m → ∀ e, H e = none → E (.ref CF) (some e) (upd H e (.xd [(("what" : Str), .int m)]))) ∧
  (¬ inP n → ∀ e, H e = none → E (.ref CB) (some e) (upd H e (.xd [(("what" : Str), .int n)])))
theorem sc_Disk_put_frame : FnScope ["self", "page", "text"] ["self", "page", "text"] (defScope s_Disk_put_frame) := ⟨rfl, rfl, rfl, by decide +kernel, rfl, by decide +kernel, by decide +kernel⟩
theorem ok_Disk_put_frame (T : G K mg) : FnOk P w K mg base (L2.CX P w) 5 T.f_Disk_put_frame T.d_Disk_put_frame ["self", "page", "text"] (sp_put T.C_Disk T.C_BadPage T.C_Fallen) := by
  refine T.F_Disk_put_frame.okX sc_Disk_put_frame (fun vs H Q E h => ?_) (fun cdv A outer s H vs Q E hr h => ?_)
  · obtain ⟨p, d, S, n, t, rfl, hS, hl, k1, k2, k3⟩ := h
    rfl
  · obtain ⟨p, d, S, n, t, rfl, hS, hl, k1, k2, k3⟩ := h
    have hu := hu_of hr
    have nd := sc_Disk_put_frame.nd
    refine ⟨_, (pss_cons (ps_expr (pe_call (ok__check_page T) (hr.mono (by decide)) rfl T.g__check_page T.F__check_page.kp T.b__check_page .nil (passes_call (takes_of rfl rfl rfl rfl) (fun _ _ _ _ z => z)) (pa_cons (pv 1) pa_nil)))
        (pss_cons (ps_expr (pe_meth0 (pv 0) T.c_Disk T.m_Disk__count_write (ok_Disk__count_write T) (hr.mono (by decide)) T.b_Disk__count_write .nil (passes_call (takes_of rfl rfl rfl rfl) (fun _ _ _ _ z => z))))
        (pss_one (ps_dput hu (pe_fld (pv 0) rfl) (pv 1) (pv 2) rfl)))), ?_⟩
    have hf0 := T.c_Disk
    have hf1 := T.a_Disk_fuse
    have hf2 := T.a_Disk_frames
    have hf3 := T.a_Disk_tape
    have hf4 := T.a_Disk_safe
    have hf5 := T.a_Disk_shelf
    have hf6 := T.a_Disk_writes
    try dsimp only [L2.cxOf, L2.Cx.nox, L2.Cx.wish]
    rw [show L2.start ["self", "page", "text"] [V.ref p, V.int n, V.str t] = [some (V.ref p), some (V.int n), some (V.str t)] from rfl]
    obtain ⟨⟨dx, h1⟩, h2, fk⟩ := id hS
    walk_at "gs"
    · refine c_cw hS (fun nf H1 hS1 fr1 => ?_) (k2 (by assumption))
      obtain ⟨⟨dx, h1⟩, h2, fk⟩ := hS1
      walk_at "go"
      have npd : p ≠ d := ne_of h1 h2 (by intro z; cases z)
      exact k1 (by assumption) nf _ ⟨⟨dx, by walk_at "hpd"⟩, by walk_at "hpd", fk⟩ (Stay.upd (fr1.weak (fun b hb => by simp at hb; simp [hb])) (by simp))
    · exact k3 (by assumption)
def sp_add (C CF : Addr) : Sp := fun vs H Q E => ∃ (p d : Addr) (S : DS) (t : Str), vs = [.ref p, .str t] ∧ DiskAt C H p d S ∧ S.t.length + t.length ≤ 100000 ∧
  ((∀ m, ¬ full S m) → ∀ H', DiskAt C H' p d { S with w := S.w + 1, t := S.t ++ t } → Stay [p] H H' → Q .non H') ∧
  (∀ m, full S m → ∀ e, H e = none → E (.ref CF) (some e) (upd H e (.xd [(("what" : Str), .int m)])))
theorem sc_Disk_add_tape : FnScope ["self", "text"] ["self", "text"] (defScope s_Disk_add_tape) := ⟨rfl, rfl, rfl, by decide +kernel, rfl, by decide +kernel, by decide +kernel⟩
theorem ok_Disk_add_tape (T : G K mg) : FnOk P w K mg base (L2.CX P w) 4 T.f_Disk_add_tape T.d_Disk_add_tape ["self", "text"] (sp_add T.C_Disk T.C_Fallen) := by
  refine T.F_Disk_add_tape.okX sc_Disk_add_tape (fun vs H Q E h => ?_) (fun cdv A outer s H vs Q E hr h => ?_)
  · obtain ⟨p, d, S, t, rfl, hS, hl, k1, k2⟩ := h
    rfl
  · obtain ⟨p, d, S, t, rfl, hS, hl, k1, k2⟩ := h
    have hu := hu_of hr
    have nd := sc_Disk_add_tape.nd
    refine ⟨_, (pss_cons (ps_expr (pe_meth0 (pv 0) T.c_Disk T.m_Disk__count_write (ok_Disk__count_write T) (hr.mono (by decide)) T.b_Disk__count_write .nil (passes_call (takes_of rfl rfl rfl rfl) (fun _ _ _ _ z => z))))
        (pss_one (ps_fld (pv 0) (pe_op op_add_str (pe_fld (pv 0) rfl) (pv 1)) rfl))), ?_⟩
    have hf0 := T.c_Disk
    have hf1 := T.a_Disk_fuse
    have hf2 := T.a_Disk_frames
    have hf3 := T.a_Disk_tape
    have hf4 := T.a_Disk_safe
    have hf5 := T.a_Disk_shelf
    have hf6 := T.a_Disk_writes
    try dsimp only [L2.cxOf, L2.Cx.nox, L2.Cx.wish]
    rw [show L2.start ["self", "text"] [V.ref p, V.str t] = [some (V.ref p), some (V.str t)] from rfl]
    obtain ⟨⟨dx, h1⟩, h2, fk⟩ := id hS
    walk_at "go"
    refine c_cw hS (fun nf H1 hS1 fr1 => ?_) k2
    have npd : p ≠ d := ne_of h1 h2 (by intro z; cases z)
    obtain ⟨⟨dx, h1⟩, h2, fk⟩ := hS1
    dsimp only at h1 h2
    walk_at "go"
    exact k1 nf _ ⟨⟨dx, by walk_at "hpd"⟩, by walk_at "hpd", fk⟩ (by walk_at "fr")
def sp_sync (C CF : Addr) : Sp := fun vs H Q E => ∃ (p d : Addr) (S : DS), vs = [.ref p] ∧ DiskAt C H p d S ∧ S.t.length ≤ 100000 ∧
  ((∀ m, ¬ full S m) → ∀ H', DiskAt C H' p d { S with w := S.w + 1, s := (S.t.length : Int) } → Stay [p] H H' → Q .non H') ∧
  (∀ m, full S m → ∀ e, H e = none → E (.ref CF) (some e) (upd H e (.xd [(("what" : Str), .int m)])))
theorem sc_Disk_sync : FnScope ["self"] ["self"] (defScope s_Disk_sync) := ⟨rfl, rfl, rfl, by decide +kernel, rfl, by decide +kernel, by decide +kernel⟩
theorem ok_Disk_sync (T : G K mg) : FnOk P w K mg base (L2.CX P w) 4 T.f_Disk_sync T.d_Disk_sync ["self"] (sp_sync T.C_Disk T.C_Fallen) := by
  refine T.F_Disk_sync.okX sc_Disk_sync (fun vs H Q E h => ?_) (fun cdv A outer s H vs Q E hr h => ?_)
  · obtain ⟨p, d, S, rfl, hS, hl, k1, k2⟩ := h
    rfl
  · obtain ⟨p, d, S, rfl, hS, hl, k1, k2⟩ := h
    have hu := hu_of hr
    have nd := sc_Disk_sync.nd
    refine ⟨_, (pss_cons (ps_expr (pe_meth0 (pv 0) T.c_Disk T.m_Disk__count_write (ok_Disk__count_write T) (hr.mono (by decide)) T.b_Disk__count_write .nil (passes_call (takes_of rfl rfl rfl rfl) (fun _ _ _ _ z => z))))
        (pss_one (ps_fld (pv 0) (pe_callB call_len_str (by rfl) T.n_len PySem.boot_len (pa_cons (pe_fld (pv 0) rfl) pa_nil)) rfl))), ?_⟩
    have hf0 := T.c_Disk
    have hf1 := T.a_Disk_fuse
    have hf2 := T.a_Disk_frames
    have hf3 := T.a_Disk_tape
    have hf4 := T.a_Disk_safe
    have hf5 := T.a_Disk_shelf
    have hf6 := T.a_Disk_writes
    try dsimp only [L2.cxOf, L2.Cx.nox, L2.Cx.wish]
    rw [show L2.start ["self"] [V.ref p] = [some (V.ref p)] from rfl]
    obtain ⟨⟨dx, h1⟩, h2, fk⟩ := id hS
    walk_at "go"
    refine c_cw hS (fun nf H1 hS1 fr1 => ?_) k2
    have npd : p ≠ d := ne_of h1 h2 (by intro z; cases z)
    obtain ⟨⟨dx, h1⟩, h2, fk⟩ := hS1
    dsimp only at h1 h2
    walk_at "go"
    exact k1 nf _ ⟨⟨dx, by walk_at "hpd"⟩, by walk_at "hpd", fk⟩ (by walk_at "fr")
def sp_put_shelf (C CF : Addr) : Sp := fun vs H Q E => ∃ (p d : Addr) (S : DS) (t : Str), vs = [.ref p, .str t] ∧ DiskAt C H p d S ∧ t.length ≤ 100000 ∧
  ((∀ m, ¬ full S m) → ∀ H', DiskAt C H' p d { S with w := S.w + 1, sh := t } → Stay [p] H H' → Q .non H') ∧
  (∀ m, full S m → ∀ e, H e = none → E (.ref CF) (some e) (upd H e (.xd [(("what" : Str), .int m)])))
theorem sc_Disk_put_shelf : FnScope ["self", "text"] ["self", "text"] (defScope s_Disk_put_shelf) := ⟨rfl, rfl, rfl, by decide +kernel, rfl, by decide +kernel, by decide +kernel⟩
theorem ok_Disk_put_shelf (T : G K mg) : FnOk P w K mg base (L2.CX P w) 4 T.f_Disk_put_shelf T.d_Disk_put_shelf ["self", "text"] (sp_put_shelf T.C_Disk T.C_Fallen) := by
  refine T.F_Disk_put_shelf.okX sc_Disk_put_shelf (fun vs H Q E h => ?_) (fun cdv A outer s H vs Q E hr h => ?_)
  · obtain ⟨p, d, S, t, rfl, hS, hl, k1, k2⟩ := h
    rfl
  · obtain ⟨p, d, S, t, rfl, hS, hl, k1, k2⟩ := h
    have hu := hu_of hr
    have nd := sc_Disk_put_shelf.nd
    refine ⟨_, (pss_cons (ps_expr (pe_meth0 (pv 0) T.c_Disk T.m_Disk__count_write (ok_Disk__count_write T) (hr.mono (by decide)) T.b_Disk__count_write .nil (passes_call (takes_of rfl rfl rfl rfl) (fun _ _ _ _ z => z))))
        (pss_one (ps_fld (pv 0) (pv 1) rfl))), ?_⟩
    have hf0 := T.c_Disk
    have hf1 := T.a_Disk_fuse
    have hf2 := T.a_Disk_frames
    have hf3 := T.a_Disk_tape
    have hf4 := T.a_Disk_safe
    have hf5 := T.a_Disk_shelf
    have hf6 := T.a_Disk_writes
    try dsimp only [L2.cxOf, L2.Cx.nox, L2.Cx.wish]
    rw [show L2.start ["self", "text"] [V.ref p, V.str t] = [some (V.ref p), some (V.str t)] from rfl]
    obtain ⟨⟨dx, h1⟩, h2, fk⟩ := id hS
    walk_at "go"
    refine c_cw hS (fun nf H1 hS1 fr1 => ?_) k2
    have npd : p ≠ d := ne_of h1 h2 (by intro z; cases z)
    obtain ⟨⟨dx, h1⟩, h2, fk⟩ := hS1
    dsimp only at h1 h2
    walk_at "go"
    exact k1 nf _ ⟨⟨dx, by walk_at "hpd"⟩, by walk_at "hpd", fk⟩ (by walk_at "fr")
def sp_cut_tape (C CF : Addr) : Sp := fun vs H Q E => ∃ (p d : Addr) (S : DS) (t : Str), vs = [.ref p, .str t] ∧ DiskAt C H p d S ∧ t.length ≤ 100000 ∧
  ((∀ m, ¬ full S m) → ∀ H', DiskAt C H' p d { S with w := S.w + 1, t := t, s := (t.length : Int) } → Stay [p] H H' → Q .non H') ∧
  (∀ m, full S m → ∀ e, H e = none → E (.ref CF) (some e) (upd H e (.xd [(("what" : Str), .int m)])))
theorem sc_Disk_cut_tape : FnScope ["self", "text"] ["self", "text"] (defScope s_Disk_cut_tape) := ⟨rfl, rfl, rfl, by decide +kernel, rfl, by decide +kernel, by decide +kernel⟩
theorem ok_Disk_cut_tape (T : G K mg) : FnOk P w K mg base (L2.CX P w) 4 T.f_Disk_cut_tape T.d_Disk_cut_tape ["self", "text"] (sp_cut_tape T.C_Disk T.C_Fallen) := by
  refine T.F_Disk_cut_tape.okX sc_Disk_cut_tape (fun vs H Q E h => ?_) (fun cdv A outer s H vs Q E hr h => ?_)
  · obtain ⟨p, d, S, t, rfl, hS, hl, k1, k2⟩ := h
    rfl
  · obtain ⟨p, d, S, t, rfl, hS, hl, k1, k2⟩ := h
    have hu := hu_of hr
    have nd := sc_Disk_cut_tape.nd
    refine ⟨_, (pss_cons (ps_expr (pe_meth0 (pv 0) T.c_Disk T.m_Disk__count_write (ok_Disk__count_write T) (hr.mono (by decide)) T.b_Disk__count_write .nil (passes_call (takes_of rfl rfl rfl rfl) (fun _ _ _ _ z => z))))
        (pss_cons (ps_fld (pv 0) (pv 1) rfl)
        (pss_one (ps_fld (pv 0) (pe_callB call_len_str (by rfl) T.n_len PySem.boot_len (pa_cons (pv 1) pa_nil)) rfl)))), ?_⟩
    have hf0 := T.c_Disk
    have hf1 := T.a_Disk_fuse
    have hf2 := T.a_Disk_frames
    have hf3 := T.a_Disk_tape
    have hf4 := T.a_Disk_safe
    have hf5 := T.a_Disk_shelf
    have hf6 := T.a_Disk_writes
    try dsimp only [L2.cxOf, L2.Cx.nox, L2.Cx.wish]
    rw [show L2.start ["self", "text"] [V.ref p, V.str t] = [some (V.ref p), some (V.str t)] from rfl]
    obtain ⟨⟨dx, h1⟩, h2, fk⟩ := id hS
    walk_at "go"
    refine c_cw hS (fun nf H1 hS1 fr1 => ?_) k2
    have npd : p ≠ d := ne_of h1 h2 (by intro z; cases z)
    obtain ⟨⟨dx, h1⟩, h2, fk⟩ := hS1
    dsimp only at h1 h2
    walk_at "go"
    exact k1 nf _ ⟨⟨dx, by walk_at "hpd"⟩, by walk_at "hpd", fk⟩ (by walk_at "fr")
end
end WD

namespace WD
open PySem PySem.Spec PyProof.Rows L2
-- p ≠ q of two addresses
local macro_rules | `(tactic| walk_at "ne") => `(tactic| first
  | with_reducible assumption
  | with_reducible exact Ne.symm (by assumption)
  | exact ne_some (by with_reducible assumption) (by with_reducible assumption)
  | exact Ne.symm (ne_some (by with_reducible assumption) (by with_reducible assumption)))
local macro_rules | `(tactic| walk_at "nm") => `(tactic| first | with_reducible assumption | with_reducible exact nm0 | ((with_reducible refine' nmS ?a ?b); (case a => walk_at "ne"); (case b => walk_at "nm")))
-- H p = some ?o
local macro_rules | `(tactic| walk_at "hp") => `(tactic| first
  | with_reducible exact upd_same
  | with_reducible assumption
  | ((with_reducible refine' Eq.trans (upd_ne ?a) ?b); (case a => walk_at "ne"); (case b => walk_at "hp"))
  | exact Stay.keep (by with_reducible assumption) _ _ (by walk_at "hp") (by walk_at "nm"))
local macro_rules | `(tactic| walk_at "hpd") => `(tactic| ((refine' Eq.trans ?h ?e); (case h => walk_at "hp"); (case e => exact rfl)))
-- a new address
local macro_rules | `(tactic| walk_at "nw") => `(tactic| ((repeat first | (with_reducible refine' nw_upd ?_) | refine' nw_fr (by with_reducible assumption) ?_); intro p_; intros))
local macro_rules | `(tactic| walk_at "mem") => `(tactic| first | exact List.mem_cons_self | (refine' List.mem_cons_of_mem _ ?_; walk_at "mem"))
-- what stands stays
local macro_rules | `(tactic| walk_at "fr") => `(tactic| first
  | with_reducible assumption
  | exact Stay.refl _ _
  | ((with_reducible refine' Stay.upd ?a ?b); (case a => walk_at "fr"); (case b => walk_at "mem"))
  | ((with_reducible refine' Stay.new ?a ?b); (case b => with_reducible assumption); (case a => walk_at "fr"))
  | (refine' Stay.trans ?_ (by with_reducible assumption); walk_at "fr"))
local macro_rules | `(tactic| walk_at "sq") => `(tactic| first | with_reducible assumption | exact SqL.of (by walk_at "hp"))
local macro_rules | `(tactic| walk_at "sqt") => `(tactic| first | with_reducible assumption | exact SqT.of (by walk_at "hp"))
-- side goals
local macro_rules | `(tactic| walk_at "sd") => `(tactic| first
  | with_reducible assumption | with_reducible rfl | (show _ ≤ sizeLine; decide) | (refine Nat.le_trans (Nat.le_of_ble_eq_true (m := 1000) rfl) (by decide)) | decide | omega
  | exact IntMulOk.of_right (intBits_le_64 (by omega) (by omega)) | exact IntMulOk.of_left (intBits_le_64 (by omega) (by omega))
  | (refine' Or.inl ⟨?_, ?_⟩ <;> omega) | (refine' Or.inr ⟨?_, ?_⟩ <;> omega)
  | (refine' ⟨?_, ?_⟩ <;> walk_at "sd") | (refine' ⟨?_, ?_, ?_⟩ <;> walk_at "sd"))
local macro_rules | `(tactic| walk_at "set") => `(tactic| first | with_reducible exact set0 | with_reducible exact set1 | with_reducible exact set2 | with_reducible exact set3 | with_reducible exact set4 | with_reducible exact set5 | with_reducible exact set6 | with_reducible exact set7 | with_reducible exact set8 | with_reducible exact set9 | with_reducible exact set10 | with_reducible exact set11 | with_reducible exact set12 | with_reducible exact set13 | with_reducible exact set14 | with_reducible exact set15 | with_reducible exact set16 | with_reducible exact set17 | with_reducible exact set18 | with_reducible exact set19 | with_reducible exact set20)
-- one step
local macro_rules | `(tactic| walk_at "st0") => `(tactic| first
  | with_reducible refine' x_seq ?_
  | with_reducible refine' x_next ?_
  | with_reducible refine' x_ifS ?_
  | with_reducible refine' x_asg ?_
  | with_reducible refine' x_ret ?_
  | with_reducible refine' x_retN ?_
  | with_reducible refine' x_drop ?_
  | with_reducible refine' x_brk ?_
  | with_reducible refine' x_cont ?_
  | ((with_reducible refine' x_gName ?e ?_); (case e => walk_at "set"))
  | with_reducible refine' x_gSub ?_
  | with_reducible refine' x_gCons ?_
  | with_reducible refine' x_gNil ?_
  | with_reducible refine' x_c ?_
  | ((with_reducible refine' x_var ?e ?_); (case e => exact rfl))
  | with_reducible refine' x_op ?_
  | with_reducible refine' x_un ?_
  | with_reducible refine' x_if ?_
  | with_reducible refine' x_cb ?_
  | with_reducible refine' x_cons ?_
  | with_reducible refine' x_nil ?_
  | with_reducible refine' x_bm0 ?_
  | with_reducible refine' x_bm ?_
  | with_reducible refine' x_tup ?_
  | with_reducible refine' x_lst ?_
  | ((with_reducible refine' And.intro (a := _ ≤ sizeLine) ?e ?_); (case e => walk_at "sd"); walk_at "nw")
  | with_reducible refine' x_fld ?_
  | with_reducible refine' x_test ?_
  | with_reducible refine' x_tB ?_
  | with_reducible refine' x_and ?_
  | with_reducible refine' x_or ?_
  | with_reducible refine' x_not ?_
  | with_reducible refine' x_notV ?_
  | with_reducible refine' x_andV ?_
  | with_reducible refine' x_orV ?_
  | with_reducible refine' x_rI0 ?_
  | ((with_reducible refine' x_rI ?e ?_); (case e => walk_at "sd"))
  | with_reducible refine' x_rU ?_
  | ((with_reducible refine' x_rEq ?e ?_); (case e => exact rfl))
  | ((with_reducible refine' x_rNe ?e ?_); (case e => exact rfl))
  | ((with_reducible refine' x_ixL0 ?h ?_); (case h => walk_at "sq"))
  | ((with_reducible refine' x_ixL1 ?h ?_); (case h => walk_at "sq"))
  | ((with_reducible refine' x_ixL2 ?h ?_); (case h => walk_at "sq"))
  | ((with_reducible refine' x_ixL0I ?h ?_); (case h => walk_at "sq"))
  | ((with_reducible refine' x_ixL ?h ?e ?_); (case h => walk_at "sq"); (case e => exact rfl))
  | ((with_reducible refine' x_neNil ?h ?h2 ?_); (case h => walk_at "sq"); (case h2 => walk_at "sq"))
  | ((with_reducible refine' x_pop0I ?h ?_); (case h => walk_at "hp"))
  | ((with_reducible refine' x_pop0 ?h ?_); (case h => walk_at "hp"))
  | ((with_reducible refine' x_setL0 ?h ?_); (case h => walk_at "hp"))
  | ((with_reducible refine' x_setL1 ?h ?_); (case h => walk_at "hp"))
  | ((with_reducible refine' x_setL2 ?h ?_); (case h => walk_at "hp"))
  | ((with_reducible refine' x_setL ?h ?e ?_); (case h => walk_at "hp"); (case e => exact rfl))
  | with_reducible refine' .inl ⟨_, rfl, ?_⟩
  | ((with_reducible refine' x_tyL ?h ?_); (case h => walk_at "sq"))
  | with_reducible refine' ⟨_, rfl, ?_⟩)
-- a split
local macro_rules | `(tactic| walk_at "if") => `(tactic| (
  first
  | (with_reducible refine' x_dec (fun h_ => ?_) (fun h_ => ?_))
  | (with_reducible refine' x_decN (fun h_ => ?_) (fun h_ => ?_))
  | (with_reducible refine' x_boolN (fun h_ => ?_) (fun h_ => ?_))
  | (with_reducible refine' x_bool (fun h_ => ?_) (fun h_ => ?_))))
local macro_rules | `(tactic| walk_at "ifs") => `(tactic| (walk_at "if" <;> first
  | (exfalso; first | omega | contradiction)
  | (rename_i h_; (try simp only [BEq.rfl, List.length_map, List.length_cons, List.length_nil, Int.natCast_zero, Int.ofNat_zero, gt_iff_lt, Int.lt_irrefl, Bool.true_eq_false, Bool.false_eq_true, List.isEmpty_nil, List.isEmpty_cons, V.int.injEq, V.str.injEq, V.bl.injEq, reduceCtorEq, not_false_eq_true, not_true_eq_false] at h_); (try (exfalso; omega)))))
local macro_rules | `(tactic| walk_at "ite1") => `(tactic| first
  | with_reducible refine' x_T ?_
  | with_reducible refine' x_F ?_
  | with_reducible refine' x_nT ?_
  | with_reducible refine' x_nF ?_
  | ((with_reducible refine' x_bT ?e ?_); (case e => first | decide | decide +kernel))
  | ((with_reducible refine' x_bF ?e ?_); (case e => first | decide | decide +kernel)))
local macro_rules | `(tactic| walk_at "st") => `(tactic| ((fail_if_success (with_reducible (show (if _ then _ else _)))); walk_at "st0"))
local macro_rules | `(tactic| walk_at "go") => `(tactic| repeat first | walk_at "ite1" | walk_at "st")
local macro_rules | `(tactic| walk_at "gs") => `(tactic| repeat' first | walk_at "ite1" | walk_at "st" | walk_at "ifs")
local macro_rules | `(tactic| walk_at "sz") => `(tactic| first | with_reducible assumption | (refine Nat.le_trans (by assumption) (by decide : 100000 ≤ sizeLine)) | (refine Nat.le_trans (m := 100000) ?_ (by decide); (try simp only [len_add, rep_len]); (try rw [show (Str.ofString "z").length = 1 from rfl]); omega))
local macro_rules | `(tactic| walk_at "hn") => `(tactic| first | with_reducible assumption)
local macro_rules | `(tactic| walk_at "sqo") => `(tactic| first | exact Or.inl (by walk_at "sq") | exact Or.inr (by walk_at "sqt"))
local macro_rules | `(tactic| walk_at "ty1") => `(tactic| first | with_reducible assumption | exact Ty1.int _ | exact Ty1.str _ | exact Ty1.bl _ | exact Ty1.non | exact Ty1.tup (by walk_at "hp") | exact Ty1.lst (by walk_at "hp"))
local macro_rules | `(tactic| walk_at "st2") => `(tactic| first
  | with_reducible refine' And.intro (a := V.non = V.non) rfl ?_
  | with_reducible refine' x_call0 ?_
  | with_reducible refine' x_callS ?_
  | with_reducible refine' x_meth0 ?_
  | with_reducible refine' x_methW0 ?_
  | with_reducible refine' x_make0 ?_
  | with_reducible refine' x_makeW0 ?_
  | with_reducible refine' x_sFld ?_
  | with_reducible refine' x_mkO ?_
  | with_reducible refine' x_chain ?_
  | with_reducible refine' x_dget ?_
  | with_reducible refine' x_dget1 ?_
  | with_reducible refine' x_dget2 ?_
  | with_reducible refine' x_sDPut ?_
  | with_reducible refine' x_pairs ?_
  | with_reducible refine' x_pairs0 ?_
  | with_reducible refine' x_sl ?_
  | with_reducible refine' x_noPart ?_
  | with_reducible refine' x_part ?_
  | ((with_reducible refine' x_disp ?_); walk_at "nw")
  | ((with_reducible refine' x_dnew ?_); walk_at "nw")
  | ((with_reducible refine' x_rz ?h ?_); (case h => walk_at "cf"); walk_at "nw")
  | ((with_reducible refine' x_isi ?h ?e ?_); (case h => walk_at "ty1"); (case e => decide))
  | ((with_reducible refine' x_fldR ?h ?c ?n ?e ?_); (case h => walk_at "hp"); (case c => walk_at "cf"); (case n => walk_at "cf"); (case e => walk_at "fl"))
  | ((with_reducible refine' x_onIns ?h ?n ?_); (case h => walk_at "hp"); (case n => walk_at "fl"))
  | ((with_reducible refine' x_addS ?l ?_); (case l => walk_at "sz"))
  | ((with_reducible refine' x_lenS ?l ?_); (case l => walk_at "sz"))
  | ((with_reducible refine' x_lenL ?h ?_); (case h => walk_at "sqo"))
  | ((with_reducible refine' x_slL ?h rfl ?_); (case h => walk_at "sq"); walk_at "nw")
  | ((with_reducible refine' x_listOf ?h ?_); (case h => walk_at "sqo"); walk_at "nw")
  | ((with_reducible refine' x_strmul ?c ?_); (case c => (refine' ⟨?_, ?_, ?_⟩ <;> first | omega | decide +kernel)))
  | ((with_reducible refine' x_isD2 ?h ?_); (case h => walk_at "hp"))
  | ((with_reducible refine' x_getI ?h ?_); (case h => walk_at "hp"))
  | ((with_reducible refine' x_getS ?h ?_); (case h => walk_at "hp"))
  | ((with_reducible refine' x_dgetS ?h ?e ?_); (case h => walk_at "hp"); (case e => walk_at "fl"))
  | ((with_reducible refine' x_ixT ?h ?e ?_); (case h => walk_at "sqt"); (case e => exact rfl))
  | ((with_reducible refine' x_gTup ?h ?e ?_); (case h => walk_at "sqt"); (case e => exact rfl)))
local macro_rules | `(tactic| walk_at "st0") => `(tactic| walk_at "st2")
local macro_rules | `(tactic| walk_at "fl") => `(tactic| first
  | with_reducible exact lk_hd
  | ((with_reducible refine' lk_tl ?n ?h); (case n => walk_at "nq"); (case h => walk_at "fl"))
  | with_reducible exact lk_nil
  | with_reducible exact pf_hd
  | ((with_reducible refine' pf_tl ?n ?h); (case n => walk_at "nq"); (case h => walk_at "fl"))
  | with_reducible exact pf_nil
  | with_reducible exact vl_hd
  | ((with_reducible refine' vl_tl ?n ?h); (case n => walk_at "nr"); (case h => walk_at "fl"))
  | with_reducible exact vl_nil
  | ((with_reducible refine' pk_hd ?n); (case n => rfl))
  | ((with_reducible refine' pk_tl ?n ?t ?h); (case n => walk_at "nr"); (case t => rfl); (case h => walk_at "fl")))
local macro_rules | `(tactic| walk_at "cf") => `(tactic| with_reducible assumption)
local macro_rules | `(tactic| walk_at "st0") => `(tactic| first
  | ((with_reducible refine' x_sFldR ?h ?c ?n ?l ?e ?_); (case h => walk_at "hp"); (case c => walk_at "cf"); (case n => walk_at "cf"); (case l => exact Nat.le_of_ble_eq_true rfl); (case e => walk_at "fl")))
local macro_rules | `(tactic| walk_at "pool") => `(tactic| first
  | with_reducible assumption
  | exact Pool.ne (by walk_at "pool") (by walk_at "ne") (by walk_at "ne")
  | exact Pool.stay (by walk_at "pool") (by with_reducible assumption) (by walk_at "nm") (by walk_at "nm"))
local macro_rules | `(tactic| walk_at "szl") => `(tactic| first | exact Nat.lt_of_le_of_lt (Nat.le_of_ble_eq_true (m := 1000) rfl) (by decide) | exact Nat.lt_of_le_of_lt (by with_reducible assumption) (by decide : 1000 < sizeLine))
local macro_rules | `(tactic| walk_at "st0") => `(tactic| first
  | ((with_reducible refine' x_putS ?h ?l ?e ?_); (case h => walk_at "hp"); (case l => walk_at "szl"); (case e => walk_at "fl"))
  | ((with_reducible refine' x_setD ?h ?l ?e ?_); (case h => walk_at "hp"); (case l => walk_at "szl"); (case e => walk_at "fl"))
  | ((with_reducible refine' x_putI ?h ?l ?_); (case h => walk_at "hp"); (case l => walk_at "szl")))
local macro_rules | `(tactic| walk_at "st0") => `(tactic| first
  | ((with_reducible refine' x_rowN ?e ?_); (case e => walk_at "cf"); walk_at "nw"; (try dsimp only [List.set]))
  | ((with_reducible refine' x_rowF ?e ?_); (case e => walk_at "cf"))
  | with_reducible refine' x_xw ?_
  | ((with_reducible refine' x_xwR ?t ?h ?_); (case t => walk_at "cf"); (case h => walk_at "hp")))
local macro_rules | `(tactic| walk_at "st0") => `(tactic| first
  | ((with_reducible refine' x_isXR ?k ?x ?h ?e ?_); (case k => exact ClsV.own _); (case x => exact ExT.xc (by with_reducible assumption)); (case h => walk_at "hp"); (case e => walk_at "cf")))
local macro_rules | `(tactic| walk_at "nq") => `(tactic| first | with_reducible exact q_fuse__frames | with_reducible exact q_fuse__tape | with_reducible exact q_fuse__safe | with_reducible exact q_fuse__shelf | with_reducible exact q_fuse__writes | with_reducible exact q_frames__fuse | with_reducible exact q_frames__tape | with_reducible exact q_frames__safe | with_reducible exact q_frames__shelf | with_reducible exact q_frames__writes | with_reducible exact q_tape__fuse | with_reducible exact q_tape__frames | with_reducible exact q_tape__safe | with_reducible exact q_tape__shelf | with_reducible exact q_tape__writes | with_reducible exact q_safe__fuse | with_reducible exact q_safe__frames | with_reducible exact q_safe__tape | with_reducible exact q_safe__shelf | with_reducible exact q_safe__writes | with_reducible exact q_shelf__fuse | with_reducible exact q_shelf__frames | with_reducible exact q_shelf__tape | with_reducible exact q_shelf__safe | with_reducible exact q_shelf__writes | with_reducible exact q_writes__fuse | with_reducible exact q_writes__frames | with_reducible exact q_writes__tape | with_reducible exact q_writes__safe | with_reducible exact q_writes__shelf | decide +kernel)
local macro_rules | `(tactic| walk_at "nr") => `(tactic| first | with_reducible exact rfuse_frames | with_reducible exact rfuse_tape | with_reducible exact rfuse_safe | with_reducible exact rfuse_shelf | with_reducible exact rfuse_writes | with_reducible exact rframes_fuse | with_reducible exact rframes_tape | with_reducible exact rframes_safe | with_reducible exact rframes_shelf | with_reducible exact rframes_writes | with_reducible exact rtape_fuse | with_reducible exact rtape_frames | with_reducible exact rtape_safe | with_reducible exact rtape_shelf | with_reducible exact rtape_writes | with_reducible exact rsafe_fuse | with_reducible exact rsafe_frames | with_reducible exact rsafe_tape | with_reducible exact rsafe_shelf | with_reducible exact rsafe_writes | with_reducible exact rshelf_fuse | with_reducible exact rshelf_frames | with_reducible exact rshelf_tape | with_reducible exact rshelf_safe | with_reducible exact rshelf_writes | with_reducible exact rwrites_fuse | with_reducible exact rwrites_frames | with_reducible exact rwrites_tape | with_reducible exact rwrites_safe | with_reducible exact rwrites_shelf | decide +kernel)
local macro_rules | `(tactic| walk_at "st0") => `(tactic| ((with_reducible refine' c_is_number ?h ?_); (case h => walk_at "ty1")))
local macro_rules | `(tactic| walk_at "st0") => `(tactic| ((with_reducible refine' c_is_within ?h ?_); (case h => walk_at "ty1")))
local macro_rules | `(tactic| walk_at "st0") => `(tactic| ((with_reducible refine' c_is_page ?h ?_); (case h => walk_at "ty1")))
local macro_rules | `(tactic| walk_at "st0") => `(tactic| (with_reducible refine' c_check (fun hz_ => ?_) (fun hz_ => ?_)))
local macro_rules | `(tactic| walk_at "st0") => `(tactic| ((with_reducible refine' c_tape ?h ?_); (case h => with_reducible assumption)))
local macro_rules | `(tactic| walk_at "st0") => `(tactic| ((with_reducible refine' c_safe ?h ?_); (case h => with_reducible assumption)))
local macro_rules | `(tactic| walk_at "st0") => `(tactic| ((with_reducible refine' c_shelf ?h ?_); (case h => with_reducible assumption)))
local macro_rules | `(tactic| walk_at "st0") => `(tactic| ((with_reducible refine' c_writes ?h ?_); (case h => with_reducible assumption)))
section
variable {P : Program} {w : World} {K : PySem.W.Frag} {mg : Str → Option Value} {base : Heap}
def IntKeys (fr : List (Key × V)) (ks : List Int) : Prop := fr.map (·.1) = ks.map Sum.inl ∧ ks.length < 64
def sp_ids (C : Addr) : Sp := fun vs H Q _ => ∃ (p d : Addr) (S : DS) (ks : List Int), vs = [.ref p] ∧ DiskAt C H p d S ∧ IntKeys S.fr ks ∧ ∀ (ys : List Int) (q : Addr) (H' : Hp), ys.Perm ks → ys.Pairwise (· ≤ ·) → H q = none → H' q = some (.tup (ys.map V.int)) → Stay [] H H' → Q (.ref q) H'
theorem c_ids {C p d : Addr} {S : DS} {ks : List Int} {H : Hp} {Q : VK} {E : XK} (h : DiskAt C H p d S) (i : IntKeys S.fr ks) (q : ∀ (ys : List Int) (q : Addr) (H' : Hp), ys.Perm ks → ys.Pairwise (· ≤ ·) → H q = none → H' q = some (.tup (ys.map V.int)) → Stay [] H H' → Q (.ref q) H') : sp_ids C [.ref p] H Q E := ⟨p, d, S, ks, rfl, h, i, q⟩
theorem sc_Disk_frame_ids : FnScope ["self"] ["self"] (defScope s_Disk_frame_ids) := ⟨rfl, rfl, rfl, by decide +kernel, rfl, by decide +kernel, by decide +kernel⟩
theorem ok_Disk_frame_ids (T : G K mg) : FnOk P w K mg base CX0 1 T.f_Disk_frame_ids T.d_Disk_frame_ids ["self"] (sp_ids T.C_Disk) := by
  refine T.F_Disk_frame_ids.ok sc_Disk_frame_ids (fun vs H Q E h => ?_) (fun cdv A outer s H vs Q E hr h => ?_)
  · obtain ⟨p, d, S, ks, rfl, ⟨⟨dx, h1⟩, h2, fk⟩, ik, k⟩ := h
    rfl
  · obtain ⟨p, d, S, ks, rfl, ⟨⟨dx, h1⟩, h2, fk⟩, ik, k⟩ := h
    have hu := hu_of hr
    have nd := sc_Disk_frame_ids.nd
    refine ⟨_, (pss_one (ps_ret (pe_callTy call_tuple_of (by rfl) T.n_tuple (by decide +kernel) (pa_cons (pe_callB (call_sortedDI rfl) (by rfl) T.n_sorted (by decide +kernel) (pa_cons (pe_fld (pv 0) rfl) pa_nil)) pa_nil)))), ?_⟩
    have hf0 := T.c_Disk
    have hf1 := T.a_Disk_fuse
    have hf2 := T.a_Disk_frames
    have hf3 := T.a_Disk_tape
    have hf4 := T.a_Disk_safe
    have hf5 := T.a_Disk_shelf
    have hf6 := T.a_Disk_writes
    try dsimp only [L2.cxOf, L2.Cx.nox, L2.Cx.wish]
    rw [show L2.start ["self"] [V.ref p] = [some (V.ref p)] from rfl]
    walk_at "go"
    refine ⟨_, _, ks, rfl, .inl h2, ik.1, ik.2, fun ys q pm pw hq => ?_⟩
    walk_at "go"
    refine x_tupleOfL (by walk_at "sq") ?_
    walk_at "nw"
    exact k ys _ _ pm pw (by assumption) (by walk_at "hpd") (by walk_at "fr")
def Pool (H : Hp) (a l : Addr) : Prop := ∃ (p0 p1 : Int) (ns : List Int), H a = some (.lst [.int p0, .int p1, .ref l]) ∧ H l = some (.lst (ns.map V.int)) ∧ a ≠ l ∧ 0 ≤ p0 ∧ 0 ≤ p1 ∧ p1 < 4294967296
theorem Pool.ex {H : Hp} {a l : Addr} (h : Pool H a l) : ∃ o u, H a = some o ∧ H l = some u ∧ a ≠ l := by
  obtain ⟨_, _, _, h1, h2, h3, _⟩ := h
  exact ⟨_, _, h1, h2, h3⟩
theorem Pool.ne {H : Hp} {a l p : Addr} {o : HO} (h : Pool H a l) (h1 : a ≠ p) (h2 : l ≠ p) : Pool (upd H p o) a l := by
  obtain ⟨p0, p1, ns, e1, e2, r⟩ := h
  exact ⟨p0, p1, ns, by rw [upd_ne h1]; exact e1, by rw [upd_ne h2]; exact e2, r⟩
theorem Pool.stay {S : List Addr} {H H' : Hp} {a l : Addr} (h : Pool H a l) (s : Stay S H H') (h1 : a ∉ S) (h2 : l ∉ S) : Pool H' a l := by
  obtain ⟨p0, p1, ns, e1, e2, r⟩ := h
  exact ⟨p0, p1, ns, s.keep _ _ e1 h1, s.keep _ _ e2 h2, r⟩
theorem mk_pool {H : Hp} {q l : Addr} {p0 p1 : Int} {xs : List V} (c : H q = some (.lst [.int p0, .int p1, .ref l])) (d : H l = some (.lst xs)) (e : ∃ ns : List Int, xs = ns.map V.int) (f : q ≠ l) (h0 : 0 ≤ p0) (h1 : 0 ≤ p1) (h2 : p1 < 4294967296) : Pool H q l := by
  obtain ⟨ns, rfl⟩ := e
  exact ⟨p0, p1, ns, c, d, f, h0, h1, h2⟩
def sp_pool (K : PySem.W.Frag) : Sp := fun vs H Q _ => ∃ (a : Addr) (ns : List Int), vs = [.ref a] ∧ SqL K H a (ns.map V.int) ∧ ∀ q l H', H q = none → H l = none → Pool H' q l → Stay [] H H' → Q (.ref q) H'
theorem c_pool {K : PySem.W.Frag} {a : Addr} {ns : List Int} {H : Hp} {Q : VK} {E : XK} (h : SqL K H a (ns.map V.int)) (q : ∀ q l H', H q = none → H l = none → Pool H' q l → Stay [] H H' → Q (.ref q) H') : sp_pool K [.ref a] H Q E := ⟨a, ns, rfl, h, q⟩
theorem sc__law_pool : FnScope ["script", "first", "size"] ["script"] (defScope s__law_pool) := ⟨rfl, rfl, rfl, by decide +kernel, rfl, by decide +kernel, by decide +kernel⟩
theorem ok__law_pool (T : G K mg) : FnOk P w K mg base CX0 1 T.f__law_pool T.d__law_pool ["script"] (sp_pool K) := by
  refine T.F__law_pool.ok sc__law_pool (fun vs H Q E h => ?_) (fun cdv A outer s H vs Q E hr h => ?_)
  · obtain ⟨a, ns, rfl, hS, k⟩ := h
    rfl
  · obtain ⟨a, ns, rfl, hS, k⟩ := h
    have hu := hu_of hr
    have nd := sc__law_pool.nd
    refine ⟨_, (pss_cons (ps_set (i := 1) nd rfl (Or.inl rfl) (pe_ifExp (pt_cmpR op_gt (pe_callB call_len_seq (by rfl) T.n_len PySem.boot_len (pa_cons (pv 0) pa_nil)) pe_int (nomark _)) (pe_callTy call_int1 (by rfl) T.n_int (by decide +kernel) (pa_cons (pe_ix ix_list (pv 0) pe_int (fun _ _ => rfl)) pa_nil)) pe_int))
        (pss_cons (ps_set (i := 2) nd rfl (Or.inl rfl) (pe_ifExp (pt_cmpR op_ge (pv 1) pe_int (nomark _)) (pe_op op_mulX pe_int (pv 1)) (pe_op op_sub (pe_un un_neg pe_int) (pe_op op_mulX pe_int (pv 1)))))
        (pss_one (ps_ret (pe_lst (pa_cons (pe_ifExp (pt_cmpR op_ge (pv 2) (pe_op op_pow pe_int pe_int) (nomark _)) (pv 2) pe_int) (pa_cons (pe_op op_add (pe_op op_mod (pe_callTy call_int1 (by rfl) T.n_int (by decide +kernel) (pa_cons (pe_op op_add (pe_op op_mulX (pv 2) pe_int) pe_int) pa_nil)) pe_int) pe_int) (pa_cons (pe_callTy call_list_of (by rfl) T.n_list (by decide +kernel) (pa_cons (pe_slice sl_list (pv 0) (po_some pe_int) po_none) pa_nil)) pa_nil)))))))), ?_⟩
    try dsimp only [L2.cxOf, L2.Cx.nox, L2.Cx.wish]
    rw [show L2.start ["script", "first", "size"] [V.ref a] = [some (V.ref a), none, none] from rfl]
    rcases ns with _ | ⟨z, ns⟩
    all_goals walk_at "gs"
    all_goals try walk_at "nw"
    all_goals walk_at "gs"
    all_goals (refine k _ _ _ (by assumption) ?_ (mk_pool (by walk_at "hp") (by walk_at "hp") ?_ (by walk_at "ne") ?_ ?_ ?_) (by walk_at "fr"))
    all_goals first | assumption | omega | exact ⟨ns, by rw [List.map_cons, cut_tail]⟩ | exact ⟨[], rfl⟩
end
end WD

namespace WD
open PySem PySem.Spec PyProof.Rows L2
-- p ≠ q of two addresses
local macro_rules | `(tactic| walk_at "ne") => `(tactic| first
  | with_reducible assumption
  | with_reducible exact Ne.symm (by assumption)
  | exact ne_some (by with_reducible assumption) (by with_reducible assumption)
  | exact Ne.symm (ne_some (by with_reducible assumption) (by with_reducible assumption)))
local macro_rules | `(tactic| walk_at "nm") => `(tactic| first | with_reducible assumption | with_reducible exact nm0 | ((with_reducible refine' nmS ?a ?b); (case a => walk_at "ne"); (case b => walk_at "nm")))
-- H p = some ?o
local macro_rules | `(tactic| walk_at "hp") => `(tactic| first
  | with_reducible exact upd_same
  | with_reducible assumption
  | ((with_reducible refine' Eq.trans (upd_ne ?a) ?b); (case a => walk_at "ne"); (case b => walk_at "hp"))
  | exact Stay.keep (by with_reducible assumption) _ _ (by walk_at "hp") (by walk_at "nm"))
local macro_rules | `(tactic| walk_at "hpd") => `(tactic| ((refine' Eq.trans ?h ?e); (case h => walk_at "hp"); (case e => exact rfl)))
-- a new address
local macro_rules | `(tactic| walk_at "nw") => `(tactic| ((repeat first | (with_reducible refine' nw_upd ?_) | refine' nw_fr (by with_reducible assumption) ?_); intro p_; intros))
local macro_rules | `(tactic| walk_at "mem") => `(tactic| first | exact List.mem_cons_self | (refine' List.mem_cons_of_mem _ ?_; walk_at "mem"))
-- what stands stays
local macro_rules | `(tactic| walk_at "fr") => `(tactic| first
  | with_reducible assumption
  | exact Stay.refl _ _
  | ((with_reducible refine' Stay.upd ?a ?b); (case a => walk_at "fr"); (case b => walk_at "mem"))
  | ((with_reducible refine' Stay.new ?a ?b); (case b => with_reducible assumption); (case a => walk_at "fr"))
  | (refine' Stay.trans ?_ (by with_reducible assumption); walk_at "fr"))
local macro_rules | `(tactic| walk_at "sq") => `(tactic| first | with_reducible assumption | exact SqL.of (by walk_at "hp"))
local macro_rules | `(tactic| walk_at "sqt") => `(tactic| first | with_reducible assumption | exact SqT.of (by walk_at "hp"))
-- side goals
local macro_rules | `(tactic| walk_at "sd") => `(tactic| first
  | with_reducible assumption | with_reducible rfl | (show _ ≤ sizeLine; decide) | (refine Nat.le_trans (Nat.le_of_ble_eq_true (m := 1000) rfl) (by decide)) | decide | omega
  | exact IntMulOk.of_right (intBits_le_64 (by omega) (by omega)) | exact IntMulOk.of_left (intBits_le_64 (by omega) (by omega))
  | (refine' Or.inl ⟨?_, ?_⟩ <;> omega) | (refine' Or.inr ⟨?_, ?_⟩ <;> omega)
  | (refine' ⟨?_, ?_⟩ <;> walk_at "sd") | (refine' ⟨?_, ?_, ?_⟩ <;> walk_at "sd"))
local macro_rules | `(tactic| walk_at "set") => `(tactic| first | with_reducible exact set0 | with_reducible exact set1 | with_reducible exact set2 | with_reducible exact set3 | with_reducible exact set4 | with_reducible exact set5 | with_reducible exact set6 | with_reducible exact set7 | with_reducible exact set8 | with_reducible exact set9 | with_reducible exact set10 | with_reducible exact set11 | with_reducible exact set12 | with_reducible exact set13 | with_reducible exact set14 | with_reducible exact set15 | with_reducible exact set16 | with_reducible exact set17 | with_reducible exact set18 | with_reducible exact set19 | with_reducible exact set20)
-- one step
local macro_rules | `(tactic| walk_at "st0") => `(tactic| first
  | with_reducible refine' x_seq ?_
  | with_reducible refine' x_next ?_
  | with_reducible refine' x_ifS ?_
  | with_reducible refine' x_asg ?_
  | with_reducible refine' x_ret ?_
  | with_reducible refine' x_retN ?_
  | with_reducible refine' x_drop ?_
  | with_reducible refine' x_brk ?_
  | with_reducible refine' x_cont ?_
  | ((with_reducible refine' x_gName ?e ?_); (case e => walk_at "set"))
  | with_reducible refine' x_gSub ?_
  | with_reducible refine' x_gCons ?_
  | with_reducible refine' x_gNil ?_
  | with_reducible refine' x_c ?_
  | ((with_reducible refine' x_var ?e ?_); (case e => exact rfl))
  | with_reducible refine' x_op ?_
  | with_reducible refine' x_un ?_
  | with_reducible refine' x_if ?_
  | with_reducible refine' x_cb ?_
  | with_reducible refine' x_cons ?_
  | with_reducible refine' x_nil ?_
  | with_reducible refine' x_bm0 ?_
  | with_reducible refine' x_bm ?_
  | with_reducible refine' x_tup ?_
  | with_reducible refine' x_lst ?_
  | ((with_reducible refine' And.intro (a := _ ≤ sizeLine) ?e ?_); (case e => walk_at "sd"); walk_at "nw")
  | with_reducible refine' x_fld ?_
  | with_reducible refine' x_test ?_
  | with_reducible refine' x_tB ?_
  | with_reducible refine' x_and ?_
  | with_reducible refine' x_or ?_
  | with_reducible refine' x_not ?_
  | with_reducible refine' x_notV ?_
  | with_reducible refine' x_andV ?_
  | with_reducible refine' x_orV ?_
  | with_reducible refine' x_rI0 ?_
  | ((with_reducible refine' x_rI ?e ?_); (case e => walk_at "sd"))
  | with_reducible refine' x_rU ?_
  | ((with_reducible refine' x_rEq ?e ?_); (case e => exact rfl))
  | ((with_reducible refine' x_rNe ?e ?_); (case e => exact rfl))
  | ((with_reducible refine' x_ixL0 ?h ?_); (case h => walk_at "sq"))
  | ((with_reducible refine' x_ixL1 ?h ?_); (case h => walk_at "sq"))
  | ((with_reducible refine' x_ixL2 ?h ?_); (case h => walk_at "sq"))
  | ((with_reducible refine' x_ixL0I ?h ?_); (case h => walk_at "sq"))
  | ((with_reducible refine' x_ixL ?h ?e ?_); (case h => walk_at "sq"); (case e => exact rfl))
  | ((with_reducible refine' x_neNil ?h ?h2 ?_); (case h => walk_at "sq"); (case h2 => walk_at "sq"))
  | ((with_reducible refine' x_pop0I ?h ?_); (case h => walk_at "hp"))
  | ((with_reducible refine' x_pop0 ?h ?_); (case h => walk_at "hp"))
  | ((with_reducible refine' x_setL0 ?h ?_); (case h => walk_at "hp"))
  | ((with_reducible refine' x_setL1 ?h ?_); (case h => walk_at "hp"))
  | ((with_reducible refine' x_setL2 ?h ?_); (case h => walk_at "hp"))
  | ((with_reducible refine' x_setL ?h ?e ?_); (case h => walk_at "hp"); (case e => exact rfl))
  | with_reducible refine' .inl ⟨_, rfl, ?_⟩
  | ((with_reducible refine' x_tyL ?h ?_); (case h => walk_at "sq"))
  | with_reducible refine' ⟨_, rfl, ?_⟩)
-- a split
local macro_rules | `(tactic| walk_at "if") => `(tactic| (
  first
  | (with_reducible refine' x_dec (fun h_ => ?_) (fun h_ => ?_))
  | (with_reducible refine' x_decN (fun h_ => ?_) (fun h_ => ?_))
  | (with_reducible refine' x_boolN (fun h_ => ?_) (fun h_ => ?_))
  | (with_reducible refine' x_bool (fun h_ => ?_) (fun h_ => ?_))))
local macro_rules | `(tactic| walk_at "ifs") => `(tactic| (walk_at "if" <;> first
  | (exfalso; first | omega | contradiction)
  | (rename_i h_; (try simp only [BEq.rfl, List.length_map, List.length_cons, List.length_nil, Int.natCast_zero, Int.ofNat_zero, gt_iff_lt, Int.lt_irrefl, Bool.true_eq_false, Bool.false_eq_true, List.isEmpty_nil, List.isEmpty_cons, V.int.injEq, V.str.injEq, V.bl.injEq, reduceCtorEq, not_false_eq_true, not_true_eq_false] at h_); (try (exfalso; omega)))))
local macro_rules | `(tactic| walk_at "ite1") => `(tactic| first
  | with_reducible refine' x_T ?_
  | with_reducible refine' x_F ?_
  | with_reducible refine' x_nT ?_
  | with_reducible refine' x_nF ?_
  | ((with_reducible refine' x_bT ?e ?_); (case e => first | decide | decide +kernel))
  | ((with_reducible refine' x_bF ?e ?_); (case e => first | decide | decide +kernel)))
local macro_rules | `(tactic| walk_at "st") => `(tactic| ((fail_if_success (with_reducible (show (if _ then _ else _)))); walk_at "st0"))
local macro_rules | `(tactic| walk_at "go") => `(tactic| repeat first | walk_at "ite1" | walk_at "st")
local macro_rules | `(tactic| walk_at "gs") => `(tactic| repeat' first | walk_at "ite1" | walk_at "st" | walk_at "ifs")
local macro_rules | `(tactic| walk_at "sz") => `(tactic| first | with_reducible assumption | (refine Nat.le_trans (by assumption) (by decide : 100000 ≤ sizeLine)) | (refine Nat.le_trans (m := 100000) ?_ (by decide); (try simp only [len_add, rep_len]); (try rw [show (Str.ofString "z").length = 1 from rfl]); omega))
local macro_rules | `(tactic| walk_at "hn") => `(tactic| first | with_reducible assumption)
local macro_rules | `(tactic| walk_at "sqo") => `(tactic| first | exact Or.inl (by walk_at "sq") | exact Or.inr (by walk_at "sqt"))
local macro_rules | `(tactic| walk_at "ty1") => `(tactic| first | with_reducible assumption | exact Ty1.int _ | exact Ty1.str _ | exact Ty1.bl _ | exact Ty1.non | exact Ty1.tup (by walk_at "hp") | exact Ty1.lst (by walk_at "hp"))
local macro_rules | `(tactic| walk_at "st2") => `(tactic| first
  | with_reducible refine' And.intro (a := V.non = V.non) rfl ?_
  | with_reducible refine' x_call0 ?_
  | with_reducible refine' x_callS ?_
  | with_reducible refine' x_meth0 ?_
  | with_reducible refine' x_methW0 ?_
  | with_reducible refine' x_make0 ?_
  | with_reducible refine' x_makeW0 ?_
  | with_reducible refine' x_sFld ?_
  | with_reducible refine' x_mkO ?_
  | with_reducible refine' x_chain ?_
  | with_reducible refine' x_dget ?_
  | with_reducible refine' x_dget1 ?_
  | with_reducible refine' x_dget2 ?_
  | with_reducible refine' x_sDPut ?_
  | with_reducible refine' x_pairs ?_
  | with_reducible refine' x_pairs0 ?_
  | with_reducible refine' x_sl ?_
  | with_reducible refine' x_noPart ?_
  | with_reducible refine' x_part ?_
  | ((with_reducible refine' x_disp ?_); walk_at "nw")
  | ((with_reducible refine' x_dnew ?_); walk_at "nw")
  | ((with_reducible refine' x_rz ?h ?_); (case h => walk_at "cf"); walk_at "nw")
  | ((with_reducible refine' x_isi ?h ?e ?_); (case h => walk_at "ty1"); (case e => decide))
  | ((with_reducible refine' x_fldR ?h ?c ?n ?e ?_); (case h => walk_at "hp"); (case c => walk_at "cf"); (case n => walk_at "cf"); (case e => walk_at "fl"))
  | ((with_reducible refine' x_onIns ?h ?n ?_); (case h => walk_at "hp"); (case n => walk_at "fl"))
  | ((with_reducible refine' x_addS ?l ?_); (case l => walk_at "sz"))
  | ((with_reducible refine' x_lenS ?l ?_); (case l => walk_at "sz"))
  | ((with_reducible refine' x_lenL ?h ?_); (case h => walk_at "sqo"))
  | ((with_reducible refine' x_slL ?h rfl ?_); (case h => walk_at "sq"); walk_at "nw")
  | ((with_reducible refine' x_listOf ?h ?_); (case h => walk_at "sqo"); walk_at "nw")
  | ((with_reducible refine' x_strmul ?c ?_); (case c => (refine' ⟨?_, ?_, ?_⟩ <;> first | omega | decide +kernel)))
  | ((with_reducible refine' x_isD2 ?h ?_); (case h => walk_at "hp"))
  | ((with_reducible refine' x_getI ?h ?_); (case h => walk_at "hp"))
  | ((with_reducible refine' x_getS ?h ?_); (case h => walk_at "hp"))
  | ((with_reducible refine' x_dgetS ?h ?e ?_); (case h => walk_at "hp"); (case e => walk_at "fl"))
  | ((with_reducible refine' x_ixT ?h ?e ?_); (case h => walk_at "sqt"); (case e => exact rfl))
  | ((with_reducible refine' x_gTup ?h ?e ?_); (case h => walk_at "sqt"); (case e => exact rfl)))
local macro_rules | `(tactic| walk_at "st0") => `(tactic| walk_at "st2")
local macro_rules | `(tactic| walk_at "fl") => `(tactic| first
  | with_reducible exact lk_hd
  | ((with_reducible refine' lk_tl ?n ?h); (case n => walk_at "nq"); (case h => walk_at "fl"))
  | with_reducible exact lk_nil
  | with_reducible exact pf_hd
  | ((with_reducible refine' pf_tl ?n ?h); (case n => walk_at "nq"); (case h => walk_at "fl"))
  | with_reducible exact pf_nil
  | with_reducible exact vl_hd
  | ((with_reducible refine' vl_tl ?n ?h); (case n => walk_at "nr"); (case h => walk_at "fl"))
  | with_reducible exact vl_nil
  | ((with_reducible refine' pk_hd ?n); (case n => rfl))
  | ((with_reducible refine' pk_tl ?n ?t ?h); (case n => walk_at "nr"); (case t => rfl); (case h => walk_at "fl")))
local macro_rules | `(tactic| walk_at "cf") => `(tactic| with_reducible assumption)
local macro_rules | `(tactic| walk_at "st0") => `(tactic| first
  | ((with_reducible refine' x_sFldR ?h ?c ?n ?l ?e ?_); (case h => walk_at "hp"); (case c => walk_at "cf"); (case n => walk_at "cf"); (case l => exact Nat.le_of_ble_eq_true rfl); (case e => walk_at "fl")))
local macro_rules | `(tactic| walk_at "pool") => `(tactic| first
  | with_reducible assumption
  | exact Pool.ne (by walk_at "pool") (by walk_at "ne") (by walk_at "ne")
  | exact Pool.stay (by walk_at "pool") (by with_reducible assumption) (by walk_at "nm") (by walk_at "nm"))
local macro_rules | `(tactic| walk_at "szl") => `(tactic| first | exact Nat.lt_of_le_of_lt (Nat.le_of_ble_eq_true (m := 1000) rfl) (by decide) | exact Nat.lt_of_le_of_lt (by with_reducible assumption) (by decide : 1000 < sizeLine))
local macro_rules | `(tactic| walk_at "st0") => `(tactic| first
  | ((with_reducible refine' x_putS ?h ?l ?e ?_); (case h => walk_at "hp"); (case l => walk_at "szl"); (case e => walk_at "fl"))
  | ((with_reducible refine' x_setD ?h ?l ?e ?_); (case h => walk_at "hp"); (case l => walk_at "szl"); (case e => walk_at "fl"))
  | ((with_reducible refine' x_putI ?h ?l ?_); (case h => walk_at "hp"); (case l => walk_at "szl")))
local macro_rules | `(tactic| walk_at "st0") => `(tactic| first
  | ((with_reducible refine' x_rowN ?e ?_); (case e => walk_at "cf"); walk_at "nw"; (try dsimp only [List.set]))
  | ((with_reducible refine' x_rowF ?e ?_); (case e => walk_at "cf"))
  | with_reducible refine' x_xw ?_
  | ((with_reducible refine' x_xwR ?t ?h ?_); (case t => walk_at "cf"); (case h => walk_at "hp")))
local macro_rules | `(tactic| walk_at "st0") => `(tactic| first
  | ((with_reducible refine' x_isXR ?k ?x ?h ?e ?_); (case k => exact ClsV.own _); (case x => exact ExT.xc (by with_reducible assumption)); (case h => walk_at "hp"); (case e => walk_at "cf")))
local macro_rules | `(tactic| walk_at "nq") => `(tactic| first | with_reducible exact q_fuse__frames | with_reducible exact q_fuse__tape | with_reducible exact q_fuse__safe | with_reducible exact q_fuse__shelf | with_reducible exact q_fuse__writes | with_reducible exact q_frames__fuse | with_reducible exact q_frames__tape | with_reducible exact q_frames__safe | with_reducible exact q_frames__shelf | with_reducible exact q_frames__writes | with_reducible exact q_tape__fuse | with_reducible exact q_tape__frames | with_reducible exact q_tape__safe | with_reducible exact q_tape__shelf | with_reducible exact q_tape__writes | with_reducible exact q_safe__fuse | with_reducible exact q_safe__frames | with_reducible exact q_safe__tape | with_reducible exact q_safe__shelf | with_reducible exact q_safe__writes | with_reducible exact q_shelf__fuse | with_reducible exact q_shelf__frames | with_reducible exact q_shelf__tape | with_reducible exact q_shelf__safe | with_reducible exact q_shelf__writes | with_reducible exact q_writes__fuse | with_reducible exact q_writes__frames | with_reducible exact q_writes__tape | with_reducible exact q_writes__safe | with_reducible exact q_writes__shelf | decide +kernel)
local macro_rules | `(tactic| walk_at "nr") => `(tactic| first | with_reducible exact rfuse_frames | with_reducible exact rfuse_tape | with_reducible exact rfuse_safe | with_reducible exact rfuse_shelf | with_reducible exact rfuse_writes | with_reducible exact rframes_fuse | with_reducible exact rframes_tape | with_reducible exact rframes_safe | with_reducible exact rframes_shelf | with_reducible exact rframes_writes | with_reducible exact rtape_fuse | with_reducible exact rtape_frames | with_reducible exact rtape_safe | with_reducible exact rtape_shelf | with_reducible exact rtape_writes | with_reducible exact rsafe_fuse | with_reducible exact rsafe_frames | with_reducible exact rsafe_tape | with_reducible exact rsafe_shelf | with_reducible exact rsafe_writes | with_reducible exact rshelf_fuse | with_reducible exact rshelf_frames | with_reducible exact rshelf_tape | with_reducible exact rshelf_safe | with_reducible exact rshelf_writes | with_reducible exact rwrites_fuse | with_reducible exact rwrites_frames | with_reducible exact rwrites_tape | with_reducible exact rwrites_safe | with_reducible exact rwrites_shelf | decide +kernel)
local macro_rules | `(tactic| walk_at "st0") => `(tactic| ((with_reducible refine' c_is_number ?h ?_); (case h => walk_at "ty1")))
local macro_rules | `(tactic| walk_at "st0") => `(tactic| ((with_reducible refine' c_is_within ?h ?_); (case h => walk_at "ty1")))
local macro_rules | `(tactic| walk_at "st0") => `(tactic| ((with_reducible refine' c_is_page ?h ?_); (case h => walk_at "ty1")))
local macro_rules | `(tactic| walk_at "st0") => `(tactic| (with_reducible refine' c_check (fun hz_ => ?_) (fun hz_ => ?_)))
local macro_rules | `(tactic| walk_at "st0") => `(tactic| ((with_reducible refine' c_tape ?h ?_); (case h => with_reducible assumption)))
local macro_rules | `(tactic| walk_at "st0") => `(tactic| ((with_reducible refine' c_safe ?h ?_); (case h => with_reducible assumption)))
local macro_rules | `(tactic| walk_at "st0") => `(tactic| ((with_reducible refine' c_shelf ?h ?_); (case h => with_reducible assumption)))
local macro_rules | `(tactic| walk_at "st0") => `(tactic| ((with_reducible refine' c_writes ?h ?_); (case h => with_reducible assumption)))
section
variable {P : Program} {w : World} {K : PySem.W.Frag} {mg : Str → Option Value} {base : Heap}
def sp_draw : Sp := fun vs H Q _ => ∃ (a l : Addr) (m : Int), vs = [.ref a, .int m] ∧ Pool H a l ∧ (0 < m ∧ m.natAbs.log2 < 9000) ∧ ∀ d H', 0 ≤ d → d < m → Pool H' a l → Stay [a, l] H H' → Q (.int d) H'
theorem c_draw {a l : Addr} {m : Int} {H : Hp} {Q : VK} {E : XK} (h : Pool H a l) (hm : 0 < m ∧ m.natAbs.log2 < 9000) (q : ∀ d H', 0 ≤ d → d < m → Pool H' a l → Stay [a, l] H H' → Q (.int d) H') : sp_draw [.ref a, .int m] H Q E := ⟨a, l, m, rfl, h, hm, q⟩
theorem sc__law_draw : FnScope ["pool", "many", "cell", "size", "found"] ["pool", "many"] (defScope s__law_draw) := ⟨rfl, rfl, rfl, by decide +kernel, rfl, by decide +kernel, by decide +kernel⟩
theorem ok__law_draw (T : G K mg) : FnOk P w K mg base CX0 1 T.f__law_draw T.d__law_draw ["pool", "many"] sp_draw := by
  refine T.F__law_draw.ok sc__law_draw (fun vs H Q E h => ?_) (fun cdv A outer s H vs Q E hr h => ?_)
  · obtain ⟨a, l, m, rfl, hp, ⟨hm, hm9⟩, k⟩ := h
    rfl
  · obtain ⟨a, l, m, rfl, hp, ⟨hm, hm9⟩, k⟩ := h
    have hu := hu_of hr
    have nd := sc__law_draw.nd
    refine ⟨_, (pss_cons (ps_if (PW.pt (pw_and (pt_cmpR op_eq (pe_ix ix_list (pv 0) pe_int (fun _ _ => rfl)) pe_int (nomark _)) (pw_and1 (pt_cmpR (op_neD hr.units) (pe_ix ix_list (pv 0) pe_int (fun _ _ => rfl)) (pe_lst pa_nil) (nomark _))))) (pss_cons (ps_set (i := 2) nd rfl (Or.inl rfl) (pe_callTy call_int1 (by rfl) T.n_int (by decide +kernel) (pa_cons (pe_bm PySem.F.plainAttrs_list PySem.F.slot_list_pop PySem.F.type_list_pop mt_popAt (pe_ix ix_list (pv 0) pe_int (fun _ _ => rfl)) (pa_cons pe_int pa_nil)) pa_nil)))
        (pss_cons (ps_set (i := 3) nd rfl (Or.inl rfl) (pe_ifExp (pt_cmpR op_ge (pv 2) pe_int (nomark _)) (pe_op op_mulX pe_int (pv 2)) (pe_op op_sub (pe_un un_neg pe_int) (pe_op op_mulX pe_int (pv 2)))))
        (pss_cons (ps_asg (pe_ifExp (pt_cmpR op_ge (pv 3) (pe_op op_pow pe_int pe_int) (nomark _)) (pv 3) pe_int) (pg_sub (pv 0) pe_int set_list))
        (pss_one (ps_asg (pe_op op_add (pe_op op_mod (pe_callTy call_int1 (by rfl) T.n_int (by decide +kernel) (pa_cons (pe_op op_add (pe_ix ix_list (pv 0) pe_int (fun _ _ => rfl)) (pe_op op_mulX (pv 3) pe_int)) pa_nil)) pe_int) pe_int) (pg_sub (pv 0) pe_int set_list)))))) pss_nil)
        (pss_cons (ps_if (pt_cmpR op_gt (pe_ix ix_list (pv 0) pe_int (fun _ _ => rfl)) pe_int (nomark _)) (pss_cons (ps_set (i := 4) nd rfl (Or.inl rfl) (pe_op op_modN (pe_callTy call_int1 (by rfl) T.n_int (by decide +kernel) (pa_cons (pe_ix ix_list (pv 0) pe_int (fun _ _ => rfl)) pa_nil)) (pv 1)))
        (pss_cons (ps_asg (pe_op op_fdivW (pe_ix ix_list (pv 0) pe_int (fun _ _ => rfl)) (pv 1)) (pg_sub (pv 0) pe_int set_list))
        (pss_one (ps_ret (pv 4))))) pss_nil)
        (pss_cons (ps_asg (pe_op op_mod (pe_callTy call_int1 (by rfl) T.n_int (by decide +kernel) (pa_cons (pe_op op_add (pe_op op_mulX (pe_ix ix_list (pv 0) pe_int (fun _ _ => rfl)) pe_int) pe_int) pa_nil)) pe_int) (pg_sub (pv 0) pe_int set_list))
        (pss_one (ps_ret (pe_op op_modN (pe_op op_fdiv (pe_op op_mod (pe_callTy call_int1 (by rfl) T.n_int (by decide +kernel) (pa_cons (pe_op op_mulX (pe_ix ix_list (pv 0) pe_int (fun _ _ => rfl)) (pe_ix ix_list (pv 0) pe_int (fun _ _ => rfl))) pa_nil)) pe_int) pe_int) (pv 1))))))), ?_⟩
    try dsimp only [L2.cxOf, L2.Cx.nox, L2.Cx.wish]
    rw [show L2.start ["pool", "many", "cell", "size", "found"] [V.ref a, V.int m] = [some (V.ref a), some (V.int m), none, none, none] from rfl]
    obtain ⟨p0, p1, ns, h1, h2, hal, h3, h4, h5⟩ := hp
    rcases ns with _ | ⟨z, ns⟩
    all_goals walk_at "gs"
    all_goals (refine k _ _ ?_ ?_ ⟨_, _, _, by walk_at "hp", by walk_at "hp", hal, ?_, ?_, ?_⟩ (by walk_at "fr"))
    all_goals first | omega | exact Int.fmod_nonneg_of_pos _ hm | exact Int.fmod_lt_of_pos _ hm | exact Int.ediv_nonneg (by omega) (by omega)
local macro_rules | `(tactic| walk_at "st0") => `(tactic| ((with_reducible refine' c_draw ?h ?m (fun d_ H_ lo_ hi_ pl_ st_ => ?_)); (case h => walk_at "pool"); (case m => first | with_reducible assumption | (refine' ⟨?_, ?_⟩ <;> first | decide | omega))))
end
end WD

namespace WD
open PySem PySem.Spec PyProof.Rows L2
-- p ≠ q of two addresses
local macro_rules | `(tactic| walk_at "ne") => `(tactic| first
  | with_reducible assumption
  | with_reducible exact Ne.symm (by assumption)
  | exact ne_some (by with_reducible assumption) (by with_reducible assumption)
  | exact Ne.symm (ne_some (by with_reducible assumption) (by with_reducible assumption)))
local macro_rules | `(tactic| walk_at "nm") => `(tactic| first | with_reducible assumption | with_reducible exact nm0 | ((with_reducible refine' nmS ?a ?b); (case a => walk_at "ne"); (case b => walk_at "nm")))
-- H p = some ?o
local macro_rules | `(tactic| walk_at "hp") => `(tactic| first
  | with_reducible exact upd_same
  | with_reducible assumption
  | ((with_reducible refine' Eq.trans (upd_ne ?a) ?b); (case a => walk_at "ne"); (case b => walk_at "hp"))
  | exact Stay.keep (by with_reducible assumption) _ _ (by walk_at "hp") (by walk_at "nm"))
local macro_rules | `(tactic| walk_at "hpd") => `(tactic| ((refine' Eq.trans ?h ?e); (case h => walk_at "hp"); (case e => exact rfl)))
-- a new address
local macro_rules | `(tactic| walk_at "nw") => `(tactic| ((repeat first | (with_reducible refine' nw_upd ?_) | refine' nw_fr (by with_reducible assumption) ?_); intro p_; intros))
local macro_rules | `(tactic| walk_at "mem") => `(tactic| first | exact List.mem_cons_self | (refine' List.mem_cons_of_mem _ ?_; walk_at "mem"))
-- what stands stays
local macro_rules | `(tactic| walk_at "fr") => `(tactic| first
  | with_reducible assumption
  | exact Stay.refl _ _
  | ((with_reducible refine' Stay.upd ?a ?b); (case a => walk_at "fr"); (case b => walk_at "mem"))
  | ((with_reducible refine' Stay.new ?a ?b); (case b => with_reducible assumption); (case a => walk_at "fr"))
  | (refine' Stay.trans ?_ (by with_reducible assumption); walk_at "fr"))
local macro_rules | `(tactic| walk_at "sq") => `(tactic| first | with_reducible assumption | exact SqL.of (by walk_at "hp"))
local macro_rules | `(tactic| walk_at "sqt") => `(tactic| first | with_reducible assumption | exact SqT.of (by walk_at "hp"))
-- side goals
local macro_rules | `(tactic| walk_at "sd") => `(tactic| first
  | with_reducible assumption | with_reducible rfl | (show _ ≤ sizeLine; decide) | (refine Nat.le_trans (Nat.le_of_ble_eq_true (m := 1000) rfl) (by decide)) | decide | omega
  | exact IntMulOk.of_right (intBits_le_64 (by omega) (by omega)) | exact IntMulOk.of_left (intBits_le_64 (by omega) (by omega))
  | (refine' Or.inl ⟨?_, ?_⟩ <;> omega) | (refine' Or.inr ⟨?_, ?_⟩ <;> omega)
  | (refine' ⟨?_, ?_⟩ <;> walk_at "sd") | (refine' ⟨?_, ?_, ?_⟩ <;> walk_at "sd"))
local macro_rules | `(tactic| walk_at "set") => `(tactic| first | with_reducible exact set0 | with_reducible exact set1 | with_reducible exact set2 | with_reducible exact set3 | with_reducible exact set4 | with_reducible exact set5 | with_reducible exact set6 | with_reducible exact set7 | with_reducible exact set8 | with_reducible exact set9 | with_reducible exact set10 | with_reducible exact set11 | with_reducible exact set12 | with_reducible exact set13 | with_reducible exact set14 | with_reducible exact set15 | with_reducible exact set16 | with_reducible exact set17 | with_reducible exact set18 | with_reducible exact set19 | with_reducible exact set20)
-- one step
local macro_rules | `(tactic| walk_at "st0") => `(tactic| first
  | with_reducible refine' x_seq ?_
  | with_reducible refine' x_next ?_
  | with_reducible refine' x_ifS ?_
  | with_reducible refine' x_asg ?_
  | with_reducible refine' x_ret ?_
  | with_reducible refine' x_retN ?_
  | with_reducible refine' x_drop ?_
  | with_reducible refine' x_brk ?_
  | with_reducible refine' x_cont ?_
  | ((with_reducible refine' x_gName ?e ?_); (case e => walk_at "set"))
  | with_reducible refine' x_gSub ?_
  | with_reducible refine' x_gCons ?_
  | with_reducible refine' x_gNil ?_
  | with_reducible refine' x_c ?_
  | ((with_reducible refine' x_var ?e ?_); (case e => exact rfl))
  | with_reducible refine' x_op ?_
  | with_reducible refine' x_un ?_
  | with_reducible refine' x_if ?_
  | with_reducible refine' x_cb ?_
  | with_reducible refine' x_cons ?_
  | with_reducible refine' x_nil ?_
  | with_reducible refine' x_bm0 ?_
  | with_reducible refine' x_bm ?_
  | with_reducible refine' x_tup ?_
  | with_reducible refine' x_lst ?_
  | ((with_reducible refine' And.intro (a := _ ≤ sizeLine) ?e ?_); (case e => walk_at "sd"); walk_at "nw")
  | with_reducible refine' x_fld ?_
  | with_reducible refine' x_test ?_
  | with_reducible refine' x_tB ?_
  | with_reducible refine' x_and ?_
  | with_reducible refine' x_or ?_
  | with_reducible refine' x_not ?_
  | with_reducible refine' x_notV ?_
  | with_reducible refine' x_andV ?_
  | with_reducible refine' x_orV ?_
  | with_reducible refine' x_rI0 ?_
  | ((with_reducible refine' x_rI ?e ?_); (case e => walk_at "sd"))
  | with_reducible refine' x_rU ?_
  | ((with_reducible refine' x_rEq ?e ?_); (case e => exact rfl))
  | ((with_reducible refine' x_rNe ?e ?_); (case e => exact rfl))
  | ((with_reducible refine' x_ixL0 ?h ?_); (case h => walk_at "sq"))
  | ((with_reducible refine' x_ixL1 ?h ?_); (case h => walk_at "sq"))
  | ((with_reducible refine' x_ixL2 ?h ?_); (case h => walk_at "sq"))
  | ((with_reducible refine' x_ixL0I ?h ?_); (case h => walk_at "sq"))
  | ((with_reducible refine' x_ixL ?h ?e ?_); (case h => walk_at "sq"); (case e => exact rfl))
  | ((with_reducible refine' x_neNil ?h ?h2 ?_); (case h => walk_at "sq"); (case h2 => walk_at "sq"))
  | ((with_reducible refine' x_pop0I ?h ?_); (case h => walk_at "hp"))
  | ((with_reducible refine' x_pop0 ?h ?_); (case h => walk_at "hp"))
  | ((with_reducible refine' x_setL0 ?h ?_); (case h => walk_at "hp"))
  | ((with_reducible refine' x_setL1 ?h ?_); (case h => walk_at "hp"))
  | ((with_reducible refine' x_setL2 ?h ?_); (case h => walk_at "hp"))
  | ((with_reducible refine' x_setL ?h ?e ?_); (case h => walk_at "hp"); (case e => exact rfl))
  | with_reducible refine' .inl ⟨_, rfl, ?_⟩
  | ((with_reducible refine' x_tyL ?h ?_); (case h => walk_at "sq"))
  | with_reducible refine' ⟨_, rfl, ?_⟩)
-- a split
local macro_rules | `(tactic| walk_at "if") => `(tactic| (
  first
  | (with_reducible refine' x_dec (fun h_ => ?_) (fun h_ => ?_))
  | (with_reducible refine' x_decN (fun h_ => ?_) (fun h_ => ?_))
  | (with_reducible refine' x_boolN (fun h_ => ?_) (fun h_ => ?_))
  | (with_reducible refine' x_bool (fun h_ => ?_) (fun h_ => ?_))))
local macro_rules | `(tactic| walk_at "ifs") => `(tactic| (walk_at "if" <;> first
  | (exfalso; first | omega | contradiction)
  | (rename_i h_; (try simp only [BEq.rfl, List.length_map, List.length_cons, List.length_nil, Int.natCast_zero, Int.ofNat_zero, gt_iff_lt, Int.lt_irrefl, Bool.true_eq_false, Bool.false_eq_true, List.isEmpty_nil, List.isEmpty_cons, V.int.injEq, V.str.injEq, V.bl.injEq, reduceCtorEq, not_false_eq_true, not_true_eq_false] at h_); (try (exfalso; omega)))))
local macro_rules | `(tactic| walk_at "ite1") => `(tactic| first
  | with_reducible refine' x_T ?_
  | with_reducible refine' x_F ?_
  | with_reducible refine' x_nT ?_
  | with_reducible refine' x_nF ?_
  | ((with_reducible refine' x_bT ?e ?_); (case e => first | decide | decide +kernel))
  | ((with_reducible refine' x_bF ?e ?_); (case e => first | decide | decide +kernel)))
local macro_rules | `(tactic| walk_at "st") => `(tactic| ((fail_if_success (with_reducible (show (if _ then _ else _)))); walk_at "st0"))
local macro_rules | `(tactic| walk_at "go") => `(tactic| repeat first | walk_at "ite1" | walk_at "st")
local macro_rules | `(tactic| walk_at "gs") => `(tactic| repeat' first | walk_at "ite1" | walk_at "st" | walk_at "ifs")
local macro_rules | `(tactic| walk_at "sz") => `(tactic| first | with_reducible assumption | (refine Nat.le_trans (by assumption) (by decide : 100000 ≤ sizeLine)) | (refine Nat.le_trans (m := 100000) ?_ (by decide); (try simp only [len_add, rep_len]); (try rw [show (Str.ofString "z").length = 1 from rfl]); omega))
local macro_rules | `(tactic| walk_at "hn") => `(tactic| first | with_reducible assumption)
local macro_rules | `(tactic| walk_at "sqo") => `(tactic| first | exact Or.inl (by walk_at "sq") | exact Or.inr (by walk_at "sqt"))
local macro_rules | `(tactic| walk_at "ty1") => `(tactic| first | with_reducible assumption | exact Ty1.int _ | exact Ty1.str _ | exact Ty1.bl _ | exact Ty1.non | exact Ty1.tup (by walk_at "hp") | exact Ty1.lst (by walk_at "hp"))
local macro_rules | `(tactic| walk_at "st2") => `(tactic| first
  | with_reducible refine' And.intro (a := V.non = V.non) rfl ?_
  | with_reducible refine' x_call0 ?_
  | with_reducible refine' x_callS ?_
  | with_reducible refine' x_meth0 ?_
  | with_reducible refine' x_methW0 ?_
  | with_reducible refine' x_make0 ?_
  | with_reducible refine' x_makeW0 ?_
  | with_reducible refine' x_sFld ?_
  | with_reducible refine' x_mkO ?_
  | with_reducible refine' x_chain ?_
  | with_reducible refine' x_dget ?_
  | with_reducible refine' x_dget1 ?_
  | with_reducible refine' x_dget2 ?_
  | with_reducible refine' x_sDPut ?_
  | with_reducible refine' x_pairs ?_
  | with_reducible refine' x_pairs0 ?_
  | with_reducible refine' x_sl ?_
  | with_reducible refine' x_noPart ?_
  | with_reducible refine' x_part ?_
  | ((with_reducible refine' x_disp ?_); walk_at "nw")
  | ((with_reducible refine' x_dnew ?_); walk_at "nw")
  | ((with_reducible refine' x_rz ?h ?_); (case h => walk_at "cf"); walk_at "nw")
  | ((with_reducible refine' x_isi ?h ?e ?_); (case h => walk_at "ty1"); (case e => decide))
  | ((with_reducible refine' x_fldR ?h ?c ?n ?e ?_); (case h => walk_at "hp"); (case c => walk_at "cf"); (case n => walk_at "cf"); (case e => walk_at "fl"))
  | ((with_reducible refine' x_onIns ?h ?n ?_); (case h => walk_at "hp"); (case n => walk_at "fl"))
  | ((with_reducible refine' x_addS ?l ?_); (case l => walk_at "sz"))
  | ((with_reducible refine' x_lenS ?l ?_); (case l => walk_at "sz"))
  | ((with_reducible refine' x_lenL ?h ?_); (case h => walk_at "sqo"))
  | ((with_reducible refine' x_slL ?h rfl ?_); (case h => walk_at "sq"); walk_at "nw")
  | ((with_reducible refine' x_listOf ?h ?_); (case h => walk_at "sqo"); walk_at "nw")
  | ((with_reducible refine' x_strmul ?c ?_); (case c => (refine' ⟨?_, ?_, ?_⟩ <;> first | omega | decide +kernel)))
  | ((with_reducible refine' x_isD2 ?h ?_); (case h => walk_at "hp"))
  | ((with_reducible refine' x_getI ?h ?_); (case h => walk_at "hp"))
  | ((with_reducible refine' x_getS ?h ?_); (case h => walk_at "hp"))
  | ((with_reducible refine' x_dgetS ?h ?e ?_); (case h => walk_at "hp"); (case e => walk_at "fl"))
  | ((with_reducible refine' x_ixT ?h ?e ?_); (case h => walk_at "sqt"); (case e => exact rfl))
  | ((with_reducible refine' x_gTup ?h ?e ?_); (case h => walk_at "sqt"); (case e => exact rfl)))
local macro_rules | `(tactic| walk_at "st0") => `(tactic| walk_at "st2")
local macro_rules | `(tactic| walk_at "fl") => `(tactic| first
  | with_reducible exact lk_hd
  | ((with_reducible refine' lk_tl ?n ?h); (case n => walk_at "nq"); (case h => walk_at "fl"))
  | with_reducible exact lk_nil
  | with_reducible exact pf_hd
  | ((with_reducible refine' pf_tl ?n ?h); (case n => walk_at "nq"); (case h => walk_at "fl"))
  | with_reducible exact pf_nil
  | with_reducible exact vl_hd
  | ((with_reducible refine' vl_tl ?n ?h); (case n => walk_at "nr"); (case h => walk_at "fl"))
  | with_reducible exact vl_nil
  | ((with_reducible refine' pk_hd ?n); (case n => rfl))
  | ((with_reducible refine' pk_tl ?n ?t ?h); (case n => walk_at "nr"); (case t => rfl); (case h => walk_at "fl")))
local macro_rules | `(tactic| walk_at "cf") => `(tactic| with_reducible assumption)
local macro_rules | `(tactic| walk_at "st0") => `(tactic| first
  | ((with_reducible refine' x_sFldR ?h ?c ?n ?l ?e ?_); (case h => walk_at "hp"); (case c => walk_at "cf"); (case n => walk_at "cf"); (case l => exact Nat.le_of_ble_eq_true rfl); (case e => walk_at "fl")))
local macro_rules | `(tactic| walk_at "pool") => `(tactic| first
  | with_reducible assumption
  | exact Pool.ne (by walk_at "pool") (by walk_at "ne") (by walk_at "ne")
  | exact Pool.stay (by walk_at "pool") (by with_reducible assumption) (by walk_at "nm") (by walk_at "nm"))
local macro_rules | `(tactic| walk_at "szl") => `(tactic| first | exact Nat.lt_of_le_of_lt (Nat.le_of_ble_eq_true (m := 1000) rfl) (by decide) | exact Nat.lt_of_le_of_lt (by with_reducible assumption) (by decide : 1000 < sizeLine))
local macro_rules | `(tactic| walk_at "st0") => `(tactic| first
  | ((with_reducible refine' x_putS ?h ?l ?e ?_); (case h => walk_at "hp"); (case l => walk_at "szl"); (case e => walk_at "fl"))
  | ((with_reducible refine' x_setD ?h ?l ?e ?_); (case h => walk_at "hp"); (case l => walk_at "szl"); (case e => walk_at "fl"))
  | ((with_reducible refine' x_putI ?h ?l ?_); (case h => walk_at "hp"); (case l => walk_at "szl")))
local macro_rules | `(tactic| walk_at "st0") => `(tactic| first
  | ((with_reducible refine' x_rowN ?e ?_); (case e => walk_at "cf"); walk_at "nw"; (try dsimp only [List.set]))
  | ((with_reducible refine' x_rowF ?e ?_); (case e => walk_at "cf"))
  | with_reducible refine' x_xw ?_
  | ((with_reducible refine' x_xwR ?t ?h ?_); (case t => walk_at "cf"); (case h => walk_at "hp")))
local macro_rules | `(tactic| walk_at "st0") => `(tactic| first
  | ((with_reducible refine' x_isXR ?k ?x ?h ?e ?_); (case k => exact ClsV.own _); (case x => exact ExT.xc (by with_reducible assumption)); (case h => walk_at "hp"); (case e => walk_at "cf")))
local macro_rules | `(tactic| walk_at "nq") => `(tactic| first | with_reducible exact q_fuse__frames | with_reducible exact q_fuse__tape | with_reducible exact q_fuse__safe | with_reducible exact q_fuse__shelf | with_reducible exact q_fuse__writes | with_reducible exact q_frames__fuse | with_reducible exact q_frames__tape | with_reducible exact q_frames__safe | with_reducible exact q_frames__shelf | with_reducible exact q_frames__writes | with_reducible exact q_tape__fuse | with_reducible exact q_tape__frames | with_reducible exact q_tape__safe | with_reducible exact q_tape__shelf | with_reducible exact q_tape__writes | with_reducible exact q_safe__fuse | with_reducible exact q_safe__frames | with_reducible exact q_safe__tape | with_reducible exact q_safe__shelf | with_reducible exact q_safe__writes | with_reducible exact q_shelf__fuse | with_reducible exact q_shelf__frames | with_reducible exact q_shelf__tape | with_reducible exact q_shelf__safe | with_reducible exact q_shelf__writes | with_reducible exact q_writes__fuse | with_reducible exact q_writes__frames | with_reducible exact q_writes__tape | with_reducible exact q_writes__safe | with_reducible exact q_writes__shelf | decide +kernel)
local macro_rules | `(tactic| walk_at "nr") => `(tactic| first | with_reducible exact rfuse_frames | with_reducible exact rfuse_tape | with_reducible exact rfuse_safe | with_reducible exact rfuse_shelf | with_reducible exact rfuse_writes | with_reducible exact rframes_fuse | with_reducible exact rframes_tape | with_reducible exact rframes_safe | with_reducible exact rframes_shelf | with_reducible exact rframes_writes | with_reducible exact rtape_fuse | with_reducible exact rtape_frames | with_reducible exact rtape_safe | with_reducible exact rtape_shelf | with_reducible exact rtape_writes | with_reducible exact rsafe_fuse | with_reducible exact rsafe_frames | with_reducible exact rsafe_tape | with_reducible exact rsafe_shelf | with_reducible exact rsafe_writes | with_reducible exact rshelf_fuse | with_reducible exact rshelf_frames | with_reducible exact rshelf_tape | with_reducible exact rshelf_safe | with_reducible exact rshelf_writes | with_reducible exact rwrites_fuse | with_reducible exact rwrites_frames | with_reducible exact rwrites_tape | with_reducible exact rwrites_safe | with_reducible exact rwrites_shelf | decide +kernel)
local macro_rules | `(tactic| walk_at "st0") => `(tactic| ((with_reducible refine' c_is_number ?h ?_); (case h => walk_at "ty1")))
local macro_rules | `(tactic| walk_at "st0") => `(tactic| ((with_reducible refine' c_is_within ?h ?_); (case h => walk_at "ty1")))
local macro_rules | `(tactic| walk_at "st0") => `(tactic| ((with_reducible refine' c_is_page ?h ?_); (case h => walk_at "ty1")))
local macro_rules | `(tactic| walk_at "st0") => `(tactic| (with_reducible refine' c_check (fun hz_ => ?_) (fun hz_ => ?_)))
local macro_rules | `(tactic| walk_at "st0") => `(tactic| ((with_reducible refine' c_tape ?h ?_); (case h => with_reducible assumption)))
local macro_rules | `(tactic| walk_at "st0") => `(tactic| ((with_reducible refine' c_safe ?h ?_); (case h => with_reducible assumption)))
local macro_rules | `(tactic| walk_at "st0") => `(tactic| ((with_reducible refine' c_shelf ?h ?_); (case h => with_reducible assumption)))
local macro_rules | `(tactic| walk_at "st0") => `(tactic| ((with_reducible refine' c_writes ?h ?_); (case h => with_reducible assumption)))
local macro_rules | `(tactic| walk_at "st0") => `(tactic| ((with_reducible refine' c_draw ?h ?m (fun d_ H_ lo_ hi_ pl_ st_ => ?_)); (case h => walk_at "pool"); (case m => first | with_reducible assumption | (refine' ⟨?_, ?_⟩ <;> first | decide | omega))))
section
variable {P : Program} {w : World} {K : PySem.W.Frag} {mg : Str → Option Value} {base : Heap}
def TextOk (t : Str) : Prop := PyData.strOk t = true ∧ t.length ≤ 20
def sp_text : Sp := fun vs H Q _ => ∃ (a l : Addr), vs = [.ref a] ∧ Pool H a l ∧ ∀ t H', TextOk t → Pool H' a l → Stay [a, l] H H' → Q (.str t) H'
theorem c_text {a l : Addr} {H : Hp} {Q : VK} {E : XK} (h : Pool H a l) (q : ∀ t H', TextOk t → Pool H' a l → Stay [a, l] H H' → Q (.str t) H') : sp_text [.ref a] H Q E := ⟨a, l, rfl, h, q⟩
def IsText (n : Nat) (v : V) : Prop := ∃ t, v = .str t ∧ PyData.strOk t = true ∧ t.length ≤ n
theorem isText_mem {n : Nat} {v : V} {xs : List V} (h : v ∈ xs) (a : ∀ x ∈ xs, IsText n x) : IsText n v := a v h
theorem sc__law_text : FnScope ["pool", "menu"] ["pool"] (defScope s__law_text) := ⟨rfl, rfl, rfl, by decide +kernel, rfl, by decide +kernel, by decide +kernel⟩
theorem ok__law_text (T : G K mg) : FnOk P w K mg base CX0 2 T.f__law_text T.d__law_text ["pool"] sp_text := by
  refine T.F__law_text.ok sc__law_text (fun vs H Q E h => ?_) (fun cdv A outer s H vs Q E hr h => ?_)
  · obtain ⟨a, l, rfl, hp, k⟩ := h
    rfl
  · obtain ⟨a, l, rfl, hp, k⟩ := h
    have hu := hu_of hr
    have nd := sc__law_text.nd
    refine ⟨_, (pss_cons (ps_set (i := 1) nd rfl (Or.inl rfl) (pe_lst (pa_cons pe_str (pa_cons pe_str (pa_cons pe_str (pa_cons pe_str (pa_cons pe_str (pa_cons pe_str pa_nil))))))))
        (pss_one (ps_ret (pe_op op_add_str (pe_ix ix_list (pv 1) (pe_call (ok__law_draw T) (hr.mono (by decide)) rfl T.g__law_draw T.F__law_draw.kp T.b__law_draw .nil pass0 (pa_cons (pv 0) (pa_cons pe_int pa_nil))) (fun _ _ => rfl)) (pe_op op_strmul pe_str (pe_call (ok__law_draw T) (hr.mono (by decide)) rfl T.g__law_draw T.F__law_draw.kp T.b__law_draw .nil pass0 (pa_cons (pv 0) (pa_cons pe_int pa_nil)))))))), ?_⟩
    try dsimp only [L2.cxOf, L2.Cx.nox, L2.Cx.wish]
    rw [show L2.start ["pool", "menu"] [V.ref a] = [some (V.ref a), none] from rfl]
    obtain ⟨oa, ol, ea, el, nal⟩ := hp.ex
    walk_at "go"
    refine x_ixMem (n := 6) (by walk_at "sq") (by assumption) (by assumption) rfl (fun v hv => ?_)
    have ht : IsText 15 v := by
      simp only [List.mem_cons, List.not_mem_nil, or_false] at hv
      rcases hv with rfl | rfl | rfl | rfl | rfl | rfl <;> exact ⟨_, rfl, by decide +kernel, by decide +kernel⟩
    obtain ⟨t, rfl, ok, len⟩ := ht
    walk_at "go"
    refine k _ _ ⟨strOk_add ok (strOk_rep ?_), ?_⟩ (by walk_at "pool") (by walk_at "fr")
    · decide +kernel
    rw [len_add, rep_len, show (Str.ofString "z").length = 1 from rfl]
    omega
local macro_rules | `(tactic| walk_at "st0") => `(tactic| ((with_reducible refine' c_text ?h (fun t_ H_ ok_ pl_ st_ => ?_)); (case h => walk_at "pool")))
end
end WD

namespace WD
open PySem PySem.Spec PyProof.Rows L2
-- p ≠ q of two addresses
local macro_rules | `(tactic| walk_at "ne") => `(tactic| first
  | with_reducible assumption
  | with_reducible exact Ne.symm (by assumption)
  | exact ne_some (by with_reducible assumption) (by with_reducible assumption)
  | exact Ne.symm (ne_some (by with_reducible assumption) (by with_reducible assumption)))
local macro_rules | `(tactic| walk_at "nm") => `(tactic| first | with_reducible assumption | with_reducible exact nm0 | ((with_reducible refine' nmS ?a ?b); (case a => walk_at "ne"); (case b => walk_at "nm")))
-- H p = some ?o
local macro_rules | `(tactic| walk_at "hp") => `(tactic| first
  | with_reducible exact upd_same
  | with_reducible assumption
  | ((with_reducible refine' Eq.trans (upd_ne ?a) ?b); (case a => walk_at "ne"); (case b => walk_at "hp"))
  | exact Stay.keep (by with_reducible assumption) _ _ (by walk_at "hp") (by walk_at "nm"))
local macro_rules | `(tactic| walk_at "hpd") => `(tactic| ((refine' Eq.trans ?h ?e); (case h => walk_at "hp"); (case e => exact rfl)))
-- a new address
local macro_rules | `(tactic| walk_at "nw") => `(tactic| ((repeat first | (with_reducible refine' nw_upd ?_) | refine' nw_fr (by with_reducible assumption) ?_); intro p_; intros))
local macro_rules | `(tactic| walk_at "mem") => `(tactic| first | exact List.mem_cons_self | (refine' List.mem_cons_of_mem _ ?_; walk_at "mem"))
-- what stands stays
local macro_rules | `(tactic| walk_at "fr") => `(tactic| first
  | with_reducible assumption
  | exact Stay.refl _ _
  | ((with_reducible refine' Stay.upd ?a ?b); (case a => walk_at "fr"); (case b => walk_at "mem"))
  | ((with_reducible refine' Stay.new ?a ?b); (case b => with_reducible assumption); (case a => walk_at "fr"))
  | (refine' Stay.trans ?_ (by with_reducible assumption); walk_at "fr"))
local macro_rules | `(tactic| walk_at "sq") => `(tactic| first | with_reducible assumption | exact SqL.of (by walk_at "hp"))
local macro_rules | `(tactic| walk_at "sqt") => `(tactic| first | with_reducible assumption | exact SqT.of (by walk_at "hp"))
-- side goals
local macro_rules | `(tactic| walk_at "sd") => `(tactic| first
  | with_reducible assumption | with_reducible rfl | (show _ ≤ sizeLine; decide) | (refine Nat.le_trans (Nat.le_of_ble_eq_true (m := 1000) rfl) (by decide)) | decide | omega
  | exact IntMulOk.of_right (intBits_le_64 (by omega) (by omega)) | exact IntMulOk.of_left (intBits_le_64 (by omega) (by omega))
  | (refine' Or.inl ⟨?_, ?_⟩ <;> omega) | (refine' Or.inr ⟨?_, ?_⟩ <;> omega)
  | (refine' ⟨?_, ?_⟩ <;> walk_at "sd") | (refine' ⟨?_, ?_, ?_⟩ <;> walk_at "sd"))
local macro_rules | `(tactic| walk_at "set") => `(tactic| first | with_reducible exact set0 | with_reducible exact set1 | with_reducible exact set2 | with_reducible exact set3 | with_reducible exact set4 | with_reducible exact set5 | with_reducible exact set6 | with_reducible exact set7 | with_reducible exact set8 | with_reducible exact set9 | with_reducible exact set10 | with_reducible exact set11 | with_reducible exact set12 | with_reducible exact set13 | with_reducible exact set14 | with_reducible exact set15 | with_reducible exact set16 | with_reducible exact set17 | with_reducible exact set18 | with_reducible exact set19 | with_reducible exact set20)
-- one step
local macro_rules | `(tactic| walk_at "st0") => `(tactic| first
  | with_reducible refine' x_seq ?_
  | with_reducible refine' x_next ?_
  | with_reducible refine' x_ifS ?_
  | with_reducible refine' x_asg ?_
  | with_reducible refine' x_ret ?_
  | with_reducible refine' x_retN ?_
  | with_reducible refine' x_drop ?_
  | with_reducible refine' x_brk ?_
  | with_reducible refine' x_cont ?_
  | ((with_reducible refine' x_gName ?e ?_); (case e => walk_at "set"))
  | with_reducible refine' x_gSub ?_
  | with_reducible refine' x_gCons ?_
  | with_reducible refine' x_gNil ?_
  | with_reducible refine' x_c ?_
  | ((with_reducible refine' x_var ?e ?_); (case e => exact rfl))
  | with_reducible refine' x_op ?_
  | with_reducible refine' x_un ?_
  | with_reducible refine' x_if ?_
  | with_reducible refine' x_cb ?_
  | with_reducible refine' x_cons ?_
  | with_reducible refine' x_nil ?_
  | with_reducible refine' x_bm0 ?_
  | with_reducible refine' x_bm ?_
  | with_reducible refine' x_tup ?_
  | with_reducible refine' x_lst ?_
  | ((with_reducible refine' And.intro (a := _ ≤ sizeLine) ?e ?_); (case e => walk_at "sd"); walk_at "nw")
  | with_reducible refine' x_fld ?_
  | with_reducible refine' x_test ?_
  | with_reducible refine' x_tB ?_
  | with_reducible refine' x_and ?_
  | with_reducible refine' x_or ?_
  | with_reducible refine' x_not ?_
  | with_reducible refine' x_notV ?_
  | with_reducible refine' x_andV ?_
  | with_reducible refine' x_orV ?_
  | with_reducible refine' x_rI0 ?_
  | ((with_reducible refine' x_rI ?e ?_); (case e => walk_at "sd"))
  | with_reducible refine' x_rU ?_
  | ((with_reducible refine' x_rEq ?e ?_); (case e => exact rfl))
  | ((with_reducible refine' x_rNe ?e ?_); (case e => exact rfl))
  | ((with_reducible refine' x_ixL0 ?h ?_); (case h => walk_at "sq"))
  | ((with_reducible refine' x_ixL1 ?h ?_); (case h => walk_at "sq"))
  | ((with_reducible refine' x_ixL2 ?h ?_); (case h => walk_at "sq"))
  | ((with_reducible refine' x_ixL0I ?h ?_); (case h => walk_at "sq"))
  | ((with_reducible refine' x_ixL ?h ?e ?_); (case h => walk_at "sq"); (case e => exact rfl))
  | ((with_reducible refine' x_neNil ?h ?h2 ?_); (case h => walk_at "sq"); (case h2 => walk_at "sq"))
  | ((with_reducible refine' x_pop0I ?h ?_); (case h => walk_at "hp"))
  | ((with_reducible refine' x_pop0 ?h ?_); (case h => walk_at "hp"))
  | ((with_reducible refine' x_setL0 ?h ?_); (case h => walk_at "hp"))
  | ((with_reducible refine' x_setL1 ?h ?_); (case h => walk_at "hp"))
  | ((with_reducible refine' x_setL2 ?h ?_); (case h => walk_at "hp"))
  | ((with_reducible refine' x_setL ?h ?e ?_); (case h => walk_at "hp"); (case e => exact rfl))
  | with_reducible refine' .inl ⟨_, rfl, ?_⟩
  | ((with_reducible refine' x_tyL ?h ?_); (case h => walk_at "sq"))
  | with_reducible refine' ⟨_, rfl, ?_⟩)
-- a split
local macro_rules | `(tactic| walk_at "if") => `(tactic| (
  first
  | (with_reducible refine' x_dec (fun h_ => ?_) (fun h_ => ?_))
  | (with_reducible refine' x_decN (fun h_ => ?_) (fun h_ => ?_))
  | (with_reducible refine' x_boolN (fun h_ => ?_) (fun h_ => ?_))
  | (with_reducible refine' x_bool (fun h_ => ?_) (fun h_ => ?_))))
local macro_rules | `(tactic| walk_at "ifs") => `(tactic| (walk_at "if" <;> first
  | (exfalso; first | omega | contradiction)
  | (rename_i h_; (try simp only [BEq.rfl, List.length_map, List.length_cons, List.length_nil, Int.natCast_zero, Int.ofNat_zero, gt_iff_lt, Int.lt_irrefl, Bool.true_eq_false, Bool.false_eq_true, List.isEmpty_nil, List.isEmpty_cons, V.int.injEq, V.str.injEq, V.bl.injEq, reduceCtorEq, not_false_eq_true, not_true_eq_false] at h_); (try (exfalso; omega)))))
local macro_rules | `(tactic| walk_at "ite1") => `(tactic| first
  | with_reducible refine' x_T ?_
  | with_reducible refine' x_F ?_
  | with_reducible refine' x_nT ?_
  | with_reducible refine' x_nF ?_
  | ((with_reducible refine' x_bT ?e ?_); (case e => first | decide | decide +kernel))
  | ((with_reducible refine' x_bF ?e ?_); (case e => first | decide | decide +kernel)))
local macro_rules | `(tactic| walk_at "st") => `(tactic| ((fail_if_success (with_reducible (show (if _ then _ else _)))); walk_at "st0"))
local macro_rules | `(tactic| walk_at "go") => `(tactic| repeat first | walk_at "ite1" | walk_at "st")
local macro_rules | `(tactic| walk_at "gs") => `(tactic| repeat' first | walk_at "ite1" | walk_at "st" | walk_at "ifs")
local macro_rules | `(tactic| walk_at "sz") => `(tactic| first | with_reducible assumption | (refine Nat.le_trans (by assumption) (by decide : 100000 ≤ sizeLine)) | (refine Nat.le_trans (m := 100000) ?_ (by decide); (try simp only [len_add, rep_len]); (try rw [show (Str.ofString "z").length = 1 from rfl]); omega))
local macro_rules | `(tactic| walk_at "hn") => `(tactic| first | with_reducible assumption)
local macro_rules | `(tactic| walk_at "sqo") => `(tactic| first | exact Or.inl (by walk_at "sq") | exact Or.inr (by walk_at "sqt"))
local macro_rules | `(tactic| walk_at "ty1") => `(tactic| first | with_reducible assumption | exact Ty1.int _ | exact Ty1.str _ | exact Ty1.bl _ | exact Ty1.non | exact Ty1.tup (by walk_at "hp") | exact Ty1.lst (by walk_at "hp"))
local macro_rules | `(tactic| walk_at "st2") => `(tactic| first
  | with_reducible refine' And.intro (a := V.non = V.non) rfl ?_
  | with_reducible refine' x_call0 ?_
  | with_reducible refine' x_callS ?_
  | with_reducible refine' x_meth0 ?_
  | with_reducible refine' x_methW0 ?_
  | with_reducible refine' x_make0 ?_
  | with_reducible refine' x_makeW0 ?_
  | with_reducible refine' x_sFld ?_
  | with_reducible refine' x_mkO ?_
  | with_reducible refine' x_chain ?_
  | with_reducible refine' x_dget ?_
  | with_reducible refine' x_dget1 ?_
  | with_reducible refine' x_dget2 ?_
  | with_reducible refine' x_sDPut ?_
  | with_reducible refine' x_pairs ?_
  | with_reducible refine' x_pairs0 ?_
  | with_reducible refine' x_sl ?_
  | with_reducible refine' x_noPart ?_
  | with_reducible refine' x_part ?_
  | ((with_reducible refine' x_disp ?_); walk_at "nw")
  | ((with_reducible refine' x_dnew ?_); walk_at "nw")
  | ((with_reducible refine' x_rz ?h ?_); (case h => walk_at "cf"); walk_at "nw")
  | ((with_reducible refine' x_isi ?h ?e ?_); (case h => walk_at "ty1"); (case e => decide))
  | ((with_reducible refine' x_fldR ?h ?c ?n ?e ?_); (case h => walk_at "hp"); (case c => walk_at "cf"); (case n => walk_at "cf"); (case e => walk_at "fl"))
  | ((with_reducible refine' x_onIns ?h ?n ?_); (case h => walk_at "hp"); (case n => walk_at "fl"))
  | ((with_reducible refine' x_addS ?l ?_); (case l => walk_at "sz"))
  | ((with_reducible refine' x_lenS ?l ?_); (case l => walk_at "sz"))
  | ((with_reducible refine' x_lenL ?h ?_); (case h => walk_at "sqo"))
  | ((with_reducible refine' x_slL ?h rfl ?_); (case h => walk_at "sq"); walk_at "nw")
  | ((with_reducible refine' x_listOf ?h ?_); (case h => walk_at "sqo"); walk_at "nw")
  | ((with_reducible refine' x_strmul ?c ?_); (case c => (refine' ⟨?_, ?_, ?_⟩ <;> first | omega | decide +kernel)))
  | ((with_reducible refine' x_isD2 ?h ?_); (case h => walk_at "hp"))
  | ((with_reducible refine' x_getI ?h ?_); (case h => walk_at "hp"))
  | ((with_reducible refine' x_getS ?h ?_); (case h => walk_at "hp"))
  | ((with_reducible refine' x_dgetS ?h ?e ?_); (case h => walk_at "hp"); (case e => walk_at "fl"))
  | ((with_reducible refine' x_ixT ?h ?e ?_); (case h => walk_at "sqt"); (case e => exact rfl))
  | ((with_reducible refine' x_gTup ?h ?e ?_); (case h => walk_at "sqt"); (case e => exact rfl)))
local macro_rules | `(tactic| walk_at "st0") => `(tactic| walk_at "st2")
local macro_rules | `(tactic| walk_at "fl") => `(tactic| first
  | with_reducible exact lk_hd
  | ((with_reducible refine' lk_tl ?n ?h); (case n => walk_at "nq"); (case h => walk_at "fl"))
  | with_reducible exact lk_nil
  | with_reducible exact pf_hd
  | ((with_reducible refine' pf_tl ?n ?h); (case n => walk_at "nq"); (case h => walk_at "fl"))
  | with_reducible exact pf_nil
  | with_reducible exact vl_hd
  | ((with_reducible refine' vl_tl ?n ?h); (case n => walk_at "nr"); (case h => walk_at "fl"))
  | with_reducible exact vl_nil
  | ((with_reducible refine' pk_hd ?n); (case n => rfl))
  | ((with_reducible refine' pk_tl ?n ?t ?h); (case n => walk_at "nr"); (case t => rfl); (case h => walk_at "fl")))
local macro_rules | `(tactic| walk_at "cf") => `(tactic| with_reducible assumption)
local macro_rules | `(tactic| walk_at "st0") => `(tactic| first
  | ((with_reducible refine' x_sFldR ?h ?c ?n ?l ?e ?_); (case h => walk_at "hp"); (case c => walk_at "cf"); (case n => walk_at "cf"); (case l => exact Nat.le_of_ble_eq_true rfl); (case e => walk_at "fl")))
local macro_rules | `(tactic| walk_at "pool") => `(tactic| first
  | with_reducible assumption
  | exact Pool.ne (by walk_at "pool") (by walk_at "ne") (by walk_at "ne")
  | exact Pool.stay (by walk_at "pool") (by with_reducible assumption) (by walk_at "nm") (by walk_at "nm"))
local macro_rules | `(tactic| walk_at "szl") => `(tactic| first | exact Nat.lt_of_le_of_lt (Nat.le_of_ble_eq_true (m := 1000) rfl) (by decide) | exact Nat.lt_of_le_of_lt (by with_reducible assumption) (by decide : 1000 < sizeLine))
local macro_rules | `(tactic| walk_at "st0") => `(tactic| first
  | ((with_reducible refine' x_putS ?h ?l ?e ?_); (case h => walk_at "hp"); (case l => walk_at "szl"); (case e => walk_at "fl"))
  | ((with_reducible refine' x_setD ?h ?l ?e ?_); (case h => walk_at "hp"); (case l => walk_at "szl"); (case e => walk_at "fl"))
  | ((with_reducible refine' x_putI ?h ?l ?_); (case h => walk_at "hp"); (case l => walk_at "szl")))
local macro_rules | `(tactic| walk_at "st0") => `(tactic| first
  | ((with_reducible refine' x_rowN ?e ?_); (case e => walk_at "cf"); walk_at "nw"; (try dsimp only [List.set]))
  | ((with_reducible refine' x_rowF ?e ?_); (case e => walk_at "cf"))
  | with_reducible refine' x_xw ?_
  | ((with_reducible refine' x_xwR ?t ?h ?_); (case t => walk_at "cf"); (case h => walk_at "hp")))
local macro_rules | `(tactic| walk_at "st0") => `(tactic| first
  | ((with_reducible refine' x_isXR ?k ?x ?h ?e ?_); (case k => exact ClsV.own _); (case x => exact ExT.xc (by with_reducible assumption)); (case h => walk_at "hp"); (case e => walk_at "cf")))
local macro_rules | `(tactic| walk_at "nq") => `(tactic| first | with_reducible exact q_fuse__frames | with_reducible exact q_fuse__tape | with_reducible exact q_fuse__safe | with_reducible exact q_fuse__shelf | with_reducible exact q_fuse__writes | with_reducible exact q_frames__fuse | with_reducible exact q_frames__tape | with_reducible exact q_frames__safe | with_reducible exact q_frames__shelf | with_reducible exact q_frames__writes | with_reducible exact q_tape__fuse | with_reducible exact q_tape__frames | with_reducible exact q_tape__safe | with_reducible exact q_tape__shelf | with_reducible exact q_tape__writes | with_reducible exact q_safe__fuse | with_reducible exact q_safe__frames | with_reducible exact q_safe__tape | with_reducible exact q_safe__shelf | with_reducible exact q_safe__writes | with_reducible exact q_shelf__fuse | with_reducible exact q_shelf__frames | with_reducible exact q_shelf__tape | with_reducible exact q_shelf__safe | with_reducible exact q_shelf__writes | with_reducible exact q_writes__fuse | with_reducible exact q_writes__frames | with_reducible exact q_writes__tape | with_reducible exact q_writes__safe | with_reducible exact q_writes__shelf | decide +kernel)
local macro_rules | `(tactic| walk_at "nr") => `(tactic| first | with_reducible exact rfuse_frames | with_reducible exact rfuse_tape | with_reducible exact rfuse_safe | with_reducible exact rfuse_shelf | with_reducible exact rfuse_writes | with_reducible exact rframes_fuse | with_reducible exact rframes_tape | with_reducible exact rframes_safe | with_reducible exact rframes_shelf | with_reducible exact rframes_writes | with_reducible exact rtape_fuse | with_reducible exact rtape_frames | with_reducible exact rtape_safe | with_reducible exact rtape_shelf | with_reducible exact rtape_writes | with_reducible exact rsafe_fuse | with_reducible exact rsafe_frames | with_reducible exact rsafe_tape | with_reducible exact rsafe_shelf | with_reducible exact rsafe_writes | with_reducible exact rshelf_fuse | with_reducible exact rshelf_frames | with_reducible exact rshelf_tape | with_reducible exact rshelf_safe | with_reducible exact rshelf_writes | with_reducible exact rwrites_fuse | with_reducible exact rwrites_frames | with_reducible exact rwrites_tape | with_reducible exact rwrites_safe | with_reducible exact rwrites_shelf | decide +kernel)
local macro_rules | `(tactic| walk_at "st0") => `(tactic| ((with_reducible refine' c_is_number ?h ?_); (case h => walk_at "ty1")))
local macro_rules | `(tactic| walk_at "st0") => `(tactic| ((with_reducible refine' c_is_within ?h ?_); (case h => walk_at "ty1")))
local macro_rules | `(tactic| walk_at "st0") => `(tactic| ((with_reducible refine' c_is_page ?h ?_); (case h => walk_at "ty1")))
local macro_rules | `(tactic| walk_at "st0") => `(tactic| (with_reducible refine' c_check (fun hz_ => ?_) (fun hz_ => ?_)))
local macro_rules | `(tactic| walk_at "st0") => `(tactic| ((with_reducible refine' c_tape ?h ?_); (case h => with_reducible assumption)))
local macro_rules | `(tactic| walk_at "st0") => `(tactic| ((with_reducible refine' c_safe ?h ?_); (case h => with_reducible assumption)))
local macro_rules | `(tactic| walk_at "st0") => `(tactic| ((with_reducible refine' c_shelf ?h ?_); (case h => with_reducible assumption)))
local macro_rules | `(tactic| walk_at "st0") => `(tactic| ((with_reducible refine' c_writes ?h ?_); (case h => with_reducible assumption)))
local macro_rules | `(tactic| walk_at "st0") => `(tactic| ((with_reducible refine' c_draw ?h ?m (fun d_ H_ lo_ hi_ pl_ st_ => ?_)); (case h => walk_at "pool"); (case m => first | with_reducible assumption | (refine' ⟨?_, ?_⟩ <;> first | decide | omega))))
local macro_rules | `(tactic| walk_at "st0") => `(tactic| ((with_reducible refine' c_text ?h (fun t_ H_ ok_ pl_ st_ => ?_)); (case h => walk_at "pool")))
section
variable {P : Program} {w : World} {K : PySem.W.Frag} {mg : Str → Option Value} {base : Heap}
def words7 : List Str := ["frame", "tape", "sync", "shelf", "cut"]
def sp_call : Sp := fun vs H Q _ => ∃ (a l : Addr), vs = [.ref a] ∧ Pool H a l ∧ ∀ (w : Str) (n : Int) (t : Str) (q : Addr) (H' : Hp), w ∈ words7 → TextOk t → H q = none → H' q = some (.tup [.str w, .int n, .str t]) → Pool H' a l → Stay [a, l] H H' → Q (.ref q) H'
theorem c_call {a l : Addr} {H : Hp} {Q : VK} {E : XK} (h : Pool H a l) (q : ∀ (w : Str) (n : Int) (t : Str) (q : Addr) (H' : Hp), w ∈ words7 → TextOk t → H q = none → H' q = some (.tup [.str w, .int n, .str t]) → Pool H' a l → Stay [a, l] H H' → Q (.ref q) H') : sp_call [.ref a] H Q E := ⟨a, l, rfl, h, q⟩
theorem sc__law_call : FnScope ["pool", "word", "page"] ["pool"] (defScope s__law_call) := ⟨rfl, rfl, rfl, by decide +kernel, rfl, by decide +kernel, by decide +kernel⟩
theorem ok__law_call (T : G K mg) : FnOk P w K mg base CX0 3 T.f__law_call T.d__law_call ["pool"] sp_call := by
  refine T.F__law_call.ok sc__law_call (fun vs H Q E h => ?_) (fun cdv A outer s H vs Q E hr h => ?_)
  · obtain ⟨a, l, rfl, hp, k⟩ := h
    rfl
  · obtain ⟨a, l, rfl, hp, k⟩ := h
    have hu := hu_of hr
    have nd := sc__law_call.nd
    refine ⟨_, (pss_cons (ps_set (i := 1) nd rfl (Or.inl rfl) (pe_ix ix_list (pe_lst (pa_cons pe_str (pa_cons pe_str (pa_cons pe_str (pa_cons pe_str (pa_cons pe_str (pa_cons pe_str (pa_cons pe_str pa_nil)))))))) (pe_call (ok__law_draw T) (hr.mono (by decide)) rfl T.g__law_draw T.F__law_draw.kp T.b__law_draw .nil pass0 (pa_cons (pv 0) (pa_cons pe_int pa_nil))) (fun _ _ => rfl)))
        (pss_cons (ps_set (i := 2) nd rfl (Or.inl rfl) (pe_ix ix_list (pe_lst (pa_cons pe_int (pa_cons pe_int (pa_cons (pe_call (ok__law_draw T) (hr.mono (by decide)) rfl T.g__law_draw T.F__law_draw.kp T.b__law_draw .nil pass0 (pa_cons (pv 0) (pa_cons pe_int pa_nil))) (pa_cons (pe_call (ok__law_draw T) (hr.mono (by decide)) rfl T.g__law_draw T.F__law_draw.kp T.b__law_draw .nil pass0 (pa_cons (pv 0) (pa_cons pe_int pa_nil))) (pa_cons (pe_call (ok__law_draw T) (hr.mono (by decide)) rfl T.g__law_draw T.F__law_draw.kp T.b__law_draw .nil pass0 (pa_cons (pv 0) (pa_cons pe_int pa_nil))) (pa_cons pe_int (pa_cons (pe_un un_neg pe_int) pa_nil)))))))) (pe_call (ok__law_draw T) (hr.mono (by decide)) rfl T.g__law_draw T.F__law_draw.kp T.b__law_draw .nil pass0 (pa_cons (pv 0) (pa_cons pe_int pa_nil))) (fun _ _ => rfl)))
        (pss_one (ps_ret (pe_tup (pa_cons (pv 1) (pa_cons (pv 2) (pa_cons (pe_call (ok__law_text T) (hr.mono (by decide)) rfl T.g__law_text T.F__law_text.kp T.b__law_text .nil pass0 (pa_cons (pv 0) pa_nil)) pa_nil)))))))), ?_⟩
    try dsimp only [L2.cxOf, L2.Cx.nox, L2.Cx.wish]
    rw [show L2.start ["pool", "word", "page"] [V.ref a] = [some (V.ref a), none, none] from rfl]
    obtain ⟨oa, ol, ea, el, nal⟩ := hp.ex
    walk_at "go"
    refine x_ixMem (n := 7) (by walk_at "sq") (by assumption) (by assumption) rfl (fun v hv => ?_)
    have hw : ∃ w, v = .str w ∧ w ∈ words7 := by
      simp only [List.mem_cons, List.not_mem_nil, or_false] at hv
      rcases hv with rfl | rfl | rfl | rfl | rfl | rfl | rfl <;> exact ⟨_, rfl, by decide⟩
    obtain ⟨w, rfl, hw⟩ := hw
    clear hv
    walk_at "go"
    refine x_ixMem (n := 7) (by walk_at "sq") (by assumption) (by assumption) rfl (fun v hv => ?_)
    have hn : ∃ n, v = .int n := by
      simp only [List.mem_cons, List.not_mem_nil, or_false] at hv
      rcases hv with rfl | rfl | rfl | rfl | rfl | rfl | rfl <;> exact ⟨_, rfl⟩
    obtain ⟨n, rfl⟩ := hn
    clear hv
    walk_at "go"
    exact k w n _ _ _ hw (by assumption) (by assumption) (by walk_at "hpd") (by walk_at "pool") (by walk_at "fr")
local macro_rules | `(tactic| walk_at "st0") => `(tactic| ((with_reducible refine' c_call ?h (fun w_ n_ t_ q_ H_ hw_ ok_ nq_ eq_ pl_ st_ => ?_)); (case h => walk_at "pool")))
end
end WD

namespace WD
open PySem PySem.Spec PyProof.Rows L2
-- p ≠ q of two addresses
local macro_rules | `(tactic| walk_at "ne") => `(tactic| first
  | with_reducible assumption
  | with_reducible exact Ne.symm (by assumption)
  | exact ne_some (by with_reducible assumption) (by with_reducible assumption)
  | exact Ne.symm (ne_some (by with_reducible assumption) (by with_reducible assumption)))
local macro_rules | `(tactic| walk_at "nm") => `(tactic| first | with_reducible assumption | with_reducible exact nm0 | ((with_reducible refine' nmS ?a ?b); (case a => walk_at "ne"); (case b => walk_at "nm")))
-- H p = some ?o
local macro_rules | `(tactic| walk_at "hp") => `(tactic| first
  | with_reducible exact upd_same
  | with_reducible assumption
  | ((with_reducible refine' Eq.trans (upd_ne ?a) ?b); (case a => walk_at "ne"); (case b => walk_at "hp"))
  | exact Stay.keep (by with_reducible assumption) _ _ (by walk_at "hp") (by walk_at "nm"))
local macro_rules | `(tactic| walk_at "hpd") => `(tactic| ((refine' Eq.trans ?h ?e); (case h => walk_at "hp"); (case e => exact rfl)))
-- a new address
local macro_rules | `(tactic| walk_at "nw") => `(tactic| ((repeat first | (with_reducible refine' nw_upd ?_) | refine' nw_fr (by with_reducible assumption) ?_); intro p_; intros))
local macro_rules | `(tactic| walk_at "mem") => `(tactic| first | exact List.mem_cons_self | (refine' List.mem_cons_of_mem _ ?_; walk_at "mem"))
-- what stands stays
local macro_rules | `(tactic| walk_at "fr") => `(tactic| first
  | with_reducible assumption
  | exact Stay.refl _ _
  | ((with_reducible refine' Stay.upd ?a ?b); (case a => walk_at "fr"); (case b => walk_at "mem"))
  | ((with_reducible refine' Stay.new ?a ?b); (case b => with_reducible assumption); (case a => walk_at "fr"))
  | (refine' Stay.trans ?_ (by with_reducible assumption); walk_at "fr"))
local macro_rules | `(tactic| walk_at "sq") => `(tactic| first | with_reducible assumption | exact SqL.of (by walk_at "hp"))
local macro_rules | `(tactic| walk_at "sqt") => `(tactic| first | with_reducible assumption | exact SqT.of (by walk_at "hp"))
-- side goals
local macro_rules | `(tactic| walk_at "sd") => `(tactic| first
  | with_reducible assumption | with_reducible rfl | (show _ ≤ sizeLine; decide) | (refine Nat.le_trans (Nat.le_of_ble_eq_true (m := 1000) rfl) (by decide)) | decide | omega
  | exact IntMulOk.of_right (intBits_le_64 (by omega) (by omega)) | exact IntMulOk.of_left (intBits_le_64 (by omega) (by omega))
  | (refine' Or.inl ⟨?_, ?_⟩ <;> omega) | (refine' Or.inr ⟨?_, ?_⟩ <;> omega)
  | (refine' ⟨?_, ?_⟩ <;> walk_at "sd") | (refine' ⟨?_, ?_, ?_⟩ <;> walk_at "sd"))
local macro_rules | `(tactic| walk_at "set") => `(tactic| first | with_reducible exact set0 | with_reducible exact set1 | with_reducible exact set2 | with_reducible exact set3 | with_reducible exact set4 | with_reducible exact set5 | with_reducible exact set6 | with_reducible exact set7 | with_reducible exact set8 | with_reducible exact set9 | with_reducible exact set10 | with_reducible exact set11 | with_reducible exact set12 | with_reducible exact set13 | with_reducible exact set14 | with_reducible exact set15 | with_reducible exact set16 | with_reducible exact set17 | with_reducible exact set18 | with_reducible exact set19 | with_reducible exact set20)
-- one step
local macro_rules | `(tactic| walk_at "st0") => `(tactic| first
  | with_reducible refine' x_seq ?_
  | with_reducible refine' x_next ?_
  | with_reducible refine' x_ifS ?_
  | with_reducible refine' x_asg ?_
  | with_reducible refine' x_ret ?_
  | with_reducible refine' x_retN ?_
  | with_reducible refine' x_drop ?_
  | with_reducible refine' x_brk ?_
  | with_reducible refine' x_cont ?_
  | ((with_reducible refine' x_gName ?e ?_); (case e => walk_at "set"))
  | with_reducible refine' x_gSub ?_
  | with_reducible refine' x_gCons ?_
  | with_reducible refine' x_gNil ?_
  | with_reducible refine' x_c ?_
  | ((with_reducible refine' x_var ?e ?_); (case e => exact rfl))
  | with_reducible refine' x_op ?_
  | with_reducible refine' x_un ?_
  | with_reducible refine' x_if ?_
  | with_reducible refine' x_cb ?_
  | with_reducible refine' x_cons ?_
  | with_reducible refine' x_nil ?_
  | with_reducible refine' x_bm0 ?_
  | with_reducible refine' x_bm ?_
  | with_reducible refine' x_tup ?_
  | with_reducible refine' x_lst ?_
  | ((with_reducible refine' And.intro (a := _ ≤ sizeLine) ?e ?_); (case e => walk_at "sd"); walk_at "nw")
  | with_reducible refine' x_fld ?_
  | with_reducible refine' x_test ?_
  | with_reducible refine' x_tB ?_
  | with_reducible refine' x_and ?_
  | with_reducible refine' x_or ?_
  | with_reducible refine' x_not ?_
  | with_reducible refine' x_notV ?_
  | with_reducible refine' x_andV ?_
  | with_reducible refine' x_orV ?_
  | with_reducible refine' x_rI0 ?_
  | ((with_reducible refine' x_rI ?e ?_); (case e => walk_at "sd"))
  | with_reducible refine' x_rU ?_
  | ((with_reducible refine' x_rEq ?e ?_); (case e => exact rfl))
  | ((with_reducible refine' x_rNe ?e ?_); (case e => exact rfl))
  | ((with_reducible refine' x_ixL0 ?h ?_); (case h => walk_at "sq"))
  | ((with_reducible refine' x_ixL1 ?h ?_); (case h => walk_at "sq"))
  | ((with_reducible refine' x_ixL2 ?h ?_); (case h => walk_at "sq"))
  | ((with_reducible refine' x_ixL0I ?h ?_); (case h => walk_at "sq"))
  | ((with_reducible refine' x_ixL ?h ?e ?_); (case h => walk_at "sq"); (case e => exact rfl))
  | ((with_reducible refine' x_neNil ?h ?h2 ?_); (case h => walk_at "sq"); (case h2 => walk_at "sq"))
  | ((with_reducible refine' x_pop0I ?h ?_); (case h => walk_at "hp"))
  | ((with_reducible refine' x_pop0 ?h ?_); (case h => walk_at "hp"))
  | ((with_reducible refine' x_setL0 ?h ?_); (case h => walk_at "hp"))
  | ((with_reducible refine' x_setL1 ?h ?_); (case h => walk_at "hp"))
  | ((with_reducible refine' x_setL2 ?h ?_); (case h => walk_at "hp"))
  | ((with_reducible refine' x_setL ?h ?e ?_); (case h => walk_at "hp"); (case e => exact rfl))
  | with_reducible refine' .inl ⟨_, rfl, ?_⟩
  | ((with_reducible refine' x_tyL ?h ?_); (case h => walk_at "sq"))
  | with_reducible refine' ⟨_, rfl, ?_⟩)
-- a split
local macro_rules | `(tactic| walk_at "if") => `(tactic| (
  first
  | (with_reducible refine' x_dec (fun h_ => ?_) (fun h_ => ?_))
  | (with_reducible refine' x_decN (fun h_ => ?_) (fun h_ => ?_))
  | (with_reducible refine' x_boolN (fun h_ => ?_) (fun h_ => ?_))
  | (with_reducible refine' x_bool (fun h_ => ?_) (fun h_ => ?_))))
local macro_rules | `(tactic| walk_at "ifs") => `(tactic| (walk_at "if" <;> first
  | (exfalso; first | omega | contradiction)
  | (rename_i h_; (try simp only [BEq.rfl, List.length_map, List.length_cons, List.length_nil, Int.natCast_zero, Int.ofNat_zero, gt_iff_lt, Int.lt_irrefl, Bool.true_eq_false, Bool.false_eq_true, List.isEmpty_nil, List.isEmpty_cons, V.int.injEq, V.str.injEq, V.bl.injEq, reduceCtorEq, not_false_eq_true, not_true_eq_false] at h_); (try (exfalso; omega)))))
local macro_rules | `(tactic| walk_at "ite1") => `(tactic| first
  | with_reducible refine' x_T ?_
  | with_reducible refine' x_F ?_
  | with_reducible refine' x_nT ?_
  | with_reducible refine' x_nF ?_
  | ((with_reducible refine' x_bT ?e ?_); (case e => first | decide | decide +kernel))
  | ((with_reducible refine' x_bF ?e ?_); (case e => first | decide | decide +kernel)))
local macro_rules | `(tactic| walk_at "st") => `(tactic| ((fail_if_success (with_reducible (show (if _ then _ else _)))); walk_at "st0"))
local macro_rules | `(tactic| walk_at "go") => `(tactic| repeat first | walk_at "ite1" | walk_at "st")
local macro_rules | `(tactic| walk_at "gs") => `(tactic| repeat' first | walk_at "ite1" | walk_at "st" | walk_at "ifs")
local macro_rules | `(tactic| walk_at "sz") => `(tactic| first | with_reducible assumption | (refine Nat.le_trans (by assumption) (by decide : 100000 ≤ sizeLine)) | (refine Nat.le_trans (m := 100000) ?_ (by decide); (try simp only [len_add, rep_len]); (try rw [show (Str.ofString "z").length = 1 from rfl]); omega))
local macro_rules | `(tactic| walk_at "hn") => `(tactic| first | with_reducible assumption)
local macro_rules | `(tactic| walk_at "sqo") => `(tactic| first | exact Or.inl (by walk_at "sq") | exact Or.inr (by walk_at "sqt"))
local macro_rules | `(tactic| walk_at "ty1") => `(tactic| first | with_reducible assumption | exact Ty1.int _ | exact Ty1.str _ | exact Ty1.bl _ | exact Ty1.non | exact Ty1.tup (by walk_at "hp") | exact Ty1.lst (by walk_at "hp"))
local macro_rules | `(tactic| walk_at "st2") => `(tactic| first
  | with_reducible refine' And.intro (a := V.non = V.non) rfl ?_
  | with_reducible refine' x_call0 ?_
  | with_reducible refine' x_callS ?_
  | with_reducible refine' x_meth0 ?_
  | with_reducible refine' x_methW0 ?_
  | with_reducible refine' x_make0 ?_
  | with_reducible refine' x_makeW0 ?_
  | with_reducible refine' x_sFld ?_
  | with_reducible refine' x_mkO ?_
  | with_reducible refine' x_chain ?_
  | with_reducible refine' x_dget ?_
  | with_reducible refine' x_dget1 ?_
  | with_reducible refine' x_dget2 ?_
  | with_reducible refine' x_sDPut ?_
  | with_reducible refine' x_pairs ?_
  | with_reducible refine' x_pairs0 ?_
  | with_reducible refine' x_sl ?_
  | with_reducible refine' x_noPart ?_
  | with_reducible refine' x_part ?_
  | ((with_reducible refine' x_disp ?_); walk_at "nw")
  | ((with_reducible refine' x_dnew ?_); walk_at "nw")
  | ((with_reducible refine' x_rz ?h ?_); (case h => walk_at "cf"); walk_at "nw")
  | ((with_reducible refine' x_isi ?h ?e ?_); (case h => walk_at "ty1"); (case e => decide))
  | ((with_reducible refine' x_fldR ?h ?c ?n ?e ?_); (case h => walk_at "hp"); (case c => walk_at "cf"); (case n => walk_at "cf"); (case e => walk_at "fl"))
  | ((with_reducible refine' x_onIns ?h ?n ?_); (case h => walk_at "hp"); (case n => walk_at "fl"))
  | ((with_reducible refine' x_addS ?l ?_); (case l => walk_at "sz"))
  | ((with_reducible refine' x_lenS ?l ?_); (case l => walk_at "sz"))
  | ((with_reducible refine' x_lenL ?h ?_); (case h => walk_at "sqo"))
  | ((with_reducible refine' x_slL ?h rfl ?_); (case h => walk_at "sq"); walk_at "nw")
  | ((with_reducible refine' x_listOf ?h ?_); (case h => walk_at "sqo"); walk_at "nw")
  | ((with_reducible refine' x_strmul ?c ?_); (case c => (refine' ⟨?_, ?_, ?_⟩ <;> first | omega | decide +kernel)))
  | ((with_reducible refine' x_isD2 ?h ?_); (case h => walk_at "hp"))
  | ((with_reducible refine' x_getI ?h ?_); (case h => walk_at "hp"))
  | ((with_reducible refine' x_getS ?h ?_); (case h => walk_at "hp"))
  | ((with_reducible refine' x_dgetS ?h ?e ?_); (case h => walk_at "hp"); (case e => walk_at "fl"))
  | ((with_reducible refine' x_ixT ?h ?e ?_); (case h => walk_at "sqt"); (case e => exact rfl))
  | ((with_reducible refine' x_gTup ?h ?e ?_); (case h => walk_at "sqt"); (case e => exact rfl)))
local macro_rules | `(tactic| walk_at "st0") => `(tactic| walk_at "st2")
local macro_rules | `(tactic| walk_at "fl") => `(tactic| first
  | with_reducible exact lk_hd
  | ((with_reducible refine' lk_tl ?n ?h); (case n => walk_at "nq"); (case h => walk_at "fl"))
  | with_reducible exact lk_nil
  | with_reducible exact pf_hd
  | ((with_reducible refine' pf_tl ?n ?h); (case n => walk_at "nq"); (case h => walk_at "fl"))
  | with_reducible exact pf_nil
  | with_reducible exact vl_hd
  | ((with_reducible refine' vl_tl ?n ?h); (case n => walk_at "nr"); (case h => walk_at "fl"))
  | with_reducible exact vl_nil
  | ((with_reducible refine' pk_hd ?n); (case n => rfl))
  | ((with_reducible refine' pk_tl ?n ?t ?h); (case n => walk_at "nr"); (case t => rfl); (case h => walk_at "fl")))
local macro_rules | `(tactic| walk_at "cf") => `(tactic| with_reducible assumption)
local macro_rules | `(tactic| walk_at "st0") => `(tactic| first
  | ((with_reducible refine' x_sFldR ?h ?c ?n ?l ?e ?_); (case h => walk_at "hp"); (case c => walk_at "cf"); (case n => walk_at "cf"); (case l => exact Nat.le_of_ble_eq_true rfl); (case e => walk_at "fl")))
local macro_rules | `(tactic| walk_at "pool") => `(tactic| first
  | with_reducible assumption
  | exact Pool.ne (by walk_at "pool") (by walk_at "ne") (by walk_at "ne")
  | exact Pool.stay (by walk_at "pool") (by with_reducible assumption) (by walk_at "nm") (by walk_at "nm"))
local macro_rules | `(tactic| walk_at "szl") => `(tactic| first | exact Nat.lt_of_le_of_lt (Nat.le_of_ble_eq_true (m := 1000) rfl) (by decide) | exact Nat.lt_of_le_of_lt (by with_reducible assumption) (by decide : 1000 < sizeLine))
local macro_rules | `(tactic| walk_at "st0") => `(tactic| first
  | ((with_reducible refine' x_putS ?h ?l ?e ?_); (case h => walk_at "hp"); (case l => walk_at "szl"); (case e => walk_at "fl"))
  | ((with_reducible refine' x_setD ?h ?l ?e ?_); (case h => walk_at "hp"); (case l => walk_at "szl"); (case e => walk_at "fl"))
  | ((with_reducible refine' x_putI ?h ?l ?_); (case h => walk_at "hp"); (case l => walk_at "szl")))
local macro_rules | `(tactic| walk_at "st0") => `(tactic| first
  | ((with_reducible refine' x_rowN ?e ?_); (case e => walk_at "cf"); walk_at "nw"; (try dsimp only [List.set]))
  | ((with_reducible refine' x_rowF ?e ?_); (case e => walk_at "cf"))
  | with_reducible refine' x_xw ?_
  | ((with_reducible refine' x_xwR ?t ?h ?_); (case t => walk_at "cf"); (case h => walk_at "hp")))
local macro_rules | `(tactic| walk_at "st0") => `(tactic| first
  | ((with_reducible refine' x_isXR ?k ?x ?h ?e ?_); (case k => exact ClsV.own _); (case x => exact ExT.xc (by with_reducible assumption)); (case h => walk_at "hp"); (case e => walk_at "cf")))
local macro_rules | `(tactic| walk_at "nq") => `(tactic| first | with_reducible exact q_fuse__frames | with_reducible exact q_fuse__tape | with_reducible exact q_fuse__safe | with_reducible exact q_fuse__shelf | with_reducible exact q_fuse__writes | with_reducible exact q_frames__fuse | with_reducible exact q_frames__tape | with_reducible exact q_frames__safe | with_reducible exact q_frames__shelf | with_reducible exact q_frames__writes | with_reducible exact q_tape__fuse | with_reducible exact q_tape__frames | with_reducible exact q_tape__safe | with_reducible exact q_tape__shelf | with_reducible exact q_tape__writes | with_reducible exact q_safe__fuse | with_reducible exact q_safe__frames | with_reducible exact q_safe__tape | with_reducible exact q_safe__shelf | with_reducible exact q_safe__writes | with_reducible exact q_shelf__fuse | with_reducible exact q_shelf__frames | with_reducible exact q_shelf__tape | with_reducible exact q_shelf__safe | with_reducible exact q_shelf__writes | with_reducible exact q_writes__fuse | with_reducible exact q_writes__frames | with_reducible exact q_writes__tape | with_reducible exact q_writes__safe | with_reducible exact q_writes__shelf | decide +kernel)
local macro_rules | `(tactic| walk_at "nr") => `(tactic| first | with_reducible exact rfuse_frames | with_reducible exact rfuse_tape | with_reducible exact rfuse_safe | with_reducible exact rfuse_shelf | with_reducible exact rfuse_writes | with_reducible exact rframes_fuse | with_reducible exact rframes_tape | with_reducible exact rframes_safe | with_reducible exact rframes_shelf | with_reducible exact rframes_writes | with_reducible exact rtape_fuse | with_reducible exact rtape_frames | with_reducible exact rtape_safe | with_reducible exact rtape_shelf | with_reducible exact rtape_writes | with_reducible exact rsafe_fuse | with_reducible exact rsafe_frames | with_reducible exact rsafe_tape | with_reducible exact rsafe_shelf | with_reducible exact rsafe_writes | with_reducible exact rshelf_fuse | with_reducible exact rshelf_frames | with_reducible exact rshelf_tape | with_reducible exact rshelf_safe | with_reducible exact rshelf_writes | with_reducible exact rwrites_fuse | with_reducible exact rwrites_frames | with_reducible exact rwrites_tape | with_reducible exact rwrites_safe | with_reducible exact rwrites_shelf | decide +kernel)
local macro_rules | `(tactic| walk_at "st0") => `(tactic| ((with_reducible refine' c_is_number ?h ?_); (case h => walk_at "ty1")))
local macro_rules | `(tactic| walk_at "st0") => `(tactic| ((with_reducible refine' c_is_within ?h ?_); (case h => walk_at "ty1")))
local macro_rules | `(tactic| walk_at "st0") => `(tactic| ((with_reducible refine' c_is_page ?h ?_); (case h => walk_at "ty1")))
local macro_rules | `(tactic| walk_at "st0") => `(tactic| (with_reducible refine' c_check (fun hz_ => ?_) (fun hz_ => ?_)))
local macro_rules | `(tactic| walk_at "st0") => `(tactic| ((with_reducible refine' c_tape ?h ?_); (case h => with_reducible assumption)))
local macro_rules | `(tactic| walk_at "st0") => `(tactic| ((with_reducible refine' c_safe ?h ?_); (case h => with_reducible assumption)))
local macro_rules | `(tactic| walk_at "st0") => `(tactic| ((with_reducible refine' c_shelf ?h ?_); (case h => with_reducible assumption)))
local macro_rules | `(tactic| walk_at "st0") => `(tactic| ((with_reducible refine' c_writes ?h ?_); (case h => with_reducible assumption)))
local macro_rules | `(tactic| walk_at "st0") => `(tactic| ((with_reducible refine' c_draw ?h ?m (fun d_ H_ lo_ hi_ pl_ st_ => ?_)); (case h => walk_at "pool"); (case m => first | with_reducible assumption | (refine' ⟨?_, ?_⟩ <;> first | decide | omega))))
local macro_rules | `(tactic| walk_at "st0") => `(tactic| ((with_reducible refine' c_text ?h (fun t_ H_ ok_ pl_ st_ => ?_)); (case h => walk_at "pool")))
local macro_rules | `(tactic| walk_at "st0") => `(tactic| ((with_reducible refine' c_call ?h (fun w_ n_ t_ q_ H_ hw_ ok_ nq_ eq_ pl_ st_ => ?_)); (case h => walk_at "pool")))
section
variable {P : Program} {w : World} {K : PySem.W.Frag} {mg : Str → Option Value} {base : Heap}
structure ModelAt (H : Hp) (m e : Addr) (S : DS) : Prop where
  ob : H m = some (.dK [(Sum.inr "fuse", S.f), (Sum.inr "frames", .ref e), (Sum.inr "tape", .str S.t), (Sum.inr "safe", .int S.s), (Sum.inr "shelf", .str S.sh), (Sum.inr "writes", .int S.w)])
  fr : H e = some (.dK S.fr)
  ne : m ≠ e
  fk : FuseOk S.f
def sp_model : Sp := fun vs H Q _ => ∃ f, vs = [f] ∧ FuseOk f ∧ ∀ m e H', H m = none → H e = none → ModelAt H' m e (new0 f) → Stay [] H H' → Q (.ref m) H'
theorem c_model {f : V} {H : Hp} {Q : VK} {E : XK} (h : FuseOk f) (q : ∀ m e H', H m = none → H e = none → ModelAt H' m e (new0 f) → Stay [] H H' → Q (.ref m) H') : sp_model [f] H Q E := ⟨f, rfl, h, q⟩
theorem sc__law_model : FnScope ["fuse"] ["fuse"] (defScope s__law_model) := ⟨rfl, rfl, rfl, by decide +kernel, rfl, by decide +kernel, by decide +kernel⟩
theorem ok__law_model (T : G K mg) : FnOk P w K mg base CX0 1 T.f__law_model T.d__law_model ["fuse"] sp_model := by
  refine T.F__law_model.ok sc__law_model (fun vs H Q E h => ?_) (fun cdv A outer s H vs Q E hr h => ?_)
  · obtain ⟨f, rfl, fk, k⟩ := h
    rfl
  · obtain ⟨f, rfl, fk, k⟩ := h
    have hu := hu_of hr
    have nd := sc__law_model.nd
    refine ⟨_, (pss_one (ps_ret (pe_disp (pps_cons pe_str (pv 0) (pps_cons pe_str pe_dnewK (pps_cons pe_str pe_str (pps_cons pe_str pe_int (pps_cons pe_str pe_str (pps_cons pe_str pe_int pps_nil)))))) (by rfl) (by rfl) (fun z => by cases z) (by decide)))), ?_⟩
    try dsimp only [L2.cxOf, L2.Cx.nox, L2.Cx.wish]
    rw [show L2.start ["fuse"] [f] = [some (f)] from rfl]
    walk_at "go"
    refine x_dispEnd (kvs := [(Sum.inr "fuse", _), (Sum.inr "frames", _), (Sum.inr "tape", _), (Sum.inr "safe", _), (Sum.inr "shelf", _), (Sum.inr "writes", _)]) (by walk_at "hp") rfl (Nat.le_of_ble_eq_true rfl) (show ([Sum.inr "fuse", Sum.inr "frames", Sum.inr "tape", Sum.inr "safe", Sum.inr "shelf", Sum.inr "writes"] : List Key).Nodup from by decide +kernel) ?_
    exact k _ _ _ (by assumption) (by assumption) ⟨by walk_at "hpd", by walk_at "hpd", by walk_at "ne", fk⟩ (by walk_at "fr")
local macro_rules | `(tactic| walk_at "st0") => `(tactic| ((with_reducible refine' c_model ?h (fun m_ e_ H_ nm_ ne_ at_ st_ => ?_)); (case h => with_reducible assumption)))
end
end WD

namespace WD
open PySem PySem.Spec PyProof.Rows L2
-- p ≠ q of two addresses
local macro_rules | `(tactic| walk_at "ne") => `(tactic| first
  | with_reducible assumption
  | with_reducible exact Ne.symm (by assumption)
  | exact ne_some (by with_reducible assumption) (by with_reducible assumption)
  | exact Ne.symm (ne_some (by with_reducible assumption) (by with_reducible assumption)))
local macro_rules | `(tactic| walk_at "nm") => `(tactic| first | with_reducible assumption | with_reducible exact nm0 | ((with_reducible refine' nmS ?a ?b); (case a => walk_at "ne"); (case b => walk_at "nm")))
-- H p = some ?o
local macro_rules | `(tactic| walk_at "hp") => `(tactic| first
  | with_reducible exact upd_same
  | with_reducible assumption
  | ((with_reducible refine' Eq.trans (upd_ne ?a) ?b); (case a => walk_at "ne"); (case b => walk_at "hp"))
  | exact Stay.keep (by with_reducible assumption) _ _ (by walk_at "hp") (by walk_at "nm"))
local macro_rules | `(tactic| walk_at "hpd") => `(tactic| ((refine' Eq.trans ?h ?e); (case h => walk_at "hp"); (case e => exact rfl)))
-- a new address
local macro_rules | `(tactic| walk_at "nw") => `(tactic| ((repeat first | (with_reducible refine' nw_upd ?_) | refine' nw_fr (by with_reducible assumption) ?_); intro p_; intros))
local macro_rules | `(tactic| walk_at "mem") => `(tactic| first | exact List.mem_cons_self | (refine' List.mem_cons_of_mem _ ?_; walk_at "mem"))
-- what stands stays
local macro_rules | `(tactic| walk_at "fr") => `(tactic| first
  | with_reducible assumption
  | exact Stay.refl _ _
  | ((with_reducible refine' Stay.upd ?a ?b); (case a => walk_at "fr"); (case b => walk_at "mem"))
  | ((with_reducible refine' Stay.new ?a ?b); (case b => with_reducible assumption); (case a => walk_at "fr"))
  | (refine' Stay.trans ?_ (by with_reducible assumption); walk_at "fr"))
local macro_rules | `(tactic| walk_at "sq") => `(tactic| first | with_reducible assumption | exact SqL.of (by walk_at "hp"))
local macro_rules | `(tactic| walk_at "sqt") => `(tactic| first | with_reducible assumption | exact SqT.of (by walk_at "hp"))
-- side goals
local macro_rules | `(tactic| walk_at "sd") => `(tactic| first
  | with_reducible assumption | with_reducible rfl | (show _ ≤ sizeLine; decide) | (refine Nat.le_trans (Nat.le_of_ble_eq_true (m := 1000) rfl) (by decide)) | decide | omega
  | exact IntMulOk.of_right (intBits_le_64 (by omega) (by omega)) | exact IntMulOk.of_left (intBits_le_64 (by omega) (by omega))
  | (refine' Or.inl ⟨?_, ?_⟩ <;> omega) | (refine' Or.inr ⟨?_, ?_⟩ <;> omega)
  | (refine' ⟨?_, ?_⟩ <;> walk_at "sd") | (refine' ⟨?_, ?_, ?_⟩ <;> walk_at "sd"))
local macro_rules | `(tactic| walk_at "set") => `(tactic| first | with_reducible exact set0 | with_reducible exact set1 | with_reducible exact set2 | with_reducible exact set3 | with_reducible exact set4 | with_reducible exact set5 | with_reducible exact set6 | with_reducible exact set7 | with_reducible exact set8 | with_reducible exact set9 | with_reducible exact set10 | with_reducible exact set11 | with_reducible exact set12 | with_reducible exact set13 | with_reducible exact set14 | with_reducible exact set15 | with_reducible exact set16 | with_reducible exact set17 | with_reducible exact set18 | with_reducible exact set19 | with_reducible exact set20)
-- one step
local macro_rules | `(tactic| walk_at "st0") => `(tactic| first
  | with_reducible refine' x_seq ?_
  | with_reducible refine' x_next ?_
  | with_reducible refine' x_ifS ?_
  | with_reducible refine' x_asg ?_
  | with_reducible refine' x_ret ?_
  | with_reducible refine' x_retN ?_
  | with_reducible refine' x_drop ?_
  | with_reducible refine' x_brk ?_
  | with_reducible refine' x_cont ?_
  | ((with_reducible refine' x_gName ?e ?_); (case e => walk_at "set"))
  | with_reducible refine' x_gSub ?_
  | with_reducible refine' x_gCons ?_
  | with_reducible refine' x_gNil ?_
  | with_reducible refine' x_c ?_
  | ((with_reducible refine' x_var ?e ?_); (case e => exact rfl))
  | with_reducible refine' x_op ?_
  | with_reducible refine' x_un ?_
  | with_reducible refine' x_if ?_
  | with_reducible refine' x_cb ?_
  | with_reducible refine' x_cons ?_
  | with_reducible refine' x_nil ?_
  | with_reducible refine' x_bm0 ?_
  | with_reducible refine' x_bm ?_
  | with_reducible refine' x_tup ?_
  | with_reducible refine' x_lst ?_
  | ((with_reducible refine' And.intro (a := _ ≤ sizeLine) ?e ?_); (case e => walk_at "sd"); walk_at "nw")
  | with_reducible refine' x_fld ?_
  | with_reducible refine' x_test ?_
  | with_reducible refine' x_tB ?_
  | with_reducible refine' x_and ?_
  | with_reducible refine' x_or ?_
  | with_reducible refine' x_not ?_
  | with_reducible refine' x_notV ?_
  | with_reducible refine' x_andV ?_
  | with_reducible refine' x_orV ?_
  | with_reducible refine' x_rI0 ?_
  | ((with_reducible refine' x_rI ?e ?_); (case e => walk_at "sd"))
  | with_reducible refine' x_rU ?_
  | ((with_reducible refine' x_rEq ?e ?_); (case e => exact rfl))
  | ((with_reducible refine' x_rNe ?e ?_); (case e => exact rfl))
  | ((with_reducible refine' x_ixL0 ?h ?_); (case h => walk_at "sq"))
  | ((with_reducible refine' x_ixL1 ?h ?_); (case h => walk_at "sq"))
  | ((with_reducible refine' x_ixL2 ?h ?_); (case h => walk_at "sq"))
  | ((with_reducible refine' x_ixL0I ?h ?_); (case h => walk_at "sq"))
  | ((with_reducible refine' x_ixL ?h ?e ?_); (case h => walk_at "sq"); (case e => exact rfl))
  | ((with_reducible refine' x_neNil ?h ?h2 ?_); (case h => walk_at "sq"); (case h2 => walk_at "sq"))
  | ((with_reducible refine' x_pop0I ?h ?_); (case h => walk_at "hp"))
  | ((with_reducible refine' x_pop0 ?h ?_); (case h => walk_at "hp"))
  | ((with_reducible refine' x_setL0 ?h ?_); (case h => walk_at "hp"))
  | ((with_reducible refine' x_setL1 ?h ?_); (case h => walk_at "hp"))
  | ((with_reducible refine' x_setL2 ?h ?_); (case h => walk_at "hp"))
  | ((with_reducible refine' x_setL ?h ?e ?_); (case h => walk_at "hp"); (case e => exact rfl))
  | with_reducible refine' .inl ⟨_, rfl, ?_⟩
  | ((with_reducible refine' x_tyL ?h ?_); (case h => walk_at "sq"))
  | with_reducible refine' ⟨_, rfl, ?_⟩)
-- a split
local macro_rules | `(tactic| walk_at "if") => `(tactic| (
  first
  | (with_reducible refine' x_dec (fun h_ => ?_) (fun h_ => ?_))
  | (with_reducible refine' x_decN (fun h_ => ?_) (fun h_ => ?_))
  | (with_reducible refine' x_boolN (fun h_ => ?_) (fun h_ => ?_))
  | (with_reducible refine' x_bool (fun h_ => ?_) (fun h_ => ?_))))
local macro_rules | `(tactic| walk_at "ifs") => `(tactic| (walk_at "if" <;> first
  | (exfalso; first | omega | contradiction)
  | (rename_i h_; (try simp only [BEq.rfl, List.length_map, List.length_cons, List.length_nil, Int.natCast_zero, Int.ofNat_zero, gt_iff_lt, Int.lt_irrefl, Bool.true_eq_false, Bool.false_eq_true, List.isEmpty_nil, List.isEmpty_cons, V.int.injEq, V.str.injEq, V.bl.injEq, reduceCtorEq, not_false_eq_true, not_true_eq_false] at h_); (try (exfalso; omega)))))
local macro_rules | `(tactic| walk_at "ite1") => `(tactic| first
  | with_reducible refine' x_T ?_
  | with_reducible refine' x_F ?_
  | with_reducible refine' x_nT ?_
  | with_reducible refine' x_nF ?_
  | ((with_reducible refine' x_bT ?e ?_); (case e => first | decide | decide +kernel))
  | ((with_reducible refine' x_bF ?e ?_); (case e => first | decide | decide +kernel)))
local macro_rules | `(tactic| walk_at "st") => `(tactic| ((fail_if_success (with_reducible (show (if _ then _ else _)))); walk_at "st0"))
local macro_rules | `(tactic| walk_at "go") => `(tactic| repeat first | walk_at "ite1" | walk_at "st")
local macro_rules | `(tactic| walk_at "gs") => `(tactic| repeat' first | walk_at "ite1" | walk_at "st" | walk_at "ifs")
local macro_rules | `(tactic| walk_at "sz") => `(tactic| first | with_reducible assumption | (refine Nat.le_trans (by assumption) (by decide : 100000 ≤ sizeLine)) | (refine Nat.le_trans (m := 100000) ?_ (by decide); (try simp only [len_add, rep_len]); (try rw [show (Str.ofString "z").length = 1 from rfl]); omega))
local macro_rules | `(tactic| walk_at "hn") => `(tactic| first | with_reducible assumption)
local macro_rules | `(tactic| walk_at "sqo") => `(tactic| first | exact Or.inl (by walk_at "sq") | exact Or.inr (by walk_at "sqt"))
local macro_rules | `(tactic| walk_at "ty1") => `(tactic| first | with_reducible assumption | exact Ty1.int _ | exact Ty1.str _ | exact Ty1.bl _ | exact Ty1.non | exact Ty1.tup (by walk_at "hp") | exact Ty1.lst (by walk_at "hp"))
local macro_rules | `(tactic| walk_at "st2") => `(tactic| first
  | with_reducible refine' And.intro (a := V.non = V.non) rfl ?_
  | with_reducible refine' x_call0 ?_
  | with_reducible refine' x_callS ?_
  | with_reducible refine' x_meth0 ?_
  | with_reducible refine' x_methW0 ?_
  | with_reducible refine' x_make0 ?_
  | with_reducible refine' x_makeW0 ?_
  | with_reducible refine' x_sFld ?_
  | with_reducible refine' x_mkO ?_
  | with_reducible refine' x_chain ?_
  | with_reducible refine' x_dget ?_
  | with_reducible refine' x_dget1 ?_
  | with_reducible refine' x_dget2 ?_
  | with_reducible refine' x_sDPut ?_
  | with_reducible refine' x_pairs ?_
  | with_reducible refine' x_pairs0 ?_
  | with_reducible refine' x_sl ?_
  | with_reducible refine' x_noPart ?_
  | with_reducible refine' x_part ?_
  | ((with_reducible refine' x_disp ?_); walk_at "nw")
  | ((with_reducible refine' x_dnew ?_); walk_at "nw")
  | ((with_reducible refine' x_rz ?h ?_); (case h => walk_at "cf"); walk_at "nw")
  | ((with_reducible refine' x_isi ?h ?e ?_); (case h => walk_at "ty1"); (case e => decide))
  | ((with_reducible refine' x_fldR ?h ?c ?n ?e ?_); (case h => walk_at "hp"); (case c => walk_at "cf"); (case n => walk_at "cf"); (case e => walk_at "fl"))
  | ((with_reducible refine' x_onIns ?h ?n ?_); (case h => walk_at "hp"); (case n => walk_at "fl"))
  | ((with_reducible refine' x_addS ?l ?_); (case l => walk_at "sz"))
  | ((with_reducible refine' x_lenS ?l ?_); (case l => walk_at "sz"))
  | ((with_reducible refine' x_lenL ?h ?_); (case h => walk_at "sqo"))
  | ((with_reducible refine' x_slL ?h rfl ?_); (case h => walk_at "sq"); walk_at "nw")
  | ((with_reducible refine' x_listOf ?h ?_); (case h => walk_at "sqo"); walk_at "nw")
  | ((with_reducible refine' x_strmul ?c ?_); (case c => (refine' ⟨?_, ?_, ?_⟩ <;> first | omega | decide +kernel)))
  | ((with_reducible refine' x_isD2 ?h ?_); (case h => walk_at "hp"))
  | ((with_reducible refine' x_getI ?h ?_); (case h => walk_at "hp"))
  | ((with_reducible refine' x_getS ?h ?_); (case h => walk_at "hp"))
  | ((with_reducible refine' x_dgetS ?h ?e ?_); (case h => walk_at "hp"); (case e => walk_at "fl"))
  | ((with_reducible refine' x_ixT ?h ?e ?_); (case h => walk_at "sqt"); (case e => exact rfl))
  | ((with_reducible refine' x_gTup ?h ?e ?_); (case h => walk_at "sqt"); (case e => exact rfl)))
local macro_rules | `(tactic| walk_at "st0") => `(tactic| walk_at "st2")
local macro_rules | `(tactic| walk_at "fl") => `(tactic| first
  | with_reducible exact lk_hd
  | ((with_reducible refine' lk_tl ?n ?h); (case n => walk_at "nq"); (case h => walk_at "fl"))
  | with_reducible exact lk_nil
  | with_reducible exact pf_hd
  | ((with_reducible refine' pf_tl ?n ?h); (case n => walk_at "nq"); (case h => walk_at "fl"))
  | with_reducible exact pf_nil
  | with_reducible exact vl_hd
  | ((with_reducible refine' vl_tl ?n ?h); (case n => walk_at "nr"); (case h => walk_at "fl"))
  | with_reducible exact vl_nil
  | ((with_reducible refine' pk_hd ?n); (case n => rfl))
  | ((with_reducible refine' pk_tl ?n ?t ?h); (case n => walk_at "nr"); (case t => rfl); (case h => walk_at "fl")))
local macro_rules | `(tactic| walk_at "cf") => `(tactic| with_reducible assumption)
local macro_rules | `(tactic| walk_at "st0") => `(tactic| first
  | ((with_reducible refine' x_sFldR ?h ?c ?n ?l ?e ?_); (case h => walk_at "hp"); (case c => walk_at "cf"); (case n => walk_at "cf"); (case l => exact Nat.le_of_ble_eq_true rfl); (case e => walk_at "fl")))
local macro_rules | `(tactic| walk_at "pool") => `(tactic| first
  | with_reducible assumption
  | exact Pool.ne (by walk_at "pool") (by walk_at "ne") (by walk_at "ne")
  | exact Pool.stay (by walk_at "pool") (by with_reducible assumption) (by walk_at "nm") (by walk_at "nm"))
local macro_rules | `(tactic| walk_at "szl") => `(tactic| first | exact Nat.lt_of_le_of_lt (Nat.le_of_ble_eq_true (m := 1000) rfl) (by decide) | exact Nat.lt_of_le_of_lt (by with_reducible assumption) (by decide : 1000 < sizeLine))
local macro_rules | `(tactic| walk_at "st0") => `(tactic| first
  | ((with_reducible refine' x_putS ?h ?l ?e ?_); (case h => walk_at "hp"); (case l => walk_at "szl"); (case e => walk_at "fl"))
  | ((with_reducible refine' x_setD ?h ?l ?e ?_); (case h => walk_at "hp"); (case l => walk_at "szl"); (case e => walk_at "fl"))
  | ((with_reducible refine' x_putI ?h ?l ?_); (case h => walk_at "hp"); (case l => walk_at "szl")))
local macro_rules | `(tactic| walk_at "st0") => `(tactic| first
  | ((with_reducible refine' x_rowN ?e ?_); (case e => walk_at "cf"); walk_at "nw"; (try dsimp only [List.set]))
  | ((with_reducible refine' x_rowF ?e ?_); (case e => walk_at "cf"))
  | with_reducible refine' x_xw ?_
  | ((with_reducible refine' x_xwR ?t ?h ?_); (case t => walk_at "cf"); (case h => walk_at "hp")))
local macro_rules | `(tactic| walk_at "st0") => `(tactic| first
  | ((with_reducible refine' x_isXR ?k ?x ?h ?e ?_); (case k => exact ClsV.own _); (case x => exact ExT.xc (by with_reducible assumption)); (case h => walk_at "hp"); (case e => walk_at "cf")))
local macro_rules | `(tactic| walk_at "nq") => `(tactic| first | with_reducible exact q_fuse__frames | with_reducible exact q_fuse__tape | with_reducible exact q_fuse__safe | with_reducible exact q_fuse__shelf | with_reducible exact q_fuse__writes | with_reducible exact q_frames__fuse | with_reducible exact q_frames__tape | with_reducible exact q_frames__safe | with_reducible exact q_frames__shelf | with_reducible exact q_frames__writes | with_reducible exact q_tape__fuse | with_reducible exact q_tape__frames | with_reducible exact q_tape__safe | with_reducible exact q_tape__shelf | with_reducible exact q_tape__writes | with_reducible exact q_safe__fuse | with_reducible exact q_safe__frames | with_reducible exact q_safe__tape | with_reducible exact q_safe__shelf | with_reducible exact q_safe__writes | with_reducible exact q_shelf__fuse | with_reducible exact q_shelf__frames | with_reducible exact q_shelf__tape | with_reducible exact q_shelf__safe | with_reducible exact q_shelf__writes | with_reducible exact q_writes__fuse | with_reducible exact q_writes__frames | with_reducible exact q_writes__tape | with_reducible exact q_writes__safe | with_reducible exact q_writes__shelf | decide +kernel)
local macro_rules | `(tactic| walk_at "nr") => `(tactic| first | with_reducible exact rfuse_frames | with_reducible exact rfuse_tape | with_reducible exact rfuse_safe | with_reducible exact rfuse_shelf | with_reducible exact rfuse_writes | with_reducible exact rframes_fuse | with_reducible exact rframes_tape | with_reducible exact rframes_safe | with_reducible exact rframes_shelf | with_reducible exact rframes_writes | with_reducible exact rtape_fuse | with_reducible exact rtape_frames | with_reducible exact rtape_safe | with_reducible exact rtape_shelf | with_reducible exact rtape_writes | with_reducible exact rsafe_fuse | with_reducible exact rsafe_frames | with_reducible exact rsafe_tape | with_reducible exact rsafe_shelf | with_reducible exact rsafe_writes | with_reducible exact rshelf_fuse | with_reducible exact rshelf_frames | with_reducible exact rshelf_tape | with_reducible exact rshelf_safe | with_reducible exact rshelf_writes | with_reducible exact rwrites_fuse | with_reducible exact rwrites_frames | with_reducible exact rwrites_tape | with_reducible exact rwrites_safe | with_reducible exact rwrites_shelf | decide +kernel)
local macro_rules | `(tactic| walk_at "st0") => `(tactic| ((with_reducible refine' c_is_number ?h ?_); (case h => walk_at "ty1")))
local macro_rules | `(tactic| walk_at "st0") => `(tactic| ((with_reducible refine' c_is_within ?h ?_); (case h => walk_at "ty1")))
local macro_rules | `(tactic| walk_at "st0") => `(tactic| ((with_reducible refine' c_is_page ?h ?_); (case h => walk_at "ty1")))
local macro_rules | `(tactic| walk_at "st0") => `(tactic| (with_reducible refine' c_check (fun hz_ => ?_) (fun hz_ => ?_)))
local macro_rules | `(tactic| walk_at "st0") => `(tactic| ((with_reducible refine' c_tape ?h ?_); (case h => with_reducible assumption)))
local macro_rules | `(tactic| walk_at "st0") => `(tactic| ((with_reducible refine' c_safe ?h ?_); (case h => with_reducible assumption)))
local macro_rules | `(tactic| walk_at "st0") => `(tactic| ((with_reducible refine' c_shelf ?h ?_); (case h => with_reducible assumption)))
local macro_rules | `(tactic| walk_at "st0") => `(tactic| ((with_reducible refine' c_writes ?h ?_); (case h => with_reducible assumption)))
local macro_rules | `(tactic| walk_at "st0") => `(tactic| ((with_reducible refine' c_draw ?h ?m (fun d_ H_ lo_ hi_ pl_ st_ => ?_)); (case h => walk_at "pool"); (case m => first | with_reducible assumption | (refine' ⟨?_, ?_⟩ <;> first | decide | omega))))
local macro_rules | `(tactic| walk_at "st0") => `(tactic| ((with_reducible refine' c_text ?h (fun t_ H_ ok_ pl_ st_ => ?_)); (case h => walk_at "pool")))
local macro_rules | `(tactic| walk_at "st0") => `(tactic| ((with_reducible refine' c_call ?h (fun w_ n_ t_ q_ H_ hw_ ok_ nq_ eq_ pl_ st_ => ?_)); (case h => walk_at "pool")))
local macro_rules | `(tactic| walk_at "st0") => `(tactic| ((with_reducible refine' c_model ?h (fun m_ e_ H_ nm_ ne_ at_ st_ => ?_)); (case h => with_reducible assumption)))
section
variable {P : Program} {w : World} {K : PySem.W.Frag} {mg : Str → Option Value} {base : Heap}
def act (S : DS) (w : Str) (n : Int) (t : Str) : DS :=
  if w = "frame" then { S with w := S.w + 1, fr := putK S.fr (Sum.inl n) (.str t) }
  else if w = "tape" then { S with w := S.w + 1, t := S.t ++ t }
  else if w = "sync" then { S with w := S.w + 1, s := (S.t.length : Int) }
  else if w = "shelf" then { S with w := S.w + 1, sh := t }
  else { S with w := S.w + 1, t := t, s := (t.length : Int) }
theorem act_frame {S : DS} {n : Int} {t : Str} : act S "frame" n t = { S with w := S.w + 1, fr := putK S.fr (Sum.inl n) (.str t) } := by
  unfold act; rw [if_pos (by decide +kernel)]
theorem act_tape {S : DS} {n : Int} {t : Str} : act S "tape" n t = { S with w := S.w + 1, t := S.t ++ t } := by
  unfold act; rw [if_neg (by decide +kernel), if_pos (by decide +kernel)]
theorem act_sync {S : DS} {n : Int} {t : Str} : act S "sync" n t = { S with w := S.w + 1, s := (S.t.length : Int) } := by
  unfold act; rw [if_neg (by decide +kernel), if_neg (by decide +kernel), if_pos (by decide +kernel)]
theorem act_shelf {S : DS} {n : Int} {t : Str} : act S "shelf" n t = { S with w := S.w + 1, sh := t } := by
  unfold act; rw [if_neg (by decide +kernel), if_neg (by decide +kernel), if_neg (by decide +kernel), if_pos (by decide +kernel)]
theorem act_cut {S : DS} {n : Int} {t : Str} : act S "cut" n t = { S with w := S.w + 1, t := t, s := (t.length : Int) } := by
  unfold act; rw [if_neg (by decide +kernel), if_neg (by decide +kernel), if_neg (by decide +kernel), if_neg (by decide +kernel)]
inductive Did (S : DS) (w : Str) (n : Int) (t : Str) : DS → Str → V → Prop
  | page (h : w = "frame") (h2 : ¬ inP n) : Did S w n t S "page" (.int n)
  | fallen (h : w = "frame" → inP n) (k : Int) (f : full S k) : Did S w n t S "fallen" (.int k)
  | done (h : w = "frame" → inP n) (f : ∀ k, ¬ full S k) : Did S w n t (act S w n t) "done" .non
theorem Did.one {S S1 S2 : DS} {w t a b : Str} {n : Int} {x y : V} (h : Did S w n t S1 a x) (h2 : Did S w n t S2 b y) : S1 = S2 ∧ a = b ∧ x = y := by
  cases h with
  | page e1 e2 => cases h2 with
    | page => exact ⟨rfl, rfl, rfl⟩
    | fallen h => exact absurd (h e1) e2
    | done h => exact absurd (h e1) e2
  | fallen e1 k1 f1 => cases h2 with
    | page h z => exact absurd (e1 h) z
    | fallen _ k2 f2 =>
      have := f1.1.symm.trans f2.1
      cases this
      exact ⟨rfl, rfl, rfl⟩
    | done _ f => exact absurd f1 (f _)
  | done e1 f1 => cases h2 with
    | page h z => exact absurd (e1 h) z
    | fallen _ k f => exact absurd f (f1 k)
    | done => exact ⟨rfl, rfl, rfl⟩
theorem DiskAt.ne {C p d q : Addr} {S : DS} {H : Hp} {o : HO} (h : DiskAt C H p d S) (h1 : p ≠ q) (h2 : d ≠ q) : DiskAt C (upd H q o) p d S := by
  obtain ⟨⟨dx, a⟩, b, f⟩ := h
  exact ⟨⟨dx, by rw [upd_ne h1]; exact a⟩, by rw [upd_ne h2]; exact b, f⟩
theorem did_frame {S : DS} {n : Int} {t : Str} (h : inP n) (f : ∀ k, ¬ full S k) : Did S "frame" n t { S with w := S.w + 1, fr := putK S.fr (Sum.inl n) (.str t) } "done" .non := act_frame (S := S) (n := n) (t := t) ▸ Did.done (fun _ => h) f
theorem did_tape {S : DS} {n : Int} {t : Str} (f : ∀ k, ¬ full S k) : Did S "tape" n t { S with w := S.w + 1, t := S.t ++ t } "done" .non := act_tape (S := S) (n := n) (t := t) ▸ Did.done (fun e => absurd e (by decide +kernel)) f
theorem did_sync {S : DS} {n : Int} {t : Str} (f : ∀ k, ¬ full S k) : Did S "sync" n t { S with w := S.w + 1, s := (S.t.length : Int) } "done" .non := act_sync (S := S) (n := n) (t := t) ▸ Did.done (fun e => absurd e (by decide +kernel)) f
theorem did_shelf {S : DS} {n : Int} {t : Str} (f : ∀ k, ¬ full S k) : Did S "shelf" n t { S with w := S.w + 1, sh := t } "done" .non := act_shelf (S := S) (n := n) (t := t) ▸ Did.done (fun e => absurd e (by decide +kernel)) f
theorem did_cut {S : DS} {n : Int} {t : Str} (f : ∀ k, ¬ full S k) : Did S "cut" n t { S with w := S.w + 1, t := t, s := (t.length : Int) } "done" .non := act_cut (S := S) (n := n) (t := t) ▸ Did.done (fun e => absurd e (by decide +kernel)) f
theorem not_full_non {fr : List (Key × V)} {t sh : Str} {s w : Int} : ∀ k, ¬ full ⟨.non, fr, t, s, sh, w⟩ k := fun k z => by cases z.1
theorem not_full_int {fr : List (Key × V)} {t sh : Str} {s w n : Int} (h : ¬ n ≤ w) : ∀ k, ¬ full ⟨.int n, fr, t, s, sh, w⟩ k := fun k z => by
  obtain ⟨a, b⟩ := z
  cases a
  exact h b
def Fits (S : DS) (t : Str) : Prop := S.t.length + t.length ≤ 100000 ∧ S.fr.length ≤ 1000
def sp_due : Sp := fun vs H Q _ => ∃ (m e c : Addr) (S : DS) (w t : Str) (n : Int), vs = [.ref m, .ref c] ∧ ModelAt H m e S ∧ H c = some (.tup [.str w, .int n, .str t]) ∧ w ∈ words7 ∧ Fits S t ∧
  ∀ S' tag x q H', Did S w n t S' tag x → H q = none → H' q = some (.tup [.str tag, x]) → ModelAt H' m e S' → Stay [m, e] H H' → Q (.ref q) H'
theorem c_due {m e c : Addr} {S : DS} {w t : Str} {n : Int} {H : Hp} {Q : VK} {E : XK} (h : ModelAt H m e S) (hc : H c = some (.tup [.str w, .int n, .str t])) (hw : w ∈ words7) (hf : Fits S t)
  (q : ∀ S' tag x q H', Did S w n t S' tag x → H q = none → H' q = some (.tup [.str tag, x]) → ModelAt H' m e S' → Stay [m, e] H H' → Q (.ref q) H') : sp_due [.ref m, .ref c] H Q E := ⟨m, e, c, S, w, t, n, rfl, h, hc, hw, hf, q⟩
theorem sc__law_due : FnScope ["model", "call", "word", "page", "text"] ["model", "call"] (defScope s__law_due) := ⟨rfl, rfl, rfl, by decide +kernel, rfl, by decide +kernel, by decide +kernel⟩
theorem ok__law_due (T : G K mg) : FnOk P w K mg base CX0 1 T.f__law_due T.d__law_due ["model", "call"] sp_due := by
  refine T.F__law_due.ok sc__law_due (fun vs H Q E h => ?_) (fun cdv A outer s H vs Q E hr h => ?_)
  · obtain ⟨m, e, c, S, w, t, n, rfl, ⟨h1, h2, nme, fk⟩, hc, hw, hf, k⟩ := h
    rfl
  · obtain ⟨m, e, c, S, w, t, n, rfl, ⟨h1, h2, nme, fk⟩, hc, hw, hf, k⟩ := h
    have hu := hu_of hr
    have nd := sc__law_due.nd
    refine ⟨_, (pss_cons (ps_asg (pv 1) (pg_tup rfl (pgs_cons (pg_name (i := 2) nd rfl (Or.inl rfl)) (pgs_cons (pg_name (i := 3) nd rfl (Or.inl rfl)) (pgs_cons (pg_name (i := 4) nd rfl (Or.inl rfl)) pgs_nil)))))
        (pss_cons (ps_if (PW.pt (pw_and (pt_cmpR op_eq (pv 2) pe_str (nomark _)) (pw_and1 (pt_not (pt_chain op_le op_le pe_int (pv 3) pe_int))))) (pss_one (ps_ret (pe_tup (pa_cons pe_str (pa_cons (pv 3) pa_nil))))) pss_nil)
        (pss_cons (ps_if (PW.pt (pw_and (pt_cmpR op_notN (pe_dget hu (pv 0) pe_str (fun _ _ => rfl)) pe_non (nomark _)) (pw_and1 (pt_cmpR op_ge (pe_dget hu (pv 0) pe_str (fun _ _ => rfl)) (pe_dget hu (pv 0) pe_str (fun _ _ => rfl)) (nomark _))))) (pss_one (ps_ret (pe_tup (pa_cons pe_str (pa_cons (pe_dget hu (pv 0) pe_str (fun _ _ => rfl)) pa_nil))))) pss_nil)
        (pss_cons (ps_dput hu (pv 0) pe_str (pe_op op_add (pe_dget hu (pv 0) pe_str (fun _ _ => rfl)) pe_int) rfl)
        (pss_cons (ps_if (pt_cmpR op_eq (pv 2) pe_str (nomark _)) (pss_one (ps_dput hu (pe_dget hu (pv 0) pe_str (fun _ _ => rfl)) (pv 3) (pv 4) rfl)) (pss_one (ps_if (pt_cmpR op_eq (pv 2) pe_str (nomark _)) (pss_one (ps_dput hu (pv 0) pe_str (pe_op op_add_str (pe_dget hu (pv 0) pe_str (fun _ _ => rfl)) (pv 4)) rfl)) (pss_one (ps_if (pt_cmpR op_eq (pv 2) pe_str (nomark _)) (pss_one (ps_dput hu (pv 0) pe_str (pe_callB call_len_str (by rfl) T.n_len PySem.boot_len (pa_cons (pe_dget hu (pv 0) pe_str (fun _ _ => rfl)) pa_nil)) rfl)) (pss_one (ps_if (pt_cmpR op_eq (pv 2) pe_str (nomark _)) (pss_one (ps_dput hu (pv 0) pe_str (pv 4) rfl)) (pss_one (ps_asg (pe_tup (pa_cons (pv 4) (pa_cons (pe_callB call_len_str (by rfl) T.n_len PySem.boot_len (pa_cons (pv 4) pa_nil)) pa_nil))) (pg_tup rfl (pgs_cons (pg_sub (pv 0) pe_str (set_dict hu)) (pgs_cons (pg_sub (pv 0) pe_str (set_dict hu)) pgs_nil))))))))))))
        (pss_one (ps_ret (pe_tup (pa_cons pe_str (pa_cons pe_non pa_nil)))))))))), ?_⟩
    try dsimp only [L2.cxOf, L2.Cx.nox, L2.Cx.wish]
    rw [show L2.start ["model", "call", "word", "page", "text"] [V.ref m, V.ref c] = [some (V.ref m), some (V.ref c), none, none, none] from rfl]
    obtain ⟨f, fr, tp, sf, sh, wr⟩ := S
    obtain ⟨hf1, hf2⟩ := hf
    dsimp only at h1 h2 fk hf1 hf2
    simp only [words7, List.mem_cons, List.not_mem_nil, or_false] at hw
    rcases hw with rfl | rfl | rfl | rfl | rfl
    all_goals (rcases fk with rfl | ⟨fn, rfl⟩ <;> walk_at "gs")
    all_goals first
      | exact k _ _ _ _ _ (Did.page rfl (by unfold inP; omega)) (by assumption) (by walk_at "hpd") ⟨by walk_at "hpd", by walk_at "hpd", nme, by first | exact .inl rfl | exact .inr ⟨_, rfl⟩⟩ (by walk_at "fr")
      | exact k _ _ _ _ _ (Did.fallen (fun _ => ⟨by omega, by omega⟩) _ ⟨rfl, by assumption⟩) (by assumption) (by walk_at "hpd") ⟨by walk_at "hpd", by walk_at "hpd", nme, .inr ⟨_, rfl⟩⟩ (by walk_at "fr")
      | exact k _ _ _ _ _ (Did.fallen (fun e => absurd e (by decide +kernel)) _ ⟨rfl, by assumption⟩) (by assumption) (by walk_at "hpd") ⟨by walk_at "hpd", by walk_at "hpd", nme, .inr ⟨_, rfl⟩⟩ (by walk_at "fr")
      | exact k _ _ _ _ _ (did_frame ⟨by omega, by omega⟩ not_full_non) (by assumption) (by walk_at "hpd") ⟨by walk_at "hpd", by walk_at "hpd", nme, .inl rfl⟩ (by walk_at "fr")
      | exact k _ _ _ _ _ (did_frame ⟨by omega, by omega⟩ (not_full_int (by assumption))) (by assumption) (by walk_at "hpd") ⟨by walk_at "hpd", by walk_at "hpd", nme, .inr ⟨_, rfl⟩⟩ (by walk_at "fr")
      | exact k _ _ _ _ _ (did_tape not_full_non) (by assumption) (by walk_at "hpd") ⟨by walk_at "hpd", by walk_at "hpd", nme, .inl rfl⟩ (by walk_at "fr")
      | exact k _ _ _ _ _ (did_tape (not_full_int (by assumption))) (by assumption) (by walk_at "hpd") ⟨by walk_at "hpd", by walk_at "hpd", nme, .inr ⟨_, rfl⟩⟩ (by walk_at "fr")
      | exact k _ _ _ _ _ (did_sync not_full_non) (by assumption) (by walk_at "hpd") ⟨by walk_at "hpd", by walk_at "hpd", nme, .inl rfl⟩ (by walk_at "fr")
      | exact k _ _ _ _ _ (did_sync (not_full_int (by assumption))) (by assumption) (by walk_at "hpd") ⟨by walk_at "hpd", by walk_at "hpd", nme, .inr ⟨_, rfl⟩⟩ (by walk_at "fr")
      | exact k _ _ _ _ _ (did_shelf not_full_non) (by assumption) (by walk_at "hpd") ⟨by walk_at "hpd", by walk_at "hpd", nme, .inl rfl⟩ (by walk_at "fr")
      | exact k _ _ _ _ _ (did_shelf (not_full_int (by assumption))) (by assumption) (by walk_at "hpd") ⟨by walk_at "hpd", by walk_at "hpd", nme, .inr ⟨_, rfl⟩⟩ (by walk_at "fr")
      | exact k _ _ _ _ _ (did_cut not_full_non) (by assumption) (by walk_at "hpd") ⟨by walk_at "hpd", by walk_at "hpd", nme, .inl rfl⟩ (by walk_at "fr")
      | exact k _ _ _ _ _ (did_cut (not_full_int (by assumption))) (by assumption) (by walk_at "hpd") ⟨by walk_at "hpd", by walk_at "hpd", nme, .inr ⟨_, rfl⟩⟩ (by walk_at "fr")
end
end WD

namespace WD
open PySem PySem.Spec PyProof.Rows L2
-- p ≠ q of two addresses
local macro_rules | `(tactic| walk_at "ne") => `(tactic| first
  | with_reducible assumption
  | with_reducible exact Ne.symm (by assumption)
  | exact ne_some (by with_reducible assumption) (by with_reducible assumption)
  | exact Ne.symm (ne_some (by with_reducible assumption) (by with_reducible assumption)))
local macro_rules | `(tactic| walk_at "nm") => `(tactic| first | with_reducible assumption | with_reducible exact nm0 | ((with_reducible refine' nmS ?a ?b); (case a => walk_at "ne"); (case b => walk_at "nm")))
-- H p = some ?o
local macro_rules | `(tactic| walk_at "hp") => `(tactic| first
  | with_reducible exact upd_same
  | with_reducible assumption
  | ((with_reducible refine' Eq.trans (upd_ne ?a) ?b); (case a => walk_at "ne"); (case b => walk_at "hp"))
  | exact Stay.keep (by with_reducible assumption) _ _ (by walk_at "hp") (by walk_at "nm"))
local macro_rules | `(tactic| walk_at "hpd") => `(tactic| ((refine' Eq.trans ?h ?e); (case h => walk_at "hp"); (case e => exact rfl)))
-- a new address
local macro_rules | `(tactic| walk_at "nw") => `(tactic| ((repeat first | (with_reducible refine' nw_upd ?_) | refine' nw_fr (by with_reducible assumption) ?_); intro p_; intros))
local macro_rules | `(tactic| walk_at "mem") => `(tactic| first | exact List.mem_cons_self | (refine' List.mem_cons_of_mem _ ?_; walk_at "mem"))
-- what stands stays
local macro_rules | `(tactic| walk_at "fr") => `(tactic| first
  | with_reducible assumption
  | exact Stay.refl _ _
  | ((with_reducible refine' Stay.upd ?a ?b); (case a => walk_at "fr"); (case b => walk_at "mem"))
  | ((with_reducible refine' Stay.new ?a ?b); (case b => with_reducible assumption); (case a => walk_at "fr"))
  | (refine' Stay.trans ?_ (by with_reducible assumption); walk_at "fr"))
local macro_rules | `(tactic| walk_at "sq") => `(tactic| first | with_reducible assumption | exact SqL.of (by walk_at "hp"))
local macro_rules | `(tactic| walk_at "sqt") => `(tactic| first | with_reducible assumption | exact SqT.of (by walk_at "hp"))
-- side goals
local macro_rules | `(tactic| walk_at "sd") => `(tactic| first
  | with_reducible assumption | with_reducible rfl | (show _ ≤ sizeLine; decide) | (refine Nat.le_trans (Nat.le_of_ble_eq_true (m := 1000) rfl) (by decide)) | decide | omega
  | exact IntMulOk.of_right (intBits_le_64 (by omega) (by omega)) | exact IntMulOk.of_left (intBits_le_64 (by omega) (by omega))
  | (refine' Or.inl ⟨?_, ?_⟩ <;> omega) | (refine' Or.inr ⟨?_, ?_⟩ <;> omega)
  | (refine' ⟨?_, ?_⟩ <;> walk_at "sd") | (refine' ⟨?_, ?_, ?_⟩ <;> walk_at "sd"))
local macro_rules | `(tactic| walk_at "set") => `(tactic| first | with_reducible exact set0 | with_reducible exact set1 | with_reducible exact set2 | with_reducible exact set3 | with_reducible exact set4 | with_reducible exact set5 | with_reducible exact set6 | with_reducible exact set7 | with_reducible exact set8 | with_reducible exact set9 | with_reducible exact set10 | with_reducible exact set11 | with_reducible exact set12 | with_reducible exact set13 | with_reducible exact set14 | with_reducible exact set15 | with_reducible exact set16 | with_reducible exact set17 | with_reducible exact set18 | with_reducible exact set19 | with_reducible exact set20)
-- one step
local macro_rules | `(tactic| walk_at "st0") => `(tactic| first
  | with_reducible refine' x_seq ?_
  | with_reducible refine' x_next ?_
  | with_reducible refine' x_ifS ?_
  | with_reducible refine' x_asg ?_
  | with_reducible refine' x_ret ?_
  | with_reducible refine' x_retN ?_
  | with_reducible refine' x_drop ?_
  | with_reducible refine' x_brk ?_
  | with_reducible refine' x_cont ?_
  | ((with_reducible refine' x_gName ?e ?_); (case e => walk_at "set"))
  | with_reducible refine' x_gSub ?_
  | with_reducible refine' x_gCons ?_
  | with_reducible refine' x_gNil ?_
  | with_reducible refine' x_c ?_
  | ((with_reducible refine' x_var ?e ?_); (case e => exact rfl))
  | with_reducible refine' x_op ?_
  | with_reducible refine' x_un ?_
  | with_reducible refine' x_if ?_
  | with_reducible refine' x_cb ?_
  | with_reducible refine' x_cons ?_
  | with_reducible refine' x_nil ?_
  | with_reducible refine' x_bm0 ?_
  | with_reducible refine' x_bm ?_
  | with_reducible refine' x_tup ?_
  | with_reducible refine' x_lst ?_
  | ((with_reducible refine' And.intro (a := _ ≤ sizeLine) ?e ?_); (case e => walk_at "sd"); walk_at "nw")
  | with_reducible refine' x_fld ?_
  | with_reducible refine' x_test ?_
  | with_reducible refine' x_tB ?_
  | with_reducible refine' x_and ?_
  | with_reducible refine' x_or ?_
  | with_reducible refine' x_not ?_
  | with_reducible refine' x_notV ?_
  | with_reducible refine' x_andV ?_
  | with_reducible refine' x_orV ?_
  | with_reducible refine' x_rI0 ?_
  | ((with_reducible refine' x_rI ?e ?_); (case e => walk_at "sd"))
  | with_reducible refine' x_rU ?_
  | ((with_reducible refine' x_rEq ?e ?_); (case e => exact rfl))
  | ((with_reducible refine' x_rNe ?e ?_); (case e => exact rfl))
  | ((with_reducible refine' x_ixL0 ?h ?_); (case h => walk_at "sq"))
  | ((with_reducible refine' x_ixL1 ?h ?_); (case h => walk_at "sq"))
  | ((with_reducible refine' x_ixL2 ?h ?_); (case h => walk_at "sq"))
  | ((with_reducible refine' x_ixL0I ?h ?_); (case h => walk_at "sq"))
  | ((with_reducible refine' x_ixL ?h ?e ?_); (case h => walk_at "sq"); (case e => exact rfl))
  | ((with_reducible refine' x_neNil ?h ?h2 ?_); (case h => walk_at "sq"); (case h2 => walk_at "sq"))
  | ((with_reducible refine' x_pop0I ?h ?_); (case h => walk_at "hp"))
  | ((with_reducible refine' x_pop0 ?h ?_); (case h => walk_at "hp"))
  | ((with_reducible refine' x_setL0 ?h ?_); (case h => walk_at "hp"))
  | ((with_reducible refine' x_setL1 ?h ?_); (case h => walk_at "hp"))
  | ((with_reducible refine' x_setL2 ?h ?_); (case h => walk_at "hp"))
  | ((with_reducible refine' x_setL ?h ?e ?_); (case h => walk_at "hp"); (case e => exact rfl))
  | with_reducible refine' .inl ⟨_, rfl, ?_⟩
  | ((with_reducible refine' x_tyL ?h ?_); (case h => walk_at "sq"))
  | with_reducible refine' ⟨_, rfl, ?_⟩)
-- a split
local macro_rules | `(tactic| walk_at "if") => `(tactic| (
  first
  | (with_reducible refine' x_dec (fun h_ => ?_) (fun h_ => ?_))
  | (with_reducible refine' x_decN (fun h_ => ?_) (fun h_ => ?_))
  | (with_reducible refine' x_boolN (fun h_ => ?_) (fun h_ => ?_))
  | (with_reducible refine' x_bool (fun h_ => ?_) (fun h_ => ?_))))
local macro_rules | `(tactic| walk_at "ifs") => `(tactic| (walk_at "if" <;> first
  | (exfalso; first | omega | contradiction)
  | (rename_i h_; (try simp only [BEq.rfl, List.length_map, List.length_cons, List.length_nil, Int.natCast_zero, Int.ofNat_zero, gt_iff_lt, Int.lt_irrefl, Bool.true_eq_false, Bool.false_eq_true, List.isEmpty_nil, List.isEmpty_cons, V.int.injEq, V.str.injEq, V.bl.injEq, reduceCtorEq, not_false_eq_true, not_true_eq_false] at h_); (try (exfalso; omega)))))
local macro_rules | `(tactic| walk_at "ite1") => `(tactic| first
  | with_reducible refine' x_T ?_
  | with_reducible refine' x_F ?_
  | with_reducible refine' x_nT ?_
  | with_reducible refine' x_nF ?_
  | ((with_reducible refine' x_bT ?e ?_); (case e => first | decide | decide +kernel))
  | ((with_reducible refine' x_bF ?e ?_); (case e => first | decide | decide +kernel)))
local macro_rules | `(tactic| walk_at "st") => `(tactic| ((fail_if_success (with_reducible (show (if _ then _ else _)))); walk_at "st0"))
local macro_rules | `(tactic| walk_at "go") => `(tactic| repeat first | walk_at "ite1" | walk_at "st")
local macro_rules | `(tactic| walk_at "gs") => `(tactic| repeat' first | walk_at "ite1" | walk_at "st" | walk_at "ifs")
local macro_rules | `(tactic| walk_at "sz") => `(tactic| first | with_reducible assumption | (refine Nat.le_trans (by assumption) (by decide : 100000 ≤ sizeLine)) | (refine Nat.le_trans (m := 100000) ?_ (by decide); (try simp only [len_add, rep_len]); (try rw [show (Str.ofString "z").length = 1 from rfl]); omega))
local macro_rules | `(tactic| walk_at "hn") => `(tactic| first | with_reducible assumption)
local macro_rules | `(tactic| walk_at "sqo") => `(tactic| first | exact Or.inl (by walk_at "sq") | exact Or.inr (by walk_at "sqt"))
local macro_rules | `(tactic| walk_at "ty1") => `(tactic| first | with_reducible assumption | exact Ty1.int _ | exact Ty1.str _ | exact Ty1.bl _ | exact Ty1.non | exact Ty1.tup (by walk_at "hp") | exact Ty1.lst (by walk_at "hp"))
local macro_rules | `(tactic| walk_at "st2") => `(tactic| first
  | with_reducible refine' And.intro (a := V.non = V.non) rfl ?_
  | with_reducible refine' x_call0 ?_
  | with_reducible refine' x_callS ?_
  | with_reducible refine' x_meth0 ?_
  | with_reducible refine' x_methW0 ?_
  | with_reducible refine' x_make0 ?_
  | with_reducible refine' x_makeW0 ?_
  | with_reducible refine' x_sFld ?_
  | with_reducible refine' x_mkO ?_
  | with_reducible refine' x_chain ?_
  | with_reducible refine' x_dget ?_
  | with_reducible refine' x_dget1 ?_
  | with_reducible refine' x_dget2 ?_
  | with_reducible refine' x_sDPut ?_
  | with_reducible refine' x_pairs ?_
  | with_reducible refine' x_pairs0 ?_
  | with_reducible refine' x_sl ?_
  | with_reducible refine' x_noPart ?_
  | with_reducible refine' x_part ?_
  | ((with_reducible refine' x_disp ?_); walk_at "nw")
  | ((with_reducible refine' x_dnew ?_); walk_at "nw")
  | ((with_reducible refine' x_rz ?h ?_); (case h => walk_at "cf"); walk_at "nw")
  | ((with_reducible refine' x_isi ?h ?e ?_); (case h => walk_at "ty1"); (case e => decide))
  | ((with_reducible refine' x_fldR ?h ?c ?n ?e ?_); (case h => walk_at "hp"); (case c => walk_at "cf"); (case n => walk_at "cf"); (case e => walk_at "fl"))
  | ((with_reducible refine' x_onIns ?h ?n ?_); (case h => walk_at "hp"); (case n => walk_at "fl"))
  | ((with_reducible refine' x_addS ?l ?_); (case l => walk_at "sz"))
  | ((with_reducible refine' x_lenS ?l ?_); (case l => walk_at "sz"))
  | ((with_reducible refine' x_lenL ?h ?_); (case h => walk_at "sqo"))
  | ((with_reducible refine' x_slL ?h rfl ?_); (case h => walk_at "sq"); walk_at "nw")
  | ((with_reducible refine' x_listOf ?h ?_); (case h => walk_at "sqo"); walk_at "nw")
  | ((with_reducible refine' x_strmul ?c ?_); (case c => (refine' ⟨?_, ?_, ?_⟩ <;> first | omega | decide +kernel)))
  | ((with_reducible refine' x_isD2 ?h ?_); (case h => walk_at "hp"))
  | ((with_reducible refine' x_getI ?h ?_); (case h => walk_at "hp"))
  | ((with_reducible refine' x_getS ?h ?_); (case h => walk_at "hp"))
  | ((with_reducible refine' x_dgetS ?h ?e ?_); (case h => walk_at "hp"); (case e => walk_at "fl"))
  | ((with_reducible refine' x_ixT ?h ?e ?_); (case h => walk_at "sqt"); (case e => exact rfl))
  | ((with_reducible refine' x_gTup ?h ?e ?_); (case h => walk_at "sqt"); (case e => exact rfl)))
local macro_rules | `(tactic| walk_at "st0") => `(tactic| walk_at "st2")
local macro_rules | `(tactic| walk_at "fl") => `(tactic| first
  | with_reducible exact lk_hd
  | ((with_reducible refine' lk_tl ?n ?h); (case n => walk_at "nq"); (case h => walk_at "fl"))
  | with_reducible exact lk_nil
  | with_reducible exact pf_hd
  | ((with_reducible refine' pf_tl ?n ?h); (case n => walk_at "nq"); (case h => walk_at "fl"))
  | with_reducible exact pf_nil
  | with_reducible exact vl_hd
  | ((with_reducible refine' vl_tl ?n ?h); (case n => walk_at "nr"); (case h => walk_at "fl"))
  | with_reducible exact vl_nil
  | ((with_reducible refine' pk_hd ?n); (case n => rfl))
  | ((with_reducible refine' pk_tl ?n ?t ?h); (case n => walk_at "nr"); (case t => rfl); (case h => walk_at "fl")))
local macro_rules | `(tactic| walk_at "cf") => `(tactic| with_reducible assumption)
local macro_rules | `(tactic| walk_at "st0") => `(tactic| first
  | ((with_reducible refine' x_sFldR ?h ?c ?n ?l ?e ?_); (case h => walk_at "hp"); (case c => walk_at "cf"); (case n => walk_at "cf"); (case l => exact Nat.le_of_ble_eq_true rfl); (case e => walk_at "fl")))
local macro_rules | `(tactic| walk_at "pool") => `(tactic| first
  | with_reducible assumption
  | exact Pool.ne (by walk_at "pool") (by walk_at "ne") (by walk_at "ne")
  | exact Pool.stay (by walk_at "pool") (by with_reducible assumption) (by walk_at "nm") (by walk_at "nm"))
local macro_rules | `(tactic| walk_at "szl") => `(tactic| first | exact Nat.lt_of_le_of_lt (Nat.le_of_ble_eq_true (m := 1000) rfl) (by decide) | exact Nat.lt_of_le_of_lt (by with_reducible assumption) (by decide : 1000 < sizeLine))
local macro_rules | `(tactic| walk_at "st0") => `(tactic| first
  | ((with_reducible refine' x_putS ?h ?l ?e ?_); (case h => walk_at "hp"); (case l => walk_at "szl"); (case e => walk_at "fl"))
  | ((with_reducible refine' x_setD ?h ?l ?e ?_); (case h => walk_at "hp"); (case l => walk_at "szl"); (case e => walk_at "fl"))
  | ((with_reducible refine' x_putI ?h ?l ?_); (case h => walk_at "hp"); (case l => walk_at "szl")))
local macro_rules | `(tactic| walk_at "st0") => `(tactic| first
  | ((with_reducible refine' x_rowN ?e ?_); (case e => walk_at "cf"); walk_at "nw"; (try dsimp only [List.set]))
  | ((with_reducible refine' x_rowF ?e ?_); (case e => walk_at "cf"))
  | with_reducible refine' x_xw ?_
  | ((with_reducible refine' x_xwR ?t ?h ?_); (case t => walk_at "cf"); (case h => walk_at "hp")))
local macro_rules | `(tactic| walk_at "st0") => `(tactic| first
  | ((with_reducible refine' x_isXR ?k ?x ?h ?e ?_); (case k => exact ClsV.own _); (case x => exact ExT.xc (by with_reducible assumption)); (case h => walk_at "hp"); (case e => walk_at "cf")))
local macro_rules | `(tactic| walk_at "nq") => `(tactic| first | with_reducible exact q_fuse__frames | with_reducible exact q_fuse__tape | with_reducible exact q_fuse__safe | with_reducible exact q_fuse__shelf | with_reducible exact q_fuse__writes | with_reducible exact q_frames__fuse | with_reducible exact q_frames__tape | with_reducible exact q_frames__safe | with_reducible exact q_frames__shelf | with_reducible exact q_frames__writes | with_reducible exact q_tape__fuse | with_reducible exact q_tape__frames | with_reducible exact q_tape__safe | with_reducible exact q_tape__shelf | with_reducible exact q_tape__writes | with_reducible exact q_safe__fuse | with_reducible exact q_safe__frames | with_reducible exact q_safe__tape | with_reducible exact q_safe__shelf | with_reducible exact q_safe__writes | with_reducible exact q_shelf__fuse | with_reducible exact q_shelf__frames | with_reducible exact q_shelf__tape | with_reducible exact q_shelf__safe | with_reducible exact q_shelf__writes | with_reducible exact q_writes__fuse | with_reducible exact q_writes__frames | with_reducible exact q_writes__tape | with_reducible exact q_writes__safe | with_reducible exact q_writes__shelf | decide +kernel)
local macro_rules | `(tactic| walk_at "nr") => `(tactic| first | with_reducible exact rfuse_frames | with_reducible exact rfuse_tape | with_reducible exact rfuse_safe | with_reducible exact rfuse_shelf | with_reducible exact rfuse_writes | with_reducible exact rframes_fuse | with_reducible exact rframes_tape | with_reducible exact rframes_safe | with_reducible exact rframes_shelf | with_reducible exact rframes_writes | with_reducible exact rtape_fuse | with_reducible exact rtape_frames | with_reducible exact rtape_safe | with_reducible exact rtape_shelf | with_reducible exact rtape_writes | with_reducible exact rsafe_fuse | with_reducible exact rsafe_frames | with_reducible exact rsafe_tape | with_reducible exact rsafe_shelf | with_reducible exact rsafe_writes | with_reducible exact rshelf_fuse | with_reducible exact rshelf_frames | with_reducible exact rshelf_tape | with_reducible exact rshelf_safe | with_reducible exact rshelf_writes | with_reducible exact rwrites_fuse | with_reducible exact rwrites_frames | with_reducible exact rwrites_tape | with_reducible exact rwrites_safe | with_reducible exact rwrites_shelf | decide +kernel)
local macro_rules | `(tactic| walk_at "st0") => `(tactic| ((with_reducible refine' c_is_number ?h ?_); (case h => walk_at "ty1")))
local macro_rules | `(tactic| walk_at "st0") => `(tactic| ((with_reducible refine' c_is_within ?h ?_); (case h => walk_at "ty1")))
local macro_rules | `(tactic| walk_at "st0") => `(tactic| ((with_reducible refine' c_is_page ?h ?_); (case h => walk_at "ty1")))
local macro_rules | `(tactic| walk_at "st0") => `(tactic| (with_reducible refine' c_check (fun hz_ => ?_) (fun hz_ => ?_)))
local macro_rules | `(tactic| walk_at "st0") => `(tactic| ((with_reducible refine' c_tape ?h ?_); (case h => with_reducible assumption)))
local macro_rules | `(tactic| walk_at "st0") => `(tactic| ((with_reducible refine' c_safe ?h ?_); (case h => with_reducible assumption)))
local macro_rules | `(tactic| walk_at "st0") => `(tactic| ((with_reducible refine' c_shelf ?h ?_); (case h => with_reducible assumption)))
local macro_rules | `(tactic| walk_at "st0") => `(tactic| ((with_reducible refine' c_writes ?h ?_); (case h => with_reducible assumption)))
local macro_rules | `(tactic| walk_at "st0") => `(tactic| ((with_reducible refine' c_draw ?h ?m (fun d_ H_ lo_ hi_ pl_ st_ => ?_)); (case h => walk_at "pool"); (case m => first | with_reducible assumption | (refine' ⟨?_, ?_⟩ <;> first | decide | omega))))
local macro_rules | `(tactic| walk_at "st0") => `(tactic| ((with_reducible refine' c_text ?h (fun t_ H_ ok_ pl_ st_ => ?_)); (case h => walk_at "pool")))
local macro_rules | `(tactic| walk_at "st0") => `(tactic| ((with_reducible refine' c_call ?h (fun w_ n_ t_ q_ H_ hw_ ok_ nq_ eq_ pl_ st_ => ?_)); (case h => walk_at "pool")))
local macro_rules | `(tactic| walk_at "st0") => `(tactic| ((with_reducible refine' c_model ?h (fun m_ e_ H_ nm_ ne_ at_ st_ => ?_)); (case h => with_reducible assumption)))
section
variable {P : Program} {w : World} {K : PySem.W.Frag} {mg : Str → Option Value} {base : Heap}
def sp_nopage (C : Addr) : Sp := fun vs H Q _ => ∃ (p d : Addr) (S : DS) (n : Int), vs = [.ref p, .int n] ∧ DiskAt C H p d S ∧ ¬ inP n ∧ ∀ H', Stay [] H H' → Q (.bl true) H'
theorem c_nopage {C p d : Addr} {S : DS} {n : Int} {H : Hp} {Q : VK} {E : XK} (h : DiskAt C H p d S) (hn : ¬ inP n) (q : ∀ H', Stay [] H H' → Q (.bl true) H') : sp_nopage C [.ref p, .int n] H Q E := ⟨p, d, S, n, rfl, h, hn, q⟩
theorem sc__law_is_no_page : FnScope ["disk", "page", "e"] ["disk", "page"] (defScope s__law_is_no_page) := ⟨rfl, rfl, rfl, by decide +kernel, rfl, by decide +kernel, by decide +kernel⟩
theorem ok__law_is_no_page (T : G K mg) : FnOk P w K mg base CX0 6 T.f__law_is_no_page T.d__law_is_no_page ["disk", "page"] (sp_nopage T.C_Disk) := by
  refine T.F__law_is_no_page.ok sc__law_is_no_page (fun vs H Q E h => ?_) (fun cdv A outer s H vs Q E hr h => ?_)
  · obtain ⟨p, d, S, n, rfl, hS, hn, k⟩ := h
    rfl
  · obtain ⟨p, d, S, n, rfl, hS, hn, k⟩ := h
    have hu := hu_of hr
    have nd := sc__law_is_no_page.nd
    refine ⟨_, (pss_cons (ps_rows rfl rfl nd takes0 (fun W pn xe tk _ => (pss_one (ps_expr (pe_methW (pv 0) T.c_Disk T.m_Disk_frame (ok_Disk_frame T) (hr.mono (by decide)) T.b_Disk_frame .nil (fun σ => passAt tk σ) (pa_cons (pv 1) pa_nil))))) (Rows.named ⟨rfl, by decide, Or.inl T.x_BadPage.g⟩ (i := 2) rfl rfl (fun a oe cls dd pn hz hf => (pss_one (ps_ret (pe_cmpR op_eq (pe_xw hz hf (pv 2)) (pv 1) (nomark _))))) Rows.nil))
        (pss_one (ps_ret pe_bl))), ?_⟩
    have hf0 := T.c_Disk
    have hf1 := T.x_BadPage
    have hf2 := T.a_Disk_fuse
    have hf3 := T.a_Disk_frames
    have hf4 := T.a_Disk_tape
    have hf5 := T.a_Disk_safe
    have hf6 := T.a_Disk_shelf
    have hf7 := T.a_Disk_writes
    have hf8 := T.x_BadPage
    have hf9 := T.e_BadPage_BadPage
    have hf10 := T.c_Disk
    try dsimp only [L2.cxOf, L2.Cx.nox, L2.Cx.wish]
    rw [show L2.start ["disk", "page", "e"] [V.ref p, V.int n] = [some (V.ref p), some (V.int n), none] from rfl]
    obtain ⟨⟨dx, h1⟩, h2, fk⟩ := id hS
    walk_at "go"
    refine c_frame hS (fun z => absurd z hn) (fun _ => ?_)
    walk_at "nw"
    walk_at "go"
    rw [decide_eq_true rfl]
    exact k _ (by walk_at "fr")
end
end WD

namespace WD
open PySem PySem.Spec PyProof.Rows L2
-- p ≠ q of two addresses
local macro_rules | `(tactic| walk_at "ne") => `(tactic| first
  | with_reducible assumption
  | with_reducible exact Ne.symm (by assumption)
  | exact ne_some (by with_reducible assumption) (by with_reducible assumption)
  | exact Ne.symm (ne_some (by with_reducible assumption) (by with_reducible assumption)))
local macro_rules | `(tactic| walk_at "nm") => `(tactic| first | with_reducible assumption | with_reducible exact nm0 | ((with_reducible refine' nmS ?a ?b); (case a => walk_at "ne"); (case b => walk_at "nm")))
-- H p = some ?o
local macro_rules | `(tactic| walk_at "hp") => `(tactic| first
  | with_reducible exact upd_same
  | with_reducible assumption
  | ((with_reducible refine' Eq.trans (upd_ne ?a) ?b); (case a => walk_at "ne"); (case b => walk_at "hp"))
  | exact Stay.keep (by with_reducible assumption) _ _ (by walk_at "hp") (by walk_at "nm"))
local macro_rules | `(tactic| walk_at "hpd") => `(tactic| ((refine' Eq.trans ?h ?e); (case h => walk_at "hp"); (case e => exact rfl)))
-- a new address
local macro_rules | `(tactic| walk_at "nw") => `(tactic| ((repeat first | (with_reducible refine' nw_upd ?_) | refine' nw_fr (by with_reducible assumption) ?_); intro p_; intros))
local macro_rules | `(tactic| walk_at "mem") => `(tactic| first | exact List.mem_cons_self | (refine' List.mem_cons_of_mem _ ?_; walk_at "mem"))
-- what stands stays
local macro_rules | `(tactic| walk_at "fr") => `(tactic| first
  | with_reducible assumption
  | exact Stay.refl _ _
  | ((with_reducible refine' Stay.upd ?a ?b); (case a => walk_at "fr"); (case b => walk_at "mem"))
  | ((with_reducible refine' Stay.new ?a ?b); (case b => with_reducible assumption); (case a => walk_at "fr"))
  | (refine' Stay.trans ?_ (by with_reducible assumption); walk_at "fr"))
local macro_rules | `(tactic| walk_at "sq") => `(tactic| first | with_reducible assumption | exact SqL.of (by walk_at "hp"))
local macro_rules | `(tactic| walk_at "sqt") => `(tactic| first | with_reducible assumption | exact SqT.of (by walk_at "hp"))
-- side goals
local macro_rules | `(tactic| walk_at "sd") => `(tactic| first
  | with_reducible assumption | with_reducible rfl | (show _ ≤ sizeLine; decide) | (refine Nat.le_trans (Nat.le_of_ble_eq_true (m := 1000) rfl) (by decide)) | decide | omega
  | exact IntMulOk.of_right (intBits_le_64 (by omega) (by omega)) | exact IntMulOk.of_left (intBits_le_64 (by omega) (by omega))
  | (refine' Or.inl ⟨?_, ?_⟩ <;> omega) | (refine' Or.inr ⟨?_, ?_⟩ <;> omega)
  | (refine' ⟨?_, ?_⟩ <;> walk_at "sd") | (refine' ⟨?_, ?_, ?_⟩ <;> walk_at "sd"))
local macro_rules | `(tactic| walk_at "set") => `(tactic| first | with_reducible exact set0 | with_reducible exact set1 | with_reducible exact set2 | with_reducible exact set3 | with_reducible exact set4 | with_reducible exact set5 | with_reducible exact set6 | with_reducible exact set7 | with_reducible exact set8 | with_reducible exact set9 | with_reducible exact set10 | with_reducible exact set11 | with_reducible exact set12 | with_reducible exact set13 | with_reducible exact set14 | with_reducible exact set15 | with_reducible exact set16 | with_reducible exact set17 | with_reducible exact set18 | with_reducible exact set19 | with_reducible exact set20)
-- one step
local macro_rules | `(tactic| walk_at "st0") => `(tactic| first
  | with_reducible refine' x_seq ?_
  | with_reducible refine' x_next ?_
  | with_reducible refine' x_ifS ?_
  | with_reducible refine' x_asg ?_
  | with_reducible refine' x_ret ?_
  | with_reducible refine' x_retN ?_
  | with_reducible refine' x_drop ?_
  | with_reducible refine' x_brk ?_
  | with_reducible refine' x_cont ?_
  | ((with_reducible refine' x_gName ?e ?_); (case e => walk_at "set"))
  | with_reducible refine' x_gSub ?_
  | with_reducible refine' x_gCons ?_
  | with_reducible refine' x_gNil ?_
  | with_reducible refine' x_c ?_
  | ((with_reducible refine' x_var ?e ?_); (case e => exact rfl))
  | with_reducible refine' x_op ?_
  | with_reducible refine' x_un ?_
  | with_reducible refine' x_if ?_
  | with_reducible refine' x_cb ?_
  | with_reducible refine' x_cons ?_
  | with_reducible refine' x_nil ?_
  | with_reducible refine' x_bm0 ?_
  | with_reducible refine' x_bm ?_
  | with_reducible refine' x_tup ?_
  | with_reducible refine' x_lst ?_
  | ((with_reducible refine' And.intro (a := _ ≤ sizeLine) ?e ?_); (case e => walk_at "sd"); walk_at "nw")
  | with_reducible refine' x_fld ?_
  | with_reducible refine' x_test ?_
  | with_reducible refine' x_tB ?_
  | with_reducible refine' x_and ?_
  | with_reducible refine' x_or ?_
  | with_reducible refine' x_not ?_
  | with_reducible refine' x_notV ?_
  | with_reducible refine' x_andV ?_
  | with_reducible refine' x_orV ?_
  | with_reducible refine' x_rI0 ?_
  | ((with_reducible refine' x_rI ?e ?_); (case e => walk_at "sd"))
  | with_reducible refine' x_rU ?_
  | ((with_reducible refine' x_rEq ?e ?_); (case e => exact rfl))
  | ((with_reducible refine' x_rNe ?e ?_); (case e => exact rfl))
  | ((with_reducible refine' x_ixL0 ?h ?_); (case h => walk_at "sq"))
  | ((with_reducible refine' x_ixL1 ?h ?_); (case h => walk_at "sq"))
  | ((with_reducible refine' x_ixL2 ?h ?_); (case h => walk_at "sq"))
  | ((with_reducible refine' x_ixL0I ?h ?_); (case h => walk_at "sq"))
  | ((with_reducible refine' x_ixL ?h ?e ?_); (case h => walk_at "sq"); (case e => exact rfl))
  | ((with_reducible refine' x_neNil ?h ?h2 ?_); (case h => walk_at "sq"); (case h2 => walk_at "sq"))
  | ((with_reducible refine' x_pop0I ?h ?_); (case h => walk_at "hp"))
  | ((with_reducible refine' x_pop0 ?h ?_); (case h => walk_at "hp"))
  | ((with_reducible refine' x_setL0 ?h ?_); (case h => walk_at "hp"))
  | ((with_reducible refine' x_setL1 ?h ?_); (case h => walk_at "hp"))
  | ((with_reducible refine' x_setL2 ?h ?_); (case h => walk_at "hp"))
  | ((with_reducible refine' x_setL ?h ?e ?_); (case h => walk_at "hp"); (case e => exact rfl))
  | with_reducible refine' .inl ⟨_, rfl, ?_⟩
  | ((with_reducible refine' x_tyL ?h ?_); (case h => walk_at "sq"))
  | with_reducible refine' ⟨_, rfl, ?_⟩)
-- a split
local macro_rules | `(tactic| walk_at "if") => `(tactic| (
  first
  | (with_reducible refine' x_dec (fun h_ => ?_) (fun h_ => ?_))
  | (with_reducible refine' x_decN (fun h_ => ?_) (fun h_ => ?_))
  | (with_reducible refine' x_boolN (fun h_ => ?_) (fun h_ => ?_))
  | (with_reducible refine' x_bool (fun h_ => ?_) (fun h_ => ?_))))
local macro_rules | `(tactic| walk_at "ifs") => `(tactic| (walk_at "if" <;> first
  | (exfalso; first | omega | contradiction)
  | (rename_i h_; (try simp only [BEq.rfl, List.length_map, List.length_cons, List.length_nil, Int.natCast_zero, Int.ofNat_zero, gt_iff_lt, Int.lt_irrefl, Bool.true_eq_false, Bool.false_eq_true, List.isEmpty_nil, List.isEmpty_cons, V.int.injEq, V.str.injEq, V.bl.injEq, reduceCtorEq, not_false_eq_true, not_true_eq_false] at h_); (try (exfalso; omega)))))
local macro_rules | `(tactic| walk_at "ite1") => `(tactic| first
  | with_reducible refine' x_T ?_
  | with_reducible refine' x_F ?_
  | with_reducible refine' x_nT ?_
  | with_reducible refine' x_nF ?_
  | ((with_reducible refine' x_bT ?e ?_); (case e => first | decide | decide +kernel))
  | ((with_reducible refine' x_bF ?e ?_); (case e => first | decide | decide +kernel)))
local macro_rules | `(tactic| walk_at "st") => `(tactic| ((fail_if_success (with_reducible (show (if _ then _ else _)))); walk_at "st0"))
local macro_rules | `(tactic| walk_at "go") => `(tactic| repeat first | walk_at "ite1" | walk_at "st")
local macro_rules | `(tactic| walk_at "gs") => `(tactic| repeat' first | walk_at "ite1" | walk_at "st" | walk_at "ifs")
local macro_rules | `(tactic| walk_at "sz") => `(tactic| first | with_reducible assumption | (refine Nat.le_trans (by assumption) (by decide : 100000 ≤ sizeLine)) | (refine Nat.le_trans (m := 100000) ?_ (by decide); (try simp only [len_add, rep_len]); (try rw [show (Str.ofString "z").length = 1 from rfl]); omega))
local macro_rules | `(tactic| walk_at "hn") => `(tactic| first | with_reducible assumption)
local macro_rules | `(tactic| walk_at "sqo") => `(tactic| first | exact Or.inl (by walk_at "sq") | exact Or.inr (by walk_at "sqt"))
local macro_rules | `(tactic| walk_at "ty1") => `(tactic| first | with_reducible assumption | exact Ty1.int _ | exact Ty1.str _ | exact Ty1.bl _ | exact Ty1.non | exact Ty1.tup (by walk_at "hp") | exact Ty1.lst (by walk_at "hp"))
local macro_rules | `(tactic| walk_at "st2") => `(tactic| first
  | with_reducible refine' And.intro (a := V.non = V.non) rfl ?_
  | with_reducible refine' x_call0 ?_
  | with_reducible refine' x_callS ?_
  | with_reducible refine' x_meth0 ?_
  | with_reducible refine' x_methW0 ?_
  | with_reducible refine' x_make0 ?_
  | with_reducible refine' x_makeW0 ?_
  | with_reducible refine' x_sFld ?_
  | with_reducible refine' x_mkO ?_
  | with_reducible refine' x_chain ?_
  | with_reducible refine' x_dget ?_
  | with_reducible refine' x_dget1 ?_
  | with_reducible refine' x_dget2 ?_
  | with_reducible refine' x_sDPut ?_
  | with_reducible refine' x_pairs ?_
  | with_reducible refine' x_pairs0 ?_
  | with_reducible refine' x_sl ?_
  | with_reducible refine' x_noPart ?_
  | with_reducible refine' x_part ?_
  | ((with_reducible refine' x_disp ?_); walk_at "nw")
  | ((with_reducible refine' x_dnew ?_); walk_at "nw")
  | ((with_reducible refine' x_rz ?h ?_); (case h => walk_at "cf"); walk_at "nw")
  | ((with_reducible refine' x_isi ?h ?e ?_); (case h => walk_at "ty1"); (case e => decide))
  | ((with_reducible refine' x_fldR ?h ?c ?n ?e ?_); (case h => walk_at "hp"); (case c => walk_at "cf"); (case n => walk_at "cf"); (case e => walk_at "fl"))
  | ((with_reducible refine' x_onIns ?h ?n ?_); (case h => walk_at "hp"); (case n => walk_at "fl"))
  | ((with_reducible refine' x_addS ?l ?_); (case l => walk_at "sz"))
  | ((with_reducible refine' x_lenS ?l ?_); (case l => walk_at "sz"))
  | ((with_reducible refine' x_lenL ?h ?_); (case h => walk_at "sqo"))
  | ((with_reducible refine' x_slL ?h rfl ?_); (case h => walk_at "sq"); walk_at "nw")
  | ((with_reducible refine' x_listOf ?h ?_); (case h => walk_at "sqo"); walk_at "nw")
  | ((with_reducible refine' x_strmul ?c ?_); (case c => (refine' ⟨?_, ?_, ?_⟩ <;> first | omega | decide +kernel)))
  | ((with_reducible refine' x_isD2 ?h ?_); (case h => walk_at "hp"))
  | ((with_reducible refine' x_getI ?h ?_); (case h => walk_at "hp"))
  | ((with_reducible refine' x_getS ?h ?_); (case h => walk_at "hp"))
  | ((with_reducible refine' x_dgetS ?h ?e ?_); (case h => walk_at "hp"); (case e => walk_at "fl"))
  | ((with_reducible refine' x_ixT ?h ?e ?_); (case h => walk_at "sqt"); (case e => exact rfl))
  | ((with_reducible refine' x_gTup ?h ?e ?_); (case h => walk_at "sqt"); (case e => exact rfl)))
local macro_rules | `(tactic| walk_at "st0") => `(tactic| walk_at "st2")
local macro_rules | `(tactic| walk_at "fl") => `(tactic| first
  | with_reducible exact lk_hd
  | ((with_reducible refine' lk_tl ?n ?h); (case n => walk_at "nq"); (case h => walk_at "fl"))
  | with_reducible exact lk_nil
  | with_reducible exact pf_hd
  | ((with_reducible refine' pf_tl ?n ?h); (case n => walk_at "nq"); (case h => walk_at "fl"))
  | with_reducible exact pf_nil
  | with_reducible exact vl_hd
  | ((with_reducible refine' vl_tl ?n ?h); (case n => walk_at "nr"); (case h => walk_at "fl"))
  | with_reducible exact vl_nil
  | ((with_reducible refine' pk_hd ?n); (case n => rfl))
  | ((with_reducible refine' pk_tl ?n ?t ?h); (case n => walk_at "nr"); (case t => rfl); (case h => walk_at "fl")))
local macro_rules | `(tactic| walk_at "cf") => `(tactic| with_reducible assumption)
local macro_rules | `(tactic| walk_at "st0") => `(tactic| first
  | ((with_reducible refine' x_sFldR ?h ?c ?n ?l ?e ?_); (case h => walk_at "hp"); (case c => walk_at "cf"); (case n => walk_at "cf"); (case l => exact Nat.le_of_ble_eq_true rfl); (case e => walk_at "fl")))
local macro_rules | `(tactic| walk_at "pool") => `(tactic| first
  | with_reducible assumption
  | exact Pool.ne (by walk_at "pool") (by walk_at "ne") (by walk_at "ne")
  | exact Pool.stay (by walk_at "pool") (by with_reducible assumption) (by walk_at "nm") (by walk_at "nm"))
local macro_rules | `(tactic| walk_at "szl") => `(tactic| first | exact Nat.lt_of_le_of_lt (Nat.le_of_ble_eq_true (m := 1000) rfl) (by decide) | exact Nat.lt_of_le_of_lt (by with_reducible assumption) (by decide : 1000 < sizeLine))
local macro_rules | `(tactic| walk_at "st0") => `(tactic| first
  | ((with_reducible refine' x_putS ?h ?l ?e ?_); (case h => walk_at "hp"); (case l => walk_at "szl"); (case e => walk_at "fl"))
  | ((with_reducible refine' x_setD ?h ?l ?e ?_); (case h => walk_at "hp"); (case l => walk_at "szl"); (case e => walk_at "fl"))
  | ((with_reducible refine' x_putI ?h ?l ?_); (case h => walk_at "hp"); (case l => walk_at "szl")))
local macro_rules | `(tactic| walk_at "st0") => `(tactic| first
  | ((with_reducible refine' x_rowN ?e ?_); (case e => walk_at "cf"); walk_at "nw"; (try dsimp only [List.set]))
  | ((with_reducible refine' x_rowF ?e ?_); (case e => walk_at "cf"))
  | with_reducible refine' x_xw ?_
  | ((with_reducible refine' x_xwR ?t ?h ?_); (case t => walk_at "cf"); (case h => walk_at "hp")))
local macro_rules | `(tactic| walk_at "st0") => `(tactic| first
  | ((with_reducible refine' x_isXR ?k ?x ?h ?e ?_); (case k => exact ClsV.own _); (case x => exact ExT.xc (by with_reducible assumption)); (case h => walk_at "hp"); (case e => walk_at "cf")))
local macro_rules | `(tactic| walk_at "nq") => `(tactic| first | with_reducible exact q_fuse__frames | with_reducible exact q_fuse__tape | with_reducible exact q_fuse__safe | with_reducible exact q_fuse__shelf | with_reducible exact q_fuse__writes | with_reducible exact q_frames__fuse | with_reducible exact q_frames__tape | with_reducible exact q_frames__safe | with_reducible exact q_frames__shelf | with_reducible exact q_frames__writes | with_reducible exact q_tape__fuse | with_reducible exact q_tape__frames | with_reducible exact q_tape__safe | with_reducible exact q_tape__shelf | with_reducible exact q_tape__writes | with_reducible exact q_safe__fuse | with_reducible exact q_safe__frames | with_reducible exact q_safe__tape | with_reducible exact q_safe__shelf | with_reducible exact q_safe__writes | with_reducible exact q_shelf__fuse | with_reducible exact q_shelf__frames | with_reducible exact q_shelf__tape | with_reducible exact q_shelf__safe | with_reducible exact q_shelf__writes | with_reducible exact q_writes__fuse | with_reducible exact q_writes__frames | with_reducible exact q_writes__tape | with_reducible exact q_writes__safe | with_reducible exact q_writes__shelf | decide +kernel)
local macro_rules | `(tactic| walk_at "nr") => `(tactic| first | with_reducible exact rfuse_frames | with_reducible exact rfuse_tape | with_reducible exact rfuse_safe | with_reducible exact rfuse_shelf | with_reducible exact rfuse_writes | with_reducible exact rframes_fuse | with_reducible exact rframes_tape | with_reducible exact rframes_safe | with_reducible exact rframes_shelf | with_reducible exact rframes_writes | with_reducible exact rtape_fuse | with_reducible exact rtape_frames | with_reducible exact rtape_safe | with_reducible exact rtape_shelf | with_reducible exact rtape_writes | with_reducible exact rsafe_fuse | with_reducible exact rsafe_frames | with_reducible exact rsafe_tape | with_reducible exact rsafe_shelf | with_reducible exact rsafe_writes | with_reducible exact rshelf_fuse | with_reducible exact rshelf_frames | with_reducible exact rshelf_tape | with_reducible exact rshelf_safe | with_reducible exact rshelf_writes | with_reducible exact rwrites_fuse | with_reducible exact rwrites_frames | with_reducible exact rwrites_tape | with_reducible exact rwrites_safe | with_reducible exact rwrites_shelf | decide +kernel)
local macro_rules | `(tactic| walk_at "st0") => `(tactic| ((with_reducible refine' c_is_number ?h ?_); (case h => walk_at "ty1")))
local macro_rules | `(tactic| walk_at "st0") => `(tactic| ((with_reducible refine' c_is_within ?h ?_); (case h => walk_at "ty1")))
local macro_rules | `(tactic| walk_at "st0") => `(tactic| ((with_reducible refine' c_is_page ?h ?_); (case h => walk_at "ty1")))
local macro_rules | `(tactic| walk_at "st0") => `(tactic| (with_reducible refine' c_check (fun hz_ => ?_) (fun hz_ => ?_)))
local macro_rules | `(tactic| walk_at "st0") => `(tactic| ((with_reducible refine' c_tape ?h ?_); (case h => with_reducible assumption)))
local macro_rules | `(tactic| walk_at "st0") => `(tactic| ((with_reducible refine' c_safe ?h ?_); (case h => with_reducible assumption)))
local macro_rules | `(tactic| walk_at "st0") => `(tactic| ((with_reducible refine' c_shelf ?h ?_); (case h => with_reducible assumption)))
local macro_rules | `(tactic| walk_at "st0") => `(tactic| ((with_reducible refine' c_writes ?h ?_); (case h => with_reducible assumption)))
local macro_rules | `(tactic| walk_at "st0") => `(tactic| ((with_reducible refine' c_draw ?h ?m (fun d_ H_ lo_ hi_ pl_ st_ => ?_)); (case h => walk_at "pool"); (case m => first | with_reducible assumption | (refine' ⟨?_, ?_⟩ <;> first | decide | omega))))
local macro_rules | `(tactic| walk_at "st0") => `(tactic| ((with_reducible refine' c_text ?h (fun t_ H_ ok_ pl_ st_ => ?_)); (case h => walk_at "pool")))
local macro_rules | `(tactic| walk_at "st0") => `(tactic| ((with_reducible refine' c_call ?h (fun w_ n_ t_ q_ H_ hw_ ok_ nq_ eq_ pl_ st_ => ?_)); (case h => walk_at "pool")))
local macro_rules | `(tactic| walk_at "st0") => `(tactic| ((with_reducible refine' c_model ?h (fun m_ e_ H_ nm_ ne_ at_ st_ => ?_)); (case h => with_reducible assumption)))
section
variable {P : Program} {w : World} {K : PySem.W.Frag} {mg : Str → Option Value} {base : Heap}
def sp_refused : Sp := fun vs H Q _ => ∃ (n : Int), vs = [.int n] ∧ n < 0 ∧ ∀ H', Stay [] H H' → Q (.bl true) H'
theorem c_refused {n : Int} {H : Hp} {Q : VK} {E : XK} (hn : n < 0) (q : ∀ H', Stay [] H H' → Q (.bl true) H') : sp_refused [.int n] H Q E := ⟨n, rfl, hn, q⟩
theorem sc__law_is_refused : FnScope ["fuse", "e"] ["fuse"] (defScope s__law_is_refused) := ⟨rfl, rfl, rfl, by decide +kernel, rfl, by decide +kernel, by decide +kernel⟩
theorem ok__law_is_refused (T : G K mg) : FnOk P w K mg base CX0 5 T.f__law_is_refused T.d__law_is_refused ["fuse"] sp_refused := by
  refine T.F__law_is_refused.ok sc__law_is_refused (fun vs H Q E h => ?_) (fun cdv A outer s H vs Q E hr h => ?_)
  · obtain ⟨n, rfl, hn, k⟩ := h
    rfl
  · obtain ⟨n, rfl, hn, k⟩ := h
    have hu := hu_of hr
    have nd := sc__law_is_refused.nd
    refine ⟨_, (pss_cons (ps_rows rfl rfl nd takes0 (fun W pn xe tk _ => (pss_one (ps_expr (pe_makeW T.mk_Disk (ok_Disk___init__ T) (hr.mono (by decide)) rfl T.g_Disk T.b_Disk___init__ .nil (fun σ => passAt tk σ) (pa_cons (pv 0) pa_nil))))) (Rows.named ⟨rfl, by decide, Or.inl T.x_BadNumber.g⟩ (i := 1) rfl rfl (fun a oe cls dd pn hz hf => (pss_one (ps_ret (pe_cmpR op_eq (pe_xw hz hf (pv 1)) (pv 0) (nomark _))))) Rows.nil))
        (pss_one (ps_ret pe_bl))), ?_⟩
    have hf0 := T.x_BadNumber
    have hf1 := T.x_BadNumber
    have hf2 := T.e_BadNumber_BadNumber
    have hf3 := T.c_Disk
    try dsimp only [L2.cxOf, L2.Cx.nox, L2.Cx.wish]
    rw [show L2.start ["fuse", "e"] [V.int n] = [some (V.int n), none] from rfl]
    walk_at "go"
    intro x dx hx hdx nx
    refine ⟨x, dx, .int n, rfl, upd_same, .inr ⟨n, rfl⟩, fun z => absurd (z n rfl) (by omega), fun m e hm => ?_⟩
    cases e
    walk_at "nw"
    walk_at "go"
    rw [decide_eq_true rfl]
    exact k _ (by walk_at "fr")
end
end WD

namespace WD
open PySem PySem.Spec PyProof.Rows L2
-- p ≠ q of two addresses
local macro_rules | `(tactic| walk_at "ne") => `(tactic| first
  | with_reducible assumption
  | with_reducible exact Ne.symm (by assumption)
  | exact ne_some (by with_reducible assumption) (by with_reducible assumption)
  | exact Ne.symm (ne_some (by with_reducible assumption) (by with_reducible assumption)))
local macro_rules | `(tactic| walk_at "nm") => `(tactic| first | with_reducible assumption | with_reducible exact nm0 | ((with_reducible refine' nmS ?a ?b); (case a => walk_at "ne"); (case b => walk_at "nm")))
-- H p = some ?o
local macro_rules | `(tactic| walk_at "hp") => `(tactic| first
  | with_reducible exact upd_same
  | with_reducible assumption
  | ((with_reducible refine' Eq.trans (upd_ne ?a) ?b); (case a => walk_at "ne"); (case b => walk_at "hp"))
  | exact Stay.keep (by with_reducible assumption) _ _ (by walk_at "hp") (by walk_at "nm"))
local macro_rules | `(tactic| walk_at "hpd") => `(tactic| ((refine' Eq.trans ?h ?e); (case h => walk_at "hp"); (case e => exact rfl)))
-- a new address
local macro_rules | `(tactic| walk_at "nw") => `(tactic| ((repeat first | (with_reducible refine' nw_upd ?_) | refine' nw_fr (by with_reducible assumption) ?_); intro p_; intros))
local macro_rules | `(tactic| walk_at "mem") => `(tactic| first | exact List.mem_cons_self | (refine' List.mem_cons_of_mem _ ?_; walk_at "mem"))
-- what stands stays
local macro_rules | `(tactic| walk_at "fr") => `(tactic| first
  | with_reducible assumption
  | exact Stay.refl _ _
  | ((with_reducible refine' Stay.upd ?a ?b); (case a => walk_at "fr"); (case b => walk_at "mem"))
  | ((with_reducible refine' Stay.new ?a ?b); (case b => with_reducible assumption); (case a => walk_at "fr"))
  | (refine' Stay.trans ?_ (by with_reducible assumption); walk_at "fr"))
local macro_rules | `(tactic| walk_at "sq") => `(tactic| first | with_reducible assumption | exact SqL.of (by walk_at "hp"))
local macro_rules | `(tactic| walk_at "sqt") => `(tactic| first | with_reducible assumption | exact SqT.of (by walk_at "hp"))
-- side goals
local macro_rules | `(tactic| walk_at "sd") => `(tactic| first
  | with_reducible assumption | with_reducible rfl | (show _ ≤ sizeLine; decide) | (refine Nat.le_trans (Nat.le_of_ble_eq_true (m := 1000) rfl) (by decide)) | decide | omega
  | exact IntMulOk.of_right (intBits_le_64 (by omega) (by omega)) | exact IntMulOk.of_left (intBits_le_64 (by omega) (by omega))
  | (refine' Or.inl ⟨?_, ?_⟩ <;> omega) | (refine' Or.inr ⟨?_, ?_⟩ <;> omega)
  | (refine' ⟨?_, ?_⟩ <;> walk_at "sd") | (refine' ⟨?_, ?_, ?_⟩ <;> walk_at "sd"))
local macro_rules | `(tactic| walk_at "set") => `(tactic| first | with_reducible exact set0 | with_reducible exact set1 | with_reducible exact set2 | with_reducible exact set3 | with_reducible exact set4 | with_reducible exact set5 | with_reducible exact set6 | with_reducible exact set7 | with_reducible exact set8 | with_reducible exact set9 | with_reducible exact set10 | with_reducible exact set11 | with_reducible exact set12 | with_reducible exact set13 | with_reducible exact set14 | with_reducible exact set15 | with_reducible exact set16 | with_reducible exact set17 | with_reducible exact set18 | with_reducible exact set19 | with_reducible exact set20)
-- one step
local macro_rules | `(tactic| walk_at "st0") => `(tactic| first
  | with_reducible refine' x_seq ?_
  | with_reducible refine' x_next ?_
  | with_reducible refine' x_ifS ?_
  | with_reducible refine' x_asg ?_
  | with_reducible refine' x_ret ?_
  | with_reducible refine' x_retN ?_
  | with_reducible refine' x_drop ?_
  | with_reducible refine' x_brk ?_
  | with_reducible refine' x_cont ?_
  | ((with_reducible refine' x_gName ?e ?_); (case e => walk_at "set"))
  | with_reducible refine' x_gSub ?_
  | with_reducible refine' x_gCons ?_
  | with_reducible refine' x_gNil ?_
  | with_reducible refine' x_c ?_
  | ((with_reducible refine' x_var ?e ?_); (case e => exact rfl))
  | with_reducible refine' x_op ?_
  | with_reducible refine' x_un ?_
  | with_reducible refine' x_if ?_
  | with_reducible refine' x_cb ?_
  | with_reducible refine' x_cons ?_
  | with_reducible refine' x_nil ?_
  | with_reducible refine' x_bm0 ?_
  | with_reducible refine' x_bm ?_
  | with_reducible refine' x_tup ?_
  | with_reducible refine' x_lst ?_
  | ((with_reducible refine' And.intro (a := _ ≤ sizeLine) ?e ?_); (case e => walk_at "sd"); walk_at "nw")
  | with_reducible refine' x_fld ?_
  | with_reducible refine' x_test ?_
  | with_reducible refine' x_tB ?_
  | with_reducible refine' x_and ?_
  | with_reducible refine' x_or ?_
  | with_reducible refine' x_not ?_
  | with_reducible refine' x_notV ?_
  | with_reducible refine' x_andV ?_
  | with_reducible refine' x_orV ?_
  | with_reducible refine' x_rI0 ?_
  | ((with_reducible refine' x_rI ?e ?_); (case e => walk_at "sd"))
  | with_reducible refine' x_rU ?_
  | ((with_reducible refine' x_rEq ?e ?_); (case e => exact rfl))
  | ((with_reducible refine' x_rNe ?e ?_); (case e => exact rfl))
  | ((with_reducible refine' x_ixL0 ?h ?_); (case h => walk_at "sq"))
  | ((with_reducible refine' x_ixL1 ?h ?_); (case h => walk_at "sq"))
  | ((with_reducible refine' x_ixL2 ?h ?_); (case h => walk_at "sq"))
  | ((with_reducible refine' x_ixL0I ?h ?_); (case h => walk_at "sq"))
  | ((with_reducible refine' x_ixL ?h ?e ?_); (case h => walk_at "sq"); (case e => exact rfl))
  | ((with_reducible refine' x_neNil ?h ?h2 ?_); (case h => walk_at "sq"); (case h2 => walk_at "sq"))
  | ((with_reducible refine' x_pop0I ?h ?_); (case h => walk_at "hp"))
  | ((with_reducible refine' x_pop0 ?h ?_); (case h => walk_at "hp"))
  | ((with_reducible refine' x_setL0 ?h ?_); (case h => walk_at "hp"))
  | ((with_reducible refine' x_setL1 ?h ?_); (case h => walk_at "hp"))
  | ((with_reducible refine' x_setL2 ?h ?_); (case h => walk_at "hp"))
  | ((with_reducible refine' x_setL ?h ?e ?_); (case h => walk_at "hp"); (case e => exact rfl))
  | with_reducible refine' .inl ⟨_, rfl, ?_⟩
  | ((with_reducible refine' x_tyL ?h ?_); (case h => walk_at "sq"))
  | with_reducible refine' ⟨_, rfl, ?_⟩)
-- a split
local macro_rules | `(tactic| walk_at "if") => `(tactic| (
  first
  | (with_reducible refine' x_dec (fun h_ => ?_) (fun h_ => ?_))
  | (with_reducible refine' x_decN (fun h_ => ?_) (fun h_ => ?_))
  | (with_reducible refine' x_boolN (fun h_ => ?_) (fun h_ => ?_))
  | (with_reducible refine' x_bool (fun h_ => ?_) (fun h_ => ?_))))
local macro_rules | `(tactic| walk_at "ifs") => `(tactic| (walk_at "if" <;> first
  | (exfalso; first | omega | contradiction)
  | (rename_i h_; (try simp only [BEq.rfl, List.length_map, List.length_cons, List.length_nil, Int.natCast_zero, Int.ofNat_zero, gt_iff_lt, Int.lt_irrefl, Bool.true_eq_false, Bool.false_eq_true, List.isEmpty_nil, List.isEmpty_cons, V.int.injEq, V.str.injEq, V.bl.injEq, reduceCtorEq, not_false_eq_true, not_true_eq_false] at h_); (try (exfalso; omega)))))
local macro_rules | `(tactic| walk_at "ite1") => `(tactic| first
  | with_reducible refine' x_T ?_
  | with_reducible refine' x_F ?_
  | with_reducible refine' x_nT ?_
  | with_reducible refine' x_nF ?_
  | ((with_reducible refine' x_bT ?e ?_); (case e => first | decide | decide +kernel))
  | ((with_reducible refine' x_bF ?e ?_); (case e => first | decide | decide +kernel)))
local macro_rules | `(tactic| walk_at "st") => `(tactic| ((fail_if_success (with_reducible (show (if _ then _ else _)))); walk_at "st0"))
local macro_rules | `(tactic| walk_at "go") => `(tactic| repeat first | walk_at "ite1" | walk_at "st")
local macro_rules | `(tactic| walk_at "gs") => `(tactic| repeat' first | walk_at "ite1" | walk_at "st" | walk_at "ifs")
local macro_rules | `(tactic| walk_at "sz") => `(tactic| first | with_reducible assumption | (refine Nat.le_trans (by assumption) (by decide : 100000 ≤ sizeLine)) | (refine Nat.le_trans (m := 100000) ?_ (by decide); (try simp only [len_add, rep_len]); (try rw [show (Str.ofString "z").length = 1 from rfl]); omega))
local macro_rules | `(tactic| walk_at "hn") => `(tactic| first | with_reducible assumption)
local macro_rules | `(tactic| walk_at "sqo") => `(tactic| first | exact Or.inl (by walk_at "sq") | exact Or.inr (by walk_at "sqt"))
local macro_rules | `(tactic| walk_at "ty1") => `(tactic| first | with_reducible assumption | exact Ty1.int _ | exact Ty1.str _ | exact Ty1.bl _ | exact Ty1.non | exact Ty1.tup (by walk_at "hp") | exact Ty1.lst (by walk_at "hp"))
local macro_rules | `(tactic| walk_at "st2") => `(tactic| first
  | with_reducible refine' And.intro (a := V.non = V.non) rfl ?_
  | with_reducible refine' x_call0 ?_
  | with_reducible refine' x_callS ?_
  | with_reducible refine' x_meth0 ?_
  | with_reducible refine' x_methW0 ?_
  | with_reducible refine' x_make0 ?_
  | with_reducible refine' x_makeW0 ?_
  | with_reducible refine' x_sFld ?_
  | with_reducible refine' x_mkO ?_
  | with_reducible refine' x_chain ?_
  | with_reducible refine' x_dget ?_
  | with_reducible refine' x_dget1 ?_
  | with_reducible refine' x_dget2 ?_
  | with_reducible refine' x_sDPut ?_
  | with_reducible refine' x_pairs ?_
  | with_reducible refine' x_pairs0 ?_
  | with_reducible refine' x_sl ?_
  | with_reducible refine' x_noPart ?_
  | with_reducible refine' x_part ?_
  | ((with_reducible refine' x_disp ?_); walk_at "nw")
  | ((with_reducible refine' x_dnew ?_); walk_at "nw")
  | ((with_reducible refine' x_rz ?h ?_); (case h => walk_at "cf"); walk_at "nw")
  | ((with_reducible refine' x_isi ?h ?e ?_); (case h => walk_at "ty1"); (case e => decide))
  | ((with_reducible refine' x_fldR ?h ?c ?n ?e ?_); (case h => walk_at "hp"); (case c => walk_at "cf"); (case n => walk_at "cf"); (case e => walk_at "fl"))
  | ((with_reducible refine' x_onIns ?h ?n ?_); (case h => walk_at "hp"); (case n => walk_at "fl"))
  | ((with_reducible refine' x_addS ?l ?_); (case l => walk_at "sz"))
  | ((with_reducible refine' x_lenS ?l ?_); (case l => walk_at "sz"))
  | ((with_reducible refine' x_lenL ?h ?_); (case h => walk_at "sqo"))
  | ((with_reducible refine' x_slL ?h rfl ?_); (case h => walk_at "sq"); walk_at "nw")
  | ((with_reducible refine' x_listOf ?h ?_); (case h => walk_at "sqo"); walk_at "nw")
  | ((with_reducible refine' x_strmul ?c ?_); (case c => (refine' ⟨?_, ?_, ?_⟩ <;> first | omega | decide +kernel)))
  | ((with_reducible refine' x_isD2 ?h ?_); (case h => walk_at "hp"))
  | ((with_reducible refine' x_getI ?h ?_); (case h => walk_at "hp"))
  | ((with_reducible refine' x_getS ?h ?_); (case h => walk_at "hp"))
  | ((with_reducible refine' x_dgetS ?h ?e ?_); (case h => walk_at "hp"); (case e => walk_at "fl"))
  | ((with_reducible refine' x_ixT ?h ?e ?_); (case h => walk_at "sqt"); (case e => exact rfl))
  | ((with_reducible refine' x_gTup ?h ?e ?_); (case h => walk_at "sqt"); (case e => exact rfl)))
local macro_rules | `(tactic| walk_at "st0") => `(tactic| walk_at "st2")
local macro_rules | `(tactic| walk_at "fl") => `(tactic| first
  | with_reducible exact lk_hd
  | ((with_reducible refine' lk_tl ?n ?h); (case n => walk_at "nq"); (case h => walk_at "fl"))
  | with_reducible exact lk_nil
  | with_reducible exact pf_hd
  | ((with_reducible refine' pf_tl ?n ?h); (case n => walk_at "nq"); (case h => walk_at "fl"))
  | with_reducible exact pf_nil
  | with_reducible exact vl_hd
  | ((with_reducible refine' vl_tl ?n ?h); (case n => walk_at "nr"); (case h => walk_at "fl"))
  | with_reducible exact vl_nil
  | ((with_reducible refine' pk_hd ?n); (case n => rfl))
  | ((with_reducible refine' pk_tl ?n ?t ?h); (case n => walk_at "nr"); (case t => rfl); (case h => walk_at "fl")))
local macro_rules | `(tactic| walk_at "cf") => `(tactic| with_reducible assumption)
local macro_rules | `(tactic| walk_at "st0") => `(tactic| first
  | ((with_reducible refine' x_sFldR ?h ?c ?n ?l ?e ?_); (case h => walk_at "hp"); (case c => walk_at "cf"); (case n => walk_at "cf"); (case l => exact Nat.le_of_ble_eq_true rfl); (case e => walk_at "fl")))
local macro_rules | `(tactic| walk_at "pool") => `(tactic| first
  | with_reducible assumption
  | exact Pool.ne (by walk_at "pool") (by walk_at "ne") (by walk_at "ne")
  | exact Pool.stay (by walk_at "pool") (by with_reducible assumption) (by walk_at "nm") (by walk_at "nm"))
local macro_rules | `(tactic| walk_at "szl") => `(tactic| first | exact Nat.lt_of_le_of_lt (Nat.le_of_ble_eq_true (m := 1000) rfl) (by decide) | exact Nat.lt_of_le_of_lt (by with_reducible assumption) (by decide : 1000 < sizeLine))
local macro_rules | `(tactic| walk_at "st0") => `(tactic| first
  | ((with_reducible refine' x_putS ?h ?l ?e ?_); (case h => walk_at "hp"); (case l => walk_at "szl"); (case e => walk_at "fl"))
  | ((with_reducible refine' x_setD ?h ?l ?e ?_); (case h => walk_at "hp"); (case l => walk_at "szl"); (case e => walk_at "fl"))
  | ((with_reducible refine' x_putI ?h ?l ?_); (case h => walk_at "hp"); (case l => walk_at "szl")))
local macro_rules | `(tactic| walk_at "st0") => `(tactic| first
  | ((with_reducible refine' x_rowN ?e ?_); (case e => walk_at "cf"); walk_at "nw"; (try dsimp only [List.set]))
  | ((with_reducible refine' x_rowF ?e ?_); (case e => walk_at "cf"))
  | with_reducible refine' x_xw ?_
  | ((with_reducible refine' x_xwR ?t ?h ?_); (case t => walk_at "cf"); (case h => walk_at "hp")))
local macro_rules | `(tactic| walk_at "st0") => `(tactic| first
  | ((with_reducible refine' x_isXR ?k ?x ?h ?e ?_); (case k => exact ClsV.own _); (case x => exact ExT.xc (by with_reducible assumption)); (case h => walk_at "hp"); (case e => walk_at "cf")))
local macro_rules | `(tactic| walk_at "nq") => `(tactic| first | with_reducible exact q_fuse__frames | with_reducible exact q_fuse__tape | with_reducible exact q_fuse__safe | with_reducible exact q_fuse__shelf | with_reducible exact q_fuse__writes | with_reducible exact q_frames__fuse | with_reducible exact q_frames__tape | with_reducible exact q_frames__safe | with_reducible exact q_frames__shelf | with_reducible exact q_frames__writes | with_reducible exact q_tape__fuse | with_reducible exact q_tape__frames | with_reducible exact q_tape__safe | with_reducible exact q_tape__shelf | with_reducible exact q_tape__writes | with_reducible exact q_safe__fuse | with_reducible exact q_safe__frames | with_reducible exact q_safe__tape | with_reducible exact q_safe__shelf | with_reducible exact q_safe__writes | with_reducible exact q_shelf__fuse | with_reducible exact q_shelf__frames | with_reducible exact q_shelf__tape | with_reducible exact q_shelf__safe | with_reducible exact q_shelf__writes | with_reducible exact q_writes__fuse | with_reducible exact q_writes__frames | with_reducible exact q_writes__tape | with_reducible exact q_writes__safe | with_reducible exact q_writes__shelf | decide +kernel)
local macro_rules | `(tactic| walk_at "nr") => `(tactic| first | with_reducible exact rfuse_frames | with_reducible exact rfuse_tape | with_reducible exact rfuse_safe | with_reducible exact rfuse_shelf | with_reducible exact rfuse_writes | with_reducible exact rframes_fuse | with_reducible exact rframes_tape | with_reducible exact rframes_safe | with_reducible exact rframes_shelf | with_reducible exact rframes_writes | with_reducible exact rtape_fuse | with_reducible exact rtape_frames | with_reducible exact rtape_safe | with_reducible exact rtape_shelf | with_reducible exact rtape_writes | with_reducible exact rsafe_fuse | with_reducible exact rsafe_frames | with_reducible exact rsafe_tape | with_reducible exact rsafe_shelf | with_reducible exact rsafe_writes | with_reducible exact rshelf_fuse | with_reducible exact rshelf_frames | with_reducible exact rshelf_tape | with_reducible exact rshelf_safe | with_reducible exact rshelf_writes | with_reducible exact rwrites_fuse | with_reducible exact rwrites_frames | with_reducible exact rwrites_tape | with_reducible exact rwrites_safe | with_reducible exact rwrites_shelf | decide +kernel)
local macro_rules | `(tactic| walk_at "st0") => `(tactic| ((with_reducible refine' c_is_number ?h ?_); (case h => walk_at "ty1")))
local macro_rules | `(tactic| walk_at "st0") => `(tactic| ((with_reducible refine' c_is_within ?h ?_); (case h => walk_at "ty1")))
local macro_rules | `(tactic| walk_at "st0") => `(tactic| ((with_reducible refine' c_is_page ?h ?_); (case h => walk_at "ty1")))
local macro_rules | `(tactic| walk_at "st0") => `(tactic| (with_reducible refine' c_check (fun hz_ => ?_) (fun hz_ => ?_)))
local macro_rules | `(tactic| walk_at "st0") => `(tactic| ((with_reducible refine' c_tape ?h ?_); (case h => with_reducible assumption)))
local macro_rules | `(tactic| walk_at "st0") => `(tactic| ((with_reducible refine' c_safe ?h ?_); (case h => with_reducible assumption)))
local macro_rules | `(tactic| walk_at "st0") => `(tactic| ((with_reducible refine' c_shelf ?h ?_); (case h => with_reducible assumption)))
local macro_rules | `(tactic| walk_at "st0") => `(tactic| ((with_reducible refine' c_writes ?h ?_); (case h => with_reducible assumption)))
local macro_rules | `(tactic| walk_at "st0") => `(tactic| ((with_reducible refine' c_draw ?h ?m (fun d_ H_ lo_ hi_ pl_ st_ => ?_)); (case h => walk_at "pool"); (case m => first | with_reducible assumption | (refine' ⟨?_, ?_⟩ <;> first | decide | omega))))
local macro_rules | `(tactic| walk_at "st0") => `(tactic| ((with_reducible refine' c_text ?h (fun t_ H_ ok_ pl_ st_ => ?_)); (case h => walk_at "pool")))
local macro_rules | `(tactic| walk_at "st0") => `(tactic| ((with_reducible refine' c_call ?h (fun w_ n_ t_ q_ H_ hw_ ok_ nq_ eq_ pl_ st_ => ?_)); (case h => walk_at "pool")))
local macro_rules | `(tactic| walk_at "st0") => `(tactic| ((with_reducible refine' c_model ?h (fun m_ e_ H_ nm_ ne_ at_ st_ => ?_)); (case h => with_reducible assumption)))
section
variable {P : Program} {w : World} {K : PySem.W.Frag} {mg : Str → Option Value} {base : Heap}
def sp_made (C : Addr) : Sp := fun vs H Q _ => ∃ (p d c : Addr) (S : DS) (w t : Str) (n : Int), vs = [.ref p, .ref c] ∧ DiskAt C H p d S ∧ H c = some (.tup [.str w, .int n, .str t]) ∧ w ∈ words7 ∧ (Fits S t ∧ t.length ≤ 100000 ∧ S.t.length ≤ 100000) ∧
  ∀ S' tag x q H', Did S w n t S' tag x → H q = none → H' q = some (.tup [.str tag, x]) → DiskAt C H' p d S' → Stay [p, d] H H' → Q (.ref q) H'
theorem c_made {C p d c : Addr} {S : DS} {w t : Str} {n : Int} {H : Hp} {Q : VK} {E : XK} (h : DiskAt C H p d S) (hc : H c = some (.tup [.str w, .int n, .str t])) (hw : w ∈ words7) (hf : Fits S t ∧ t.length ≤ 100000 ∧ S.t.length ≤ 100000)
  (q : ∀ S' tag x q H', Did S w n t S' tag x → H q = none → H' q = some (.tup [.str tag, x]) → DiskAt C H' p d S' → Stay [p, d] H H' → Q (.ref q) H') : sp_made C [.ref p, .ref c] H Q E := ⟨p, d, c, S, w, t, n, rfl, h, hc, hw, hf, q⟩
theorem sc__law_made : FnScope ["disk", "call", "word", "page", "text", "e"] ["disk", "call"] (defScope s__law_made) := ⟨rfl, rfl, rfl, by decide +kernel, rfl, by decide +kernel, by decide +kernel⟩
theorem ok__law_made (T : G K mg) : FnOk P w K mg base CX0 6 T.f__law_made T.d__law_made ["disk", "call"] (sp_made T.C_Disk) := by
  refine T.F__law_made.ok sc__law_made (fun vs H Q E h => ?_) (fun cdv A outer s H vs Q E hr h => ?_)
  · obtain ⟨p, d, c, S, w, t, n, rfl, hS, hc, hw, ⟨hf, hl1, hl2⟩, k⟩ := h
    rfl
  · obtain ⟨p, d, c, S, w, t, n, rfl, hS, hc, hw, ⟨hf, hl1, hl2⟩, k⟩ := h
    have hu := hu_of hr
    have nd := sc__law_made.nd
    refine ⟨_, (pss_cons (ps_asg (pv 1) (pg_tup rfl (pgs_cons (pg_name (i := 2) nd rfl (Or.inl rfl)) (pgs_cons (pg_name (i := 3) nd rfl (Or.inl rfl)) (pgs_cons (pg_name (i := 4) nd rfl (Or.inl rfl)) pgs_nil)))))
        (pss_cons (ps_rows rfl rfl nd takes0 (fun W pn xe tk _ => (pss_one (ps_if (pt_cmpR op_eq (pv 2) pe_str (nomark _)) (pss_one (ps_expr (pe_methW (pv 0) T.c_Disk T.m_Disk_put_frame (ok_Disk_put_frame T) (hr.mono (by decide)) T.b_Disk_put_frame .nil (fun σ => passAt tk σ) (pa_cons (pv 3) (pa_cons (pv 4) pa_nil))))) (pss_one (ps_if (pt_cmpR op_eq (pv 2) pe_str (nomark _)) (pss_one (ps_expr (pe_methW (pv 0) T.c_Disk T.m_Disk_add_tape (ok_Disk_add_tape T) (hr.mono (by decide)) T.b_Disk_add_tape .nil (fun σ => passAt tk σ) (pa_cons (pv 4) pa_nil)))) (pss_one (ps_if (pt_cmpR op_eq (pv 2) pe_str (nomark _)) (pss_one (ps_expr (pe_methW0 (pv 0) T.c_Disk T.m_Disk_sync (ok_Disk_sync T) (hr.mono (by decide)) T.b_Disk_sync .nil (fun σ => passAt tk σ)))) (pss_one (ps_if (pt_cmpR op_eq (pv 2) pe_str (nomark _)) (pss_one (ps_expr (pe_methW (pv 0) T.c_Disk T.m_Disk_put_shelf (ok_Disk_put_shelf T) (hr.mono (by decide)) T.b_Disk_put_shelf .nil (fun σ => passAt tk σ) (pa_cons (pv 4) pa_nil)))) (pss_one (ps_expr (pe_methW (pv 0) T.c_Disk T.m_Disk_cut_tape (ok_Disk_cut_tape T) (hr.mono (by decide)) T.b_Disk_cut_tape .nil (fun σ => passAt tk σ) (pa_cons (pv 4) pa_nil))))))))))))) (Rows.named ⟨rfl, by decide, Or.inl T.x_Fallen.g⟩ (i := 5) rfl rfl (fun a oe cls dd pn hz hf => (pss_one (ps_ret (pe_ifExp (PW.pt (pw_and (pt_val (pe_callB (call_isX hz hf) (by rfl) T.n_isinstance (by decide +kernel) (pa_cons (pv 5) (pa_cons (pe_glob (v := .ref T.C_Refused) rfl T.x_Refused.g rfl) pa_nil)))) (pw_and1 (pt_not (pt_val (pe_callB (call_isX hz hf) (by rfl) T.n_isinstance (by decide +kernel) (pa_cons (pv 5) (pa_cons (pe_glob (v := .ref T.C_BadPage) rfl T.x_BadPage.g rfl) pa_nil)))))))) (pe_tup (pa_cons pe_str (pa_cons (pe_xw hz hf (pv 5)) pa_nil))) (pe_tup (pa_cons pe_str (pa_cons pe_int pa_nil))))))) (Rows.named ⟨rfl, by decide, Or.inl T.x_BadPage.g⟩ (i := 5) rfl rfl (fun a oe cls dd pn hz hf => (pss_one (ps_ret (pe_tup (pa_cons pe_str (pa_cons (pe_xw hz hf (pv 5)) pa_nil)))))) Rows.nil)))
        (pss_one (ps_ret (pe_tup (pa_cons pe_str (pa_cons pe_non pa_nil))))))), ?_⟩
    have hf0 := T.c_Disk
    have hf1 := T.x_BadPage
    have hf2 := T.x_Fallen
    have hf3 := T.x_Refused
    have hf4 := T.a_Disk_fuse
    have hf5 := T.a_Disk_frames
    have hf6 := T.a_Disk_tape
    have hf7 := T.a_Disk_safe
    have hf8 := T.a_Disk_shelf
    have hf9 := T.a_Disk_writes
    have hf10 := T.x_Fallen
    have hf11 := T.x_BadPage
    have hf12 := T.x_Refused
    have hf13 := T.e_BadPage_BadPage
    have hf14 := T.e_BadPage_Fallen
    have hf15 := T.e_Fallen_Fallen
    have hf16 := T.c_Disk
    have hf17 := T.k_Fallen_Refused
    have hf18 := T.k_Fallen_BadPage
    try dsimp only [L2.cxOf, L2.Cx.nox, L2.Cx.wish]
    rw [show L2.start ["disk", "call", "word", "page", "text", "e"] [V.ref p, V.ref c] = [some (V.ref p), some (V.ref c), none, none, none, none] from rfl]
    obtain ⟨⟨dx, h1⟩, h2, fk⟩ := id hS
    simp only [words7, List.mem_cons, List.not_mem_nil, or_false] at hw
    rcases hw with rfl | rfl | rfl | rfl | rfl
    · walk_at "gs"
      refine ⟨p, d, S, n, t, rfl, hS, hf.2, fun hi nf H1 hS1 st1 => ?_, fun hi m fm => ?_, fun hi => ?_⟩
      · walk_at "go"
        exact k _ _ _ _ _ (did_frame hi nf) (by assumption) (by walk_at "hpd") (hS1.ne (by walk_at "ne") (by walk_at "ne")) (by walk_at "fr")
      · walk_at "nw"
        walk_at "go"
        exact k _ _ _ _ _ (Did.fallen (fun _ => hi) m fm) (by assumption) (by walk_at "hpd") ((hS.ne (by walk_at "ne") (by walk_at "ne")).ne (by walk_at "ne") (by walk_at "ne")) (by walk_at "fr")
      · walk_at "nw"
        walk_at "go"
        exact k _ _ _ _ _ (Did.page rfl hi) (by assumption) (by walk_at "hpd") ((hS.ne (by walk_at "ne") (by walk_at "ne")).ne (by walk_at "ne") (by walk_at "ne")) (by walk_at "fr")
    · walk_at "gs"
      refine ⟨p, d, S, t, rfl, hS, hf.1, fun nf H1 hS1 st1 => ?_, fun m fm => ?_⟩
      · have st2 := st1.weak (S' := [p, d]) (by intro b hb; simp at hb; simp [hb])
        clear st1
        walk_at "go"
        exact k _ _ _ _ _ (did_tape nf) (by assumption) (by walk_at "hpd") (hS1.ne (by walk_at "ne") (by walk_at "ne")) (by walk_at "fr")
      · walk_at "nw"
        walk_at "go"
        exact k _ _ _ _ _ (Did.fallen (fun e => absurd e (by decide +kernel)) m fm) (by assumption) (by walk_at "hpd") ((hS.ne (by walk_at "ne") (by walk_at "ne")).ne (by walk_at "ne") (by walk_at "ne")) (by walk_at "fr")
    · walk_at "gs"
      refine ⟨p, d, S, rfl, hS, hl2, fun nf H1 hS1 st1 => ?_, fun m fm => ?_⟩
      · have st2 := st1.weak (S' := [p, d]) (by intro b hb; simp at hb; simp [hb])
        clear st1
        walk_at "go"
        exact k _ _ _ _ _ (did_sync nf) (by assumption) (by walk_at "hpd") (hS1.ne (by walk_at "ne") (by walk_at "ne")) (by walk_at "fr")
      · walk_at "nw"
        walk_at "go"
        exact k _ _ _ _ _ (Did.fallen (fun e => absurd e (by decide +kernel)) m fm) (by assumption) (by walk_at "hpd") ((hS.ne (by walk_at "ne") (by walk_at "ne")).ne (by walk_at "ne") (by walk_at "ne")) (by walk_at "fr")
    · walk_at "gs"
      refine ⟨p, d, S, t, rfl, hS, hl1, fun nf H1 hS1 st1 => ?_, fun m fm => ?_⟩
      · have st2 := st1.weak (S' := [p, d]) (by intro b hb; simp at hb; simp [hb])
        clear st1
        walk_at "go"
        exact k _ _ _ _ _ (did_shelf nf) (by assumption) (by walk_at "hpd") (hS1.ne (by walk_at "ne") (by walk_at "ne")) (by walk_at "fr")
      · walk_at "nw"
        walk_at "go"
        exact k _ _ _ _ _ (Did.fallen (fun e => absurd e (by decide +kernel)) m fm) (by assumption) (by walk_at "hpd") ((hS.ne (by walk_at "ne") (by walk_at "ne")).ne (by walk_at "ne") (by walk_at "ne")) (by walk_at "fr")
    · walk_at "gs"
      refine ⟨p, d, S, t, rfl, hS, hl1, fun nf H1 hS1 st1 => ?_, fun m fm => ?_⟩
      · have st2 := st1.weak (S' := [p, d]) (by intro b hb; simp at hb; simp [hb])
        clear st1
        walk_at "go"
        exact k _ _ _ _ _ (did_cut nf) (by assumption) (by walk_at "hpd") (hS1.ne (by walk_at "ne") (by walk_at "ne")) (by walk_at "fr")
      · walk_at "nw"
        walk_at "go"
        exact k _ _ _ _ _ (Did.fallen (fun e => absurd e (by decide +kernel)) m fm) (by assumption) (by walk_at "hpd") ((hS.ne (by walk_at "ne") (by walk_at "ne")).ne (by walk_at "ne") (by walk_at "ne")) (by walk_at "fr")
end
end WD

namespace WD
open PySem PySem.Spec PyProof.Rows L2
-- p ≠ q of two addresses
local macro_rules | `(tactic| walk_at "ne") => `(tactic| first
  | with_reducible assumption
  | with_reducible exact Ne.symm (by assumption)
  | exact ne_some (by with_reducible assumption) (by with_reducible assumption)
  | exact Ne.symm (ne_some (by with_reducible assumption) (by with_reducible assumption)))
local macro_rules | `(tactic| walk_at "nm") => `(tactic| first | with_reducible assumption | with_reducible exact nm0 | ((with_reducible refine' nmS ?a ?b); (case a => walk_at "ne"); (case b => walk_at "nm")))
-- H p = some ?o
local macro_rules | `(tactic| walk_at "hp") => `(tactic| first
  | with_reducible exact upd_same
  | with_reducible assumption
  | ((with_reducible refine' Eq.trans (upd_ne ?a) ?b); (case a => walk_at "ne"); (case b => walk_at "hp"))
  | exact Stay.keep (by with_reducible assumption) _ _ (by walk_at "hp") (by walk_at "nm"))
local macro_rules | `(tactic| walk_at "hpd") => `(tactic| ((refine' Eq.trans ?h ?e); (case h => walk_at "hp"); (case e => exact rfl)))
-- a new address
local macro_rules | `(tactic| walk_at "nw") => `(tactic| ((repeat first | (with_reducible refine' nw_upd ?_) | refine' nw_fr (by with_reducible assumption) ?_); intro p_; intros))
local macro_rules | `(tactic| walk_at "mem") => `(tactic| first | exact List.mem_cons_self | (refine' List.mem_cons_of_mem _ ?_; walk_at "mem"))
-- what stands stays
local macro_rules | `(tactic| walk_at "fr") => `(tactic| first
  | with_reducible assumption
  | exact Stay.refl _ _
  | ((with_reducible refine' Stay.upd ?a ?b); (case a => walk_at "fr"); (case b => walk_at "mem"))
  | ((with_reducible refine' Stay.new ?a ?b); (case b => with_reducible assumption); (case a => walk_at "fr"))
  | (refine' Stay.trans ?_ (by with_reducible assumption); walk_at "fr"))
local macro_rules | `(tactic| walk_at "sq") => `(tactic| first | with_reducible assumption | exact SqL.of (by walk_at "hp"))
local macro_rules | `(tactic| walk_at "sqt") => `(tactic| first | with_reducible assumption | exact SqT.of (by walk_at "hp"))
-- side goals
local macro_rules | `(tactic| walk_at "sd") => `(tactic| first
  | with_reducible assumption | with_reducible rfl | (show _ ≤ sizeLine; decide) | (refine Nat.le_trans (Nat.le_of_ble_eq_true (m := 1000) rfl) (by decide)) | decide | omega
  | exact IntMulOk.of_right (intBits_le_64 (by omega) (by omega)) | exact IntMulOk.of_left (intBits_le_64 (by omega) (by omega))
  | (refine' Or.inl ⟨?_, ?_⟩ <;> omega) | (refine' Or.inr ⟨?_, ?_⟩ <;> omega)
  | (refine' ⟨?_, ?_⟩ <;> walk_at "sd") | (refine' ⟨?_, ?_, ?_⟩ <;> walk_at "sd"))
local macro_rules | `(tactic| walk_at "set") => `(tactic| first | with_reducible exact set0 | with_reducible exact set1 | with_reducible exact set2 | with_reducible exact set3 | with_reducible exact set4 | with_reducible exact set5 | with_reducible exact set6 | with_reducible exact set7 | with_reducible exact set8 | with_reducible exact set9 | with_reducible exact set10 | with_reducible exact set11 | with_reducible exact set12 | with_reducible exact set13 | with_reducible exact set14 | with_reducible exact set15 | with_reducible exact set16 | with_reducible exact set17 | with_reducible exact set18 | with_reducible exact set19 | with_reducible exact set20)
-- one step
local macro_rules | `(tactic| walk_at "st0") => `(tactic| first
  | with_reducible refine' x_seq ?_
  | with_reducible refine' x_next ?_
  | with_reducible refine' x_ifS ?_
  | with_reducible refine' x_asg ?_
  | with_reducible refine' x_ret ?_
  | with_reducible refine' x_retN ?_
  | with_reducible refine' x_drop ?_
  | with_reducible refine' x_brk ?_
  | with_reducible refine' x_cont ?_
  | ((with_reducible refine' x_gName ?e ?_); (case e => walk_at "set"))
  | with_reducible refine' x_gSub ?_
  | with_reducible refine' x_gCons ?_
  | with_reducible refine' x_gNil ?_
  | with_reducible refine' x_c ?_
  | ((with_reducible refine' x_var ?e ?_); (case e => exact rfl))
  | with_reducible refine' x_op ?_
  | with_reducible refine' x_un ?_
  | with_reducible refine' x_if ?_
  | with_reducible refine' x_cb ?_
  | with_reducible refine' x_cons ?_
  | with_reducible refine' x_nil ?_
  | with_reducible refine' x_bm0 ?_
  | with_reducible refine' x_bm ?_
  | with_reducible refine' x_tup ?_
  | with_reducible refine' x_lst ?_
  | ((with_reducible refine' And.intro (a := _ ≤ sizeLine) ?e ?_); (case e => walk_at "sd"); walk_at "nw")
  | with_reducible refine' x_fld ?_
  | with_reducible refine' x_test ?_
  | with_reducible refine' x_tB ?_
  | with_reducible refine' x_and ?_
  | with_reducible refine' x_or ?_
  | with_reducible refine' x_not ?_
  | with_reducible refine' x_notV ?_
  | with_reducible refine' x_andV ?_
  | with_reducible refine' x_orV ?_
  | with_reducible refine' x_rI0 ?_
  | ((with_reducible refine' x_rI ?e ?_); (case e => walk_at "sd"))
  | with_reducible refine' x_rU ?_
  | ((with_reducible refine' x_rEq ?e ?_); (case e => exact rfl))
  | ((with_reducible refine' x_rNe ?e ?_); (case e => exact rfl))
  | ((with_reducible refine' x_ixL0 ?h ?_); (case h => walk_at "sq"))
  | ((with_reducible refine' x_ixL1 ?h ?_); (case h => walk_at "sq"))
  | ((with_reducible refine' x_ixL2 ?h ?_); (case h => walk_at "sq"))
  | ((with_reducible refine' x_ixL0I ?h ?_); (case h => walk_at "sq"))
  | ((with_reducible refine' x_ixL ?h ?e ?_); (case h => walk_at "sq"); (case e => exact rfl))
  | ((with_reducible refine' x_neNil ?h ?h2 ?_); (case h => walk_at "sq"); (case h2 => walk_at "sq"))
  | ((with_reducible refine' x_pop0I ?h ?_); (case h => walk_at "hp"))
  | ((with_reducible refine' x_pop0 ?h ?_); (case h => walk_at "hp"))
  | ((with_reducible refine' x_setL0 ?h ?_); (case h => walk_at "hp"))
  | ((with_reducible refine' x_setL1 ?h ?_); (case h => walk_at "hp"))
  | ((with_reducible refine' x_setL2 ?h ?_); (case h => walk_at "hp"))
  | ((with_reducible refine' x_setL ?h ?e ?_); (case h => walk_at "hp"); (case e => exact rfl))
  | with_reducible refine' .inl ⟨_, rfl, ?_⟩
  | ((with_reducible refine' x_tyL ?h ?_); (case h => walk_at "sq"))
  | with_reducible refine' ⟨_, rfl, ?_⟩)
-- a split
local macro_rules | `(tactic| walk_at "if") => `(tactic| (
  first
  | (with_reducible refine' x_dec (fun h_ => ?_) (fun h_ => ?_))
  | (with_reducible refine' x_decN (fun h_ => ?_) (fun h_ => ?_))
  | (with_reducible refine' x_boolN (fun h_ => ?_) (fun h_ => ?_))
  | (with_reducible refine' x_bool (fun h_ => ?_) (fun h_ => ?_))))
local macro_rules | `(tactic| walk_at "ifs") => `(tactic| (walk_at "if" <;> first
  | (exfalso; first | omega | contradiction)
  | (rename_i h_; (try simp only [BEq.rfl, List.length_map, List.length_cons, List.length_nil, Int.natCast_zero, Int.ofNat_zero, gt_iff_lt, Int.lt_irrefl, Bool.true_eq_false, Bool.false_eq_true, List.isEmpty_nil, List.isEmpty_cons, V.int.injEq, V.str.injEq, V.bl.injEq, reduceCtorEq, not_false_eq_true, not_true_eq_false] at h_); (try (exfalso; omega)))))
local macro_rules | `(tactic| walk_at "ite1") => `(tactic| first
  | with_reducible refine' x_T ?_
  | with_reducible refine' x_F ?_
  | with_reducible refine' x_nT ?_
  | with_reducible refine' x_nF ?_
  | ((with_reducible refine' x_bT ?e ?_); (case e => first | decide | decide +kernel))
  | ((with_reducible refine' x_bF ?e ?_); (case e => first | decide | decide +kernel)))
local macro_rules | `(tactic| walk_at "st") => `(tactic| ((fail_if_success (with_reducible (show (if _ then _ else _)))); walk_at "st0"))
local macro_rules | `(tactic| walk_at "go") => `(tactic| repeat first | walk_at "ite1" | walk_at "st")
local macro_rules | `(tactic| walk_at "gs") => `(tactic| repeat' first | walk_at "ite1" | walk_at "st" | walk_at "ifs")
local macro_rules | `(tactic| walk_at "sz") => `(tactic| first | with_reducible assumption | (refine Nat.le_trans (by assumption) (by decide : 100000 ≤ sizeLine)) | (refine Nat.le_trans (m := 100000) ?_ (by decide); (try simp only [len_add, rep_len]); (try rw [show (Str.ofString "z").length = 1 from rfl]); omega))
local macro_rules | `(tactic| walk_at "hn") => `(tactic| first | with_reducible assumption)
local macro_rules | `(tactic| walk_at "sqo") => `(tactic| first | exact Or.inl (by walk_at "sq") | exact Or.inr (by walk_at "sqt"))
local macro_rules | `(tactic| walk_at "ty1") => `(tactic| first | with_reducible assumption | exact Ty1.int _ | exact Ty1.str _ | exact Ty1.bl _ | exact Ty1.non | exact Ty1.tup (by walk_at "hp") | exact Ty1.lst (by walk_at "hp"))
local macro_rules | `(tactic| walk_at "st2") => `(tactic| first
  | with_reducible refine' And.intro (a := V.non = V.non) rfl ?_
  | with_reducible refine' x_call0 ?_
  | with_reducible refine' x_callS ?_
  | with_reducible refine' x_meth0 ?_
  | with_reducible refine' x_methW0 ?_
  | with_reducible refine' x_make0 ?_
  | with_reducible refine' x_makeW0 ?_
  | with_reducible refine' x_sFld ?_
  | with_reducible refine' x_mkO ?_
  | with_reducible refine' x_chain ?_
  | with_reducible refine' x_dget ?_
  | with_reducible refine' x_dget1 ?_
  | with_reducible refine' x_dget2 ?_
  | with_reducible refine' x_sDPut ?_
  | with_reducible refine' x_pairs ?_
  | with_reducible refine' x_pairs0 ?_
  | with_reducible refine' x_sl ?_
  | with_reducible refine' x_noPart ?_
  | with_reducible refine' x_part ?_
  | ((with_reducible refine' x_disp ?_); walk_at "nw")
  | ((with_reducible refine' x_dnew ?_); walk_at "nw")
  | ((with_reducible refine' x_rz ?h ?_); (case h => walk_at "cf"); walk_at "nw")
  | ((with_reducible refine' x_isi ?h ?e ?_); (case h => walk_at "ty1"); (case e => decide))
  | ((with_reducible refine' x_fldR ?h ?c ?n ?e ?_); (case h => walk_at "hp"); (case c => walk_at "cf"); (case n => walk_at "cf"); (case e => walk_at "fl"))
  | ((with_reducible refine' x_onIns ?h ?n ?_); (case h => walk_at "hp"); (case n => walk_at "fl"))
  | ((with_reducible refine' x_addS ?l ?_); (case l => walk_at "sz"))
  | ((with_reducible refine' x_lenS ?l ?_); (case l => walk_at "sz"))
  | ((with_reducible refine' x_lenL ?h ?_); (case h => walk_at "sqo"))
  | ((with_reducible refine' x_slL ?h rfl ?_); (case h => walk_at "sq"); walk_at "nw")
  | ((with_reducible refine' x_listOf ?h ?_); (case h => walk_at "sqo"); walk_at "nw")
  | ((with_reducible refine' x_strmul ?c ?_); (case c => (refine' ⟨?_, ?_, ?_⟩ <;> first | omega | decide +kernel)))
  | ((with_reducible refine' x_isD2 ?h ?_); (case h => walk_at "hp"))
  | ((with_reducible refine' x_getI ?h ?_); (case h => walk_at "hp"))
  | ((with_reducible refine' x_getS ?h ?_); (case h => walk_at "hp"))
  | ((with_reducible refine' x_dgetS ?h ?e ?_); (case h => walk_at "hp"); (case e => walk_at "fl"))
  | ((with_reducible refine' x_ixT ?h ?e ?_); (case h => walk_at "sqt"); (case e => exact rfl))
  | ((with_reducible refine' x_gTup ?h ?e ?_); (case h => walk_at "sqt"); (case e => exact rfl)))
local macro_rules | `(tactic| walk_at "st0") => `(tactic| walk_at "st2")
local macro_rules | `(tactic| walk_at "fl") => `(tactic| first
  | with_reducible exact lk_hd
  | ((with_reducible refine' lk_tl ?n ?h); (case n => walk_at "nq"); (case h => walk_at "fl"))
  | with_reducible exact lk_nil
  | with_reducible exact pf_hd
  | ((with_reducible refine' pf_tl ?n ?h); (case n => walk_at "nq"); (case h => walk_at "fl"))
  | with_reducible exact pf_nil
  | with_reducible exact vl_hd
  | ((with_reducible refine' vl_tl ?n ?h); (case n => walk_at "nr"); (case h => walk_at "fl"))
  | with_reducible exact vl_nil
  | ((with_reducible refine' pk_hd ?n); (case n => rfl))
  | ((with_reducible refine' pk_tl ?n ?t ?h); (case n => walk_at "nr"); (case t => rfl); (case h => walk_at "fl")))
local macro_rules | `(tactic| walk_at "cf") => `(tactic| with_reducible assumption)
local macro_rules | `(tactic| walk_at "st0") => `(tactic| first
  | ((with_reducible refine' x_sFldR ?h ?c ?n ?l ?e ?_); (case h => walk_at "hp"); (case c => walk_at "cf"); (case n => walk_at "cf"); (case l => exact Nat.le_of_ble_eq_true rfl); (case e => walk_at "fl")))
local macro_rules | `(tactic| walk_at "pool") => `(tactic| first
  | with_reducible assumption
  | exact Pool.ne (by walk_at "pool") (by walk_at "ne") (by walk_at "ne")
  | exact Pool.stay (by walk_at "pool") (by with_reducible assumption) (by walk_at "nm") (by walk_at "nm"))
local macro_rules | `(tactic| walk_at "szl") => `(tactic| first | exact Nat.lt_of_le_of_lt (Nat.le_of_ble_eq_true (m := 1000) rfl) (by decide) | exact Nat.lt_of_le_of_lt (by with_reducible assumption) (by decide : 1000 < sizeLine))
local macro_rules | `(tactic| walk_at "st0") => `(tactic| first
  | ((with_reducible refine' x_putS ?h ?l ?e ?_); (case h => walk_at "hp"); (case l => walk_at "szl"); (case e => walk_at "fl"))
  | ((with_reducible refine' x_setD ?h ?l ?e ?_); (case h => walk_at "hp"); (case l => walk_at "szl"); (case e => walk_at "fl"))
  | ((with_reducible refine' x_putI ?h ?l ?_); (case h => walk_at "hp"); (case l => walk_at "szl")))
local macro_rules | `(tactic| walk_at "st0") => `(tactic| first
  | ((with_reducible refine' x_rowN ?e ?_); (case e => walk_at "cf"); walk_at "nw"; (try dsimp only [List.set]))
  | ((with_reducible refine' x_rowF ?e ?_); (case e => walk_at "cf"))
  | with_reducible refine' x_xw ?_
  | ((with_reducible refine' x_xwR ?t ?h ?_); (case t => walk_at "cf"); (case h => walk_at "hp")))
local macro_rules | `(tactic| walk_at "st0") => `(tactic| first
  | ((with_reducible refine' x_isXR ?k ?x ?h ?e ?_); (case k => exact ClsV.own _); (case x => exact ExT.xc (by with_reducible assumption)); (case h => walk_at "hp"); (case e => walk_at "cf")))
local macro_rules | `(tactic| walk_at "st0") => `(tactic| first
  | with_reducible refine' x_for ?_
  | with_reducible refine' x_rng1 ?_
  | with_reducible refine' x_rng2 ?_
  | with_reducible refine' x_iList ?_
  | with_reducible refine' x_iTup ?_
  | with_reducible refine' x_par ?_
  | with_reducible refine' x_yes ?_
  | with_reducible refine' x_lc ?_
  | ((with_reducible refine' x_itL ?h ?_); (case h => walk_at "sq"))
  | ((with_reducible refine' x_itT ?h ?_); (case h => walk_at "sqt"))
  | ((with_reducible refine' x_catL ?h ?h2 ?l ?_); (case h => walk_at "hp"); (case h2 => walk_at "hp"); (case l => walk_at "sd"); walk_at "nw")
  | ((with_reducible refine' And.intro (a := List.set _ _ none = _) ?e ?_); (case e => exact rfl))
  | ((with_reducible refine' x_gNameS ?e1 ?e ?_); (case e1 => walk_at "set"); (case e => walk_at "set")))
local macro_rules | `(tactic| walk_at "nq") => `(tactic| first | with_reducible exact q_fuse__frames | with_reducible exact q_fuse__tape | with_reducible exact q_fuse__safe | with_reducible exact q_fuse__shelf | with_reducible exact q_fuse__writes | with_reducible exact q_frames__fuse | with_reducible exact q_frames__tape | with_reducible exact q_frames__safe | with_reducible exact q_frames__shelf | with_reducible exact q_frames__writes | with_reducible exact q_tape__fuse | with_reducible exact q_tape__frames | with_reducible exact q_tape__safe | with_reducible exact q_tape__shelf | with_reducible exact q_tape__writes | with_reducible exact q_safe__fuse | with_reducible exact q_safe__frames | with_reducible exact q_safe__tape | with_reducible exact q_safe__shelf | with_reducible exact q_safe__writes | with_reducible exact q_shelf__fuse | with_reducible exact q_shelf__frames | with_reducible exact q_shelf__tape | with_reducible exact q_shelf__safe | with_reducible exact q_shelf__writes | with_reducible exact q_writes__fuse | with_reducible exact q_writes__frames | with_reducible exact q_writes__tape | with_reducible exact q_writes__safe | with_reducible exact q_writes__shelf | decide +kernel)
local macro_rules | `(tactic| walk_at "nr") => `(tactic| first | with_reducible exact rfuse_frames | with_reducible exact rfuse_tape | with_reducible exact rfuse_safe | with_reducible exact rfuse_shelf | with_reducible exact rfuse_writes | with_reducible exact rframes_fuse | with_reducible exact rframes_tape | with_reducible exact rframes_safe | with_reducible exact rframes_shelf | with_reducible exact rframes_writes | with_reducible exact rtape_fuse | with_reducible exact rtape_frames | with_reducible exact rtape_safe | with_reducible exact rtape_shelf | with_reducible exact rtape_writes | with_reducible exact rsafe_fuse | with_reducible exact rsafe_frames | with_reducible exact rsafe_tape | with_reducible exact rsafe_shelf | with_reducible exact rsafe_writes | with_reducible exact rshelf_fuse | with_reducible exact rshelf_frames | with_reducible exact rshelf_tape | with_reducible exact rshelf_safe | with_reducible exact rshelf_writes | with_reducible exact rwrites_fuse | with_reducible exact rwrites_frames | with_reducible exact rwrites_tape | with_reducible exact rwrites_safe | with_reducible exact rwrites_shelf | decide +kernel)
local macro_rules | `(tactic| walk_at "st0") => `(tactic| ((with_reducible refine' c_is_number ?h ?_); (case h => walk_at "ty1")))
local macro_rules | `(tactic| walk_at "st0") => `(tactic| ((with_reducible refine' c_is_within ?h ?_); (case h => walk_at "ty1")))
local macro_rules | `(tactic| walk_at "st0") => `(tactic| ((with_reducible refine' c_is_page ?h ?_); (case h => walk_at "ty1")))
local macro_rules | `(tactic| walk_at "st0") => `(tactic| (with_reducible refine' c_check (fun hz_ => ?_) (fun hz_ => ?_)))
local macro_rules | `(tactic| walk_at "st0") => `(tactic| ((with_reducible refine' c_tape ?h ?_); (case h => with_reducible assumption)))
local macro_rules | `(tactic| walk_at "st0") => `(tactic| ((with_reducible refine' c_safe ?h ?_); (case h => with_reducible assumption)))
local macro_rules | `(tactic| walk_at "st0") => `(tactic| ((with_reducible refine' c_shelf ?h ?_); (case h => with_reducible assumption)))
local macro_rules | `(tactic| walk_at "st0") => `(tactic| ((with_reducible refine' c_writes ?h ?_); (case h => with_reducible assumption)))
local macro_rules | `(tactic| walk_at "st0") => `(tactic| ((with_reducible refine' c_draw ?h ?m (fun d_ H_ lo_ hi_ pl_ st_ => ?_)); (case h => walk_at "pool"); (case m => first | with_reducible assumption | (refine' ⟨?_, ?_⟩ <;> first | decide | omega))))
local macro_rules | `(tactic| walk_at "st0") => `(tactic| ((with_reducible refine' c_text ?h (fun t_ H_ ok_ pl_ st_ => ?_)); (case h => walk_at "pool")))
local macro_rules | `(tactic| walk_at "st0") => `(tactic| ((with_reducible refine' c_call ?h (fun w_ n_ t_ q_ H_ hw_ ok_ nq_ eq_ pl_ st_ => ?_)); (case h => walk_at "pool")))
local macro_rules | `(tactic| walk_at "st0") => `(tactic| ((with_reducible refine' c_model ?h (fun m_ e_ H_ nm_ ne_ at_ st_ => ?_)); (case h => with_reducible assumption)))
section
variable {P : Program} {w : World} {K : PySem.W.Frag} {mg : Str → Option Value} {base : Heap}
structure Ok (S : DS) (n : Nat) : Prop where
  ks : ∃ ks : List Int, S.fr.map (·.1) = ks.map Sum.inl
  ln : S.fr.length ≤ n
  sv : ∀ kv ∈ S.fr, ∃ t, kv.2 = .str t
  tl : S.t.length ≤ 20 * n
  sl : S.sh.length ≤ 20
  to : PyData.strOk S.t = true
  so : PyData.strOk S.sh = true
def sp_same (C : Addr) : Sp := fun vs H Q _ => ∃ (p d m e : Addr) (S : DS) (n : Nat), vs = [.ref p, .ref m] ∧ DiskAt C H p d S ∧ ModelAt H m e S ∧ Ok S n ∧ n ≤ 40 ∧ ∀ H', Stay [] H H' → Q (.bl true) H'
theorem c_same {C p d m e : Addr} {S : DS} {n : Nat} {H : Hp} {Q : VK} {E : XK} (h : DiskAt C H p d S) (h2 : ModelAt H m e S) (o : Ok S n) (l : n ≤ 40) (q : ∀ H', Stay [] H H' → Q (.bl true) H') : sp_same C [.ref p, .ref m] H Q E := ⟨p, d, m, e, S, n, rfl, h, h2, o, l, q⟩
theorem DiskAt.stay {Z : List Addr} {C p d : Addr} {S : DS} {H H' : Hp} (h : DiskAt C H p d S) (s : Stay Z H H') (h1 : p ∉ Z) (h2 : d ∉ Z) : DiskAt C H' p d S := by
  obtain ⟨⟨dx, a⟩, b, f⟩ := h
  exact ⟨⟨dx, s.keep _ _ a h1⟩, s.keep _ _ b h2, f⟩
theorem ModelAt.stay {Z : List Addr} {m e : Addr} {S : DS} {H H' : Hp} (h : ModelAt H m e S) (s : Stay Z H H') (h1 : m ∉ Z) (h2 : e ∉ Z) : ModelAt H' m e S := by
  obtain ⟨a, b, n, f⟩ := h
  exact ⟨s.keep _ _ a h1, s.keep _ _ b h2, n, f⟩
theorem Ok.scal {S : DS} {n : Nat} (h : Ok S n) (k : Key) : L2.scal ((valV S.fr k).getD .non) ((valV S.fr k).getD .non) = true := by
  unfold valV
  cases e : S.fr.find? (fun kv => decide (kv.1 = k)) with
  | none => rfl
  | some kv =>
    obtain ⟨t, ht⟩ := h.sv kv (List.mem_of_find?_eq_some e)
    show L2.scal kv.2 kv.2 = true
    rw [ht]; rfl
theorem Ok.shaped {S : DS} {n : Nat} (h : Ok S n) : SeqAt.shaped (.list [.str S.t, .str S.sh, .int S.s, .int S.w]) = true := by
  unfold SeqAt.shaped
  rw [Bool.and_eq_true]
  refine ⟨?_, decide_eq_true (show 1 ≤ 64 by decide)⟩
  show (PyData.strOk S.t && (PyData.strOk S.sh && _)) = true
  rw [h.to, h.so]
  rfl
theorem ModelAt.ne' {m e q : Addr} {S : DS} {H : Hp} {o : HO} (h : ModelAt H m e S) (h1 : m ≠ q) (h2 : e ≠ q) : ModelAt (upd H q o) m e S := by
  obtain ⟨a, b, n, f⟩ := h
  exact ⟨by rw [upd_ne h1]; exact a, by rw [upd_ne h2]; exact b, n, f⟩
theorem sc__law_is_same : FnScope ["disk", "model", "page", "ids", "numbers", "number"] ["disk", "model"] (defScope s__law_is_same) := ⟨rfl, rfl, rfl, by decide +kernel, rfl, by decide +kernel, by decide +kernel⟩
theorem ok__law_is_same (T : G K mg) : FnOk P w K mg base CX0 6 T.f__law_is_same T.d__law_is_same ["disk", "model"] (sp_same T.C_Disk) := by
  refine T.F__law_is_same.ok sc__law_is_same (fun vs H Q E h => ?_) (fun cdv A outer s H vs Q E hr h => ?_)
  · obtain ⟨p, d, m, e, S, n, rfl, hD, hM, ho, hn, k⟩ := h
    rfl
  · obtain ⟨p, d, m, e, S, n, rfl, hD, hM, ho, hn, k⟩ := h
    have hu := hu_of hr
    have nd := sc__law_is_same.nd
    refine ⟨_, (pss_cons (ps_for PassesOwn.never rfl (pi_range1 rfl T.n_range (pa_cons pe_int pa_nil)) (pg_name (i := 2) nd rfl (Or.inl rfl)) (pss_one (ps_if (pt_cmpR op_ne (pe_meth (pv 0) T.c_Disk T.m_Disk_frame (ok_Disk_frame T) (hr.mono (by decide)) T.b_Disk_frame .nil passL (pa_cons (pv 2) pa_nil)) (pe_dget2 hu (pe_dget hu (pv 1) pe_str (fun _ _ => rfl)) (pv 2) pe_non ⟨rfl, rfl, rfl, rfl⟩) (nomark _)) (pss_one (ps_ret pe_bl)) pss_nil)))
        (pss_cons (ps_par (i := 3) (j := 4) (by rfl) nd rfl rfl (by decide) rfl rfl (pa_cons (pe_meth0 (pv 0) T.c_Disk T.m_Disk_frame_ids (ok_Disk_frame_ids T) (hr.mono (by decide)) T.b_Disk_frame_ids .nil pass0) (pa_cons (pe_lst (pa_cons (pe_meth0 (pv 0) T.c_Disk T.m_Disk_safe (ok_Disk_safe T) (hr.mono (by decide)) T.b_Disk_safe .nil pass0) (pa_cons (pe_meth0 (pv 0) T.c_Disk T.m_Disk_writes (ok_Disk_writes T) (hr.mono (by decide)) T.b_Disk_writes .nil pass0) pa_nil))) pa_nil)) (by rfl))
        (pss_cons (ps_if (PW.pt (pw_or (pt_not (pt_val (pe_callB call_isi (by rfl) T.n_isinstance (by decide +kernel) (pa_cons (pv 3) (pa_cons (pe_bltn (v := .ty "tuple") (by rfl) T.n_tuple (by decide +kernel) rfl) pa_nil))))) (pw_or1 (pt_cmpR (op_neD hr.units) (pv 3) (pe_callTy call_tuple_of (by rfl) T.n_tuple (by decide +kernel) (pa_cons (pe_callB (call_sortDI rfl) (by rfl) T.n_sorted (by decide +kernel) (pa_cons (pe_dget hu (pv 1) pe_str (fun _ _ => rfl)) pa_nil)) pa_nil)) (nomark _))))) (pss_one (ps_ret pe_bl)) pss_nil)
        (pss_cons (ps_if (pt_cmpR (op_neD hr.units) (pe_lc (own := [("number", 5)]) (g := gName 5) rfl nd (pi_list (pv 4)) (blkOk_by (own := [("number", 5)]) (N := ["disk", "model", "page", "ids", "numbers", "number"]) (sc := defScope s__law_is_same) (by decide +kernel)) (fun _ _ _ _ _ => (pg_name (i := 5) nd rfl (Or.inl rfl))) (fun _ _ _ _ _ => (pts_one (PW.pt (pw_or (pt_not (pt_val (pe_callB (r := rIsi K) call_isi (by rfl) T.n_isinstance (by decide +kernel) (pa_cons (pv 5) (pa_cons (pe_bltn (v := .ty "int") (by rfl) T.n_int (by decide +kernel) rfl) pa_nil))))) (pw_or1 (pt_val (pe_callB (r := rIsi K) call_isi (by rfl) T.n_isinstance (by decide +kernel) (pa_cons (pv 5) (pa_cons (pe_bltn (v := .ty "bool") (by rfl) T.n_bool (by decide +kernel) rfl) pa_nil))))))))) (fun _ _ _ _ _ => (pv 5))) (pe_lst pa_nil) (nomark _)) (pss_one (ps_ret pe_bl)) pss_nil)
        (pss_one (ps_ret (pe_cmpR (op_eqD hr.units) (pe_op op_cat (pe_lst (pa_cons (pe_meth0 (pv 0) T.c_Disk T.m_Disk_tape (ok_Disk_tape T) (hr.mono (by decide)) T.b_Disk_tape .nil pass0) (pa_cons (pe_meth0 (pv 0) T.c_Disk T.m_Disk_shelf (ok_Disk_shelf T) (hr.mono (by decide)) T.b_Disk_shelf .nil pass0) pa_nil))) (pv 4)) (pe_lst (pa_cons (pe_dget hu (pv 1) pe_str (fun _ _ => rfl)) (pa_cons (pe_dget hu (pv 1) pe_str (fun _ _ => rfl)) (pa_cons (pe_dget hu (pv 1) pe_str (fun _ _ => rfl)) (pa_cons (pe_dget hu (pv 1) pe_str (fun _ _ => rfl)) pa_nil))))) (nomark _)))))))), ?_⟩
    have hf0 := T.c_Disk
    have hf1 := T.a_Disk_fuse
    have hf2 := T.a_Disk_frames
    have hf3 := T.a_Disk_tape
    have hf4 := T.a_Disk_safe
    have hf5 := T.a_Disk_shelf
    have hf6 := T.a_Disk_writes
    try dsimp only [L2.cxOf, L2.Cx.nox, L2.Cx.wish]
    rw [show L2.start ["disk", "model", "page", "ids", "numbers", "number"] [V.ref p, V.ref m] = [some (V.ref p), some (V.ref m), none, none, none, none] from rfl]
    walk_at "go"
    refine ⟨by decide, by decide, ?_⟩
    refine for_range (n := 32) (fun i σ H' => (∃ v, σ = [some (V.ref p), some (V.ref m), v, none, none, none]) ∧ Stay [] H H') ⟨⟨none, rfl⟩, Stay.refl _ _⟩ ?_ ?_
    · rintro i _ H1 hi ⟨⟨v, rfl⟩, st⟩
      have hD1 := hD.stay st nm0 nm0
      have hM1 := hM.stay st nm0 nm0
      obtain ⟨⟨dx, h1⟩, h2, fk⟩ := id hD1
      obtain ⟨h3, h4, nme, _⟩ := id hM1
      walk_at "go"
      refine c_frame hD1 (fun _ => ?_) (fun z => absurd ⟨by omega, by omega⟩ z)
      walk_at "go"
      refine x_rNe ?_ ?_
      · exact ho.scal _
      walk_at "go"
      refine x_decN (fun h => absurd rfl h) (fun _ => ?_)
      exact ⟨⟨_, rfl⟩, st⟩
    · rintro _ H1 ⟨⟨v, rfl⟩, st⟩
      have hD1 := hD.stay st nm0 nm0
      have hM1 := hM.stay st nm0 nm0
      obtain ⟨⟨dx, h1⟩, h2, fk⟩ := id hD1
      obtain ⟨h3, h4, nme, _⟩ := id hM1
      obtain ⟨ks, hks⟩ := ho.ks
      have hk64 : ks.length < 64 := by
        have e := congrArg List.length hks
        simp only [List.length_map] at e
        have := ho.ln
        omega
      walk_at "go"
      refine c_ids hD1 ⟨hks, hk64⟩ (fun ys q H2 pm pw nq eq2 st2 => ?_)
      have st3 := st.trans st2
      have hD2 := hD1.stay st2 nm0 nm0
      have hM2 := hM1.stay st2 nm0 nm0
      clear h1 h2 h3 h4 hD1 hM1 st2
      obtain ⟨⟨dx, h1⟩, h2, fk⟩ := id hD2
      obtain ⟨h3, h4, nme, _⟩ := id hM2
      walk_at "go"
      refine' x_sortDI ?h hks hk64 (fun zs pm2 pw2 => ?_)
      case h => walk_at "hp"
      walk_at "nw"
      walk_at "go"
      refine x_tupleOfL (by walk_at "sq") ?_
      walk_at "nw"
      walk_at "go"
      obtain rfl : ys = zs := sorted_one pm pw pm2 pw2
      refine x_neD2 (.tup (by walk_at "sqt") (dpInts ys)) (.tup (by walk_at "sqt") (dpInts ys)) (shapedInts ys) (shapedInts ys) (eqvSelf (shapedInts ys)) ?_
      walk_at "go"
      walk_at "nw"
      refine lc_list (xs := [V.int S.s, V.int S.w]) (fun i H' => H' = _) rfl ?_ ?_ ?_
      · intro i H' _ e
        subst e
        walk_at "sq"
      · intro i x H' e e'
        subst e'
        have : ∃ z, x = V.int z := by
          rcases i with _ | _ | i
          · exact ⟨_, (Option.some.inj e).symm⟩
          · exact ⟨_, (Option.some.inj e).symm⟩
          · cases e
        obtain ⟨z, rfl⟩ := this
        dsimp only [wipe, List.map]
        walk_at "go"
        rfl
      intro H' e'
      subst e'
      walk_at "go"
      refine' x_neD2 (d := .list []) (e := .list []) (.lst ?h .nil) (.lst ?h2 .nil) (by decide) (by decide) rfl ?_
      case h => walk_at "sq"
      case h2 => walk_at "sq"
      walk_at "go"
      refine' c_tape (d := d) (S := S) ?h ?_
      case h => ((repeat refine' DiskAt.ne ?_ (by walk_at "ne") (by walk_at "ne")); exact hD2)
      walk_at "go"
      refine' c_shelf (d := d) (S := S) ?h ?_
      case h => ((repeat refine' DiskAt.ne ?_ (by walk_at "ne") (by walk_at "ne")); exact hD2)
      walk_at "go"
      have sh := ho.shaped
      refine' x_eqD2 (.lst ?h (.cons (.str _) (.cons (.str _) (.cons (.int _) (.cons (.int _) .nil))))) (.lst ?h2 (.cons (.str _) (.cons (.str _) (.cons (.int _) (.cons (.int _) .nil))))) sh sh (eqvSelf sh) ?_
      case h => exact SqL.of (by walk_at "hpd")
      case h2 => walk_at "sq"
      exact k _ (by walk_at "fr")
end
end WD

namespace WD
open PySem PySem.Spec PyProof.Rows L2
-- p ≠ q of two addresses
local macro_rules | `(tactic| walk_at "ne") => `(tactic| first
  | with_reducible assumption
  | with_reducible exact Ne.symm (by assumption)
  | exact ne_some (by with_reducible assumption) (by with_reducible assumption)
  | exact Ne.symm (ne_some (by with_reducible assumption) (by with_reducible assumption)))
local macro_rules | `(tactic| walk_at "nm") => `(tactic| first | with_reducible assumption | with_reducible exact nm0 | ((with_reducible refine' nmS ?a ?b); (case a => walk_at "ne"); (case b => walk_at "nm")))
-- H p = some ?o
local macro_rules | `(tactic| walk_at "hp") => `(tactic| first
  | with_reducible exact upd_same
  | with_reducible assumption
  | ((with_reducible refine' Eq.trans (upd_ne ?a) ?b); (case a => walk_at "ne"); (case b => walk_at "hp"))
  | exact Stay.keep (by with_reducible assumption) _ _ (by walk_at "hp") (by walk_at "nm"))
local macro_rules | `(tactic| walk_at "hpd") => `(tactic| ((refine' Eq.trans ?h ?e); (case h => walk_at "hp"); (case e => exact rfl)))
-- a new address
local macro_rules | `(tactic| walk_at "nw") => `(tactic| ((repeat first | (with_reducible refine' nw_upd ?_) | refine' nw_fr (by with_reducible assumption) ?_); intro p_; intros))
local macro_rules | `(tactic| walk_at "mem") => `(tactic| first | exact List.mem_cons_self | (refine' List.mem_cons_of_mem _ ?_; walk_at "mem"))
-- what stands stays
local macro_rules | `(tactic| walk_at "fr") => `(tactic| first
  | with_reducible assumption
  | exact Stay.refl _ _
  | ((with_reducible refine' Stay.upd ?a ?b); (case a => walk_at "fr"); (case b => walk_at "mem"))
  | ((with_reducible refine' Stay.new ?a ?b); (case b => with_reducible assumption); (case a => walk_at "fr"))
  | (refine' Stay.trans ?_ (by with_reducible assumption); walk_at "fr"))
local macro_rules | `(tactic| walk_at "sq") => `(tactic| first | with_reducible assumption | exact SqL.of (by walk_at "hp"))
local macro_rules | `(tactic| walk_at "sqt") => `(tactic| first | with_reducible assumption | exact SqT.of (by walk_at "hp"))
-- side goals
local macro_rules | `(tactic| walk_at "sd") => `(tactic| first
  | with_reducible assumption | with_reducible rfl | (show _ ≤ sizeLine; decide) | (refine Nat.le_trans (Nat.le_of_ble_eq_true (m := 1000) rfl) (by decide)) | decide | omega
  | exact IntMulOk.of_right (intBits_le_64 (by omega) (by omega)) | exact IntMulOk.of_left (intBits_le_64 (by omega) (by omega))
  | (refine' Or.inl ⟨?_, ?_⟩ <;> omega) | (refine' Or.inr ⟨?_, ?_⟩ <;> omega)
  | (refine' ⟨?_, ?_⟩ <;> walk_at "sd") | (refine' ⟨?_, ?_, ?_⟩ <;> walk_at "sd"))
local macro_rules | `(tactic| walk_at "set") => `(tactic| first | with_reducible exact set0 | with_reducible exact set1 | with_reducible exact set2 | with_reducible exact set3 | with_reducible exact set4 | with_reducible exact set5 | with_reducible exact set6 | with_reducible exact set7 | with_reducible exact set8 | with_reducible exact set9 | with_reducible exact set10 | with_reducible exact set11 | with_reducible exact set12 | with_reducible exact set13 | with_reducible exact set14 | with_reducible exact set15 | with_reducible exact set16 | with_reducible exact set17 | with_reducible exact set18 | with_reducible exact set19 | with_reducible exact set20)
-- one step
local macro_rules | `(tactic| walk_at "st0") => `(tactic| first
  | with_reducible refine' x_seq ?_
  | with_reducible refine' x_next ?_
  | with_reducible refine' x_ifS ?_
  | with_reducible refine' x_asg ?_
  | with_reducible refine' x_ret ?_
  | with_reducible refine' x_retN ?_
  | with_reducible refine' x_drop ?_
  | with_reducible refine' x_brk ?_
  | with_reducible refine' x_cont ?_
  | ((with_reducible refine' x_gName ?e ?_); (case e => walk_at "set"))
  | with_reducible refine' x_gSub ?_
  | with_reducible refine' x_gCons ?_
  | with_reducible refine' x_gNil ?_
  | with_reducible refine' x_c ?_
  | ((with_reducible refine' x_var ?e ?_); (case e => exact rfl))
  | with_reducible refine' x_op ?_
  | with_reducible refine' x_un ?_
  | with_reducible refine' x_if ?_
  | with_reducible refine' x_cb ?_
  | with_reducible refine' x_cons ?_
  | with_reducible refine' x_nil ?_
  | with_reducible refine' x_bm0 ?_
  | with_reducible refine' x_bm ?_
  | with_reducible refine' x_tup ?_
  | with_reducible refine' x_lst ?_
  | ((with_reducible refine' And.intro (a := _ ≤ sizeLine) ?e ?_); (case e => walk_at "sd"); walk_at "nw")
  | with_reducible refine' x_fld ?_
  | with_reducible refine' x_test ?_
  | with_reducible refine' x_tB ?_
  | with_reducible refine' x_and ?_
  | with_reducible refine' x_or ?_
  | with_reducible refine' x_not ?_
  | with_reducible refine' x_notV ?_
  | with_reducible refine' x_andV ?_
  | with_reducible refine' x_orV ?_
  | with_reducible refine' x_rI0 ?_
  | ((with_reducible refine' x_rI ?e ?_); (case e => walk_at "sd"))
  | with_reducible refine' x_rU ?_
  | ((with_reducible refine' x_rEq ?e ?_); (case e => exact rfl))
  | ((with_reducible refine' x_rNe ?e ?_); (case e => exact rfl))
  | ((with_reducible refine' x_ixL0 ?h ?_); (case h => walk_at "sq"))
  | ((with_reducible refine' x_ixL1 ?h ?_); (case h => walk_at "sq"))
  | ((with_reducible refine' x_ixL2 ?h ?_); (case h => walk_at "sq"))
  | ((with_reducible refine' x_ixL0I ?h ?_); (case h => walk_at "sq"))
  | ((with_reducible refine' x_ixL ?h ?e ?_); (case h => walk_at "sq"); (case e => exact rfl))
  | ((with_reducible refine' x_neNil ?h ?h2 ?_); (case h => walk_at "sq"); (case h2 => walk_at "sq"))
  | ((with_reducible refine' x_pop0I ?h ?_); (case h => walk_at "hp"))
  | ((with_reducible refine' x_pop0 ?h ?_); (case h => walk_at "hp"))
  | ((with_reducible refine' x_setL0 ?h ?_); (case h => walk_at "hp"))
  | ((with_reducible refine' x_setL1 ?h ?_); (case h => walk_at "hp"))
  | ((with_reducible refine' x_setL2 ?h ?_); (case h => walk_at "hp"))
  | ((with_reducible refine' x_setL ?h ?e ?_); (case h => walk_at "hp"); (case e => exact rfl))
  | with_reducible refine' .inl ⟨_, rfl, ?_⟩
  | ((with_reducible refine' x_tyL ?h ?_); (case h => walk_at "sq"))
  | with_reducible refine' ⟨_, rfl, ?_⟩)
-- a split
local macro_rules | `(tactic| walk_at "if") => `(tactic| (
  first
  | (with_reducible refine' x_dec (fun h_ => ?_) (fun h_ => ?_))
  | (with_reducible refine' x_decN (fun h_ => ?_) (fun h_ => ?_))
  | (with_reducible refine' x_boolN (fun h_ => ?_) (fun h_ => ?_))
  | (with_reducible refine' x_bool (fun h_ => ?_) (fun h_ => ?_))))
local macro_rules | `(tactic| walk_at "ifs") => `(tactic| (walk_at "if" <;> first
  | (exfalso; first | omega | contradiction)
  | (rename_i h_; (try simp only [BEq.rfl, List.length_map, List.length_cons, List.length_nil, Int.natCast_zero, Int.ofNat_zero, gt_iff_lt, Int.lt_irrefl, Bool.true_eq_false, Bool.false_eq_true, List.isEmpty_nil, List.isEmpty_cons, V.int.injEq, V.str.injEq, V.bl.injEq, reduceCtorEq, not_false_eq_true, not_true_eq_false] at h_); (try (exfalso; omega)))))
local macro_rules | `(tactic| walk_at "ite1") => `(tactic| first
  | with_reducible refine' x_T ?_
  | with_reducible refine' x_F ?_
  | with_reducible refine' x_nT ?_
  | with_reducible refine' x_nF ?_
  | ((with_reducible refine' x_bT ?e ?_); (case e => first | decide | decide +kernel))
  | ((with_reducible refine' x_bF ?e ?_); (case e => first | decide | decide +kernel)))
local macro_rules | `(tactic| walk_at "st") => `(tactic| ((fail_if_success (with_reducible (show (if _ then _ else _)))); walk_at "st0"))
local macro_rules | `(tactic| walk_at "go") => `(tactic| repeat first | walk_at "ite1" | walk_at "st")
local macro_rules | `(tactic| walk_at "gs") => `(tactic| repeat' first | walk_at "ite1" | walk_at "st" | walk_at "ifs")
local macro_rules | `(tactic| walk_at "sz") => `(tactic| first | with_reducible assumption | (refine Nat.le_trans (by assumption) (by decide : 100000 ≤ sizeLine)) | (refine Nat.le_trans (m := 100000) ?_ (by decide); (try simp only [len_add, rep_len]); (try rw [show (Str.ofString "z").length = 1 from rfl]); omega))
local macro_rules | `(tactic| walk_at "hn") => `(tactic| first | with_reducible assumption)
local macro_rules | `(tactic| walk_at "sqo") => `(tactic| first | exact Or.inl (by walk_at "sq") | exact Or.inr (by walk_at "sqt"))
local macro_rules | `(tactic| walk_at "ty1") => `(tactic| first | with_reducible assumption | exact Ty1.int _ | exact Ty1.str _ | exact Ty1.bl _ | exact Ty1.non | exact Ty1.tup (by walk_at "hp") | exact Ty1.lst (by walk_at "hp"))
local macro_rules | `(tactic| walk_at "st2") => `(tactic| first
  | with_reducible refine' And.intro (a := V.non = V.non) rfl ?_
  | with_reducible refine' x_call0 ?_
  | with_reducible refine' x_callS ?_
  | with_reducible refine' x_meth0 ?_
  | with_reducible refine' x_methW0 ?_
  | with_reducible refine' x_make0 ?_
  | with_reducible refine' x_makeW0 ?_
  | with_reducible refine' x_sFld ?_
  | with_reducible refine' x_mkO ?_
  | with_reducible refine' x_chain ?_
  | with_reducible refine' x_dget ?_
  | with_reducible refine' x_dget1 ?_
  | with_reducible refine' x_dget2 ?_
  | with_reducible refine' x_sDPut ?_
  | with_reducible refine' x_pairs ?_
  | with_reducible refine' x_pairs0 ?_
  | with_reducible refine' x_sl ?_
  | with_reducible refine' x_noPart ?_
  | with_reducible refine' x_part ?_
  | ((with_reducible refine' x_disp ?_); walk_at "nw")
  | ((with_reducible refine' x_dnew ?_); walk_at "nw")
  | ((with_reducible refine' x_rz ?h ?_); (case h => walk_at "cf"); walk_at "nw")
  | ((with_reducible refine' x_isi ?h ?e ?_); (case h => walk_at "ty1"); (case e => decide))
  | ((with_reducible refine' x_fldR ?h ?c ?n ?e ?_); (case h => walk_at "hp"); (case c => walk_at "cf"); (case n => walk_at "cf"); (case e => walk_at "fl"))
  | ((with_reducible refine' x_onIns ?h ?n ?_); (case h => walk_at "hp"); (case n => walk_at "fl"))
  | ((with_reducible refine' x_addS ?l ?_); (case l => walk_at "sz"))
  | ((with_reducible refine' x_lenS ?l ?_); (case l => walk_at "sz"))
  | ((with_reducible refine' x_lenL ?h ?_); (case h => walk_at "sqo"))
  | ((with_reducible refine' x_slL ?h rfl ?_); (case h => walk_at "sq"); walk_at "nw")
  | ((with_reducible refine' x_listOf ?h ?_); (case h => walk_at "sqo"); walk_at "nw")
  | ((with_reducible refine' x_strmul ?c ?_); (case c => (refine' ⟨?_, ?_, ?_⟩ <;> first | omega | decide +kernel)))
  | ((with_reducible refine' x_isD2 ?h ?_); (case h => walk_at "hp"))
  | ((with_reducible refine' x_getI ?h ?_); (case h => walk_at "hp"))
  | ((with_reducible refine' x_getS ?h ?_); (case h => walk_at "hp"))
  | ((with_reducible refine' x_dgetS ?h ?e ?_); (case h => walk_at "hp"); (case e => walk_at "fl"))
  | ((with_reducible refine' x_ixT ?h ?e ?_); (case h => walk_at "sqt"); (case e => exact rfl))
  | ((with_reducible refine' x_gTup ?h ?e ?_); (case h => walk_at "sqt"); (case e => exact rfl)))
local macro_rules | `(tactic| walk_at "st0") => `(tactic| walk_at "st2")
local macro_rules | `(tactic| walk_at "fl") => `(tactic| first
  | with_reducible exact lk_hd
  | ((with_reducible refine' lk_tl ?n ?h); (case n => walk_at "nq"); (case h => walk_at "fl"))
  | with_reducible exact lk_nil
  | with_reducible exact pf_hd
  | ((with_reducible refine' pf_tl ?n ?h); (case n => walk_at "nq"); (case h => walk_at "fl"))
  | with_reducible exact pf_nil
  | with_reducible exact vl_hd
  | ((with_reducible refine' vl_tl ?n ?h); (case n => walk_at "nr"); (case h => walk_at "fl"))
  | with_reducible exact vl_nil
  | ((with_reducible refine' pk_hd ?n); (case n => rfl))
  | ((with_reducible refine' pk_tl ?n ?t ?h); (case n => walk_at "nr"); (case t => rfl); (case h => walk_at "fl")))
local macro_rules | `(tactic| walk_at "cf") => `(tactic| with_reducible assumption)
local macro_rules | `(tactic| walk_at "st0") => `(tactic| first
  | ((with_reducible refine' x_sFldR ?h ?c ?n ?l ?e ?_); (case h => walk_at "hp"); (case c => walk_at "cf"); (case n => walk_at "cf"); (case l => exact Nat.le_of_ble_eq_true rfl); (case e => walk_at "fl")))
local macro_rules | `(tactic| walk_at "pool") => `(tactic| first
  | with_reducible assumption
  | exact Pool.ne (by walk_at "pool") (by walk_at "ne") (by walk_at "ne")
  | exact Pool.stay (by walk_at "pool") (by with_reducible assumption) (by walk_at "nm") (by walk_at "nm"))
local macro_rules | `(tactic| walk_at "szl") => `(tactic| first | exact Nat.lt_of_le_of_lt (Nat.le_of_ble_eq_true (m := 1000) rfl) (by decide) | exact Nat.lt_of_le_of_lt (by with_reducible assumption) (by decide : 1000 < sizeLine))
local macro_rules | `(tactic| walk_at "st0") => `(tactic| first
  | ((with_reducible refine' x_putS ?h ?l ?e ?_); (case h => walk_at "hp"); (case l => walk_at "szl"); (case e => walk_at "fl"))
  | ((with_reducible refine' x_setD ?h ?l ?e ?_); (case h => walk_at "hp"); (case l => walk_at "szl"); (case e => walk_at "fl"))
  | ((with_reducible refine' x_putI ?h ?l ?_); (case h => walk_at "hp"); (case l => walk_at "szl")))
local macro_rules | `(tactic| walk_at "st0") => `(tactic| first
  | ((with_reducible refine' x_rowN ?e ?_); (case e => walk_at "cf"); walk_at "nw"; (try dsimp only [List.set]))
  | ((with_reducible refine' x_rowF ?e ?_); (case e => walk_at "cf"))
  | with_reducible refine' x_xw ?_
  | ((with_reducible refine' x_xwR ?t ?h ?_); (case t => walk_at "cf"); (case h => walk_at "hp")))
local macro_rules | `(tactic| walk_at "st0") => `(tactic| first
  | ((with_reducible refine' x_isXR ?k ?x ?h ?e ?_); (case k => exact ClsV.own _); (case x => exact ExT.xc (by with_reducible assumption)); (case h => walk_at "hp"); (case e => walk_at "cf")))
local macro_rules | `(tactic| walk_at "st0") => `(tactic| first
  | with_reducible refine' x_for ?_
  | with_reducible refine' x_rng1 ?_
  | with_reducible refine' x_rng2 ?_
  | with_reducible refine' x_iList ?_
  | with_reducible refine' x_iTup ?_
  | with_reducible refine' x_par ?_
  | with_reducible refine' x_yes ?_
  | with_reducible refine' x_lc ?_
  | ((with_reducible refine' x_itL ?h ?_); (case h => walk_at "sq"))
  | ((with_reducible refine' x_itT ?h ?_); (case h => walk_at "sqt"))
  | ((with_reducible refine' x_catL ?h ?h2 ?l ?_); (case h => walk_at "hp"); (case h2 => walk_at "hp"); (case l => walk_at "sd"); walk_at "nw")
  | ((with_reducible refine' And.intro (a := List.set _ _ none = _) ?e ?_); (case e => exact rfl))
  | ((with_reducible refine' x_gNameS ?e1 ?e ?_); (case e1 => walk_at "set"); (case e => walk_at "set")))
local macro_rules | `(tactic| walk_at "nq") => `(tactic| first | with_reducible exact q_fuse__frames | with_reducible exact q_fuse__tape | with_reducible exact q_fuse__safe | with_reducible exact q_fuse__shelf | with_reducible exact q_fuse__writes | with_reducible exact q_frames__fuse | with_reducible exact q_frames__tape | with_reducible exact q_frames__safe | with_reducible exact q_frames__shelf | with_reducible exact q_frames__writes | with_reducible exact q_tape__fuse | with_reducible exact q_tape__frames | with_reducible exact q_tape__safe | with_reducible exact q_tape__shelf | with_reducible exact q_tape__writes | with_reducible exact q_safe__fuse | with_reducible exact q_safe__frames | with_reducible exact q_safe__tape | with_reducible exact q_safe__shelf | with_reducible exact q_safe__writes | with_reducible exact q_shelf__fuse | with_reducible exact q_shelf__frames | with_reducible exact q_shelf__tape | with_reducible exact q_shelf__safe | with_reducible exact q_shelf__writes | with_reducible exact q_writes__fuse | with_reducible exact q_writes__frames | with_reducible exact q_writes__tape | with_reducible exact q_writes__safe | with_reducible exact q_writes__shelf | decide +kernel)
local macro_rules | `(tactic| walk_at "nr") => `(tactic| first | with_reducible exact rfuse_frames | with_reducible exact rfuse_tape | with_reducible exact rfuse_safe | with_reducible exact rfuse_shelf | with_reducible exact rfuse_writes | with_reducible exact rframes_fuse | with_reducible exact rframes_tape | with_reducible exact rframes_safe | with_reducible exact rframes_shelf | with_reducible exact rframes_writes | with_reducible exact rtape_fuse | with_reducible exact rtape_frames | with_reducible exact rtape_safe | with_reducible exact rtape_shelf | with_reducible exact rtape_writes | with_reducible exact rsafe_fuse | with_reducible exact rsafe_frames | with_reducible exact rsafe_tape | with_reducible exact rsafe_shelf | with_reducible exact rsafe_writes | with_reducible exact rshelf_fuse | with_reducible exact rshelf_frames | with_reducible exact rshelf_tape | with_reducible exact rshelf_safe | with_reducible exact rshelf_writes | with_reducible exact rwrites_fuse | with_reducible exact rwrites_frames | with_reducible exact rwrites_tape | with_reducible exact rwrites_safe | with_reducible exact rwrites_shelf | decide +kernel)
local macro_rules | `(tactic| walk_at "st0") => `(tactic| ((with_reducible refine' c_is_number ?h ?_); (case h => walk_at "ty1")))
local macro_rules | `(tactic| walk_at "st0") => `(tactic| ((with_reducible refine' c_is_within ?h ?_); (case h => walk_at "ty1")))
local macro_rules | `(tactic| walk_at "st0") => `(tactic| ((with_reducible refine' c_is_page ?h ?_); (case h => walk_at "ty1")))
local macro_rules | `(tactic| walk_at "st0") => `(tactic| (with_reducible refine' c_check (fun hz_ => ?_) (fun hz_ => ?_)))
local macro_rules | `(tactic| walk_at "st0") => `(tactic| ((with_reducible refine' c_tape ?h ?_); (case h => with_reducible assumption)))
local macro_rules | `(tactic| walk_at "st0") => `(tactic| ((with_reducible refine' c_safe ?h ?_); (case h => with_reducible assumption)))
local macro_rules | `(tactic| walk_at "st0") => `(tactic| ((with_reducible refine' c_shelf ?h ?_); (case h => with_reducible assumption)))
local macro_rules | `(tactic| walk_at "st0") => `(tactic| ((with_reducible refine' c_writes ?h ?_); (case h => with_reducible assumption)))
local macro_rules | `(tactic| walk_at "st0") => `(tactic| ((with_reducible refine' c_draw ?h ?m (fun d_ H_ lo_ hi_ pl_ st_ => ?_)); (case h => walk_at "pool"); (case m => first | with_reducible assumption | (refine' ⟨?_, ?_⟩ <;> first | decide | omega))))
local macro_rules | `(tactic| walk_at "st0") => `(tactic| ((with_reducible refine' c_text ?h (fun t_ H_ ok_ pl_ st_ => ?_)); (case h => walk_at "pool")))
local macro_rules | `(tactic| walk_at "st0") => `(tactic| ((with_reducible refine' c_call ?h (fun w_ n_ t_ q_ H_ hw_ ok_ nq_ eq_ pl_ st_ => ?_)); (case h => walk_at "pool")))
local macro_rules | `(tactic| walk_at "st0") => `(tactic| ((with_reducible refine' c_model ?h (fun m_ e_ H_ nm_ ne_ at_ st_ => ?_)); (case h => with_reducible assumption)))
section
variable {P : Program} {w : World} {K : PySem.W.Frag} {mg : Str → Option Value} {base : Heap}
def sp_law (K : PySem.W.Frag) : Sp := fun vs H Q _ => ∃ (a : Addr) (ns : List Int), vs = [.ref a] ∧ SqL K H a (ns.map V.int) ∧ ∀ H', Q (.bl true) H'
def f3 {α : Type} (x0 x1 x2 : α) : Fin 3 → α := fun i => match i with | 0 => x0 | 1 => x1 | 2 => x2
theorem f3_inj {α : Type} {x0 x1 x2 : α} (h01 : x0 ≠ x1) (h02 : x0 ≠ x2) (h12 : x1 ≠ x2) : ∀ i j, i ≠ j → f3 x0 x1 x2 i ≠ f3 x0 x1 x2 j := by
  intro i j n
  match i, j with
  | 0, 0 => exact absurd rfl n
  | 0, 1 => exact h01
  | 0, 2 => exact h02
  | 1, 0 => exact h01.symm
  | 1, 1 => exact absurd rfl n
  | 1, 2 => exact h12
  | 2, 0 => exact h02.symm
  | 2, 1 => exact h12.symm
  | 2, 2 => exact absurd rfl n
theorem f3_all {α : Type} {P : Fin 3 → α → Prop} {x0 x1 x2 : α} (h0 : P 0 x0) (h1 : P 1 x1) (h2 : P 2 x2) : ∀ i, P i (f3 x0 x1 x2 i) := by
  intro i
  match i with
  | 0 => exact h0
  | 1 => exact h1
  | 2 => exact h2
theorem f3_mem {α : Type} {x0 x1 x2 : α} (i : Fin 3) : f3 x0 x1 x2 i ∈ [x0, x1, x2] := by
  match i with
  | 0 => simp [f3]
  | 1 => simp [f3]
  | 2 => simp [f3]
theorem f3_ne {α : Type} {x0 x1 x2 y0 y1 y2 : α} (h : ∀ a ∈ [x0, x1, x2], ∀ b ∈ [y0, y1, y2], a ≠ b) : ∀ i j, f3 x0 x1 x2 i ≠ f3 y0 y1 y2 j := fun i j => h _ (f3_mem i) _ (f3_mem j)
def setF {α : Type} (f : Fin 3 → α) (i : Fin 3) (v : α) : Fin 3 → α := fun j => if j = i then v else f j
theorem setF_self {α : Type} {f : Fin 3 → α} {i : Fin 3} {v : α} : setF f i v i = v := if_pos rfl
theorem setF_ne {α : Type} {f : Fin 3 → α} {i j : Fin 3} {v : α} (h : j ≠ i) : setF f i v j = f j := if_neg h
/-- the addresses of L are unlike one another and taken -/
structure Al (H : Hp) (L : List Addr) : Prop where
  nd : L.Nodup
  al : ∀ b ∈ L, ∃ o, H b = some o
theorem Al.stay {H H' : Hp} {L : List Addr} (h : Al H L) (s : Stay [] H H') : Al H' L := ⟨h.nd, fun b hb => by
  obtain ⟨o, e⟩ := h.al b hb
  exact ⟨o, s.keep _ _ e nm0⟩⟩
theorem Al.new {H H' : Hp} {L : List Addr} {x : Addr} (h : Al H L) (n : H x = none) (s : Stay [] H H') (e : ∃ o, H' x = some o) : Al H' (x :: L) := ⟨List.nodup_cons.mpr ⟨fun hx => by
  obtain ⟨o, e⟩ := h.al x hx
  exact absurd (n.symm.trans e) (by intro z; cases z), h.nd⟩, fun b hb => by
  rcases List.mem_cons.mp hb with rfl | hb
  · exact e
  · exact (h.stay s).al b hb⟩
theorem Al.new2 {H H' : Hp} {L : List Addr} {x y : Addr} (h : Al H L) (n : H x = none) (n2 : H y = none) (xy : x ≠ y) (s : Stay [] H H') (e : ∃ o, H' x = some o) (e2 : ∃ o, H' y = some o) : Al H' (x :: y :: L) := by
  have h1 := h.new n2 s e2
  refine ⟨List.nodup_cons.mpr ⟨fun hx => ?_, h1.nd⟩, fun b hb => ?_⟩
  · rcases List.mem_cons.mp hx with z | hx
    · exact xy z
    · obtain ⟨o, e⟩ := h.al x hx
      rw [n] at e; cases e
  · rcases List.mem_cons.mp hb with rfl | hb
    · exact e
    · exact h1.al b hb
structure Wd (C : Addr) (a l dl ml : Addr) (p d m e : Fin 3 → Addr) (H : Hp) (S M : Fin 3 → DS) : Prop where
  pool : Pool H a l
  hdl : H dl = some (.lst [.ref (p 0), .ref (p 1), .ref (p 2)])
  hml : H ml = some (.lst [.ref (m 0), .ref (m 1), .ref (m 2)])
  dk : ∀ i, DiskAt C H (p i) (d i) (S i)
  md : ∀ i, ModelAt H (m i) (e i) (M i)
  nl : a ≠ dl ∧ a ≠ ml ∧ l ≠ dl ∧ l ≠ ml
  np : ∀ i j, i ≠ j → p i ≠ p j
  nd : ∀ i j, i ≠ j → d i ≠ d j
  nm : ∀ i j, i ≠ j → m i ≠ m j
  ne : ∀ i j, i ≠ j → e i ≠ e j
  ndm : ∀ i j, d i ≠ m j
  nde : ∀ i j, d i ≠ e j
  nme : ∀ i j, m i ≠ e j
section
variable {C a l dl ml : Addr} {p d m e : Fin 3 → Addr} {H H' : Hp} {S M : Fin 3 → DS}
theorem DiskAt.hp {C : Addr} {H : Hp} {p d : Addr} {S : DS} (h : DiskAt C H p d S) : ∃ dx fs, H p = some (.ins C dx fs) := by
  obtain ⟨⟨dx, a⟩, _⟩ := h
  exact ⟨dx, _, a⟩
theorem Wd.keep (h : Wd C a l dl ml p d m e H S M) (s : Stay [] H H') : Wd C a l dl ml p d m e H' S M :=
  ⟨h.pool.stay s nm0 nm0, s.keep _ _ h.hdl nm0, s.keep _ _ h.hml nm0, fun i => (h.dk i).stay s nm0 nm0, fun i => (h.md i).stay s nm0 nm0, h.nl, h.np, h.nd, h.nm, h.ne, h.ndm, h.nde, h.nme⟩
theorem Wd.draw (h : Wd C a l dl ml p d m e H S M) (s : Stay [a, l] H H') (pl : Pool H' a l) : Wd C a l dl ml p d m e H' S M := by
  obtain ⟨p0, p1, ns, ea, el, _⟩ := h.pool
  have kk : ∀ {b : Addr} {o : HO}, H b = some o → (∀ xs, o ≠ .lst xs) → b ∉ [a, l] := by
    intro b o hb no
    refine nmS ?_ (nmS ?_ nm0)
    · intro z; rw [z, ea] at hb; exact no _ (Option.some.inj hb).symm
    · intro z; rw [z, el] at hb; exact no _ (Option.some.inj hb).symm
  refine ⟨pl, s.keep _ _ h.hdl (nmS h.nl.1.symm (nmS h.nl.2.2.1.symm nm0)), s.keep _ _ h.hml (nmS h.nl.2.1.symm (nmS h.nl.2.2.2.symm nm0)), fun i => ?_, fun i => ?_, h.nl, h.np, h.nd, h.nm, h.ne, h.ndm, h.nde, h.nme⟩
  · obtain ⟨⟨dx, h1⟩, h2, _⟩ := id (h.dk i)
    exact (h.dk i).stay s (kk h1 (by intro _ z; cases z)) (kk h2 (by intro _ z; cases z))
  · obtain ⟨h1, h2, _⟩ := id (h.md i)
    exact (h.md i).stay s (kk h1 (by intro _ z; cases z)) (kk h2 (by intro _ z; cases z))
theorem Wd.model {i : Fin 3} {M' : DS} (h : Wd C a l dl ml p d m e H S M) (s : Stay [m i, e i] H H') (at_ : ModelAt H' (m i) (e i) M') : Wd C a l dl ml p d m e H' S (setF M i M') := by
  obtain ⟨m1, m2, _⟩ := id (h.md i)
  have kk : ∀ {b : Addr} {o : HO}, H b = some o → (∀ xs, o ≠ .dK xs) → b ∉ [m i, e i] := by
    intro b o hb no
    refine nmS ?_ (nmS ?_ nm0)
    · intro z; rw [z, m1] at hb; exact no _ (Option.some.inj hb).symm
    · intro z; rw [z, m2] at hb; exact no _ (Option.some.inj hb).symm
  obtain ⟨p0, p1, ns, ea, el, _⟩ := id h.pool
  refine ⟨h.pool.stay s (kk ea (by intro _ z; cases z)) (kk el (by intro _ z; cases z)), s.keep _ _ h.hdl (kk h.hdl (by intro _ z; cases z)), s.keep _ _ h.hml (kk h.hml (by intro _ z; cases z)), fun j => ?_, fun j => ?_, h.nl, h.np, h.nd, h.nm, h.ne, h.ndm, h.nde, h.nme⟩
  · obtain ⟨⟨dx, h1⟩, h2, _⟩ := id (h.dk j)
    exact (h.dk j).stay s (kk h1 (by intro _ z; cases z)) (nmS (h.ndm j i) (nmS (h.nde j i) nm0))
  · by_cases z : j = i
    · subst z; rw [setF_self]; exact at_
    · rw [setF_ne z]
      exact (h.md j).stay s (nmS (h.nm _ _ z) (nmS (h.nme j i) nm0)) (nmS (h.nme i j).symm (nmS (h.ne _ _ z) nm0))
theorem Wd.disk {i : Fin 3} {S' : DS} (h : Wd C a l dl ml p d m e H S M) (s : Stay [p i, d i] H H') (at_ : DiskAt C H' (p i) (d i) S') : Wd C a l dl ml p d m e H' (setF S i S') M := by
  obtain ⟨⟨dx, m1⟩, m2, _⟩ := id (h.dk i)
  have kk : ∀ {b : Addr} {o : HO}, H b = some o → (∀ xs, o ≠ .dK xs) → (∀ C dx fs, o ≠ .ins C dx fs) → b ∉ [p i, d i] := by
    intro b o hb no no2
    refine nmS ?_ (nmS ?_ nm0)
    · intro z; rw [z, m1] at hb; exact no2 _ _ _ (Option.some.inj hb).symm
    · intro z; rw [z, m2] at hb; exact no _ (Option.some.inj hb).symm
  have kp : ∀ {b : Addr} {o : HO}, H b = some o → (∀ C dx fs, o ≠ .ins C dx fs) → b ≠ p i := by
    intro b o hb no2 z
    rw [z, m1] at hb; exact no2 _ _ _ (Option.some.inj hb).symm
  obtain ⟨p0, p1, ns, ea, el, _⟩ := id h.pool
  refine ⟨h.pool.stay s (kk ea (by intro _ z; cases z) (by intro _ _ _ z; cases z)) (kk el (by intro _ z; cases z) (by intro _ _ _ z; cases z)), s.keep _ _ h.hdl (kk h.hdl (by intro _ z; cases z) (by intro _ _ _ z; cases z)), s.keep _ _ h.hml (kk h.hml (by intro _ z; cases z) (by intro _ _ _ z; cases z)), fun j => ?_, fun j => ?_, h.nl, h.np, h.nd, h.nm, h.ne, h.ndm, h.nde, h.nme⟩
  · by_cases z : j = i
    · subst z; rw [setF_self]; exact at_
    · rw [setF_ne z]
      obtain ⟨⟨dx, h1⟩, h2, _⟩ := id (h.dk j)
      refine (h.dk j).stay s (nmS (h.np _ _ z) (nmS ?_ nm0)) (nmS (kp h2 (by intro _ _ _ z; cases z)) (nmS (h.nd _ _ z) nm0))
      intro z; rw [z, m2] at h1; cases h1
  · obtain ⟨h1, h2, _⟩ := id (h.md j)
    exact (h.md j).stay s (nmS (kp h1 (by intro _ _ _ z; cases z)) (nmS (h.ndm i j).symm nm0)) (nmS (kp h2 (by intro _ _ _ z; cases z)) (nmS (h.nde i j).symm nm0))
end
theorem putK_len (kvs : List (Key × V)) (k : Key) (v : V) : (putK kvs k v).length ≤ kvs.length + 1 := by
  unfold putK
  split
  · simp
  · simp
theorem putK_mem {kvs : List (Key × V)} {k : Key} {v : V} {kv : Key × V} (h : kv ∈ putK kvs k v) : kv ∈ kvs ∨ kv.2 = v := by
  unfold putK at h
  split at h
  · obtain ⟨kv', h1, h2⟩ := List.mem_map.mp h
    split at h2
    · exact .inr (by rw [← h2])
    · exact .inl (by rw [← h2]; exact h1)
  · rcases List.mem_append.mp h with h | h
    · exact .inl h
    · exact .inr (by rw [List.mem_singleton.mp h])
theorem putK_keys {kvs : List (Key × V)} {n : Int} {v : V} (h : ∃ ks : List Int, kvs.map (·.1) = ks.map Sum.inl) : ∃ ks : List Int, (putK kvs (Sum.inl n) v).map (·.1) = ks.map Sum.inl := by
  obtain ⟨ks, e⟩ := h
  unfold putK
  split
  · refine ⟨ks, ?_⟩
    rw [← e, List.map_map]
    apply List.map_congr_left
    intro kv _
    simp only [Function.comp_apply]
    split <;> rfl
  · exact ⟨ks ++ [n], by rw [List.map_append, List.map_append, e]; rfl⟩
theorem Ok.mono {S : DS} {n k : Nat} (h : Ok S n) (l : n ≤ k) : Ok S k := ⟨h.ks, Nat.le_trans h.ln l, h.sv, Nat.le_trans h.tl (by omega), h.sl, h.to, h.so⟩
theorem Ok.new {f : V} : Ok (new0 f) 0 := ⟨⟨[], rfl⟩, Nat.le_refl _, fun _ h => (nomatch h), Nat.le_refl _, (show ("" : Str).length ≤ 20 by decide +kernel), (show PyData.strOk "" = true by decide +kernel), (show PyData.strOk "" = true by decide +kernel)⟩
theorem Ok.act {S : DS} {k : Nat} {w t : Str} {n : Int} (h : Ok S k) (ht : TextOk t) : Ok (act S w n t) (k + 1) := by
  obtain ⟨t1, t2⟩ := ht
  unfold WD.act
  have h2 := h.tl
  have h3 := h.ln
  split
  · refine ⟨putK_keys h.ks, ?_, fun kv hk => ?_, ?_, h.sl, h.to, h.so⟩
    · exact Nat.le_trans (putK_len _ _ _) (by omega)
    · rcases putK_mem hk with hk | hk
      · exact h.sv kv hk
      · exact ⟨t, hk⟩
    · show S.t.length ≤ _; omega
  split
  · refine ⟨h.ks, by show S.fr.length ≤ _; omega, h.sv, ?_, h.sl, strOk_add h.to t1, h.so⟩
    show (S.t ++ t).length ≤ _
    rw [len_add]; omega
  split
  · exact ⟨h.ks, by show S.fr.length ≤ _; omega, h.sv, by show S.t.length ≤ _; omega, h.sl, h.to, h.so⟩
  split
  · exact ⟨h.ks, by show S.fr.length ≤ _; omega, h.sv, by show S.t.length ≤ _; omega, t2, h.to, t1⟩
  · exact ⟨h.ks, by show S.fr.length ≤ _; omega, h.sv, by show t.length ≤ _; omega, h.sl, t1, h.so⟩
theorem Ok.did {S S' : DS} {k : Nat} {w t tag : Str} {n : Int} {x : V} (h : Ok S k) (ht : TextOk t) (d : Did S w n t S' tag x) : Ok S' (k + 1) := by
  cases d with
  | page => exact h.mono (by omega)
  | fallen => exact h.mono (by omega)
  | done => exact h.act ht
theorem shaped_pair {t : Str} {d : PyData} (h : PyData.strOk t = true) (hd : d = .none ∨ ∃ n, d = .int n) : SeqAt.shaped (.tuple [.str t, d]) = true := by
  unfold SeqAt.shaped
  rw [Bool.and_eq_true]
  rcases hd with rfl | ⟨n, rfl⟩
  · exact ⟨by show (PyData.strOk t && _) = true; rw [h]; rfl, decide_eq_true (show 1 ≤ 64 by decide)⟩
  · exact ⟨by show (PyData.strOk t && _) = true; rw [h]; rfl, decide_eq_true (show 1 ≤ 64 by decide)⟩
theorem Did.dat {K : PySem.W.Frag} {S S' : DS} {w t tag : Str} {n : Int} {x : V} (d : Did S w n t S' tag x) : ∃ dd, (∀ H, Dp K H x dd) ∧ SeqAt.shaped (.tuple [.str tag, dd]) = true := by
  cases d with
  | page => exact ⟨.int n, fun _ => .int n, shaped_pair (by decide +kernel) (.inr ⟨n, rfl⟩)⟩
  | fallen _ k => exact ⟨.int k, fun _ => .int k, shaped_pair (by decide +kernel) (.inr ⟨k, rfl⟩)⟩
  | done => exact ⟨.none, fun _ => .non, shaped_pair (by decide +kernel) (.inl rfl)⟩
def FuseIn (f : V) : Prop := f = .non ∨ ∃ n, f = .int n ∧ 0 ≤ n
theorem FuseIn.ok {f : V} (h : FuseIn f) : FuseOk f := by
  rcases h with h | ⟨n, h, _⟩
  · exact .inl h
  · exact .inr ⟨n, h⟩
theorem stay_made {H H' : Hp} {x dx : Addr} {o1 o2 : HO} (hx : H x = none) (hd : H dx = none) (s : Stay [x] (upd (upd H dx o1) x o2) H') : Stay [] H H' := by
  refine ⟨fun b o e _ => ?_, fun b e => ?_⟩
  · have n1 : b ≠ x := ne_some e hx
    have n2 : b ≠ dx := ne_some e hd
    exact s.keep b o (by rw [upd_ne n1, upd_ne n2]; exact e) (nmS n1 nm0)
  · have := s.old b e
    by_cases n1 : b = x
    · rw [n1]; exact hx
    by_cases n2 : b = dx
    · rw [n2]; exact hd
    rw [upd_ne n1, upd_ne n2] at this; exact this
theorem c_init {C CB : Addr} {H : Hp} {Q : VK} {E : XK} {f : V} {x dx : Addr} (hx : H x = none) (hdx : H dx = none) (nx : dx ≠ x) (fk : FuseIn f) (q : ∀ d H', H d = none → d ≠ x → DiskAt C H' x d (new0 f) → Stay [] H H' → Q .non H') :
    sp_init C CB [.ref x, f] (upd (upd H dx (.own x)) x (.ins C dx [])) Q E := by
  refine ⟨x, dx, f, rfl, upd_same, fk.ok, fun _ d H' hd at_ st => ?_, fun n e neg => ?_⟩
  · have n1 : d ≠ x := by intro z; rw [z, upd_same] at hd; cases hd
    have n2 : d ≠ dx := by intro z; rw [z, upd_ne nx, upd_same] at hd; cases hd
    rw [upd_ne n1, upd_ne n2] at hd
    exact q d H' hd n1 at_ (stay_made hx hdx st)
  · rcases fk with z | ⟨k, z, hk⟩
    · rw [e] at z; cases z
    · rw [e] at z; cases z; omega
theorem atI3 {x y z : V} (i : Fin 3) : atI [x, y, z] (i.val : Int) = some (f3 x y z i) := by
  match i with
  | 0 => rfl
  | 1 => rfl
  | 2 => rfl
theorem ref_f3 {p : Fin 3 → Addr} (i : Fin 3) : f3 (V.ref (p 0)) (V.ref (p 1)) (V.ref (p 2)) i = .ref (p i) := by
  match i with
  | 0 => rfl
  | 1 => rfl
  | 2 => rfl
theorem atP {p : Fin 3 → Addr} (i : Fin 3) : atI [V.ref (p 0), V.ref (p 1), V.ref (p 2)] (i.val : Int) = some (.ref (p i)) := by rw [atI3, ref_f3]
theorem x_makeD {σ : L2.St} {H : Hp} {Q : VK} {E : XK} {C : Addr} {sp : Sp} {dvs : List V} (h : ∀ x, H x = none → ∀ dx, H dx = none → dx ≠ x → sp (.ref x :: dvs) (upd (upd H dx (.own x)) x (.ins C dx [])) (fun v H2 => v = .non ∧ Q (.ref x) H2) E) : tMake C sp dvs E tNil σ H Q :=
  fun x dx h1 h2 h3 => h x h1 dx h2 h3
theorem x_makeK0 {σ : L2.St} {H : Hp} {Q : VK} {E : XK} {C : Addr} {sp : Sp} {te : TE} (h : te σ H fun z H2 => ∀ x, H2 x = none → ∀ dx, H2 dx = none → dx ≠ x → sp [.ref x, z] (upd (upd H2 dx (.own x)) x (.ins C dx [])) (fun v H3 => v = .non ∧ Q (.ref x) H3) E) :
    tMakeK C 0 1 sp (fun vs zs => vs ++ zs) E tNil (tCons te tNil) σ H Q := by
  show te σ H fun z H1 => ([] : List V).length = 0 ∧ [z].length = 1 ∧ ∀ x dx, H1 x = none → H1 dx = none → dx ≠ x → sp ((V.ref x :: []) ++ [z]) (upd (upd H1 dx (.own x)) x (.ins C dx [])) (fun v H3 => v = .non ∧ Q (.ref x) H3) E
  have e : (fun z H1 => ([] : List V).length = 0 ∧ [z].length = 1 ∧ ∀ x dx, H1 x = none → H1 dx = none → dx ≠ x → sp ((V.ref x :: []) ++ [z]) (upd (upd H1 dx (.own x)) x (.ins C dx [])) (fun v H3 => v = .non ∧ Q (.ref x) H3) E) =
      fun z H2 => ∀ x, H2 x = none → ∀ dx, H2 dx = none → dx ≠ x → sp [.ref x, z] (upd (upd H2 dx (.own x)) x (.ins C dx [])) (fun v H3 => v = .non ∧ Q (.ref x) H3) E := by
    funext z H1
    apply propext
    exact ⟨fun h x h1 dx h2 h3 => h.2.2 x dx h1 h2 h3, fun h => ⟨rfl, rfl, fun x dx h1 h2 h3 => h x h1 dx h2 h3⟩⟩
  rw [e]; exact h
section
variable {C a l dl ml c : Addr} {p d m e : Fin 3 → Addr} {H H' : Hp} {S M : Fin 3 → DS} {xs : List V}
theorem Wd.tupM (h : Wd C a l dl ml p d m e H S M) (hc : H c = some (.tup xs)) (j : Fin 3) : c ∉ [m j, e j] := by
  obtain ⟨m1, m2, _⟩ := id (h.md j)
  refine nmS ?_ (nmS ?_ nm0)
  · intro z; rw [z, m1] at hc; cases hc
  · intro z; rw [z, m2] at hc; cases hc
theorem Wd.tupD (h : Wd C a l dl ml p d m e H S M) (hc : H c = some (.tup xs)) (j : Fin 3) : c ∉ [p j, d j] := by
  obtain ⟨⟨_, m1⟩, m2, _⟩ := id (h.dk j)
  refine nmS ?_ (nmS ?_ nm0)
  · intro z; rw [z, m1] at hc; cases hc
  · intro z; rw [z, m2] at hc; cases hc
end
theorem Ok.fits {S : DS} {n : Nat} {t : Str} (h : Ok S n) (l : n ≤ 40) (ht : TextOk t) : Fits S t ∧ t.length ≤ 100000 ∧ S.t.length ≤ 100000 := by
  have h1 := h.tl
  have h2 := h.ln
  have h3 := ht.2
  exact ⟨⟨by omega, by omega⟩, by omega, by omega⟩
local macro_rules | `(tactic| walk_at "st0") => `(tactic| ((with_reducible refine' x_ixL ?h ?e ?_); (case h => walk_at "sq"); (case e => with_reducible assumption)))

theorem sc_law : FnScope ["script", "pool", "turn", "fuses", "disks", "models", "at", "call", "due", "other"] ["script"] (defScope s_law) := ⟨rfl, rfl, rfl, by decide +kernel, rfl, by decide +kernel, by decide +kernel⟩
theorem ok_law (T : G K mg) : FnOk P w K mg base CX0 7 T.f_law T.d_law ["script"] (sp_law K) := by
  refine T.F_law.ok sc_law (fun vs H Q E h => ?_) (fun cdv A outer s H vs Q E hr h => ?_)
  · obtain ⟨a, ns, rfl, hS, k⟩ := h
    rfl
  · obtain ⟨a, ns, rfl, hS, k⟩ := h
    have hu := hu_of hr
    have nd := sc_law.nd
    refine ⟨_, (pss_cons (ps_set (i := 1) nd rfl (Or.inr rfl) (pe_call (ok__law_pool T) (hr.mono (by decide)) rfl T.g__law_pool T.F__law_pool.kp T.b__law_pool .nil pass0 (pa_cons (pv 0) pa_nil)))
        (pss_cons (ps_setLc (i := 3) (own := [("turn", 2)]) (g := gName 2) rfl nd rfl rfl (sw_true rfl rfl rfl (by decide +kernel)) (pi_range1 rfl T.n_range (pa_cons pe_int pa_nil)) (blkOk_by (own := [("turn", 2)]) (N := ["script", "pool", "turn", "fuses", "disks", "models", "at", "call", "due", "other"]) (sc := defScope s_law) (by decide +kernel)) (fun _ _ _ _ _ => (pg_name (i := 2) nd rfl (Or.inl rfl))) (fun _ _ _ _ _ => pts_nil) (fun _ _ _ _ _ => (pe_ix (r := rIxL K) ix_list (pe_lst (pa_cons pe_non (pa_cons pe_int (pa_cons pe_int (pa_cons pe_int (pa_cons pe_int (pa_cons pe_int (pa_cons pe_int pa_nil)))))))) (pe_call (ok__law_draw T) (hr.mono (by decide)) rfl T.g__law_draw T.F__law_draw.kp T.b__law_draw .nil pass0 (pa_cons (pv 1) (pa_cons pe_int pa_nil))) (fun _ _ => rfl))))
        (pss_cons (ps_set (i := 4) nd rfl (Or.inr rfl) (pe_lst (pa_cons (pe_make T.mk_Disk (ok_Disk___init__ T) (hr.mono (by decide)) rfl T.g_Disk T.b_Disk___init__ .nil passL (pa_cons (pe_ix ix_list (pv 3) pe_int (fun _ _ => rfl)) pa_nil)) (pa_cons (pe_makeK0 T.mk_Disk (ok_Disk___init__ T) (hr.mono (by decide)) rfl T.g_Disk T.kb_Disk___init__ passL (pk_cons (pe_ix ix_list (pv 3) pe_int (fun _ _ => rfl)) pk_nil)) (pa_cons (pe_make0 T.mk_Disk (ok_Disk___init__ T) (hr.mono (by decide)) rfl T.g_Disk T.b1_Disk___init__ (.cons (show L2.RelV V.non Value.none from rfl) .nil) passL) pa_nil)))))
        (pss_cons (ps_set (i := 5) nd rfl (Or.inr rfl) (pe_lst (pa_cons (pe_call (ok__law_model T) (hr.mono (by decide)) rfl T.g__law_model T.F__law_model.kp T.b__law_model .nil pass0 (pa_cons (pe_ix ix_list (pv 3) pe_int (fun _ _ => rfl)) pa_nil)) (pa_cons (pe_call (ok__law_model T) (hr.mono (by decide)) rfl T.g__law_model T.F__law_model.kp T.b__law_model .nil pass0 (pa_cons (pe_ix ix_list (pv 3) pe_int (fun _ _ => rfl)) pa_nil)) (pa_cons (pe_call (ok__law_model T) (hr.mono (by decide)) rfl T.g__law_model T.F__law_model.kp T.b__law_model .nil pass0 (pa_cons pe_non pa_nil)) pa_nil)))))
        (pss_cons (ps_for PassesOwn.never rfl (pi_range1 rfl T.n_range (pa_cons (pe_op op_add pe_int (pe_call (ok__law_draw T) (hr.mono (by decide)) rfl T.g__law_draw T.F__law_draw.kp T.b__law_draw .nil pass0 (pa_cons (pv 1) (pa_cons pe_int pa_nil)))) pa_nil)) (pg_name (i := 2) nd rfl (Or.inl rfl)) (pss_cons (ps_par (i := 6) (j := 7) (by rfl) nd rfl rfl (by decide) rfl rfl (pa_cons (pe_call (ok__law_draw T) (hr.mono (by decide)) rfl T.g__law_draw T.F__law_draw.kp T.b__law_draw .nil pass0 (pa_cons (pv 1) (pa_cons pe_int pa_nil))) (pa_cons (pe_call (ok__law_call T) (hr.mono (by decide)) rfl T.g__law_call T.F__law_call.kp T.b__law_call .nil pass0 (pa_cons (pv 1) pa_nil)) pa_nil)) (by rfl))
        (pss_cons (ps_set (i := 8) nd rfl (Or.inl rfl) (pe_call (ok__law_due T) (hr.mono (by decide)) rfl T.g__law_due T.F__law_due.kp T.b__law_due .nil pass0 (pa_cons (pe_ix ix_list (pv 5) (pv 6) (fun _ _ => rfl)) (pa_cons (pv 7) pa_nil))))
        (pss_one (ps_if (PW.pt (pw_or (pt_cmpR (op_neD hr.units) (pe_call (ok__law_made T) (hr.mono (by decide)) rfl T.g__law_made T.F__law_made.kp T.b__law_made .nil pass0 (pa_cons (pe_ix ix_list (pv 4) (pv 6) (fun _ _ => rfl)) (pa_cons (pv 7) pa_nil))) (pv 8) (nomark _)) (pw_or1 (pt_not (pt_val (pe_call (ok__law_is_same T) (hr.mono (by decide)) rfl T.g__law_is_same T.F__law_is_same.kp T.b__law_is_same .nil pass0 (pa_cons (pe_ix ix_list (pv 4) (pv 6) (fun _ _ => rfl)) (pa_cons (pe_ix ix_list (pv 5) (pv 6) (fun _ _ => rfl)) pa_nil)))))))) (pss_one (ps_ret pe_bl)) pss_nil)))))
        (pss_cons (ps_if (pt_cmpR (op_neD hr.units) (pe_lc (own := [("other", 9)]) (g := gName 9) rfl nd (pi_range1 rfl T.n_range (pa_cons pe_int pa_nil)) (blkOk_by (own := [("other", 9)]) (N := ["script", "pool", "turn", "fuses", "disks", "models", "at", "call", "due", "other"]) (sc := defScope s_law) (by decide +kernel)) (fun _ _ _ _ _ => (pg_name (i := 9) nd rfl (Or.inl rfl))) (fun _ _ _ _ _ => (pts_one (pt_not (pt_val (pe_call (ok__law_is_same T) (hr.mono (by decide)) rfl T.g__law_is_same T.F__law_is_same.kp T.b__law_is_same .nil pass0 (pa_cons (pe_ix (r := rIxL K) ix_list (pv 4) (pv 9) (fun _ _ => rfl)) (pa_cons (pe_ix (r := rIxL K) ix_list (pv 5) (pv 9) (fun _ _ => rfl)) pa_nil))))))) (fun _ _ _ _ _ => pe_int)) (pe_lst pa_nil) (nomark _)) (pss_one (ps_ret pe_bl)) pss_nil)
        (pss_cons (ps_if (PW.pt (pw_or (pt_not (pt_val (pe_call (ok__law_is_no_page T) (hr.mono (by decide)) rfl T.g__law_is_no_page T.F__law_is_no_page.kp T.b__law_is_no_page .nil pass0 (pa_cons (pe_ix ix_list (pv 4) pe_int (fun _ _ => rfl)) (pa_cons pe_int pa_nil))))) (pw_or1 (pt_not (pt_val (pe_call (ok__law_is_no_page T) (hr.mono (by decide)) rfl T.g__law_is_no_page T.F__law_is_no_page.kp T.b__law_is_no_page .nil pass0 (pa_cons (pe_ix ix_list (pv 4) pe_int (fun _ _ => rfl)) (pa_cons (pe_un un_neg pe_int) pa_nil)))))))) (pss_one (ps_ret pe_bl)) pss_nil)
        (pss_one (ps_ret (pe_and (pe_call (ok__law_is_refused T) (hr.mono (by decide)) rfl T.g__law_is_refused T.F__law_is_refused.kp T.b__law_is_refused .nil pass0 (pa_cons (pe_un un_neg pe_int) pa_nil)) (pe_one (pe_call (ok__law_is_refused T) (hr.mono (by decide)) rfl T.g__law_is_refused T.F__law_is_refused.kp T.b__law_is_refused .nil pass0 (pa_cons (pe_op op_sub (pe_un un_neg pe_int) (pe_call (ok__law_draw T) (hr.mono (by decide)) rfl T.g__law_draw T.F__law_draw.kp T.b__law_draw .nil pass0 (pa_cons (pv 1) (pa_cons pe_int pa_nil)))) pa_nil))))))))))))), ?_⟩
    try dsimp only [L2.cxOf, L2.Cx.nox, L2.Cx.wish]
    rw [show L2.start ["script", "pool", "turn", "fuses", "disks", "models", "at", "call", "due", "other"] [V.ref a] = [some (V.ref a), none, none, none, none, none, none, none, none, none] from rfl]
    walk_at "go"
    refine c_pool hS (fun q l H1 nq nl pl st1 => ?_)
    clear hS st1
    walk_at "go"
    refine ⟨by decide, by decide, ?_⟩
    intro D nD
    obtain ⟨oa, ol, ea, el, nal⟩ := pl.ex
    have nqD : q ≠ D := ne_some ea nD
    have nlD : l ≠ D := ne_some el nD
    refine lc_range (n := 2) (fun i H' => ∃ acc : List V, H' D = some (.lst acc) ∧ acc.length = i ∧ (∀ v ∈ acc, FuseIn v) ∧ Pool H' q l) ⟨[], upd_same, rfl, fun _ h => (nomatch h), pl.ne nqD nlD⟩ ?_ ?_
    · rintro i H' hi ⟨acc, hD, hl, hf, pl⟩
      clear ea el
      obtain ⟨oa, ol, ea, el, _⟩ := pl.ex
      dsimp only [wipe, List.map]
      walk_at "go"
      refine x_ixMem (n := 7) (by walk_at "sq") (by assumption) (by assumption) rfl (fun v hv => ?_)
      have hw : FuseIn v := by
        simp only [List.mem_cons, List.not_mem_nil, or_false] at hv
        rcases hv with rfl | rfl | rfl | rfl | rfl | rfl | rfl <;> first | exact .inl rfl | exact .inr ⟨_, rfl, by decide⟩
      refine ⟨acc, by walk_at "hp", by have := sizeLine_eq; omega, acc ++ [v], upd_same, by simp [hl], fun u hu => ?_, ?_⟩
      · rcases List.mem_append.mp hu with hu | hu
        · exact hf u hu
        · rw [List.mem_singleton.mp hu]; exact hw
      · exact Pool.ne (by with_reducible assumption) nqD nlD
    rintro H2 ⟨acc, hD, hl, hf, pl2⟩
    obtain ⟨f0, f1, rfl⟩ : ∃ f0 f1, acc = [f0, f1] := by
      match acc, hl with
      | [x, y], _ => exact ⟨x, y, rfl⟩
    have k0 : FuseIn f0 := hf f0 (by simp)
    have k1 : FuseIn f1 := hf f1 (by simp)
    clear hf hl ea el pl nD nq nl
    walk_at "go"
    have alA : Al H2 [D, l, q] := by
      obtain ⟨oa, ol, ea, el, _⟩ := pl2.ex
      refine ⟨by simp [nqD.symm, nlD.symm, nal.symm], fun b hb => ?_⟩
      simp only [List.mem_cons, List.not_mem_nil, or_false] at hb
      rcases hb with rfl | rfl | rfl
      · exact ⟨_, hD⟩
      · exact ⟨_, el⟩
      · exact ⟨_, ea⟩
    intro x0 dx0 n1 n2 n3
    refine c_init n1 n2 n3 k0 (fun d0 H3 m1 m2 at0 st3 => ?_)
    have alB := alA.new2 n1 m1 m2.symm st3 ⟨_, at0.ob.choose_spec⟩ ⟨_, at0.fr⟩
    replace hD := st3.keep _ _ hD nm0
    replace pl2 := pl2.stay st3 nm0 nm0
    walk_at "go"
    refine x_makeK0 ?_
    walk_at "go"
    intro x1 n4 dx1 n5 n6
    refine c_init n4 n5 n6 k1 (fun d1 H4 m3 m4 at1 st4 => ?_)
    have alC := alB.new2 n4 m3 m4.symm st4 ⟨_, at1.ob.choose_spec⟩ ⟨_, at1.fr⟩
    replace hD := st4.keep _ _ hD nm0
    replace pl2 := pl2.stay st4 nm0 nm0
    replace at0 := at0.stay st4 nm0 nm0
    walk_at "go"
    refine x_makeD ?_
    intro x2 n7 dx2 n8 n9
    refine c_init n7 n8 n9 (.inl rfl) (fun d2 H5 m5 m6 at2 st5 => ?_)
    have alD := alC.new2 n7 m5 m6.symm st5 ⟨_, at2.ob.choose_spec⟩ ⟨_, at2.fr⟩
    replace hD := st5.keep _ _ hD nm0
    replace pl2 := pl2.stay st5 nm0 nm0
    replace at0 := at0.stay st5 nm0 nm0
    replace at1 := at1.stay st5 nm0 nm0
    refine ⟨rfl, ?_⟩
    refine ⟨Nat.le_trans (Nat.le_of_ble_eq_true (m := 1000) rfl) (by decide), fun dl ndl => ?_⟩
    obtain ⟨H6, e6⟩ : ∃ H6, H6 = upd H5 dl (.lst [.ref x0, .ref x1, .ref x2]) := ⟨_, rfl⟩
    rw [← e6]
    have hdl : H6 dl = some (.lst [.ref x0, .ref x1, .ref x2]) := by rw [e6]; exact upd_same
    have st6 : Stay [] H5 H6 := by rw [e6]; exact Stay.new (Stay.refl _ _) ndl
    have alE := alD.new ndl st6 ⟨_, hdl⟩
    replace hD := st6.keep _ _ hD nm0
    replace pl2 := pl2.stay st6 nm0 nm0
    replace at0 := at0.stay st6 nm0 nm0
    replace at1 := at1.stay st6 nm0 nm0
    replace at2 := at2.stay st6 nm0 nm0
    clear e6 ndl n1 n2 n3 n4 n5 n6 n7 n8 n9 m1 m2 m3 m4 m5 m6 st3 st4 st5 alA alB alC alD
    walk_at "go"
    refine c_model k0.ok (fun m0 e0 H7 n1 n2 mt0 st7 => ?_)
    have alF := alE.new2 n1 n2 mt0.ne st7 ⟨_, mt0.ob⟩ ⟨_, mt0.fr⟩
    replace hD := st7.keep _ _ hD nm0
    walk_at "go"
    refine c_model k1.ok (fun m1 e1 H8 n3 n4 mt1 st8 => ?_)
    have alG := alF.new2 n3 n4 mt1.ne st8 ⟨_, mt1.ob⟩ ⟨_, mt1.fr⟩
    replace mt0 := mt0.stay st8 nm0 nm0
    walk_at "go"
    refine c_model (.inl rfl) (fun m2 e2 H9 n5 n6 mt2 st9 => ?_)
    have alH := alG.new2 n5 n6 mt2.ne st9 ⟨_, mt2.ob⟩ ⟨_, mt2.fr⟩
    replace mt0 := mt0.stay st9 nm0 nm0
    replace mt1 := mt1.stay st9 nm0 nm0
    refine ⟨Nat.le_trans (Nat.le_of_ble_eq_true (m := 1000) rfl) (by decide), fun ml nml => ?_⟩
    obtain ⟨H10, e10⟩ : ∃ H10, H10 = upd H9 ml (.lst [.ref m0, .ref m1, .ref m2]) := ⟨_, rfl⟩
    rw [← e10]
    have hml : H10 ml = some (.lst [.ref m0, .ref m1, .ref m2]) := by rw [e10]; exact upd_same
    have st10 : Stay [] H9 H10 := by rw [e10]; exact Stay.new (Stay.refl _ _) nml
    have alI := alH.new nml st10 ⟨_, hml⟩
    have stX := ((st7.trans st8).trans st9).trans st10
    have nd9 := alI.nd
    have W : Wd T.C_Disk q l dl ml (f3 x0 x1 x2) (f3 d0 d1 d2) (f3 m0 m1 m2) (f3 e0 e1 e2) H10 (f3 (new0 f0) (new0 f1) (new0 .non)) (f3 (new0 f0) (new0 f1) (new0 .non)) := by
      simp only [List.nodup_cons, List.mem_cons, List.not_mem_nil, or_false, not_or] at nd9
      refine ⟨pl2.stay stX nm0 nm0, stX.keep _ _ hdl nm0, hml, f3_all (P := fun i p => DiskAt T.C_Disk H10 p (f3 d0 d1 d2 i) (f3 (new0 f0) (new0 f1) (new0 .non) i)) (at0.stay stX nm0 nm0) (at1.stay stX nm0 nm0) (at2.stay stX nm0 nm0),
        f3_all (P := fun i p => ModelAt H10 p (f3 e0 e1 e2 i) (f3 (new0 f0) (new0 f1) (new0 .non) i)) (mt0.stay st10 nm0 nm0) (mt1.stay st10 nm0 nm0) (mt2.stay st10 nm0 nm0), ?_, f3_inj ?_ ?_ ?_, f3_inj ?_ ?_ ?_, f3_inj ?_ ?_ ?_, f3_inj ?_ ?_ ?_, f3_ne ?_, f3_ne ?_, f3_ne ?_⟩
      all_goals (try (intro a ha b hb; simp only [List.mem_cons, List.not_mem_nil, or_false] at ha hb; rcases ha with rfl | rfl | rfl <;> rcases hb with rfl | rfl | rfl))
      all_goals (simp only [ne_eq]; intros; grind)
    have ok0 : ∀ j, Ok (f3 (new0 f0) (new0 f1) (new0 .non) j) 0 := f3_all (P := fun _ S => Ok S 0) Ok.new Ok.new Ok.new
    clear nd9 stX alI st10 hml e10 nml mt0 mt1 mt2 alH alG alF alE st9 st8 st7 hD n1 n2 n3 n4 n5 n6 at0 at1 at2 pl2 st6 hdl k0 k1
    generalize f3 (new0 f0) (new0 f1) (new0 .non) = S0 at W ok0
    generalize f3 x0 x1 x2 = p at W
    generalize f3 d0 d1 d2 = d at W
    generalize f3 m0 m1 m2 = m at W
    generalize f3 e0 e1 e2 = e at W
    have pl0 := W.pool
    walk_at "go"
    rename_i z H11 z0 z1 pl st
    replace W := W.draw st pl
    clear pl st pl0
    refine ⟨by omega, by omega, ?_⟩
    refine for_range (n := (4 + z).toNat) (fun i σ H' => (∃ v1 v2 v3 v4, σ = [some (V.ref a), some (V.ref q), v1, some (V.ref D), some (V.ref dl), some (V.ref ml), v2, v3, v4, none]) ∧ ∃ S, Wd T.C_Disk q l dl ml p d m e H' S S ∧ ∀ j, Ok (S j) i) ⟨⟨_, _, _, _, rfl⟩, _, W, ok0⟩ ?_ ?_
    · clear W ok0
      rintro i _ H' hi ⟨⟨v1, v2, v3, v4, rfl⟩, S, W, ok⟩
      have pl0 := W.pool
      walk_at "go"
      rename_i z1 H1 a0 a1 pl1 st1 w n t c H2 hw tk nc ec pl st
      replace W := (W.draw st1 pl1).draw st pl
      clear pl st pl1 st1 pl0
      obtain ⟨j, hj⟩ : ∃ j : Fin 3, (j.val : Int) = z1 := ⟨⟨z1.toNat, by omega⟩, by simp; omega⟩
      subst hj
      have hP := atP (p := p) j
      have hM := atP (p := m) j
      have hml := W.hml
      walk_at "go"
      have okj := ok j
      have fit := okj.fits (by omega) tk
      refine c_due (W.md j) ec hw fit.1 (fun S' tag x q2 H3 did nq eq mt st => ?_)
      replace ec := st.keep _ _ ec (W.tupM ec j)
      replace W := W.model st mt
      clear st mt hml
      have hdl := W.hdl
      have hml := W.hml
      walk_at "go"
      refine c_made (W.dk j) ec hw fit (fun S2 tag2 x2 q3 H4 did2 nq2 eq2 dt st => ?_)
      obtain ⟨rfl, rfl, rfl⟩ := did.one did2
      replace eq := st.keep _ _ eq (W.tupD eq j)
      replace W := W.disk st dt
      clear st dt hml hdl
      have hdl := W.hdl
      have hml := W.hml
      walk_at "go"
      obtain ⟨dd, hdd, sh⟩ := did.dat (K := K)
      refine x_neD2 (.tup (SqT.of eq2) (.cons (.str _) (.cons (hdd _) .nil))) (.tup (SqT.of eq) (.cons (.str _) (.cons (hdd _) .nil))) sh sh (eqvSelf sh) ?_
      walk_at "go"
      have ok2 : ∀ u, Ok (setF S j S' u) (i + 1) := fun u => by
        by_cases z : u = j
        · subst z; rw [setF_self]; exact okj.did tk did
        · rw [setF_ne z]; exact (ok u).mono (by omega)
      refine c_same (W.dk j) (W.md j) (ok2 j) (by omega) (fun H5 st5 => ?_)
      walk_at "go"
      exact ⟨⟨_, _, _, _, rfl⟩, _, W.keep st5, ok2⟩
    clear W ok0
    rintro _ H' ⟨⟨v1, v2, v3, v4, rfl⟩, S, W, ok⟩
    walk_at "go"
    refine ⟨by decide, by decide, ?_⟩
    intro D2 nD2
    have nD := nD2
    refine lc_range (n := 3) (fun i G => G D2 = some (.lst []) ∧ Wd T.C_Disk q l dl ml p d m e G S S) ⟨upd_same, W.keep (Stay.new (Stay.refl _ _) nD2)⟩ ?_ ?_
    · clear W nD nD2
      rintro i G hi ⟨hD2, W⟩
      dsimp only [wipe, List.map]
      obtain ⟨j, hj⟩ : ∃ j : Fin 3, (j.val : Int) = 0 + (i : Int) := ⟨⟨i, hi⟩, by simp⟩
      rw [← hj]
      have hP := atP (p := p) j
      have hM := atP (p := m) j
      have hdl := W.hdl
      have hml := W.hml
      walk_at "go"
      refine c_same (W.dk j) (W.md j) (ok j) (by omega) (fun H5 st5 => ?_)
      walk_at "go"
      exact ⟨st5.keep _ _ hD2 nm0, W.keep st5⟩
    clear W nD nD2
    rintro G ⟨hD2, W⟩
    have hdl := W.hdl
    walk_at "go"
    refine' x_neD2 (d := .list []) (e := .list []) (.lst ?h .nil) (.lst ?h2 .nil) (by decide) (by decide) rfl ?_
    case h => walk_at "sq"
    case h2 => walk_at "sq"
    obtain ⟨⟨_, g1⟩, g2, _⟩ := id (W.dk 0)
    obtain ⟨⟨_, g3⟩, g4, _⟩ := id (W.dk 1)
    clear oa ol
    obtain ⟨oa, ol, ea, el, _⟩ := W.pool.ex
    walk_at "go"
    refine' c_nopage (d := d 0) (S := S 0) ?h (by unfold inP; omega) (fun H5 st5 => ?_)
    case h => exact DiskAt.ne (W.dk 0) (by walk_at "ne") (by walk_at "ne")
    have dk1 := (DiskAt.ne (W.dk 1) (by walk_at "ne") (by walk_at "ne")).stay st5 nm0 nm0
    have pl := (Pool.ne W.pool (by walk_at "ne") (by walk_at "ne")).stay st5 nm0 nm0
    walk_at "go"
    refine c_nopage dk1 (by unfold inP; omega) (fun H6 st6 => ?_)
    walk_at "go"
    refine c_refused (by omega) (fun H7 st7 => ?_)
    replace pl := (pl.stay st6 nm0 nm0).stay st7 nm0 nm0
    walk_at "go"
    refine c_refused (by omega) (fun H9 st9 => ?_)
    walk_at "go"
    exact k _
end
end WD

namespace WD
open PySem PySem.Spec PyProof.Rows L2
-- p ≠ q of two addresses
local macro_rules | `(tactic| walk_at "ne") => `(tactic| first
  | with_reducible assumption
  | with_reducible exact Ne.symm (by assumption)
  | exact ne_some (by with_reducible assumption) (by with_reducible assumption)
  | exact Ne.symm (ne_some (by with_reducible assumption) (by with_reducible assumption)))
local macro_rules | `(tactic| walk_at "nm") => `(tactic| first | with_reducible assumption | with_reducible exact nm0 | ((with_reducible refine' nmS ?a ?b); (case a => walk_at "ne"); (case b => walk_at "nm")))
-- H p = some ?o
local macro_rules | `(tactic| walk_at "hp") => `(tactic| first
  | with_reducible exact upd_same
  | with_reducible assumption
  | ((with_reducible refine' Eq.trans (upd_ne ?a) ?b); (case a => walk_at "ne"); (case b => walk_at "hp"))
  | exact Stay.keep (by with_reducible assumption) _ _ (by walk_at "hp") (by walk_at "nm"))
local macro_rules | `(tactic| walk_at "hpd") => `(tactic| ((refine' Eq.trans ?h ?e); (case h => walk_at "hp"); (case e => exact rfl)))
-- a new address
local macro_rules | `(tactic| walk_at "nw") => `(tactic| ((repeat first | (with_reducible refine' nw_upd ?_) | refine' nw_fr (by with_reducible assumption) ?_); intro p_; intros))
local macro_rules | `(tactic| walk_at "mem") => `(tactic| first | exact List.mem_cons_self | (refine' List.mem_cons_of_mem _ ?_; walk_at "mem"))
-- what stands stays
local macro_rules | `(tactic| walk_at "fr") => `(tactic| first
  | with_reducible assumption
  | exact Stay.refl _ _
  | ((with_reducible refine' Stay.upd ?a ?b); (case a => walk_at "fr"); (case b => walk_at "mem"))
  | ((with_reducible refine' Stay.new ?a ?b); (case b => with_reducible assumption); (case a => walk_at "fr"))
  | (refine' Stay.trans ?_ (by with_reducible assumption); walk_at "fr"))
local macro_rules | `(tactic| walk_at "sq") => `(tactic| first | with_reducible assumption | exact SqL.of (by walk_at "hp"))
local macro_rules | `(tactic| walk_at "sqt") => `(tactic| first | with_reducible assumption | exact SqT.of (by walk_at "hp"))
-- side goals
local macro_rules | `(tactic| walk_at "sd") => `(tactic| first
  | with_reducible assumption | with_reducible rfl | (show _ ≤ sizeLine; decide) | (refine Nat.le_trans (Nat.le_of_ble_eq_true (m := 1000) rfl) (by decide)) | decide | omega
  | exact IntMulOk.of_right (intBits_le_64 (by omega) (by omega)) | exact IntMulOk.of_left (intBits_le_64 (by omega) (by omega))
  | (refine' Or.inl ⟨?_, ?_⟩ <;> omega) | (refine' Or.inr ⟨?_, ?_⟩ <;> omega)
  | (refine' ⟨?_, ?_⟩ <;> walk_at "sd") | (refine' ⟨?_, ?_, ?_⟩ <;> walk_at "sd"))
local macro_rules | `(tactic| walk_at "set") => `(tactic| first | with_reducible exact set0 | with_reducible exact set1 | with_reducible exact set2 | with_reducible exact set3 | with_reducible exact set4 | with_reducible exact set5 | with_reducible exact set6 | with_reducible exact set7 | with_reducible exact set8 | with_reducible exact set9 | with_reducible exact set10 | with_reducible exact set11 | with_reducible exact set12 | with_reducible exact set13 | with_reducible exact set14 | with_reducible exact set15 | with_reducible exact set16 | with_reducible exact set17 | with_reducible exact set18 | with_reducible exact set19 | with_reducible exact set20)
-- one step
local macro_rules | `(tactic| walk_at "st0") => `(tactic| first
  | with_reducible refine' x_seq ?_
  | with_reducible refine' x_next ?_
  | with_reducible refine' x_ifS ?_
  | with_reducible refine' x_asg ?_
  | with_reducible refine' x_ret ?_
  | with_reducible refine' x_retN ?_
  | with_reducible refine' x_drop ?_
  | with_reducible refine' x_brk ?_
  | with_reducible refine' x_cont ?_
  | ((with_reducible refine' x_gName ?e ?_); (case e => walk_at "set"))
  | with_reducible refine' x_gSub ?_
  | with_reducible refine' x_gCons ?_
  | with_reducible refine' x_gNil ?_
  | with_reducible refine' x_c ?_
  | ((with_reducible refine' x_var ?e ?_); (case e => exact rfl))
  | with_reducible refine' x_op ?_
  | with_reducible refine' x_un ?_
  | with_reducible refine' x_if ?_
  | with_reducible refine' x_cb ?_
  | with_reducible refine' x_cons ?_
  | with_reducible refine' x_nil ?_
  | with_reducible refine' x_bm0 ?_
  | with_reducible refine' x_bm ?_
  | with_reducible refine' x_tup ?_
  | with_reducible refine' x_lst ?_
  | ((with_reducible refine' And.intro (a := _ ≤ sizeLine) ?e ?_); (case e => walk_at "sd"); walk_at "nw")
  | with_reducible refine' x_fld ?_
  | with_reducible refine' x_test ?_
  | with_reducible refine' x_tB ?_
  | with_reducible refine' x_and ?_
  | with_reducible refine' x_or ?_
  | with_reducible refine' x_not ?_
  | with_reducible refine' x_notV ?_
  | with_reducible refine' x_andV ?_
  | with_reducible refine' x_orV ?_
  | with_reducible refine' x_rI0 ?_
  | ((with_reducible refine' x_rI ?e ?_); (case e => walk_at "sd"))
  | with_reducible refine' x_rU ?_
  | ((with_reducible refine' x_rEq ?e ?_); (case e => exact rfl))
  | ((with_reducible refine' x_rNe ?e ?_); (case e => exact rfl))
  | ((with_reducible refine' x_ixL0 ?h ?_); (case h => walk_at "sq"))
  | ((with_reducible refine' x_ixL1 ?h ?_); (case h => walk_at "sq"))
  | ((with_reducible refine' x_ixL2 ?h ?_); (case h => walk_at "sq"))
  | ((with_reducible refine' x_ixL0I ?h ?_); (case h => walk_at "sq"))
  | ((with_reducible refine' x_ixL ?h ?e ?_); (case h => walk_at "sq"); (case e => exact rfl))
  | ((with_reducible refine' x_neNil ?h ?h2 ?_); (case h => walk_at "sq"); (case h2 => walk_at "sq"))
  | ((with_reducible refine' x_pop0I ?h ?_); (case h => walk_at "hp"))
  | ((with_reducible refine' x_pop0 ?h ?_); (case h => walk_at "hp"))
  | ((with_reducible refine' x_setL0 ?h ?_); (case h => walk_at "hp"))
  | ((with_reducible refine' x_setL1 ?h ?_); (case h => walk_at "hp"))
  | ((with_reducible refine' x_setL2 ?h ?_); (case h => walk_at "hp"))
  | ((with_reducible refine' x_setL ?h ?e ?_); (case h => walk_at "hp"); (case e => exact rfl))
  | with_reducible refine' .inl ⟨_, rfl, ?_⟩
  | ((with_reducible refine' x_tyL ?h ?_); (case h => walk_at "sq"))
  | with_reducible refine' ⟨_, rfl, ?_⟩)
-- a split
local macro_rules | `(tactic| walk_at "if") => `(tactic| (
  first
  | (with_reducible refine' x_dec (fun h_ => ?_) (fun h_ => ?_))
  | (with_reducible refine' x_decN (fun h_ => ?_) (fun h_ => ?_))
  | (with_reducible refine' x_boolN (fun h_ => ?_) (fun h_ => ?_))
  | (with_reducible refine' x_bool (fun h_ => ?_) (fun h_ => ?_))))
local macro_rules | `(tactic| walk_at "ifs") => `(tactic| (walk_at "if" <;> first
  | (exfalso; first | omega | contradiction)
  | (rename_i h_; (try simp only [BEq.rfl, List.length_map, List.length_cons, List.length_nil, Int.natCast_zero, Int.ofNat_zero, gt_iff_lt, Int.lt_irrefl, Bool.true_eq_false, Bool.false_eq_true, List.isEmpty_nil, List.isEmpty_cons, V.int.injEq, V.str.injEq, V.bl.injEq, reduceCtorEq, not_false_eq_true, not_true_eq_false] at h_); (try (exfalso; omega)))))
local macro_rules | `(tactic| walk_at "ite1") => `(tactic| first
  | with_reducible refine' x_T ?_
  | with_reducible refine' x_F ?_
  | with_reducible refine' x_nT ?_
  | with_reducible refine' x_nF ?_
  | ((with_reducible refine' x_bT ?e ?_); (case e => first | decide | decide +kernel))
  | ((with_reducible refine' x_bF ?e ?_); (case e => first | decide | decide +kernel)))
local macro_rules | `(tactic| walk_at "st") => `(tactic| ((fail_if_success (with_reducible (show (if _ then _ else _)))); walk_at "st0"))
local macro_rules | `(tactic| walk_at "go") => `(tactic| repeat first | walk_at "ite1" | walk_at "st")
local macro_rules | `(tactic| walk_at "gs") => `(tactic| repeat' first | walk_at "ite1" | walk_at "st" | walk_at "ifs")
local macro_rules | `(tactic| walk_at "sz") => `(tactic| first | with_reducible assumption | (refine Nat.le_trans (by assumption) (by decide : 100000 ≤ sizeLine)) | (refine Nat.le_trans (m := 100000) ?_ (by decide); (try simp only [len_add, rep_len]); (try rw [show (Str.ofString "z").length = 1 from rfl]); omega))
local macro_rules | `(tactic| walk_at "hn") => `(tactic| first | with_reducible assumption)
local macro_rules | `(tactic| walk_at "sqo") => `(tactic| first | exact Or.inl (by walk_at "sq") | exact Or.inr (by walk_at "sqt"))
local macro_rules | `(tactic| walk_at "ty1") => `(tactic| first | with_reducible assumption | exact Ty1.int _ | exact Ty1.str _ | exact Ty1.bl _ | exact Ty1.non | exact Ty1.tup (by walk_at "hp") | exact Ty1.lst (by walk_at "hp"))
local macro_rules | `(tactic| walk_at "st2") => `(tactic| first
  | with_reducible refine' And.intro (a := V.non = V.non) rfl ?_
  | with_reducible refine' x_call0 ?_
  | with_reducible refine' x_callS ?_
  | with_reducible refine' x_meth0 ?_
  | with_reducible refine' x_methW0 ?_
  | with_reducible refine' x_make0 ?_
  | with_reducible refine' x_makeW0 ?_
  | with_reducible refine' x_sFld ?_
  | with_reducible refine' x_mkO ?_
  | with_reducible refine' x_chain ?_
  | with_reducible refine' x_dget ?_
  | with_reducible refine' x_dget1 ?_
  | with_reducible refine' x_dget2 ?_
  | with_reducible refine' x_sDPut ?_
  | with_reducible refine' x_pairs ?_
  | with_reducible refine' x_pairs0 ?_
  | with_reducible refine' x_sl ?_
  | with_reducible refine' x_noPart ?_
  | with_reducible refine' x_part ?_
  | ((with_reducible refine' x_disp ?_); walk_at "nw")
  | ((with_reducible refine' x_dnew ?_); walk_at "nw")
  | ((with_reducible refine' x_rz ?h ?_); (case h => walk_at "cf"); walk_at "nw")
  | ((with_reducible refine' x_isi ?h ?e ?_); (case h => walk_at "ty1"); (case e => decide))
  | ((with_reducible refine' x_fldR ?h ?c ?n ?e ?_); (case h => walk_at "hp"); (case c => walk_at "cf"); (case n => walk_at "cf"); (case e => walk_at "fl"))
  | ((with_reducible refine' x_onIns ?h ?n ?_); (case h => walk_at "hp"); (case n => walk_at "fl"))
  | ((with_reducible refine' x_addS ?l ?_); (case l => walk_at "sz"))
  | ((with_reducible refine' x_lenS ?l ?_); (case l => walk_at "sz"))
  | ((with_reducible refine' x_lenL ?h ?_); (case h => walk_at "sqo"))
  | ((with_reducible refine' x_slL ?h rfl ?_); (case h => walk_at "sq"); walk_at "nw")
  | ((with_reducible refine' x_listOf ?h ?_); (case h => walk_at "sqo"); walk_at "nw")
  | ((with_reducible refine' x_strmul ?c ?_); (case c => (refine' ⟨?_, ?_, ?_⟩ <;> first | omega | decide +kernel)))
  | ((with_reducible refine' x_isD2 ?h ?_); (case h => walk_at "hp"))
  | ((with_reducible refine' x_getI ?h ?_); (case h => walk_at "hp"))
  | ((with_reducible refine' x_getS ?h ?_); (case h => walk_at "hp"))
  | ((with_reducible refine' x_dgetS ?h ?e ?_); (case h => walk_at "hp"); (case e => walk_at "fl"))
  | ((with_reducible refine' x_ixT ?h ?e ?_); (case h => walk_at "sqt"); (case e => exact rfl))
  | ((with_reducible refine' x_gTup ?h ?e ?_); (case h => walk_at "sqt"); (case e => exact rfl)))
local macro_rules | `(tactic| walk_at "st0") => `(tactic| walk_at "st2")
local macro_rules | `(tactic| walk_at "fl") => `(tactic| first
  | with_reducible exact lk_hd
  | ((with_reducible refine' lk_tl ?n ?h); (case n => walk_at "nq"); (case h => walk_at "fl"))
  | with_reducible exact lk_nil
  | with_reducible exact pf_hd
  | ((with_reducible refine' pf_tl ?n ?h); (case n => walk_at "nq"); (case h => walk_at "fl"))
  | with_reducible exact pf_nil
  | with_reducible exact vl_hd
  | ((with_reducible refine' vl_tl ?n ?h); (case n => walk_at "nr"); (case h => walk_at "fl"))
  | with_reducible exact vl_nil
  | ((with_reducible refine' pk_hd ?n); (case n => rfl))
  | ((with_reducible refine' pk_tl ?n ?t ?h); (case n => walk_at "nr"); (case t => rfl); (case h => walk_at "fl")))
local macro_rules | `(tactic| walk_at "cf") => `(tactic| with_reducible assumption)
local macro_rules | `(tactic| walk_at "st0") => `(tactic| first
  | ((with_reducible refine' x_sFldR ?h ?c ?n ?l ?e ?_); (case h => walk_at "hp"); (case c => walk_at "cf"); (case n => walk_at "cf"); (case l => exact Nat.le_of_ble_eq_true rfl); (case e => walk_at "fl")))
local macro_rules | `(tactic| walk_at "pool") => `(tactic| first
  | with_reducible assumption
  | exact Pool.ne (by walk_at "pool") (by walk_at "ne") (by walk_at "ne")
  | exact Pool.stay (by walk_at "pool") (by with_reducible assumption) (by walk_at "nm") (by walk_at "nm"))
local macro_rules | `(tactic| walk_at "szl") => `(tactic| first | exact Nat.lt_of_le_of_lt (Nat.le_of_ble_eq_true (m := 1000) rfl) (by decide) | exact Nat.lt_of_le_of_lt (by with_reducible assumption) (by decide : 1000 < sizeLine))
local macro_rules | `(tactic| walk_at "st0") => `(tactic| first
  | ((with_reducible refine' x_putS ?h ?l ?e ?_); (case h => walk_at "hp"); (case l => walk_at "szl"); (case e => walk_at "fl"))
  | ((with_reducible refine' x_setD ?h ?l ?e ?_); (case h => walk_at "hp"); (case l => walk_at "szl"); (case e => walk_at "fl"))
  | ((with_reducible refine' x_putI ?h ?l ?_); (case h => walk_at "hp"); (case l => walk_at "szl")))
local macro_rules | `(tactic| walk_at "st0") => `(tactic| first
  | ((with_reducible refine' x_rowN ?e ?_); (case e => walk_at "cf"); walk_at "nw"; (try dsimp only [List.set]))
  | ((with_reducible refine' x_rowF ?e ?_); (case e => walk_at "cf"))
  | with_reducible refine' x_xw ?_
  | ((with_reducible refine' x_xwR ?t ?h ?_); (case t => walk_at "cf"); (case h => walk_at "hp")))
local macro_rules | `(tactic| walk_at "st0") => `(tactic| first
  | ((with_reducible refine' x_isXR ?k ?x ?h ?e ?_); (case k => exact ClsV.own _); (case x => exact ExT.xc (by with_reducible assumption)); (case h => walk_at "hp"); (case e => walk_at "cf")))
local macro_rules | `(tactic| walk_at "st0") => `(tactic| first
  | with_reducible refine' x_for ?_
  | with_reducible refine' x_rng1 ?_
  | with_reducible refine' x_rng2 ?_
  | with_reducible refine' x_iList ?_
  | with_reducible refine' x_iTup ?_
  | with_reducible refine' x_par ?_
  | with_reducible refine' x_yes ?_
  | with_reducible refine' x_lc ?_
  | ((with_reducible refine' x_itL ?h ?_); (case h => walk_at "sq"))
  | ((with_reducible refine' x_itT ?h ?_); (case h => walk_at "sqt"))
  | ((with_reducible refine' x_catL ?h ?h2 ?l ?_); (case h => walk_at "hp"); (case h2 => walk_at "hp"); (case l => walk_at "sd"); walk_at "nw")
  | ((with_reducible refine' And.intro (a := List.set _ _ none = _) ?e ?_); (case e => exact rfl))
  | ((with_reducible refine' x_gNameS ?e1 ?e ?_); (case e1 => walk_at "set"); (case e => walk_at "set")))
local macro_rules | `(tactic| walk_at "nq") => `(tactic| first | with_reducible exact q_fuse__frames | with_reducible exact q_fuse__tape | with_reducible exact q_fuse__safe | with_reducible exact q_fuse__shelf | with_reducible exact q_fuse__writes | with_reducible exact q_frames__fuse | with_reducible exact q_frames__tape | with_reducible exact q_frames__safe | with_reducible exact q_frames__shelf | with_reducible exact q_frames__writes | with_reducible exact q_tape__fuse | with_reducible exact q_tape__frames | with_reducible exact q_tape__safe | with_reducible exact q_tape__shelf | with_reducible exact q_tape__writes | with_reducible exact q_safe__fuse | with_reducible exact q_safe__frames | with_reducible exact q_safe__tape | with_reducible exact q_safe__shelf | with_reducible exact q_safe__writes | with_reducible exact q_shelf__fuse | with_reducible exact q_shelf__frames | with_reducible exact q_shelf__tape | with_reducible exact q_shelf__safe | with_reducible exact q_shelf__writes | with_reducible exact q_writes__fuse | with_reducible exact q_writes__frames | with_reducible exact q_writes__tape | with_reducible exact q_writes__safe | with_reducible exact q_writes__shelf | decide +kernel)
local macro_rules | `(tactic| walk_at "nr") => `(tactic| first | with_reducible exact rfuse_frames | with_reducible exact rfuse_tape | with_reducible exact rfuse_safe | with_reducible exact rfuse_shelf | with_reducible exact rfuse_writes | with_reducible exact rframes_fuse | with_reducible exact rframes_tape | with_reducible exact rframes_safe | with_reducible exact rframes_shelf | with_reducible exact rframes_writes | with_reducible exact rtape_fuse | with_reducible exact rtape_frames | with_reducible exact rtape_safe | with_reducible exact rtape_shelf | with_reducible exact rtape_writes | with_reducible exact rsafe_fuse | with_reducible exact rsafe_frames | with_reducible exact rsafe_tape | with_reducible exact rsafe_shelf | with_reducible exact rsafe_writes | with_reducible exact rshelf_fuse | with_reducible exact rshelf_frames | with_reducible exact rshelf_tape | with_reducible exact rshelf_safe | with_reducible exact rshelf_writes | with_reducible exact rwrites_fuse | with_reducible exact rwrites_frames | with_reducible exact rwrites_tape | with_reducible exact rwrites_safe | with_reducible exact rwrites_shelf | decide +kernel)
local macro_rules | `(tactic| walk_at "st0") => `(tactic| ((with_reducible refine' c_is_number ?h ?_); (case h => walk_at "ty1")))
local macro_rules | `(tactic| walk_at "st0") => `(tactic| ((with_reducible refine' c_is_within ?h ?_); (case h => walk_at "ty1")))
local macro_rules | `(tactic| walk_at "st0") => `(tactic| ((with_reducible refine' c_is_page ?h ?_); (case h => walk_at "ty1")))
local macro_rules | `(tactic| walk_at "st0") => `(tactic| (with_reducible refine' c_check (fun hz_ => ?_) (fun hz_ => ?_)))
local macro_rules | `(tactic| walk_at "st0") => `(tactic| ((with_reducible refine' c_tape ?h ?_); (case h => with_reducible assumption)))
local macro_rules | `(tactic| walk_at "st0") => `(tactic| ((with_reducible refine' c_safe ?h ?_); (case h => with_reducible assumption)))
local macro_rules | `(tactic| walk_at "st0") => `(tactic| ((with_reducible refine' c_shelf ?h ?_); (case h => with_reducible assumption)))
local macro_rules | `(tactic| walk_at "st0") => `(tactic| ((with_reducible refine' c_writes ?h ?_); (case h => with_reducible assumption)))
local macro_rules | `(tactic| walk_at "st0") => `(tactic| ((with_reducible refine' c_draw ?h ?m (fun d_ H_ lo_ hi_ pl_ st_ => ?_)); (case h => walk_at "pool"); (case m => first | with_reducible assumption | (refine' ⟨?_, ?_⟩ <;> first | decide | omega))))
local macro_rules | `(tactic| walk_at "st0") => `(tactic| ((with_reducible refine' c_text ?h (fun t_ H_ ok_ pl_ st_ => ?_)); (case h => walk_at "pool")))
local macro_rules | `(tactic| walk_at "st0") => `(tactic| ((with_reducible refine' c_call ?h (fun w_ n_ t_ q_ H_ hw_ ok_ nq_ eq_ pl_ st_ => ?_)); (case h => walk_at "pool")))
local macro_rules | `(tactic| walk_at "st0") => `(tactic| ((with_reducible refine' c_model ?h (fun m_ e_ H_ nm_ ne_ at_ st_ => ?_)); (case h => with_reducible assumption)))
def endFn : List He.DefD := [
  ⟨("Refused", some "__init__"), "__init__", "Refused.__init__", defArgs s_Refused___init__, defBody s_Refused___init__, defScope s_Refused___init__, [], []⟩,
  ⟨("is_number", none), "is_number", "is_number", defArgs s_is_number, defBody s_is_number, defScope s_is_number, [], []⟩,
  ⟨("is_within", none), "is_within", "is_within", defArgs s_is_within, defBody s_is_within, defScope s_is_within, [], []⟩,
  ⟨("is_page", none), "is_page", "is_page", defArgs s_is_page, defBody s_is_page, defScope s_is_page, [], []⟩,
  ⟨("_check_page", none), "_check_page", "_check_page", defArgs s__check_page, defBody s__check_page, defScope s__check_page, [], []⟩,
  ⟨("Disk", some "__init__"), "__init__", "Disk.__init__", defArgs s_Disk___init__, defBody s_Disk___init__, defScope s_Disk___init__, [.non], []⟩,
  ⟨("Disk", some "tape"), "tape", "Disk.tape", defArgs s_Disk_tape, defBody s_Disk_tape, defScope s_Disk_tape, [], []⟩,
  ⟨("Disk", some "safe"), "safe", "Disk.safe", defArgs s_Disk_safe, defBody s_Disk_safe, defScope s_Disk_safe, [], []⟩,
  ⟨("Disk", some "shelf"), "shelf", "Disk.shelf", defArgs s_Disk_shelf, defBody s_Disk_shelf, defScope s_Disk_shelf, [], []⟩,
  ⟨("Disk", some "writes"), "writes", "Disk.writes", defArgs s_Disk_writes, defBody s_Disk_writes, defScope s_Disk_writes, [], []⟩,
  ⟨("Disk", some "frame"), "frame", "Disk.frame", defArgs s_Disk_frame, defBody s_Disk_frame, defScope s_Disk_frame, [], []⟩,
  ⟨("Disk", some "_count_write"), "_count_write", "Disk._count_write", defArgs s_Disk__count_write, defBody s_Disk__count_write, defScope s_Disk__count_write, [], []⟩,
  ⟨("Disk", some "put_frame"), "put_frame", "Disk.put_frame", defArgs s_Disk_put_frame, defBody s_Disk_put_frame, defScope s_Disk_put_frame, [], []⟩,
  ⟨("Disk", some "add_tape"), "add_tape", "Disk.add_tape", defArgs s_Disk_add_tape, defBody s_Disk_add_tape, defScope s_Disk_add_tape, [], []⟩,
  ⟨("Disk", some "sync"), "sync", "Disk.sync", defArgs s_Disk_sync, defBody s_Disk_sync, defScope s_Disk_sync, [], []⟩,
  ⟨("Disk", some "put_shelf"), "put_shelf", "Disk.put_shelf", defArgs s_Disk_put_shelf, defBody s_Disk_put_shelf, defScope s_Disk_put_shelf, [], []⟩,
  ⟨("Disk", some "cut_tape"), "cut_tape", "Disk.cut_tape", defArgs s_Disk_cut_tape, defBody s_Disk_cut_tape, defScope s_Disk_cut_tape, [], []⟩,
  ⟨("Disk", some "frame_ids"), "frame_ids", "Disk.frame_ids", defArgs s_Disk_frame_ids, defBody s_Disk_frame_ids, defScope s_Disk_frame_ids, [], []⟩,
  ⟨("_law_pool", none), "_law_pool", "_law_pool", defArgs s__law_pool, defBody s__law_pool, defScope s__law_pool, [], []⟩,
  ⟨("_law_draw", none), "_law_draw", "_law_draw", defArgs s__law_draw, defBody s__law_draw, defScope s__law_draw, [], []⟩,
  ⟨("_law_text", none), "_law_text", "_law_text", defArgs s__law_text, defBody s__law_text, defScope s__law_text, [], []⟩,
  ⟨("_law_call", none), "_law_call", "_law_call", defArgs s__law_call, defBody s__law_call, defScope s__law_call, [], []⟩,
  ⟨("_law_model", none), "_law_model", "_law_model", defArgs s__law_model, defBody s__law_model, defScope s__law_model, [], []⟩,
  ⟨("_law_due", none), "_law_due", "_law_due", defArgs s__law_due, defBody s__law_due, defScope s__law_due, [], []⟩,
  ⟨("_law_is_no_page", none), "_law_is_no_page", "_law_is_no_page", defArgs s__law_is_no_page, defBody s__law_is_no_page, defScope s__law_is_no_page, [], []⟩,
  ⟨("_law_is_refused", none), "_law_is_refused", "_law_is_refused", defArgs s__law_is_refused, defBody s__law_is_refused, defScope s__law_is_refused, [], []⟩,
  ⟨("_law_made", none), "_law_made", "_law_made", defArgs s__law_made, defBody s__law_made, defScope s__law_made, [], []⟩,
  ⟨("_law_is_same", none), "_law_is_same", "_law_is_same", defArgs s__law_is_same, defBody s__law_is_same, defScope s__law_is_same, [], []⟩,
  ⟨("law", none), "law", "law", defArgs s_law, defBody s_law, defScope s_law, [], []⟩]
def endFa : List He.Fa := [.glo "is_number", .glo "is_within", .glo "is_page", .glo "_check_page", .glo "_law_pool", .glo "_law_draw", .glo "_law_text", .glo "_law_call", .glo "_law_model", .glo "_law_due", .glo "_law_is_no_page", .glo "_law_is_refused", .glo "_law_made", .glo "_law_is_same", .glo "law", .free "bool", .free "int", .free "isinstance", .free "len", .free "list", .free "range", .free "sorted", .free "tuple", .int "PAGES" 32, .cls "Disk", .glo "Disk", .mkr "Disk", .noat "Disk" "_fuse", .noat "Disk" "_frames", .noat "Disk" "_tape", .noat "Disk" "_safe", .noat "Disk" "_shelf", .noat "Disk" "_writes", .meth "Disk" "tape", .meth "Disk" "safe", .meth "Disk" "shelf", .meth "Disk" "writes", .meth "Disk" "frame", .meth "Disk" "_count_write", .meth "Disk" "put_frame", .meth "Disk" "add_tape", .meth "Disk" "sync", .meth "Disk" "put_shelf", .meth "Disk" "cut_tape", .meth "Disk" "frame_ids", .glo "Refused", .glo "BadPage", .glo "BadNumber", .glo "Fallen", .exm "Refused" "BadPage" false, .exm "Refused" "BadNumber" false, .exm "Refused" "Fallen" false, .exm "BadPage" "BadPage" true, .exm "BadPage" "BadNumber" false, .exm "BadPage" "Fallen" false, .exm "BadNumber" "BadPage" false, .exm "BadNumber" "BadNumber" true, .exm "BadNumber" "Fallen" false, .exm "Fallen" "BadPage" false, .exm "Fallen" "BadNumber" false, .exm "Fallen" "Fallen" true]
def endEx (K : PySem.W.Frag) : List Bool := [extB K "Refused" "Refused", extB K "BadPage" "Refused", extB K "BadNumber" "Refused", extB K "Fallen" "Refused", decide (PySem.W.kitOne K (.ref (He.ga K "Fallen")) (.ref (He.ga K "Refused")) = some true), decide (PySem.W.kitOne K (.ref (He.ga K "Fallen")) (.ref (He.ga K "BadPage")) = some false), decide (PySem.W.typeIn K (.ref (He.fAd K ("Refused", some "__init__"))) = some (.type "function"))]
def endLoose : List Str := (["_wall", "__name__", "Refused", "BadPage", "BadNumber", "Fallen", "PAGES", "is_number", "is_within", "is_page", "Disk", "_check_page", "_law_pool", "_law_draw", "_law_text", "_law_call", "_law_made", "_law_due", "_law_is_same", "_law_is_refused", "_law_is_no_page", "_law_model"] : List Str)
abbrev R : PySem.W.OpenRow := PySem.W.OpenLaw.row PySem.Challenge.rw_wendleaf_k38_writes_and_fuses
abbrev hk : PySem.W.Hook := He.hookX 6 endFa endFn [] [] (fun K => (endEx K).all id)
def ob (s : PySem.W.SharedT) : He.AlX := He.obsX 6 endFa endFn [] [] (fun K => (endEx K).all id) (HandSHeadRun.getT s)
theorem ob_eq (s : PySem.W.SharedT) : ob s = hk.obs s.abs := He.obsX_eq (HandSHeadRun.getT_eq s)
theorem run (w : World) : HandSHeadRun.RunEq R (PySem.W.view R.prog [25]) hk ob 4000 endLoose w := by
  intro os
  kernel_rfl
theorem mkG {K : PySem.W.Frag} {mg : Str → Option Value} {h : Heap} {w : World} (X : K.In h) (Gn : h.Ns mainGlobals mg) (c : He.SaysX endFa endFn [] [] (fun K => (endEx K).all id) w h K) : ∃ T : G K mg, T.f_law = He.ga K "law" ∧ ∀ (s : Shared) (v : Value), BindsTo s T.d_law ⟨[v], []⟩ [("script", v)] := by
  have hx : ∀ i, {b : Bool} → (endEx K)[i]? = some b → b = true := fun i b e => List.all_eq_true.mp c.more b (List.mem_of_getElem? e)
  obtain ⟨d_Refused___init__, F_Refused___init__⟩ := c.t.d.def_ 0 rfl
  have b_Refused___init__ : Binds K d_Refused___init__ ["self", "what"] [] := FunD.bindsN F_Refused___init__ fun _ _ _ _ _ _ us hl => match us, hl with | [_, _], _ => rfl
  obtain ⟨d_is_number, F_is_number⟩ := c.t.d.def_ 1 rfl
  have b_is_number : Binds K d_is_number ["thing"] [] := FunD.bindsN F_is_number fun _ _ _ _ _ _ us hl => match us, hl with | [_], _ => rfl
  obtain ⟨d_is_within, F_is_within⟩ := c.t.d.def_ 2 rfl
  have b_is_within : Binds K d_is_within ["thing", "low", "high"] [] := FunD.bindsN F_is_within fun _ _ _ _ _ _ us hl => match us, hl with | [_, _, _], _ => rfl
  obtain ⟨d_is_page, F_is_page⟩ := c.t.d.def_ 3 rfl
  have b_is_page : Binds K d_is_page ["thing"] [] := FunD.bindsN F_is_page fun _ _ _ _ _ _ us hl => match us, hl with | [_], _ => rfl
  obtain ⟨d__check_page, F__check_page⟩ := c.t.d.def_ 4 rfl
  have b__check_page : Binds K d__check_page ["page"] [] := FunD.bindsN F__check_page fun _ _ _ _ _ _ us hl => match us, hl with | [_], _ => rfl
  obtain ⟨d_Disk___init__, F_Disk___init__⟩ := c.t.d.def_ 5 rfl
  have b_Disk___init__ : Binds K d_Disk___init__ ["self", "fuse"] [] := binds_full F_Disk___init__ (by intro z; cases z) rfl fun _ _ _ _ _ _ _ us its h1 h2 => match us, its, h1, h2 with | [_, _], [_], _, _ => ⟨_, rfl, rfl⟩
  have b1_ : Binds K d_Disk___init__ ["self", "fuse"] [.none] := by
    obtain ⟨ds, r, b⟩ := FunD.binds1 F_Disk___init__ (ps := ["self", "fuse"]) 1 0 (by intro z; cases z) rfl fun _ _ _ _ _ _ _ us its h1 h2 => match us, its, h1, h2 with | [_], [_], _, _ => ⟨_, rfl, rfl⟩
    cases r with
    | cons r1 r2 =>
      cases r2
      cases r1
      exact b
  obtain ⟨its, kb_⟩ := FunD.kbindsD F_Disk___init__ (ps := ["self", "fuse"]) 1 ["fuse"] (fun us ds ws => us ++ ws) (by intro z; cases z) (fun r1 _ r3 => r1.append r3) fun _ _ _ _ _ _ _ us its ws h1 h2 h3 => match us, its, ws, h1, h2, h3 with | [_], [_], [_], _, _, _ => ⟨_, rfl, rfl⟩
  obtain ⟨d_Disk_tape, F_Disk_tape⟩ := c.t.d.def_ 6 rfl
  have b_Disk_tape : Binds K d_Disk_tape ["self"] [] := FunD.bindsN F_Disk_tape fun _ _ _ _ _ _ us hl => match us, hl with | [_], _ => rfl
  obtain ⟨d_Disk_safe, F_Disk_safe⟩ := c.t.d.def_ 7 rfl
  have b_Disk_safe : Binds K d_Disk_safe ["self"] [] := FunD.bindsN F_Disk_safe fun _ _ _ _ _ _ us hl => match us, hl with | [_], _ => rfl
  obtain ⟨d_Disk_shelf, F_Disk_shelf⟩ := c.t.d.def_ 8 rfl
  have b_Disk_shelf : Binds K d_Disk_shelf ["self"] [] := FunD.bindsN F_Disk_shelf fun _ _ _ _ _ _ us hl => match us, hl with | [_], _ => rfl
  obtain ⟨d_Disk_writes, F_Disk_writes⟩ := c.t.d.def_ 9 rfl
  have b_Disk_writes : Binds K d_Disk_writes ["self"] [] := FunD.bindsN F_Disk_writes fun _ _ _ _ _ _ us hl => match us, hl with | [_], _ => rfl
  obtain ⟨d_Disk_frame, F_Disk_frame⟩ := c.t.d.def_ 10 rfl
  have b_Disk_frame : Binds K d_Disk_frame ["self", "page"] [] := FunD.bindsN F_Disk_frame fun _ _ _ _ _ _ us hl => match us, hl with | [_, _], _ => rfl
  obtain ⟨d_Disk__count_write, F_Disk__count_write⟩ := c.t.d.def_ 11 rfl
  have b_Disk__count_write : Binds K d_Disk__count_write ["self"] [] := FunD.bindsN F_Disk__count_write fun _ _ _ _ _ _ us hl => match us, hl with | [_], _ => rfl
  obtain ⟨d_Disk_put_frame, F_Disk_put_frame⟩ := c.t.d.def_ 12 rfl
  have b_Disk_put_frame : Binds K d_Disk_put_frame ["self", "page", "text"] [] := FunD.bindsN F_Disk_put_frame fun _ _ _ _ _ _ us hl => match us, hl with | [_, _, _], _ => rfl
  obtain ⟨d_Disk_add_tape, F_Disk_add_tape⟩ := c.t.d.def_ 13 rfl
  have b_Disk_add_tape : Binds K d_Disk_add_tape ["self", "text"] [] := FunD.bindsN F_Disk_add_tape fun _ _ _ _ _ _ us hl => match us, hl with | [_, _], _ => rfl
  obtain ⟨d_Disk_sync, F_Disk_sync⟩ := c.t.d.def_ 14 rfl
  have b_Disk_sync : Binds K d_Disk_sync ["self"] [] := FunD.bindsN F_Disk_sync fun _ _ _ _ _ _ us hl => match us, hl with | [_], _ => rfl
  obtain ⟨d_Disk_put_shelf, F_Disk_put_shelf⟩ := c.t.d.def_ 15 rfl
  have b_Disk_put_shelf : Binds K d_Disk_put_shelf ["self", "text"] [] := FunD.bindsN F_Disk_put_shelf fun _ _ _ _ _ _ us hl => match us, hl with | [_, _], _ => rfl
  obtain ⟨d_Disk_cut_tape, F_Disk_cut_tape⟩ := c.t.d.def_ 16 rfl
  have b_Disk_cut_tape : Binds K d_Disk_cut_tape ["self", "text"] [] := FunD.bindsN F_Disk_cut_tape fun _ _ _ _ _ _ us hl => match us, hl with | [_, _], _ => rfl
  obtain ⟨d_Disk_frame_ids, F_Disk_frame_ids⟩ := c.t.d.def_ 17 rfl
  have b_Disk_frame_ids : Binds K d_Disk_frame_ids ["self"] [] := FunD.bindsN F_Disk_frame_ids fun _ _ _ _ _ _ us hl => match us, hl with | [_], _ => rfl
  obtain ⟨d__law_pool, F__law_pool⟩ := c.t.d.def_ 18 rfl
  have b__law_pool : Binds K d__law_pool ["script"] [] := FunD.bindsN F__law_pool fun _ _ _ _ _ _ us hl => match us, hl with | [_], _ => rfl
  obtain ⟨d__law_draw, F__law_draw⟩ := c.t.d.def_ 19 rfl
  have b__law_draw : Binds K d__law_draw ["pool", "many"] [] := FunD.bindsN F__law_draw fun _ _ _ _ _ _ us hl => match us, hl with | [_, _], _ => rfl
  obtain ⟨d__law_text, F__law_text⟩ := c.t.d.def_ 20 rfl
  have b__law_text : Binds K d__law_text ["pool"] [] := FunD.bindsN F__law_text fun _ _ _ _ _ _ us hl => match us, hl with | [_], _ => rfl
  obtain ⟨d__law_call, F__law_call⟩ := c.t.d.def_ 21 rfl
  have b__law_call : Binds K d__law_call ["pool"] [] := FunD.bindsN F__law_call fun _ _ _ _ _ _ us hl => match us, hl with | [_], _ => rfl
  obtain ⟨d__law_model, F__law_model⟩ := c.t.d.def_ 22 rfl
  have b__law_model : Binds K d__law_model ["fuse"] [] := FunD.bindsN F__law_model fun _ _ _ _ _ _ us hl => match us, hl with | [_], _ => rfl
  obtain ⟨d__law_due, F__law_due⟩ := c.t.d.def_ 23 rfl
  have b__law_due : Binds K d__law_due ["model", "call"] [] := FunD.bindsN F__law_due fun _ _ _ _ _ _ us hl => match us, hl with | [_, _], _ => rfl
  obtain ⟨d__law_is_no_page, F__law_is_no_page⟩ := c.t.d.def_ 24 rfl
  have b__law_is_no_page : Binds K d__law_is_no_page ["disk", "page"] [] := FunD.bindsN F__law_is_no_page fun _ _ _ _ _ _ us hl => match us, hl with | [_, _], _ => rfl
  obtain ⟨d__law_is_refused, F__law_is_refused⟩ := c.t.d.def_ 25 rfl
  have b__law_is_refused : Binds K d__law_is_refused ["fuse"] [] := FunD.bindsN F__law_is_refused fun _ _ _ _ _ _ us hl => match us, hl with | [_], _ => rfl
  obtain ⟨d__law_made, F__law_made⟩ := c.t.d.def_ 26 rfl
  have b__law_made : Binds K d__law_made ["disk", "call"] [] := FunD.bindsN F__law_made fun _ _ _ _ _ _ us hl => match us, hl with | [_, _], _ => rfl
  obtain ⟨d__law_is_same, F__law_is_same⟩ := c.t.d.def_ 27 rfl
  have b__law_is_same : Binds K d__law_is_same ["disk", "model"] [] := FunD.bindsN F__law_is_same fun _ _ _ _ _ _ us hl => match us, hl with | [_, _], _ => rfl
  obtain ⟨d_law, F_law⟩ := c.t.d.def_ 28 rfl
  have b_law : Binds K d_law ["script"] [] := FunD.bindsN F_law fun _ _ _ _ _ _ us hl => match us, hl with | [_], _ => rfl
  obtain ⟨t_PAGES, e_PAGES⟩ := He.int_ok X Gn (c.t.d.fact 23 rfl)
  exact ⟨{
    f_Refused___init__ := He.fAd K ("Refused", some "__init__"),
    d_Refused___init__ := d_Refused___init__,
    F_Refused___init__ := fun_of F_Refused___init__,
    b_Refused___init__ := b_Refused___init__,
    f_is_number := He.fAd K ("is_number", none),
    d_is_number := d_is_number,
    F_is_number := fun_of F_is_number,
    b_is_number := b_is_number,
    g_is_number := He.glo_ok X Gn (c.t.d.fact 0 rfl),
    f_is_within := He.fAd K ("is_within", none),
    d_is_within := d_is_within,
    F_is_within := fun_of F_is_within,
    b_is_within := b_is_within,
    g_is_within := He.glo_ok X Gn (c.t.d.fact 1 rfl),
    f_is_page := He.fAd K ("is_page", none),
    d_is_page := d_is_page,
    F_is_page := fun_of F_is_page,
    b_is_page := b_is_page,
    g_is_page := He.glo_ok X Gn (c.t.d.fact 2 rfl),
    f__check_page := He.fAd K ("_check_page", none),
    d__check_page := d__check_page,
    F__check_page := fun_of F__check_page,
    b__check_page := b__check_page,
    g__check_page := He.glo_ok X Gn (c.t.d.fact 3 rfl),
    f_Disk___init__ := He.fAd K ("Disk", some "__init__"),
    d_Disk___init__ := d_Disk___init__,
    F_Disk___init__ := F_Disk___init__,
    b1_Disk___init__ := b1_,
    kb_Disk___init__ := kb_,
    b_Disk___init__ := b_Disk___init__,
    f_Disk_tape := He.fAd K ("Disk", some "tape"),
    d_Disk_tape := d_Disk_tape,
    F_Disk_tape := fun_of F_Disk_tape,
    b_Disk_tape := b_Disk_tape,
    f_Disk_safe := He.fAd K ("Disk", some "safe"),
    d_Disk_safe := d_Disk_safe,
    F_Disk_safe := fun_of F_Disk_safe,
    b_Disk_safe := b_Disk_safe,
    f_Disk_shelf := He.fAd K ("Disk", some "shelf"),
    d_Disk_shelf := d_Disk_shelf,
    F_Disk_shelf := fun_of F_Disk_shelf,
    b_Disk_shelf := b_Disk_shelf,
    f_Disk_writes := He.fAd K ("Disk", some "writes"),
    d_Disk_writes := d_Disk_writes,
    F_Disk_writes := fun_of F_Disk_writes,
    b_Disk_writes := b_Disk_writes,
    f_Disk_frame := He.fAd K ("Disk", some "frame"),
    d_Disk_frame := d_Disk_frame,
    F_Disk_frame := fun_of F_Disk_frame,
    b_Disk_frame := b_Disk_frame,
    f_Disk__count_write := He.fAd K ("Disk", some "_count_write"),
    d_Disk__count_write := d_Disk__count_write,
    F_Disk__count_write := fun_of F_Disk__count_write,
    b_Disk__count_write := b_Disk__count_write,
    f_Disk_put_frame := He.fAd K ("Disk", some "put_frame"),
    d_Disk_put_frame := d_Disk_put_frame,
    F_Disk_put_frame := fun_of F_Disk_put_frame,
    b_Disk_put_frame := b_Disk_put_frame,
    f_Disk_add_tape := He.fAd K ("Disk", some "add_tape"),
    d_Disk_add_tape := d_Disk_add_tape,
    F_Disk_add_tape := fun_of F_Disk_add_tape,
    b_Disk_add_tape := b_Disk_add_tape,
    f_Disk_sync := He.fAd K ("Disk", some "sync"),
    d_Disk_sync := d_Disk_sync,
    F_Disk_sync := fun_of F_Disk_sync,
    b_Disk_sync := b_Disk_sync,
    f_Disk_put_shelf := He.fAd K ("Disk", some "put_shelf"),
    d_Disk_put_shelf := d_Disk_put_shelf,
    F_Disk_put_shelf := fun_of F_Disk_put_shelf,
    b_Disk_put_shelf := b_Disk_put_shelf,
    f_Disk_cut_tape := He.fAd K ("Disk", some "cut_tape"),
    d_Disk_cut_tape := d_Disk_cut_tape,
    F_Disk_cut_tape := fun_of F_Disk_cut_tape,
    b_Disk_cut_tape := b_Disk_cut_tape,
    f_Disk_frame_ids := He.fAd K ("Disk", some "frame_ids"),
    d_Disk_frame_ids := d_Disk_frame_ids,
    F_Disk_frame_ids := fun_of F_Disk_frame_ids,
    b_Disk_frame_ids := b_Disk_frame_ids,
    f__law_pool := He.fAd K ("_law_pool", none),
    d__law_pool := d__law_pool,
    F__law_pool := fun_of F__law_pool,
    b__law_pool := b__law_pool,
    g__law_pool := He.glo_ok X Gn (c.t.d.fact 4 rfl),
    f__law_draw := He.fAd K ("_law_draw", none),
    d__law_draw := d__law_draw,
    F__law_draw := fun_of F__law_draw,
    b__law_draw := b__law_draw,
    g__law_draw := He.glo_ok X Gn (c.t.d.fact 5 rfl),
    f__law_text := He.fAd K ("_law_text", none),
    d__law_text := d__law_text,
    F__law_text := fun_of F__law_text,
    b__law_text := b__law_text,
    g__law_text := He.glo_ok X Gn (c.t.d.fact 6 rfl),
    f__law_call := He.fAd K ("_law_call", none),
    d__law_call := d__law_call,
    F__law_call := fun_of F__law_call,
    b__law_call := b__law_call,
    g__law_call := He.glo_ok X Gn (c.t.d.fact 7 rfl),
    f__law_model := He.fAd K ("_law_model", none),
    d__law_model := d__law_model,
    F__law_model := fun_of F__law_model,
    b__law_model := b__law_model,
    g__law_model := He.glo_ok X Gn (c.t.d.fact 8 rfl),
    f__law_due := He.fAd K ("_law_due", none),
    d__law_due := d__law_due,
    F__law_due := fun_of F__law_due,
    b__law_due := b__law_due,
    g__law_due := He.glo_ok X Gn (c.t.d.fact 9 rfl),
    f__law_is_no_page := He.fAd K ("_law_is_no_page", none),
    d__law_is_no_page := d__law_is_no_page,
    F__law_is_no_page := fun_of F__law_is_no_page,
    b__law_is_no_page := b__law_is_no_page,
    g__law_is_no_page := He.glo_ok X Gn (c.t.d.fact 10 rfl),
    f__law_is_refused := He.fAd K ("_law_is_refused", none),
    d__law_is_refused := d__law_is_refused,
    F__law_is_refused := fun_of F__law_is_refused,
    b__law_is_refused := b__law_is_refused,
    g__law_is_refused := He.glo_ok X Gn (c.t.d.fact 11 rfl),
    f__law_made := He.fAd K ("_law_made", none),
    d__law_made := d__law_made,
    F__law_made := fun_of F__law_made,
    b__law_made := b__law_made,
    g__law_made := He.glo_ok X Gn (c.t.d.fact 12 rfl),
    f__law_is_same := He.fAd K ("_law_is_same", none),
    d__law_is_same := d__law_is_same,
    F__law_is_same := fun_of F__law_is_same,
    b__law_is_same := b__law_is_same,
    g__law_is_same := He.glo_ok X Gn (c.t.d.fact 13 rfl),
    f_law := He.fAd K ("law", none),
    d_law := d_law,
    F_law := fun_of F_law,
    b_law := b_law,
    g_law := He.glo_ok X Gn (c.t.d.fact 14 rfl),
    n_bool := He.free_ok X Gn (c.t.d.fact 15 rfl),
    n_int := He.free_ok X Gn (c.t.d.fact 16 rfl),
    n_isinstance := He.free_ok X Gn (c.t.d.fact 17 rfl),
    n_len := He.free_ok X Gn (c.t.d.fact 18 rfl),
    n_list := He.free_ok X Gn (c.t.d.fact 19 rfl),
    n_range := He.free_ok X Gn (c.t.d.fact 20 rfl),
    n_sorted := He.free_ok X Gn (c.t.d.fact 21 rfl),
    n_tuple := He.free_ok X Gn (c.t.d.fact 22 rfl),
    v_PAGES := .int 32 t_PAGES,
    g_PAGES := ⟨⟨_, rfl⟩, e_PAGES⟩,
    C_Disk := He.ga K "Disk",
    c_Disk := He.cls_ok (c.t.d.fact 24 rfl),
    g_Disk := He.glo_ok X Gn (c.t.d.fact 25 rfl),
    mk_Disk := He.mkr_ok (c.t.d.fact 26 rfl),
    a_Disk_fuse := He.noat_ok (c.t.d.fact 27 rfl),
    a_Disk_frames := He.noat_ok (c.t.d.fact 28 rfl),
    a_Disk_tape := He.noat_ok (c.t.d.fact 29 rfl),
    a_Disk_safe := He.noat_ok (c.t.d.fact 30 rfl),
    a_Disk_shelf := He.noat_ok (c.t.d.fact 31 rfl),
    a_Disk_writes := He.noat_ok (c.t.d.fact 32 rfl),
    m_Disk_tape := He.meth_ok (c.t.d.fact 33 rfl),
    m_Disk_safe := He.meth_ok (c.t.d.fact 34 rfl),
    m_Disk_shelf := He.meth_ok (c.t.d.fact 35 rfl),
    m_Disk_writes := He.meth_ok (c.t.d.fact 36 rfl),
    m_Disk_frame := He.meth_ok (c.t.d.fact 37 rfl),
    m_Disk__count_write := He.meth_ok (c.t.d.fact 38 rfl),
    m_Disk_put_frame := He.meth_ok (c.t.d.fact 39 rfl),
    m_Disk_add_tape := He.meth_ok (c.t.d.fact 40 rfl),
    m_Disk_sync := He.meth_ok (c.t.d.fact 41 rfl),
    m_Disk_put_shelf := He.meth_ok (c.t.d.fact 42 rfl),
    m_Disk_cut_tape := He.meth_ok (c.t.d.fact 43 rfl),
    m_Disk_frame_ids := He.meth_ok (c.t.d.fact 44 rfl),
    C_Refused := He.ga K "Refused",
    x_Refused := extB_ok (He.glo_ok X Gn (c.t.d.fact 45 rfl)) (hx 0 rfl),
    C_BadPage := He.ga K "BadPage",
    x_BadPage := extB_ok (He.glo_ok X Gn (c.t.d.fact 46 rfl)) (hx 1 rfl),
    C_BadNumber := He.ga K "BadNumber",
    x_BadNumber := extB_ok (He.glo_ok X Gn (c.t.d.fact 47 rfl)) (hx 2 rfl),
    C_Fallen := He.ga K "Fallen",
    x_Fallen := extB_ok (He.glo_ok X Gn (c.t.d.fact 48 rfl)) (hx 3 rfl),
    e_Refused_BadPage := He.exm_ok (c.t.d.fact 49 rfl),
    e_Refused_BadNumber := He.exm_ok (c.t.d.fact 50 rfl),
    e_Refused_Fallen := He.exm_ok (c.t.d.fact 51 rfl),
    e_BadPage_BadPage := He.exm_ok (c.t.d.fact 52 rfl),
    e_BadPage_BadNumber := He.exm_ok (c.t.d.fact 53 rfl),
    e_BadPage_Fallen := He.exm_ok (c.t.d.fact 54 rfl),
    e_BadNumber_BadPage := He.exm_ok (c.t.d.fact 55 rfl),
    e_BadNumber_BadNumber := He.exm_ok (c.t.d.fact 56 rfl),
    e_BadNumber_Fallen := He.exm_ok (c.t.d.fact 57 rfl),
    e_Fallen_BadPage := He.exm_ok (c.t.d.fact 58 rfl),
    e_Fallen_BadNumber := He.exm_ok (c.t.d.fact 59 rfl),
    e_Fallen_Fallen := He.exm_ok (c.t.d.fact 60 rfl),
    k_Fallen_Refused := of_decide_eq_true (hx 4 rfl),
    k_Fallen_BadPage := of_decide_eq_true (hx 5 rfl),
    t_init := of_decide_eq_true (hx 6 rfl) }, rfl, fun s v => FunD.bindsA (ps := ["script"]) F_law (fun _ _ _ _ _ _ us hl => match us, hl with | [_], _ => rfl) s [v] rfl⟩end WD
open PySem PySem.W PySem.Calls PyProof.Rows
set_option maxRecDepth 100000 in
set_option maxHeartbeats 8000000 in
theorem PySem.Challenge.cw_wendleaf_k38_writes_and_fuses_holds : PySem.Challenge.rw_wendleaf_k38_writes_and_fuses.Holds := by
  w_on; o_law
  refine HandSHeadRun.head_any (r := OpenLaw.row PySem.Challenge.rw_wendleaf_k38_writes_and_fuses) (q := view (OpenLaw.row PySem.Challenge.rw_wendleaf_k38_writes_and_fuses).prog [25]) (H := WD.hk) (ob := WD.ob) (M := 4000) (loose := WD.endLoose) (d := HandSHeadRun.topDef (OpenLaw.row PySem.Challenge.rw_wendleaf_k38_writes_and_fuses).prog 25) (kwd := []) WD.ob_eq
    (by kernel_rfl) (fun s => by kernel_rfl) WD.run (by kernel_rfl) (by kernel_rfl) (by kernel_rfl) (by rfl) (by first | assumption | decide +kernel) (by decide +kernel) ⟨rfl, rfl, rfl, rfl, rfl, by decide +kernel⟩ ?hw ?hc
  case hw => w_witness2
  case hc =>
    refine L2.walk_ofE (l := PySem.Challenge.rw_wendleaf_k38_writes_and_fuses) (n := 63) (k := 7) (x := "script") (CX := L2.CX0) rfl (by decide) (by kernel_rfl) ⟨rfl, by decide, by decide⟩ ?F (fun _ _ _ _ z => z)
    intro w mg fa h Y Gn hmg0
    obtain ⟨K, KX, c⟩ := Y
    have hmg : mg ("law" : PySem.Str) = some (.ref fa) := by
      have e : (HandSHeadRun.topDef (OpenLaw.row PySem.Challenge.rw_wendleaf_k38_writes_and_fuses).prog 25).name = ("law" : PySem.Str) := by kernel_rfl
      rw [← e]
      exact hmg0
    obtain ⟨T, e, hb⟩ := WD.mkG KX Gn c
    have e2 := T.g_law.symm.trans hmg
    cases e2
    exact ⟨K, T.d_law, WD.sp_law K, KX, hb, fun H a ns hl _ hS => ⟨a, ns, rfl, hS, fun _ => rfl⟩, fun base _ _ => WD.ok_law T⟩
